/-
  Layer 13 (grow): plain facts: a tree that is grown by a stack is the one that the recursion makes.
  Layer 13 (grow): the document's own tree, by contracts.
  Layer 13 (grow): the document's own recursion, by a contract.
  Layer 13 (grow): own words for memory: a stack of what is left to be grown, and the nodes so far, both in rows of the call's own.
  Layer 13 (grow): push (a closure) and rising of the program, by contracts.
-/
import Derived.Test.YtecdgpacofojeaaWMath
import Derived.Test.YtecdgpacofojeaaWMem
import Derived.Maps.AppendAt
namespace Go.Proofs.Ytecdgpacofojeaa
open Go.RowKit

namespace Wm
/-- what is left to be grown: ids, how deep, and whose right child it is -/
structure Tk where
  ids : List Int
  dep : Nat
  wh : Option Nat
/-- a node's right child is told -/
def right (N : List Nd) : Option Nat → List Nd
  | none => N
  | some q => N.modify q fun t => { t with rt := N.length }
theorem right_length (N : List Nd) (q : Option Nat) : (right N q).length = N.length := by cases q <;> simp [right]
theorem right_at (A B : List Nd) (x : Nd) : right (A ++ [x] ++ B) (some A.length) = A ++ [{ x with rt := (A ++ [x] ++ B).length }] ++ B := by
  have : ∀ (A B : List Nd) (x : Nd) (g : Nd → Nd), (A ++ [x] ++ B).modify A.length g = A ++ [g x] ++ B := by
    intro A B x g
    induction A with
    | nil => rfl
    | cons y A ih => simp only [List.cons_append, List.length_cons, List.modify_succ_cons]; rw [ih]
  exact this A B x _
/-- what all that is left comes to: the top of the stack ahead -/
def fin (L : List (List Int)) (d lim D : Nat) (f : Nat → Int) : List Tk → List Nd → Nat → List Nd × Nat
  | [], N, k => (N, k)
  | t :: S, N, k => fin L d lim D f S (right N t.wh ++ (grow L d lim (D - t.dep) t.ids N.length (Rm.dr f k)).1) (k + (grow L d lim (D - t.dep) t.ids N.length (Rm.dr f k)).2)
section
variable {L : List (List Int)} {d lim D : Nat} {f : Nat → Int} {t : Tk} {S : List Tk} {N : List Nd} {k : Nat}
theorem fin_leaf (h : t.ids.length ≤ lim ∨ D ≤ t.dep) : fin L d lim D f (t :: S) N k = fin L d lim D f S (right N t.wh ++ [one t.ids]) k := by
  rw [fin, grow_leaf (h.imp id fun h => by omega)]
  rfl
theorem fin_node (h : lim < t.ids.length) (hd : t.dep < D) :
    fin L d lim D f (t :: S) N k = fin L d lim D f (⟨lfF L t.ids (Rm.dr f k), t.dep + 1, none⟩ :: ⟨rgF L t.ids (Rm.dr f k), t.dep + 1, some N.length⟩ :: S)
      (right N t.wh ++ [⟨false, [], pnF L t.ids (Rm.dr f k) d, poF L t.ids (Rm.dr f k), N.length + 1, 0⟩]) (k + 2 * trF L t.ids (Rm.dr f k)) := by
  obtain ⟨r, hr⟩ : ∃ r, D - t.dep = r + 1 := ⟨D - t.dep - 1, by omega⟩
  have hr2 : D - (t.dep + 1) = r := by omega
  rw [fin, fin, fin, hr]
  dsimp only
  rw [hr2]
  have hl : (right N t.wh ++ [⟨false, [], pnF L t.ids (Rm.dr f k) d, poF L t.ids (Rm.dr f k), N.length + 1, 0⟩] : List Nd).length = N.length + 1 := by rw [List.length_append, right_length]; rfl
  rw [show right (right N t.wh ++ [⟨false, [], pnF L t.ids (Rm.dr f k) d, poF L t.ids (Rm.dr f k), N.length + 1, 0⟩] : List Nd) none = right N t.wh ++ [⟨false, [], pnF L t.ids (Rm.dr f k) d, poF L t.ids (Rm.dr f k), N.length + 1, 0⟩] from rfl, hl]
  obtain ⟨a, ha⟩ : ∃ a, grow L d lim r (lfF L t.ids (Rm.dr f k)) (N.length + 1) (Rm.dr f (k + 2 * trF L t.ids (Rm.dr f k))) = a := ⟨_, rfl⟩
  rw [ha]
  have hl2 : (right N t.wh ++ [⟨false, [], pnF L t.ids (Rm.dr f k) d, poF L t.ids (Rm.dr f k), N.length + 1, 0⟩] ++ a.1 : List Nd).length = N.length + 1 + a.1.length := by rw [List.length_append, hl]
  rw [hl2]
  obtain ⟨b, hb⟩ : ∃ b, grow L d lim r (rgF L t.ids (Rm.dr f k)) (N.length + 1 + a.1.length) (Rm.dr f (k + 2 * trF L t.ids (Rm.dr f k) + a.2)) = b := ⟨_, rfl⟩
  rw [hb]
  have hg := grow_node (L := L) (d := d) (lim := lim) (r := r) (p := N.length) (f := Rm.dr f k) (ids := t.ids) h (a := a) (b := b) (by rw [Rm.dr_dr, ha]) (by rw [Rm.dr_dr, ← Nat.add_assoc, hb])
  rw [hg]
  have hrt : right (right N t.wh ++ [⟨false, [], pnF L t.ids (Rm.dr f k) d, poF L t.ids (Rm.dr f k), N.length + 1, 0⟩] ++ a.1) (some N.length) =
      right N t.wh ++ [⟨false, [], pnF L t.ids (Rm.dr f k) d, poF L t.ids (Rm.dr f k), N.length + 1, N.length + 1 + a.1.length⟩] ++ a.1 := by
    have h0 := right_at (right N t.wh) a.1 ⟨false, [], pnF L t.ids (Rm.dr f k) d, poF L t.ids (Rm.dr f k), N.length + 1, 0⟩
    rw [right_length, hl2] at h0
    exact h0
  rw [hrt]
  congr 1
  · simp
  · omega
/-- how much is left at most: each step takes one off it -/
def left (S : List Tk) : Nat := (S.map fun t => 2 * t.ids.length - 1).sum
theorem left_leaf (h : 1 ≤ t.ids.length) : left S < left (t :: S) := by unfold left; rw [List.map_cons, List.sum_cons]; omega
theorem left_node (h : 2 ≤ t.ids.length) (g : Nat → Int) (e e' : Nat) (q q' : Option Nat) : left (⟨lfF L t.ids g, e, q⟩ :: ⟨rgF L t.ids g, e', q'⟩ :: S) < left (t :: S) := by
  have h1 := lr_len (L := L) (ids := t.ids) (f := g)
  have h2 := lr_pos (L := L) (ids := t.ids) (f := g) h
  unfold left
  rw [List.map_cons, List.map_cons, List.map_cons, List.sum_cons, List.sum_cons, List.sum_cons]
  dsimp only
  omega
end
end Wm
end Go.Proofs.Ytecdgpacofojeaa
namespace Go.Proofs.Ytecdgpacofojeaa
open Go.RowKit

namespace Wm
/-- may a forest be built so? -/
def chk (tr lf dp : Int) : Int := if lf < 1 ∨ 1024 < lf ∨ dp < 0 ∨ 64 < dp then 1 else if tr < 1 ∨ 256 < tr then 5 else 0
theorem chk_ok {tr lf dp : Int} (h : chk tr lf dp = 0) : 1 ≤ lf ∧ lf ≤ 1024 ∧ 0 ≤ dp ∧ dp ≤ 64 ∧ 1 ≤ tr ∧ tr ≤ 256 := by
  unfold chk at h
  split at h
  · omega
  · split at h <;> omega
end Wm
/-- params' cells in a block -/
def Prx (w : World) (g : Nat) (tr lf dp : Int) (sc : Bool) (sd : Int) (pA : Option Addr) (pn pc : Nat) : Prop := w.heap[g]? = some (.cells #[.int .i64 tr, .int .i64 lf, .int .i64 dp, .bool sc, .int .u64 sd, .slice pA pn pc] 54 (0, 0))
section
variable {w w' : World} {g : Nat} {tr lf dp : Int} {sc : Bool} {sd : Int} {pA : Option Addr} {pn pc : Nat}
theorem Prx.new (w : World) (tr lf dp : Int) (sc : Bool) (sd : Int) (pA : Option Addr) (pn pc : Nat) : Prx (w.alloc (.cells #[.int .i64 tr, .int .i64 lf, .int .i64 dp, .bool sc, .int .u64 sd, .slice pA pn pc] 54)) w.heap.size tr lf dp sc sd pA pn pc := heap_alloc_new w _
theorem Prx.lt (h : Prx w g tr lf dp sc sd pA pn pc) : g < w.heap.size := lt_of_block h
theorem Prx.below (h : Prx w g tr lf dp sc sd pA pn pc) (hb : Below w.heap.size w w') : Prx w' g tr lf dp sc sd pA pn pc := (hb.block g h.lt).trans h
theorem Prx.c0 (h : Prx w g tr lf dp sc sd pA pn pc) : w.cell? ⟨g, 0, none⟩ = some (.int .i64 tr) := by rw [cell_of_row _ _ _ _ _ _ h]; rfl
theorem Prx.c1 (h : Prx w g tr lf dp sc sd pA pn pc) : w.cell? ⟨g, 1, none⟩ = some (.int .i64 lf) := by rw [cell_of_row _ _ _ _ _ _ h]; rfl
theorem Prx.c2 (h : Prx w g tr lf dp sc sd pA pn pc) : w.cell? ⟨g, 2, none⟩ = some (.int .i64 dp) := by rw [cell_of_row _ _ _ _ _ _ h]; rfl
theorem Prx.c3 (h : Prx w g tr lf dp sc sd pA pn pc) : w.cell? ⟨g, 3, none⟩ = some (.bool sc) := by rw [cell_of_row _ _ _ _ _ _ h]; rfl
theorem Prx.c4 (h : Prx w g tr lf dp sc sd pA pn pc) : w.cell? ⟨g, 4, none⟩ = some (.int .u64 sd) := by rw [cell_of_row _ _ _ _ _ _ h]; rfl
theorem Prx.c5 (h : Prx w g tr lf dp sc sd pA pn pc) : w.cell? ⟨g, 5, none⟩ = some (.slice pA pn pc) := by rw [cell_of_row _ _ _ _ _ _ h]; rfl
theorem Prx.btw {lo hi : Nat} (h : Prx w g tr lf dp sc sd pA pn pc) (hg : g < lo ∨ hi ≤ g) (hb : Btw lo hi w w') : Prx w' g tr lf dp sc sd pA pn pc := (hb.block g h.lt hg).trans h
theorem refChk13 : Calls Try.prog 21 #[.agg #[.int .i64 tr, .int .i64 lf, .int .i64 dp, .bool sc, .int .u64 sd, .slice pA pn pc]] w fun e w' => e = .returned (.int .i64 (Wm.chk tr lf dp)) ∧ Below w.heap.size w w' := by
  obtain ⟨W, hW⟩ : ∃ W, W = w.alloc (.cells #[.int .i64 tr, .int .i64 lf, .int .i64 dp, .bool sc, .int .u64 sd, .slice pA pn pc] 54) := ⟨_, rfl⟩
  have hb : Below w.heap.size w W := by rw [hW]; exact (Below.refl _ w).alloc (Nat.le_refl _) _
  have hp : Prx W w.heap.size tr lf dp sc sd pA pn pc := by rw [hW]; exact Prx.new w _ _ _ _ _ _ _ _
  have k0 := hp.c0
  have k1 := hp.c1
  have k2 := hp.c2
  have HW := Lib.hid hW
  have HB := Lib.hid hb
  have HC := Lib.hid (show Wm.chk tr lf dp = if lf < 1 ∨ 1024 < lf ∨ dp < 0 ∨ 64 < dp then 1 else if tr < 1 ∨ 256 < tr then 5 else 0 from rfl)
  clear hW hb hp
  by_cases g1 : lf < 1
  · go_enter Try.func21, Try.ntmps21
    go_wp2
    rw [← HW.out]
    go_ret
    exact ⟨by rw [HC.out, if_pos (.inl g1)]; rfl, HB.out⟩
  by_cases g2 : 1024 < lf
  · go_enter Try.func21, Try.ntmps21
    go_wp2
    rw [← HW.out]
    go_ret
    exact ⟨by rw [HC.out, if_pos (.inr (.inl g2))]; rfl, HB.out⟩
  by_cases g3 : dp < 0
  · go_enter Try.func21, Try.ntmps21
    go_wp2
    rw [← HW.out]
    go_ret
    exact ⟨by rw [HC.out, if_pos (.inr (.inr (.inl g3)))]; rfl, HB.out⟩
  by_cases g4 : 64 < dp
  · go_enter Try.func21, Try.ntmps21
    go_wp2
    rw [← HW.out]
    go_ret
    exact ⟨by rw [HC.out, if_pos (.inr (.inr (.inr g4)))]; rfl, HB.out⟩
  have g5 : ¬ (lf < 1 ∨ 1024 < lf ∨ dp < 0 ∨ 64 < dp) := by omega
  by_cases g6 : tr < 1
  · go_enter Try.func21, Try.ntmps21
    go_wp2
    rw [← HW.out]
    go_ret
    exact ⟨by rw [HC.out, if_neg g5, if_pos (.inl g6)]; rfl, HB.out⟩
  by_cases g7 : 256 < tr
  · go_enter Try.func21, Try.ntmps21
    go_wp2
    rw [← HW.out]
    go_ret
    exact ⟨by rw [HC.out, if_neg g5, if_pos (.inr g7)]; rfl, HB.out⟩
  · go_enter Try.func21, Try.ntmps21
    go_wp2
    rw [← HW.out]
    go_ret
    exact ⟨by rw [HC.out, if_neg g5, if_neg (by omega)]; rfl, HB.out⟩
end

theorem NdV.below {Pr : Nat → Prop} {w w' : World} {vs : List Value} {T : List Wm.Nd} (h : NdV Pr w vs T) (hb : Below w.heap.size w w') : NdV Pr w' vs T := h.keep hb.size fun k hk _ => hb.block k hk
theorem Nds.vals {Pr : Nat → Prop} {w : World} {A : Option Addr} {n c : Nat} {T : List Wm.Nd} (h : Nds Pr w A n c T) (hn : 0 < n) : ∃ vs b off, NdV Pr w vs T ∧ vs.length = n * 6 ∧ A = some ⟨b, off, none⟩ ∧ Pr b ∧ b < w.heap.size ∧ ∀ j u, vs[j]? = some u → w.cell? ((⟨b, off, none⟩ : Addr).add j) = some u := by
  obtain ⟨vs, h1, h2⟩ := h.ex
  obtain ⟨b, off, e, hp, hb, hc⟩ := h2 hn
  exact ⟨vs, b, off, h1, by rw [h1.len, h.len], e, hp, hb, fun j u hu => by rw [Addr.add_lit]; exact hc j u hu⟩
/-- a vector doesn't stand where a source of the document's does -/
theorem Vec.off_src {w : World} {B mm N : Nat} {f : Nat → Int} {A : Option Addr} {n : Nat} {l : List Int} (h : Vec w A n l) (hr : Rfs w B mm f N) : Inn (fun k => k ≠ mm) n A := by
  intro hn b off s e hbm
  obtain ⟨b', off', e', hb, hc⟩ := h.1.2 hn
  have hlen := h.1.1
  rw [e'] at e
  injection e with e
  injection e with e1 e2 e3
  subst e1
  subst hbm
  obtain ⟨mixed, sd, A', n', c', xs, -, -, -, -, hrow, -⟩ := hr
  rw [List.length_map] at hlen
  have hl0 : 0 < l.length := by omega
  have h0 := hc 0 (.int .i32 l[0]) (by rw [List.getElem?_map, List.getElem?_eq_getElem hl0]; rfl)
  rw [cell_of_row _ _ _ _ _ _ hrow] at h0
  rcases (show off' + 0 = 0 ∨ off' + 0 = 1 ∨ off' + 0 = 2 ∨ off' + 0 = 3 ∨ 4 ≤ off' + 0 from by omega) with g | g | g | g | g
  · rw [g] at h0; simp at h0
  · rw [g] at h0; simp at h0
  · rw [g] at h0; simp at h0
  · rw [g] at h0; simp at h0
  · rw [Array.getElem?_eq_none (by simpa using g)] at h0; cases h0
theorem Try.infoNode : (Try.prog.info? 68).map (fun i => (i.zero, i.size, i.bytes)) = some (some (.agg #[.bool false, .slice none 0 0, .slice none 0 0, .int .i64 0, .int .i64 0, .int .i64 0]), 6, 80) := by kernel_rfl
end Go.Proofs.Ytecdgpacofojeaa
namespace Go.Proofs.Ytecdgpacofojeaa
open Go.RowKit

theorem own_new6 (W : World) (v0 v1 v2 v3 v4 v5 : Value) : (W.alloc (.cells #[v0, v1, v2, v3, v4, v5] 68)).ownsRow W.heap.size 68 6 (.slice (some ⟨W.heap.size, 0, none⟩) 1 1) 1 [v0, v1, v2, v3, v4, v5] :=
  ⟨rfl, .inr ⟨W.heap.size, 1, #[v0, v1, v2, v3, v4, v5], rfl, Nat.le_refl _, heap_alloc_new W _, Nat.le_refl _, by unfold maxLen; omega, rfl, rfl⟩⟩
theorem nil_in (Pr : Nat → Prop) (A : Option Addr) : Inn Pr 0 A := fun h => absurd h (Nat.lt_irrefl 0)
theorem Out.inn {mm n : Nat} {A : Option Addr} (h : Out mm (mm + 1) n A) : Inn (fun k => k ≠ mm) n A := fun hn b off s e => by have := h hn b off s e; omega
theorem cells_below {B bb ob : Nat} {a w : World} {vs : List Value} (hb : Below B a w) (h : bb < B) (hc : ∀ j u, vs[j]? = some u → a.cell? ((⟨bb, ob, none⟩ : Addr).add j) = some u) : ∀ j u, vs[j]? = some u → w.cell? ((⟨bb, ob, none⟩ : Addr).add j) = some u :=
  fun j u hu => (hb.cell (p := (⟨bb, ob, none⟩ : Addr).add j) (by rw [addr_block]; exact h)).trans (hc j u hu)
section
variable {A : Option Addr} {n c dd mm B lim dp : Nat} {L : List (List Int)} {w0 : World} {tr sd : Int} {sc : Bool} {pA : Option Addr} {pn pc : Nat}
set_option maxRecDepth 100000 in
theorem refGrowL {ids : List Int} {p : Int} {w : World} {dep m c2 : Nat} {A2 : Option Addr} (b : Nat) (h : m ≤ lim ∨ dp ≤ dep) (hs : Sl w A2 m c2 ids) (ho : Out mm (mm + 1) m A2) (hmm : mm < w.heap.size) :
    Calls Try.prog 34 #[.slice A n c, .int .i64 (dd : Int), .agg #[.int .i64 tr, .int .i64 (lim : Int), .int .i64 (dp : Int), .bool sc, .int .u64 sd, .slice pA pn pc], .slice A2 m c2, .int .i64 (dep : Int), .int .i64 p, .pointer (some ⟨b, 0, none⟩)] w fun e w' => ∃ A' c', e = .returned (.slice A' 1 c') ∧ Nds (fun k => k ≠ mm) w' A' 1 c' [Wm.one ids] ∧ Below w.heap.size w w' := by
  obtain ⟨W, hW⟩ : ∃ W, W = w.alloc (.cells #[.int .i64 tr, .int .i64 (lim : Int), .int .i64 (dp : Int), .bool sc, .int .u64 sd, .slice pA pn pc] 54) := ⟨_, rfl⟩
  have hb : Below w.heap.size w W := by rw [hW]; exact (Below.refl _ w).alloc (Nat.le_refl _) _
  have hp : Prx W w.heap.size tr (lim : Int) (dp : Int) sc sd pA pn pc := by rw [hW]; exact Prx.new w _ _ _ _ _ _ _ _
  have k1 := hp.c1
  have k2 := hp.c2
  have hsz := hb.size
  have fin : Nds (fun k => k ≠ mm) (W.alloc (.cells #[.bool true, .slice A2 m c2, .slice none 0 0, .int .i64 0, .int .i64 0, .int .i64 0] 68)) (some ⟨w.heap.size + 1, 0, none⟩) 1 1 [Wm.one ids] ∧
      Below w.heap.size w (W.alloc (.cells #[.bool true, .slice A2 m c2, .slice none 0 0, .int .i64 0, .int .i64 0, .int .i64 0] 68)) := by
    have hb2 : Below W.heap.size W (W.alloc (.cells #[.bool true, .slice A2 m c2, .slice none 0 0, .int .i64 0, .int .i64 0, .int .i64 0] 68)) := (Below.refl _ _).alloc (Nat.le_refl _) _
    have hsW : w.heap.size + 1 = W.heap.size := by rw [hW]; simp
    rw [hsW]
    exact ⟨Nds.of_own (own_new6 W _ _ _ _ _ _) (NdV.one (t := Wm.one ids) ⟨(hs.below hb).below hb2, ho.inn, ⟨Lst.nil _ _ _, by simp [Wm.one]⟩, nil_in _ _, by omega⟩) rfl (fun k hk _ => by omega), hb.trans (hb2.mono hsz)⟩
  have HW := Lib.hid hW
  have FIN := Lib.hid fin
  clear hW hb hp hs ho fin
  by_cases g : m ≤ lim
  · clear h
    go_enter Try.func34, Try.ntmps34
    go_wp2_with fail
    rw [← HW.out]
    clear HW
    go_wp2
    go_ret
    exact ⟨_, _, rfl, FIN.out⟩
  · have g2 : dp ≤ dep := by omega
    clear h
    go_enter Try.func34, Try.ntmps34
    go_wp2_with fail
    rw [← HW.out]
    clear HW
    go_wp2
    go_ret
    exact ⟨_, _, rfl, FIN.out⟩

set_option maxHeartbeats 1600000 in
set_option maxRecDepth 100000 in
theorem refGrow (HLV : Hid (Lv w0 A n c L)) (hmm : w0.heap.size ≤ mm) (hn : n ≤ maxLen) (HLL : Hid (∀ l ∈ L, l.length ≤ 10000)) (hd : dd ≤ 1024) (hlim : 1 ≤ lim) (hdp : dp ≤ 64) :
    ∀ (r : Nat) (ids : List Int) (p : Nat) (f : Nat → Int) (N : Nat) (w : World) (dep : Nat) (A2 : Option Addr) (m c2 : Nat), dep + r = dp → Below w0.heap.size w0 w → Sl w A2 m c2 ids → Out mm (mm + 1) m A2 → 1 ≤ m → m ≤ 100000 → p + 2 * m ≤ 1000000 → Rfs w B mm f N → N + 8 * m ≤ 900000 →
    Calls Try.prog 34 #[.slice A n c, .int .i64 (dd : Int), .agg #[.int .i64 tr, .int .i64 (lim : Int), .int .i64 (dp : Int), .bool sc, .int .u64 sd, .slice pA pn pc], .slice A2 m c2, .int .i64 (dep : Int), .int .i64 (p : Int), .pointer (some ⟨mm, 0, none⟩)] w fun e w' => ∃ A' c',
      e = .returned (.slice A' (Wm.grow L dd lim r ids p f).1.length c') ∧ Nds (fun k => k ≠ mm) w' A' (Wm.grow L dd lim r ids p f).1.length c' (Wm.grow L dd lim r ids p f).1 ∧
      Rfs w' B mm (Rm.dr f (Wm.grow L dd lim r ids p f).2) (N + (Wm.grow L dd lim r ids p f).2) ∧ Btw mm (mm + 1) w w' := by
  obtain ⟨i0, hi, hz0, hz1, hz2⟩ := info_parts Try.infoNode
  intro r
  induction r with
  | zero =>
    intro ids p f N w dep A2 m c2 hr hb0 hs ho h1 hm hp hrf hN
    rw [Wm.grow_leaf (.inr rfl)]
    have hBm : B ≤ mm := by obtain ⟨_, _, _, _, _, _, _, _, _, hB, _⟩ := hrf; exact hB
    have hlt := hrf.lt
    refine (refGrowL mm (.inr (by omega)) hs ho hlt).mono ?_
    rintro _ w' ⟨A', c', rfl, h2, h3⟩
    exact ⟨A', c', rfl, h2, hrf.keep fun k hk => h3.block k (by omega), Btw.of_below h3⟩
  | succ r ih =>
    intro ids p f N w dep A2 m c2 hr hb0 hs ho h1 hm hp hrf hN
    have hBm : B ≤ mm := by obtain ⟨_, _, _, _, _, _, _, _, _, hB, _⟩ := hrf; exact hB
    have hlt := hrf.lt
    have hlen := hs.length
    by_cases hle : m ≤ lim
    · rw [Wm.grow_leaf (.inl (by omega))]
      refine (refGrowL mm (.inl hle) hs ho hlt).mono ?_
      rintro _ w' ⟨A', c', rfl, h2, h3⟩
      exact ⟨A', c', rfl, h2, hrf.keep fun k hk => h3.block k (by omega), Btw.of_below h3⟩
    · obtain ⟨K, hK⟩ : ∃ K, K = Wm.trF L ids f := ⟨_, rfl⟩
      obtain ⟨LF, hLF⟩ : ∃ LF, LF = Wm.lfF L ids f := ⟨_, rfl⟩
      obtain ⟨RG, hRG⟩ : ∃ RG, RG = Wm.rgF L ids f := ⟨_, rfl⟩
      obtain ⟨PN, hPN⟩ : ∃ PN, PN = Wm.pnF L ids f dd := ⟨_, rfl⟩
      obtain ⟨PO, hPO⟩ : ∃ PO, PO = Wm.poF L ids f := ⟨_, rfl⟩
      obtain ⟨a, ha⟩ : ∃ a, Wm.grow L dd lim r (Wm.lfF L ids f) (p + 1) (Rm.dr f (2 * Wm.trF L ids f)) = a := ⟨_, rfl⟩
      obtain ⟨b, hb⟩ : ∃ b, Wm.grow L dd lim r (Wm.rgF L ids f) (p + 1 + a.1.length) (Rm.dr f (2 * Wm.trF L ids f + a.2)) = b := ⟨_, rfl⟩
      rw [Wm.grow_node (by omega) ha hb]
      have hK4 : K ≤ 4 := by rw [hK]; exact Wm.tr_le
      have hpos := Wm.lr_pos (L := L) (f := f) (ids := ids) (by omega)
      have hsum := Wm.lr_len (L := L) (f := f) (ids := ids)
      rw [← hLF, ← hRG] at hpos hsum
      obtain ⟨da, hta⟩ := Wm.grow_tr (L := L) (d := dd) hlim r (Wm.lfF L ids f) (p + 1) (Rm.dr f (2 * Wm.trF L ids f))
      obtain ⟨db, htb⟩ := Wm.grow_tr (L := L) (d := dd) hlim r (Wm.rgF L ids f) (p + 1 + a.1.length) (Rm.dr f (2 * Wm.trF L ids f + a.2))
      rw [ha, ← hLF] at hta
      rw [hb, ← hRG] at htb
      have fa := hta.few hpos.1
      have fb := htb.few hpos.2
      have ta := hta.twice
      have tb := htb.twice
      have pa := hta.pos
      have pb := htb.pos
      rw [← hLF, ← hK] at ha
      rw [← hRG, ← hK] at hb
      obtain ⟨W, hW⟩ : ∃ W, W = w.alloc (.cells #[.int .i64 tr, .int .i64 (lim : Int), .int .i64 (dp : Int), .bool sc, .int .u64 sd, .slice pA pn pc] 54) := ⟨_, rfl⟩
      have hbW : Below w.heap.size w W := by rw [hW]; exact (Below.refl _ w).alloc (Nat.le_refl _) _
      have hp0 : Prx W w.heap.size tr (lim : Int) (dp : Int) sc sd pA pn pc := by rw [hW]; exact Prx.new w _ _ _ _ _ _ _ _
      have hsW : W.heap.size = w.heap.size + 1 := by rw [hW]; simp
      have hsz0 := hb0.size
      have FC0 := refChoose_at A A2 n c m c2 mm N B dd L ids f w0 W HLV.out (hb0.trans (hbW.mono hsz0)) hmm hn HLL.out (hs.below hbW) ho hm (hrf.keep fun k hk => hbW.block k (by omega)) (by omega) hd
      rw [show Zm.lfOf L ids (refP f m) (refQ f m) = LF from by rw [hLF, ← hlen]; rfl, show Zm.rgOf L ids (refP f m) (refQ f m) = RG from by rw [hRG, ← hlen]; rfl, show Zm.pnOf L ids (refP f m) (refQ f m) dd = PN from by rw [hPN, ← hlen]; rfl,
        show Zm.poOf L ids (refP f m) (refQ f m) = PO from by rw [hPO, ← hlen]; rfl, show Zm.tries L ids (refP f m) (refQ f m) = K from by rw [hK, ← hlen]; rfl] at FC0
      have FC := Lib.hid FC0
      have IH := Lib.hid ih
      have HW := Lib.hid hW
      have HBW := Lib.hid hbW
      have HB0 := Lib.hid hb0
      have HPx := Lib.hid hp0
      have HA := Lib.hid ha
      have HB := Lib.hid hb
      have HPN := Lib.hid hPN
      have HPO := Lib.hid hPO
      have HKK := Lib.hid hK
      have TA := Lib.hid (And.intro ta (And.intro fa pa))
      have TB := Lib.hid (And.intro tb (And.intro fb pb))
      have hlt2 : ¬ (dp : Int) ≤ (dep : Int) := by omega
      have hgt2 : ¬ (m : Int) ≤ (lim : Int) := by omega
      have hmL : LF.length ≤ m := by omega
      have hmR : RG.length ≤ m := by omega
      have hd0 : dep ≤ 64 := by omega
      have k1 := hp0.c1
      have k2 := hp0.c2
      clear FC0 ih hW hbW hb0 hp0 ha hb hPN hPO hK hta htb hLF hRG hs hrf ta tb fa fb pa pb ho
      go_enter Try.func34, Try.ntmps34
      go_wp2_with fail
      rw [← HW.out]
      clear HW
      go_wp2_with fail
      refine FC.out.mono ?_
      rintro _ w1 ⟨Ap, np, cp, A1, c1, A3, c3, rfl, hv, hnp, hs1, hs3, hr1, hb1, o1, o3⟩
      have s1 := hb1.size
      obtain ⟨W1, hW1⟩ : ∃ W1, W1 = w1.alloc (.cells #[.slice Ap np cp, .int .i64 PO, .slice A1 LF.length c1, .slice A3 RG.length c3, .int .i64 (K : Int)] 93) := ⟨_, rfl⟩
      have hbw : Below w1.heap.size w1 W1 := by rw [hW1]; exact (Below.refl _ w1).alloc (Nat.le_refl _) _
      have Z1 : W1.heap[w1.heap.size]? = some (.cells #[.slice Ap np cp, .int .i64 PO, .slice A1 LF.length c1, .slice A3 RG.length c3, .int .i64 (K : Int)] 93 (0, 0)) := by rw [hW1]; exact heap_alloc_new w1 _
      have s2 := hbw.size
      have sq : w1.heap.size < W1.heap.size := lt_of_block Z1
      have PW := Lib.hid (HPx.out.btw (lo := mm) (hi := mm + 1) (.inr (by omega)) hb1)
      have P1 := Lib.hid (PW.out.below hbw)
      have BL1 := Lib.hid (((HB0.out.trans (HBW.out.mono hsz0)).trans (hb1.old (by omega) hmm)).trans (hbw.mono (by omega)))
      have BT1 : Hid (Btw mm (mm + 1) w W1) := Lib.hid (((Btw.of_below HBW.out).trans hb1).trans (Btw.of_below hbw))
      have hr2 : Rfs W1 B mm (Rm.dr f (2 * K)) (N + 2 * K) := hr1.keep fun k hk => hbw.block k (by omega)
      have FGa := IH.out LF (p + 1) (Rm.dr f (2 * K)) (N + 2 * K) W1 (dep + 1) A1 LF.length c1 (by omega) BL1.out (hs1.below hbw) o1 hpos.1 (by omega) (by omega) hr2 (by omega)
      rw [HA.out, Rm.dr_dr, show ((dep + 1 : Nat) : Int) = (dep : Int) + 1 from rfl, show ((p + 1 : Nat) : Int) = (p : Int) + 1 from rfl] at FGa
      have FA := Lib.hid FGa
      have V1 := Lib.hid (hv.below hbw)
      have IV := Lib.hid ((hv.below hbw).off_src hr2)
      have S3 := Lib.hid (hs3.below hbw)
      have O3 := Lib.hid o3
      have q0 := P1.out.c0
      rw [hW1] at q0
      have q1 := P1.out.c1
      rw [hW1] at q1
      have q2 := P1.out.c2
      rw [hW1] at q2
      have q3 := P1.out.c3
      rw [hW1] at q3
      have q4 := P1.out.c4
      rw [hW1] at q4
      have q5 := P1.out.c5
      rw [hW1] at q5
      have z2 : W1.cell? ⟨w1.heap.size, 2, none⟩ = some (.slice A1 LF.length c1) := by rw [cell_of_row _ _ _ _ _ _ Z1]; rfl
      rw [hW1] at z2
      have ZZ := Lib.hid Z1
      have HW1 := Lib.hid hW1
      clear FGa hv hs1 hs3 hr1 hb1 hr2 o1 o3 Z1 hW1 FC hbw k1 k2
      go_wp2_with fail
      rw [← HW1.out]
      clear HW1 q0 q1 q2 q3 q4 q5 z2
      refine FA.out.mono ?_
      rintro _ w2 ⟨AL, cL, rfl, hna, hr2, hb2⟩
      have s3 := hb2.size
      have FGb := IH.out RG (p + 1 + a.1.length) (Rm.dr f (2 * K + a.2)) (N + (2 * K + a.2)) w2 (dep + 1) A3 RG.length c3 (by omega) (BL1.out.trans (hb2.old BL1.out.size hmm)) (S3.out.btw O3.out hb2) O3.out hpos.2 (by omega) (by have := TA.out; omega) (by rw [show N + (2 * K + a.2) = N + 2 * K + a.2 from by omega]; exact hr2) (by have := TA.out; omega)
      rw [HB.out, Rm.dr_dr, show ((dep + 1 : Nat) : Int) = (dep : Int) + 1 from rfl, show ((p + 1 + a.1.length : Nat) : Int) = (p : Int) + 1 + (a.1.length : Int) from rfl] at FGb
      have FB := Lib.hid FGb
      have NA := Lib.hid hna
      have P2 := Lib.hid (P1.out.btw (lo := mm) (hi := mm + 1) (.inr (by omega)) hb2)
      have Z2 := Lib.hid ((hb2.block w1.heap.size sq (.inr (by omega))).trans ZZ.out)
      have q0 := P2.out.c0
      have q1 := P2.out.c1
      have q2 := P2.out.c2
      have q3 := P2.out.c3
      have q4 := P2.out.c4
      have q5 := P2.out.c5
      have z3 : w2.cell? ⟨w1.heap.size, 3, none⟩ = some (.slice A3 RG.length c3) := by rw [cell_of_row _ _ _ _ _ _ Z2.out]; rfl
      have BT2 := Lib.hid (BT1.out.trans hb2)
      have V2 := Lib.hid (V1.out.keepIn IV.out hb2.size fun k hk hne => hb2.block k hk (by omega))
      have la : a.1.length ≤ 200000 := by have := TA.out; omega
      have lb : b.1.length ≤ 200000 := by have := TB.out; omega
      clear FGb FA hna hr2 hb2 S3 O3 V1
      go_wp2_with fail
      refine FB.out.mono ?_
      rintro _ w3 ⟨AR, cR, rfl, hnb, hr3, hb3⟩
      have s4 := hb3.size
      have Z3 := Lib.hid ((hb3.block w1.heap.size (by omega) (.inr (by omega))).trans Z2.out)
      have z0 : w3.cell? ⟨w1.heap.size, 0, none⟩ = some (.slice Ap np cp) := by rw [cell_of_row _ _ _ _ _ _ Z3.out]; rfl
      have z1 : w3.cell? ⟨w1.heap.size, 1, none⟩ = some (.int .i64 PO) := by rw [cell_of_row _ _ _ _ _ _ Z3.out]; rfl
      have BT3 := Lib.hid (BT2.out.trans hb3)
      have V3 := Lib.hid (V2.out.keepIn IV.out hb3.size fun k hk hne => hb3.block k hk (by omega))
      have NA3 := Lib.hid (NA.out.btw (lo := mm) (hi := mm + 1) (fun k hk => by omega) hb3)
      have NB3 := Lib.hid hnb
      have R3 := Lib.hid hr3
      clear hnb hr3 hb3 FB z3 q0 q1 q2 q3 q4 q5 V2 NA P2 Z2
      obtain ⟨W5, hW5⟩ : ∃ W5, W5 = (w3.alloc (.cells #[.bool false, .slice none 0 0, .slice Ap np cp, .int .i64 PO, .int .i64 ((p : Int) + 1), .int .i64 ((p : Int) + 1 + (a.1.length : Int))] 68)).alloc (.cells #[.bool false, .slice none 0 0, .slice Ap np cp, .int .i64 PO, .int .i64 ((p : Int) + 1), .int .i64 ((p : Int) + 1 + (a.1.length : Int))] 68) := ⟨_, rfl⟩
      have hb5 : Below w3.heap.size w3 W5 := by rw [hW5]; exact ((Below.refl _ _).alloc (Nat.le_refl _) _).alloc (by simp) _
      have own5 : W5.ownsRow (w3.heap.size + 1) 68 6 (.slice (some ⟨w3.heap.size + 1, 0, none⟩) 1 1) 1 [.bool false, .slice none 0 0, .slice Ap np cp, .int .i64 PO, .int .i64 ((p : Int) + 1), .int .i64 ((p : Int) + 1 + (a.1.length : Int))] := by
        have h := own_new6 (w3.alloc (.cells #[.bool false, .slice none 0 0, .slice Ap np cp, .int .i64 PO, .int .i64 ((p : Int) + 1), .int .i64 ((p : Int) + 1 + (a.1.length : Int))] 68)) (.bool false) (.slice none 0 0) (.slice Ap np cp) (.int .i64 PO) (.int .i64 ((p : Int) + 1)) (.int .i64 ((p : Int) + 1 + (a.1.length : Int)))
        rw [show (w3.alloc (.cells #[.bool false, .slice none 0 0, .slice Ap np cp, .int .i64 PO, .int .i64 ((p : Int) + 1), .int .i64 ((p : Int) + 1 + (a.1.length : Int))] 68)).heap.size = w3.heap.size + 1 from by simp] at h
        rw [hW5]
        exact h
      have s5 : W5.heap.size = w3.heap.size + 2 := by rw [hW5]; simp
      obtain ⟨vsA, ba, oa, nvA, lA, eA, -, hbA, hcA⟩ := NA3.out.vals (by have := TA.out; omega)
      subst eA
      obtain ⟨vsB, bb, ob, nvB, lB, eB, -, hbB, hcB⟩ := NB3.out.vals (by have := TB.out; omega)
      subst eB
      have nv0 : NdV (fun k => k ≠ mm) w3 [.bool false, .slice none 0 0, .slice Ap np cp, .int .i64 PO, .int .i64 ((p : Int) + 1), .int .i64 ((p : Int) + 1 + (a.1.length : Int))] [⟨false, [], PN, PO, p + 1, p + 1 + a.1.length⟩] :=
        NdV.one (t := ⟨false, [], PN, PO, p + 1, p + 1 + a.1.length⟩) ⟨Sl.none_ w3, nil_in _ _, V3.out, IV.out, hnp⟩
      have NV := Lib.hid (And.intro nv0 (And.intro nvA nvB))
      have hcA5 : ∀ j u, vsA[j]? = some u → W5.cell? ((⟨ba, oa, none⟩ : Addr).add j) = some u := cells_below hb5 hbA hcA
      have HC := Lib.hid (And.intro hcA5 (And.intro (And.intro lA lB) (And.intro nvA.cells nvB.cells)))
      have HVB := Lib.hid hcB
      have OWN := Lib.hid own5
      have HW5 := Lib.hid hW5
      have HB5 := Lib.hid hb5
      clear hW5 hb5 own5 nvA nvB nv0 lA lB hcA hcA5 hcB NA3 NB3 BL1 PW P1
      go_wp2_with (at_builtin; first
        | (refine wpList_append_own _ rfl (.tmp 74) (.tmp 75) 22 rfl (w3.heap.size + 1) 68 i0 (.agg #[.bool false, .slice none 0 0, .slice none 0 0, .int .i64 0, .int .i64 0, .int .i64 0]) 6 80 Try.underlying22 hi hz0 hz1 hz2 rfl (by decide) (.slice (some ⟨w3.heap.size + 1, 0, none⟩) 1 1) 1 [.bool false, .slice none 0 0, .slice Ap np cp, .int .i64 PO, .int .i64 ((p : Int) + 1), .int .i64 ((p : Int) + 1 + (a.1.length : Int))] rfl (by rw [← HW5.out]; exact OWN.out) ⟨ba, oa, none⟩ a.1.length cL vsA rfl HC.out.2.1.1 (by rw [← HW5.out]; exact HC.out.1) HC.out.2.2.1 (by unfold maxLen; omega) (by omega) (by simp) ?_; intro vA wA hownA hgrA _; rw [← HW5.out] at hgrA; have HOA := Lib.hid hownA; have HBA : Hid (Below w3.heap.size w3 wA) := Lib.hid (HB5.out.grown hgrA (by omega) (fun k hk => by have := own6_block OWN.out k hk; omega)); have hsA : w3.heap.size + 1 ≤ wA.heap.size := (by have := hgrA.size; omega); clear hownA hgrA)
        | (refine wpList_append_own _ rfl (.tmp 76) (.tmp 77) 22 rfl (w3.heap.size + 1) 68 i0 (.agg #[.bool false, .slice none 0 0, .slice none 0 0, .int .i64 0, .int .i64 0, .int .i64 0]) 6 80 Try.underlying22 hi hz0 hz1 hz2 rfl (by decide) vA (1 + a.1.length) ([.bool false, .slice none 0 0, .slice Ap np cp, .int .i64 PO, .int .i64 ((p : Int) + 1), .int .i64 ((p : Int) + 1 + (a.1.length : Int))] ++ vsA) rfl HOA.out ⟨bb, ob, none⟩ b.1.length cR vsB rfl HC.out.2.1.2 (cells_below HBA.out hbB HVB.out) HC.out.2.2.2 (by unfold maxLen; omega) (by omega) hsA ?_; intro vB wB hownB hgrB _; have HOB := Lib.hid hownB; have HBB : Hid (Below w3.heap.size w3 wB) := Lib.hid (HBA.out.grown hgrB (by omega) (fun k hk => by have := own6_block HOA.out k hk; omega)); clear hownB hgrB))
      obtain ⟨A', c', rfl, -, -⟩ := own6_form HOB.out
      go_ret
      rw [← HKK.out, ← HPN.out, ← HPO.out]
      have hT : (a.1 ++ b.1).length + 1 = 1 + a.1.length + b.1.length := by rw [List.length_append]; omega
      rw [hT]
      refine ⟨A', c', rfl, ?_, ?_, BT3.out.trans (Btw.of_below HBB.out)⟩
      · refine Nds.of_own HOB.out ?_ (by rw [List.length_cons, hT]) (fun k hk _ => by have := s5; omega)
        have := ((NV.out.1.append NV.out.2.1).append NV.out.2.2).below HBB.out
        rw [show ([⟨false, [], PN, PO, p + 1, p + 1 + a.1.length⟩] ++ a.1 ++ b.1 : List Wm.Nd) = ⟨false, [], PN, PO, p + 1, p + 1 + a.1.length⟩ :: (a.1 ++ b.1) from by simp] at this
        exact this
      · have := R3.out.keep (w' := wB) fun k hk => HBB.out.block k (by omega)
        rw [show N + (2 * K + a.2 + b.2) = N + (2 * K + a.2) + b.2 from by omega]
        exact this
end
end Go.Proofs.Ytecdgpacofojeaa
namespace Go.Proofs.Ytecdgpacofojeaa
open Go.RowKit

/-- whose right child: below 0 nobody's -/
def whI : Option Nat → Int
  | none => -1
  | some q => (q : Int)
/-- cells that are those of what is left -/
def TkV (Pr : Nat → Prop) (w : World) : List Value → List Wm.Tk → Prop
  | vs, [] => vs = []
  | vs, t :: T => ∃ A n c vs', vs = [.slice A n c, .int .i64 (t.dep : Int), .int .i64 (whI t.wh)] ++ vs' ∧ Sl w A n c t.ids ∧ Inn Pr n A ∧ TkV Pr w vs' T
section
variable {Pr Pr' : Nat → Prop} {w w' : World} {t : Wm.Tk} {T T' : List Wm.Tk} {vs vs' : List Value} {A : Option Addr} {n c : Nat}
theorem TkV.keep (h : TkV Pr w vs T) (hs : w.heap.size ≤ w'.heap.size) (hk : ∀ k, k < w.heap.size → Pr k → w'.heap[k]? = w.heap[k]?) : TkV Pr w' vs T := by
  induction T generalizing vs with
  | nil => exact h
  | cons t T ih =>
    obtain ⟨A, n, c, vs1, e, h1, h2, h3⟩ := h
    exact ⟨A, n, c, vs1, e, h1.keepIn h2 hs hk, h2, ih h3⟩
theorem TkV.mono (h : TkV Pr w vs T) (hp : ∀ k, k < w.heap.size → Pr k → Pr' k) : TkV Pr' w vs T := by
  induction T generalizing vs with
  | nil => exact h
  | cons t T ih =>
    obtain ⟨A, n, c, vs1, e, h1, h2, h3⟩ := h
    refine ⟨A, n, c, vs1, e, h1, fun hn b off s e => ?_, ih h3⟩
    obtain ⟨b', off', e', hlt, _⟩ := h1.lst.2 hn
    have hb : b' = b := by rw [e'] at e; injection e with e; injection e
    exact hp _ (by omega) (h2 hn b off s e)
theorem TkV.len (h : TkV Pr w vs T) : vs.length = T.length * 3 := by
  induction T generalizing vs with
  | nil => rw [show vs = [] from h]; rfl
  | cons t T ih =>
    obtain ⟨A, n, c, vs1, rfl, h1, h2, h3⟩ := h
    have := ih h3
    simp; omega
theorem TkV.append (h : TkV Pr w vs T) (h' : TkV Pr w vs' T') : TkV Pr w (vs ++ vs') (T ++ T') := by
  induction T generalizing vs with
  | nil => rw [show vs = [] from h]; exact h'
  | cons t T ih =>
    obtain ⟨A, n, c, vs1, rfl, h1, h2, h3⟩ := h
    exact ⟨A, n, c, vs1 ++ vs', by rw [List.append_assoc], h1, h2, ih h3⟩
theorem TkV.one (h : Sl w A n c t.ids) (hi : Inn Pr n A) : TkV Pr w [.slice A n c, .int .i64 (t.dep : Int), .int .i64 (whI t.wh)] [t] := ⟨A, n, c, [], by simp, h, hi, rfl⟩
theorem TkV.last (h : TkV Pr w vs (T ++ [t])) : ∃ vs0 A n c, vs = vs0 ++ [.slice A n c, .int .i64 (t.dep : Int), .int .i64 (whI t.wh)] ∧ TkV Pr w vs0 T ∧ Sl w A n c t.ids ∧ Inn Pr n A := by
  induction T generalizing vs with
  | nil =>
    obtain ⟨A, n, c, vs1, rfl, h1, h2, h3⟩ := h
    rw [show vs1 = [] from h3]
    exact ⟨[], A, n, c, by simp, rfl, h1, h2⟩
  | cons a T ih =>
    obtain ⟨A, n, c, vs1, rfl, h1, h2, h3⟩ := h
    obtain ⟨vs0, A', n', c', rfl, g1, g2, g3⟩ := ih h3
    exact ⟨[.slice A n c, .int .i64 (a.dep : Int), .int .i64 (whI a.wh)] ++ vs0, A', n', c', by rw [List.append_assoc], ⟨A, n, c, vs0, rfl, h1, h2, g1⟩, g2, g3⟩
theorem NdV.monoLt {ns : List Value} {N : List Wm.Nd} (h : NdV Pr w ns N) (hp : ∀ k, k < w.heap.size → Pr k → Pr' k) : NdV Pr' w ns N := by
  induction N generalizing ns with
  | nil => exact h
  | cons t T ih =>
    obtain ⟨A1, n1, c1, A2, n2, c2, vs1, e, h1, h2⟩ := h
    refine ⟨A1, n1, c1, A2, n2, c2, vs1, e, ⟨h1.ids, fun hn b off s e => ?_, h1.pn, fun hn b off s e => ?_, h1.le⟩, ih h2⟩
    · obtain ⟨b', off', e', hlt, _⟩ := h1.ids.lst.2 hn
      have hb : b' = b := by rw [e'] at e; injection e with e; injection e
      exact hp _ (by omega) (h1.in1 hn b off s e)
    · obtain ⟨b', off', e', hlt, _⟩ := h1.pn.1.2 hn
      have hb : b' = b := by rw [e'] at e; injection e with e; injection e
      exact hp _ (by omega) (h1.in2 hn b off s e)
/-- where ids and normals may stand: in blocks of the call's own, but in none that is written to -/
def Pz (w0 : World) (q : Nat) (vS vN : Value) (k : Nat) : Prop := w0.heap.size ≤ k ∧ k ≠ q ∧ vS.ownBlock ≠ some k ∧ vN.ownBlock ≠ some k
end
section
variable {w0 W W1 W2 : World} {q : Nat} {vS vN v' : Value} {S : List Wm.Tk} {N : List Wm.Nd} {t : Wm.Tk} {A : Option Addr} {n c : Nat}
/-- whose right child is told -/
theorem NdV.right {Pr : Nat → Prop} {ns : List Value} {j m : Nat} (h : NdV Pr W ns N) (hj : j < N.length) : NdV Pr W (ns.set (j * 6 + 5) (.int .i64 (m : Int))) (N.modify j fun t => { t with rt := m }) := by
  induction N generalizing ns j with
  | nil => exact absurd hj (by simp)
  | cons x T ih =>
    obtain ⟨A1, n1, c1, A2, n2, c2, vs1, rfl, h1, h2⟩ := h
    cases j with
    | zero => exact ⟨A1, n1, c1, A2, n2, c2, vs1, rfl, ⟨h1.ids, h1.in1, h1.pn, h1.in2, h1.le⟩, h2⟩
    | succ j =>
      refine ⟨A1, n1, c1, A2, n2, c2, _, ?_, h1, ih h2 (by simpa using hj)⟩
      rw [List.set_append_right _ _ (by simp; omega)]
      congr 2
      simp; omega
end
end Go.Proofs.Ytecdgpacofojeaa
namespace Go.Proofs.Ytecdgpacofojeaa
open Go.RowKit

theorem own_formG {w : World} {base sz n : Nat} {e : TypeId} {v : Value} {xs : List Value} (h : w.ownsRow base e sz v n xs) : ∃ A c, v = .slice A n c ∧ (A = none → c = 0) ∧ n ≤ c := by
  rcases h.2 with ⟨rfl, rfl⟩ | ⟨g, cap, cur, rfl, _, _, h1, _⟩
  · exact ⟨none, 0, rfl, fun _ => rfl, Nat.le_refl _⟩
  · exact ⟨some ⟨g, 0, none⟩, cap, rfl, fun h => (by cases h), h1⟩
section
variable {w0 W : World} {q : Nat} {vS vN : Value} {S : List Wm.Tk} {N : List Wm.Nd} {t : Wm.Tk} {A : Option Addr} {n c : Nat}
theorem made_int (n : Nat) (hn : n ≤ 100000) : ∃ M : Array Value, M.size = n ∧
    ∀ W : World, (Instr.makeSlice 42 (.int .i64 (n : Int)) (.int .i64 (n : Int))).run Try.prog W = .ok (.slice (some ⟨W.heap.size, 0, none⟩) n n) (W.alloc (.cells M 3)) := by
  obtain ⟨i0, hi, hz0, hz1, hz2⟩ := info_parts Try.infoI
  obtain ⟨M, hM⟩ : ∃ M, M = madeCells (Value.int .i64 0).cells ((n : Int).toNat * i0.size) := ⟨_, rfl⟩
  refine ⟨M, by rw [hM, size_madeCells, hz1]; simp, fun W => ?_⟩
  have h := run_make (P := Try.prog) W 42 3 i0 (.int .i64 0) Try.underlying42 hi hz0 .i64 .i64 (n : Int) (n : Int) (by omega) (by omega) (by rw [hz2]; omega) (by omega)
  rw [← hM] at h
  simpa using h
/-- a row of ids that is filled up to a place -/
def RowI (g n k : Nat) (w wr : World) : Prop :=
  (∃ C : Array Value, wr.heap[g]? = some (.cells C 3 (0, 0)) ∧ C.size = n ∧ ∀ j, j < k → C[j]? = some (.int .i64 (j : Int))) ∧ Below w.heap.size w wr
theorem rowI_cell {g n k : Nat} {w wr : World} (h : RowI g n k w wr) (hk : k < n) : ∃ v, wr.cell? ⟨g, k, none⟩ = some v ∧ wr.frozen? ⟨g, k, none⟩ = false := by
  obtain ⟨⟨C, h1, h2, h3⟩, hb⟩ := h
  exact ⟨C[k]'(by omega), by rw [cell_of_row _ _ _ _ _ _ h1, Array.getElem?_eq_getElem], frozen_of_row _ _ _ _ _ h1⟩
theorem rowI_step {g n k : Nat} {w wr : World} (h : RowI g n k w wr) (hk : k < n) (hg : w.heap.size ≤ g) : RowI g n (k + 1) w (wr.setCell ⟨g, k, none⟩ (.int .i64 (k : Int))) := by
  obtain ⟨⟨C, h1, h2, h3⟩, hb⟩ := h
  refine ⟨⟨C.setIfInBounds k (.int .i64 (k : Int)), heap_setCell_same _ _ _ _ _ _ h1, by simpa using h2, fun j hj => ?_⟩, hb.setCell hg _⟩
  rw [Array.getElem?_setIfInBounds]
  by_cases e : k = j
  · subst e; rw [if_pos rfl, if_pos (by omega)]
  · rw [if_neg e]; exact h3 j (by omega)
theorem rowI_sl {g n : Nat} {w wr : World} (h : RowI g n n w wr) : Sl wr (some ⟨g, 0, none⟩) n n (Wm.upto n) := by
  obtain ⟨⟨C, h1, h2, h3⟩, hb⟩ := h
  refine ⟨⟨by rw [ci_length, Wm.upto_length], fun _ => ⟨g, 0, rfl, lt_of_block h1, fun j u hu => ?_⟩⟩, Nat.le_refl _, fun h => by cases h⟩
  have hj : j < n := by have := (List.getElem?_eq_some_iff.1 hu).1; rwa [ci_length, Wm.upto_length] at this
  rw [Nat.zero_add, cell_of_row _ _ _ _ _ _ h1, h3 j hj, ← hu]
  simp [ci, Wm.upto, hj]
end
end Go.Proofs.Ytecdgpacofojeaa
