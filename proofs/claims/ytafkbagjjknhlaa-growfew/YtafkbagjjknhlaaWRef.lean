/-
  Layer 13 (grow): the document's own tree, by contracts.
-/
import Derived.Test.YtafkbagjjknhlaaWMem
import Derived.Maps.AppendAt
namespace Go.Proofs.Ytafkbagjjknhlaa
open Go.RowKit

namespace Wm
/-- may a forest be built so? -/
def chk (tr lf dp : Int) : Int := if lf < 1 ∨ 1024 < lf ∨ dp < 0 ∨ 64 < dp then 1 else if tr < 1 ∨ 256 < tr then 5 else 0
theorem chk_ok {tr lf dp : Int} (h : chk tr lf dp = 0) : 1 ≤ lf ∧ lf ≤ 1024 ∧ 0 ≤ dp ∧ dp ≤ 64 ∧ 1 ≤ tr ∧ tr ≤ 256 := by
  unfold chk at h
  split at h
  · omega
  · split at h <;> omega
end Wm
/-- params' cells in a block -/
def Prx (w : World) (g : Nat) (tr lf dp : Int) (sc : Bool) (sd : Int) (pA : Option Addr) (pn pc : Nat) : Prop := w.heap[g]? = some (.cells #[.int .i64 tr, .int .i64 lf, .int .i64 dp, .bool sc, .int .u64 sd, .slice pA pn pc] 28 (0, 0))
section
variable {w w' : World} {g : Nat} {tr lf dp : Int} {sc : Bool} {sd : Int} {pA : Option Addr} {pn pc : Nat}
theorem Prx.new (w : World) (tr lf dp : Int) (sc : Bool) (sd : Int) (pA : Option Addr) (pn pc : Nat) : Prx (w.alloc (.cells #[.int .i64 tr, .int .i64 lf, .int .i64 dp, .bool sc, .int .u64 sd, .slice pA pn pc] 28)) w.heap.size tr lf dp sc sd pA pn pc := heap_alloc_new w _
theorem Prx.lt (h : Prx w g tr lf dp sc sd pA pn pc) : g < w.heap.size := lt_of_block h
theorem Prx.below (h : Prx w g tr lf dp sc sd pA pn pc) (hb : Below w.heap.size w w') : Prx w' g tr lf dp sc sd pA pn pc := (hb.block g h.lt).trans h
theorem Prx.c0 (h : Prx w g tr lf dp sc sd pA pn pc) : w.cell? ⟨g, 0, none⟩ = some (.int .i64 tr) := by rw [cell_of_row _ _ _ _ _ _ h]; rfl
theorem Prx.c1 (h : Prx w g tr lf dp sc sd pA pn pc) : w.cell? ⟨g, 1, none⟩ = some (.int .i64 lf) := by rw [cell_of_row _ _ _ _ _ _ h]; rfl
theorem Prx.c2 (h : Prx w g tr lf dp sc sd pA pn pc) : w.cell? ⟨g, 2, none⟩ = some (.int .i64 dp) := by rw [cell_of_row _ _ _ _ _ _ h]; rfl
theorem Prx.c3 (h : Prx w g tr lf dp sc sd pA pn pc) : w.cell? ⟨g, 3, none⟩ = some (.bool sc) := by rw [cell_of_row _ _ _ _ _ _ h]; rfl
theorem Prx.c4 (h : Prx w g tr lf dp sc sd pA pn pc) : w.cell? ⟨g, 4, none⟩ = some (.int .u64 sd) := by rw [cell_of_row _ _ _ _ _ _ h]; rfl
theorem Prx.c5 (h : Prx w g tr lf dp sc sd pA pn pc) : w.cell? ⟨g, 5, none⟩ = some (.slice pA pn pc) := by rw [cell_of_row _ _ _ _ _ _ h]; rfl
theorem Prx.btw {lo hi : Nat} (h : Prx w g tr lf dp sc sd pA pn pc) (hg : g < lo ∨ hi ≤ g) (hb : Btw lo hi w w') : Prx w' g tr lf dp sc sd pA pn pc := (hb.block g h.lt hg).trans h
theorem refChk13 : Calls Try.prog 13 #[.agg #[.int .i64 tr, .int .i64 lf, .int .i64 dp, .bool sc, .int .u64 sd, .slice pA pn pc]] w fun e w' => e = .returned (.int .i64 (Wm.chk tr lf dp)) ∧ Below w.heap.size w w' := by
  obtain ⟨W, hW⟩ : ∃ W, W = w.alloc (.cells #[.int .i64 tr, .int .i64 lf, .int .i64 dp, .bool sc, .int .u64 sd, .slice pA pn pc] 28) := ⟨_, rfl⟩
  have hb : Below w.heap.size w W := by rw [hW]; exact (Below.refl _ w).alloc (Nat.le_refl _) _
  have hp : Prx W w.heap.size tr lf dp sc sd pA pn pc := by rw [hW]; exact Prx.new w _ _ _ _ _ _ _ _
  have k0 := hp.c0
  have k1 := hp.c1
  have k2 := hp.c2
  have HW := Lib.hid hW
  have HB := Lib.hid hb
  have HC := Lib.hid (show Wm.chk tr lf dp = if lf < 1 ∨ 1024 < lf ∨ dp < 0 ∨ 64 < dp then 1 else if tr < 1 ∨ 256 < tr then 5 else 0 from rfl)
  clear hW hb hp
  by_cases g1 : lf < 1
  · go_enter Try.func13, Try.ntmps13
    go_wp2
    rw [← HW.out]
    go_ret
    exact ⟨by rw [HC.out, if_pos (.inl g1)]; rfl, HB.out⟩
  by_cases g2 : 1024 < lf
  · go_enter Try.func13, Try.ntmps13
    go_wp2
    rw [← HW.out]
    go_ret
    exact ⟨by rw [HC.out, if_pos (.inr (.inl g2))]; rfl, HB.out⟩
  by_cases g3 : dp < 0
  · go_enter Try.func13, Try.ntmps13
    go_wp2
    rw [← HW.out]
    go_ret
    exact ⟨by rw [HC.out, if_pos (.inr (.inr (.inl g3)))]; rfl, HB.out⟩
  by_cases g4 : 64 < dp
  · go_enter Try.func13, Try.ntmps13
    go_wp2
    rw [← HW.out]
    go_ret
    exact ⟨by rw [HC.out, if_pos (.inr (.inr (.inr g4)))]; rfl, HB.out⟩
  have g5 : ¬ (lf < 1 ∨ 1024 < lf ∨ dp < 0 ∨ 64 < dp) := by omega
  by_cases g6 : tr < 1
  · go_enter Try.func13, Try.ntmps13
    go_wp2
    rw [← HW.out]
    go_ret
    exact ⟨by rw [HC.out, if_neg g5, if_pos (.inl g6)]; rfl, HB.out⟩
  by_cases g7 : 256 < tr
  · go_enter Try.func13, Try.ntmps13
    go_wp2
    rw [← HW.out]
    go_ret
    exact ⟨by rw [HC.out, if_neg g5, if_pos (.inr g7)]; rfl, HB.out⟩
  · go_enter Try.func13, Try.ntmps13
    go_wp2
    rw [← HW.out]
    go_ret
    exact ⟨by rw [HC.out, if_neg g5, if_neg (by omega)]; rfl, HB.out⟩
end

theorem NdV.below {Pr : Nat → Prop} {w w' : World} {vs : List Value} {T : List Wm.Nd} (h : NdV Pr w vs T) (hb : Below w.heap.size w w') : NdV Pr w' vs T := h.keep hb.size fun k hk _ => hb.block k hk
theorem Nds.vals {Pr : Nat → Prop} {w : World} {A : Option Addr} {n c : Nat} {T : List Wm.Nd} (h : Nds Pr w A n c T) (hn : 0 < n) : ∃ vs b off, NdV Pr w vs T ∧ vs.length = n * 6 ∧ A = some ⟨b, off, none⟩ ∧ Pr b ∧ b < w.heap.size ∧ ∀ j u, vs[j]? = some u → w.cell? ((⟨b, off, none⟩ : Addr).add j) = some u := by
  obtain ⟨vs, h1, h2⟩ := h.ex
  obtain ⟨b, off, e, hp, hb, hc⟩ := h2 hn
  exact ⟨vs, b, off, h1, by rw [h1.len, h.len], e, hp, hb, fun j u hu => by rw [Addr.add_lit]; exact hc j u hu⟩
/-- a vector doesn't stand where a source of the document's does -/
theorem Vec.off_src {w : World} {B mm N : Nat} {f : Nat → Int} {A : Option Addr} {n : Nat} {l : List Int} (h : Vec w A n l) (hr : Rfs w B mm f N) : Inn (fun k => k ≠ mm) n A := by
  intro hn b off s e hbm
  obtain ⟨b', off', e', hb, hc⟩ := h.1.2 hn
  have hlen := h.1.1
  rw [e'] at e
  injection e with e
  injection e with e1 e2 e3
  subst e1
  subst hbm
  obtain ⟨mixed, sd, A', n', c', xs, -, -, -, -, hrow, -⟩ := hr
  rw [List.length_map] at hlen
  have hl0 : 0 < l.length := by omega
  have h0 := hc 0 (.int .i32 l[0]) (by rw [List.getElem?_map, List.getElem?_eq_getElem hl0]; rfl)
  rw [cell_of_row _ _ _ _ _ _ hrow] at h0
  rcases (show off' + 0 = 0 ∨ off' + 0 = 1 ∨ off' + 0 = 2 ∨ off' + 0 = 3 ∨ 4 ≤ off' + 0 from by omega) with g | g | g | g | g
  · rw [g] at h0; simp at h0
  · rw [g] at h0; simp at h0
  · rw [g] at h0; simp at h0
  · rw [g] at h0; simp at h0
  · rw [Array.getElem?_eq_none (by simpa using g)] at h0; cases h0
theorem Try.infoNode : (Try.prog.info? 59).map (fun i => (i.zero, i.size, i.bytes)) = some (some (.agg #[.bool false, .slice none 0 0, .slice none 0 0, .int .i64 0, .int .i64 0, .int .i64 0]), 6, 80) := by kernel_rfl
end Go.Proofs.Ytafkbagjjknhlaa
