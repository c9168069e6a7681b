/-
  Layer 6 (stream): what All hands back, ranged over: each tree and its stream, by contract; and the streams that a caller gathered, as memory holds them.
-/
import Derived.Test.YtggbclkinndpnaaMRange
import Derived.Test.YtggbclkinndpnaaMAll
import Derived.Test.YtggbclkinndpnaaMRef
namespace Go.Proofs.Ytggbclkinndpnaa
open Go.RowKit Go.Shelf
attribute [local go_sem] Oper.semAt_some

/-- the iterator: it makes each tree's stream, and yields both, so many times -/
theorem iter_all {m l q T : Nat} (N : Nat) (n : Int) (hs : N ≤ 1000000) (hN : N = 0 ∧ n ≤ 0 ∨ n = N) (sc : Bool) (s : Int) (A : Option Addr) (len c : Nat) (I : Nat → World → Prop) (M : Nat → Nat → World → Prop) (Y : World → Prop)
    (hc : ∀ k W, I k W → W.cell? ⟨q + 1, 0, none⟩ = some (.int .i64 n) ∧ W.cell? ⟨q, 0, none⟩ = some (.bool sc) ∧ W.cell? ⟨q, 1, none⟩ = some (.int .u64 s) ∧ W.cell? ⟨q, 2, none⟩ = some (.slice A len c))
    (hO : ∀ k W, I k W → k < N → Calls Try.prog 8 #[.agg #[.bool sc, .int .u64 s, .slice A len c], .int .i64 (k : Int), .int .i64 n] W fun e W' => ∃ b, e = .returned (.iface T (.pointer (some ⟨b, 0, none⟩))) ∧ M k b W')
    (hY : ∀ k b W, M k b W → k < N → YieldAt Fence.wide (m - 1) Try.prog l #[.int .i64 (k : Int), .iface T (.pointer (some ⟨b, 0, none⟩))] W fun e W' => (e = .returned (.bool true) ∧ I (k + 1) W') ∨ (e = .returned (.bool false) ∧ Y W'))
    (W : World) (h0 : I 0 W) :
    CallsIn Fence.wide m Try.prog 18 #[.func (.yield l) #[] #[], .pointer (some ⟨q + 1, 0, none⟩), .pointer (some ⟨q, 0, none⟩)] W fun e W' => (∃ v, e = .returned v) ∧ (I N W' ∨ Y W') := by
  have HC := Lib.hid hc
  have HO := Lib.hid hO
  have HY := Lib.hid hY
  have H0 := Lib.hid h0
  obtain ⟨c1, -⟩ := hc 0 W h0
  clear hc hO hY h0
  refine callsIn_of_wp Try.func18 rfl trivial ?_ rfl
  simp only [Try.ntmps18, List.size_toArray, List.length_cons, List.length_nil, Nat.reduceAdd, Nat.reduceSub, Array.replicate_succ, Array.replicate_zero, List.push_toArray, List.append_toArray, List.nil_append, List.cons_append]
  gi_wp2
  gi_loopw [6] (fun p wr => ∃ k : Nat, p = .int .i64 (k : Int) ∧ k ≤ N ∧ I k wr) (fun p _ => N - (intOf p).toNat)
  case atStart => exact ⟨0, rfl, by omega, H0.out⟩
  case round =>
    clear H0 c1
    obtain ⟨k, rfl, hk, hi⟩ := hrel
    have HI := Lib.hid hi
    clear hi
    by_cases hlt : k < N
    · obtain ⟨c1, c2, c3, c4⟩ := HC.out k wr HI.out
      have hkn : (k : Int) < n := by omega
      gi_wp2_with fail
      refine ⟨trivial, (fun h => by cases h), ?_⟩
      refine (callsIn_wide.2 (HO.out k wr HI.out hlt)).mono ?_
      rintro _ W1 ⟨b, rfl, hM⟩
      obtain ⟨fn, tmps, assign, body, hy, hR⟩ := HY.out k b W1 hM hlt
      have HR := Lib.hid hR
      clear hR hM c1 c2 c3 c4 HI
      gi_wp2
      refine ⟨(fun h => by cases h), ?_⟩
      refine HR.out.mono ?_
      rintro e W3 (⟨rfl, hI3⟩ | ⟨rfl, hY3⟩)
      · have HI3 := Lib.hid hI3
        clear hI3 HR hy
        gi_wp2
        go_roundw
        case rel => exact ⟨k + 1, congrArg (Value.int .i64) (by omega), by omega, HI3.out⟩
        case measure => simp [intOf]; omega
      · have HY3 := Lib.hid hY3
        clear hY3 HR hy
        gi_wp2
        refine bodyPost_ret (results_none rfl _ _ _) rfl ?_
        exact ⟨⟨_, rfl⟩, .inr HY3.out⟩
    · have hkn : ¬ (k : Int) < n := by omega
      obtain rfl : k = N := by omega
      gi_wp2
      go_end0
      exact ⟨⟨_, rfl⟩, .inl HI.out⟩
/-- a stream of type T in block b, as a value -/
abbrev sv (T b : Nat) : Value := .iface T (.pointer (some ⟨b, 0, none⟩))
theorem own_keep {W W' : World} {B : Nat} {e : TypeId} {v : Value} {n : Nat} {xs : List Value} (h : W.ownsRow B e 1 v n xs) (hk : ∀ j, B ≤ j → j < W.heap.size → W'.heap[j]? = W.heap[j]?) : W'.ownsRow B e 1 v n xs := by
  refine ⟨h.1, ?_⟩
  rcases h.2 with h0 | ⟨g, cap, cur, hv, hg, hb, hr⟩
  · exact .inl h0
  · exact .inr ⟨g, cap, cur, hv, hg, (hk g hg (lt_of_block hb)).trans hb, hr⟩
theorem own_lt {W : World} {B : Nat} {e : TypeId} {v : Value} {n : Nat} {xs : List Value} (h : W.ownsRow B e 1 v n xs) : ∀ g, v.ownBlock = some g → B ≤ g ∧ g < W.heap.size := by
  rcases h.2 with ⟨rfl, _⟩ | ⟨g, cap, cur, rfl, hg, hb, _⟩
  · simp [Value.ownBlock]
  · intro k hk
    have e : g = k := by simpa [Value.ownBlock] using hk
    exact ⟨by omega, by have := lt_of_block hb; omega⟩

/-- k streams were gathered by the slice v in block p: each of them in blocks of its own, from B on -/
structure Gath (W : World) (p B T k : Nat) (F : Nat → Nat → Int) (lo hi b : Nat → Nat) (v : Value) : Prop where
  all : W.heap[p]? = some (.cells #[v] 35 (0, 0))
  row : W.ownsRow B 28 1 v k ((List.range k).map fun j => sv T (b j))
  bas : ∀ j, j < k → Bas T W (lo j) (hi j) (b j) (F j)
  low : ∀ j, j < k → B ≤ lo j
  apart : ∀ i j, i < j → j < k → hi i ≤ lo j
  gap : ∀ g, v.ownBlock = some g → ∀ j, j < k → g < lo j ∨ hi j ≤ g
section
variable {W W' : World} {p B T k : Nat} {F : Nat → Nat → Int} {lo hi b : Nat → Nat} {v : Value}
theorem Gath.keep (h : Gath W p B T k F lo hi b v) (hs : W.heap.size ≤ W'.heap.size) (hp : W'.heap[p]? = W.heap[p]?) (hk : ∀ j, B ≤ j → j < W.heap.size → W'.heap[j]? = W.heap[j]?) : Gath W' p B T k F lo hi b v :=
  ⟨hp.trans h.all, own_keep h.row hk, fun j hj => (h.bas j hj).keep hs fun i h1 h2 => hk i (by have := h.low j hj; omega) (by have := (h.bas j hj).size; omega), h.low, h.apart, h.gap⟩
theorem Gath.nil (hp : W.heap[p]? = some (.cells #[.slice none 0 0] 35 (0, 0))) : Gath W p B T 0 F lo hi b (.slice none 0 0) :=
  ⟨hp, World.ownsRow_nil _ _ _ _, fun _ h => absurd h (by omega), fun _ h => absurd h (by omega), fun _ _ _ h => absurd h (by omega), fun _ _ _ h => absurd h (by omega)⟩
theorem Gath.push (h : Gath W p B T k F lo hi b v) {L bb g cap : Nat} {W2 : World} (hb : Bas T W L W.heap.size bb (F k)) (hL : B ≤ L) (hL' : ∀ j, j < k → hi j ≤ L) (hg : ∀ g, v.ownBlock = some g → g < L) (hp : p < B)
    (r1 : W2.ownsRow B 28 1 (.slice (some ⟨g, 0, none⟩) (k + 1) cap) (k + 1) (((List.range k).map fun j => sv T (b j)) ++ [sv T bb])) (r2 : (W.alloc (.cells #[sv T bb] 28)).grownBy W2 v.ownBlock) (r3 : v.ownBlock = some g ∨ g = (W.alloc (.cells #[sv T bb] 28)).heap.size) :
    Gath (W2.setCell ⟨p, 0, none⟩ (.slice (some ⟨g, 0, none⟩) (k + 1) cap)) p B T (k + 1) F (fun j => if j = k then L else lo j) (fun j => if j = k then W.heap.size else hi j) (fun j => if j = k then bb else b j) (.slice (some ⟨g, 0, none⟩) (k + 1) cap) := by
  have hsz : W.heap.size + 1 ≤ W2.heap.size := by have := r2.size; simpa using this
  have hLs : L < W.heap.size := by have := hb.1; have := hb.2.1; omega
  have hold : ∀ j, j < W.heap.size → v.ownBlock ≠ some j → j ≠ p → (W2.setCell ⟨p, 0, none⟩ (.slice (some ⟨g, 0, none⟩) (k + 1) cap)).heap[j]? = W.heap[j]? := fun j h1 h2 h3 => by
    rw [heap_setCell_other _ _ _ _ h3, grown_block r2 (by simp; omega) h2, Below.heap_alloc _ _ _ h1]
  have hp2 : W2.heap[p]? = some (.cells #[v] 35 (0, 0)) := by
    have h1 := lt_of_block h.all
    rw [grown_block r2 (by simp; omega) (fun e => by have := (own_lt h.row p e).1; omega), Below.heap_alloc _ _ _ h1, h.all]
  have hs3 : (W2.setCell ⟨p, 0, none⟩ (.slice (some ⟨g, 0, none⟩) (k + 1) cap)).heap.size = W2.heap.size := size_set _ _ _
  refine ⟨heap_set_one hp2, ?_, fun j hj => ?_, fun j hj => ?_, fun i j hij hj => ?_, fun g' hg' j hj => ?_⟩
  · have := ownsRow_setCell_below r1 (a := ⟨p, 0, none⟩) hp (.slice (some ⟨g, 0, none⟩) (k + 1) cap)
    rw [List.range_succ, List.map_append]
    have e : ((List.range k).map fun j => sv T (if j = k then bb else b j)) = (List.range k).map fun j => sv T (b j) := List.map_congr_left fun j hj => by
      have := List.mem_range.1 hj
      rw [if_neg (by omega)]
    rw [e]
    simpa using this
  · by_cases e : j = k
    · subst e
      simp only [if_pos]
      exact hb.keep (by omega) fun i h1 h2 => hold i h2 (fun e => by have := hg i e; omega) (by omega)
    · simp only [if_neg e]
      have hj' : j < k := by omega
      have l1 := h.low j hj'
      have l2 := (h.bas j hj').size
      exact (h.bas j hj').keep (by omega) fun i h1 h2 => hold i (by omega) (fun e => by have := h.gap i e j hj'; omega) (by omega)
  · by_cases e : j = k
    · subst e; simp only [if_pos]; exact hL
    · simp only [if_neg e]; exact h.low j (by omega)
  · have ei : i ≠ k := by omega
    by_cases e : j = k
    · subst e; simp only [if_pos, if_neg ei]; exact hL' i (by omega)
    · simp only [if_neg e, if_neg ei]; exact h.apart i j hij (by omega)
  · have eg : g' = g := by have : some g = some g' := hg'; injection this with this; exact this.symm
    subst eg
    by_cases e : j = k
    · subst e
      simp only [if_pos]
      rcases r3 with r3 | r3
      · exact .inl (hg _ r3)
      · simp at r3; exact .inr (by omega)
    · simp only [if_neg e]
      rcases r3 with r3 | r3
      · exact h.gap _ r3 j (by omega)
      · simp at r3; exact .inr (by have := (h.bas j (by omega)).size; omega)
end

/-- N streams that were gathered, the slice's row in block g: stream j told c j draws; below B all is as it was -/
structure Alive (Wz W : World) (B g N T : Nat) (lo hi b : Nat → Nat) (F : Nat → Nat → Int) (c : Nat → Nat) : Prop where
  row : ∀ j, j < N → W.cell? ⟨g, j, none⟩ = some (sv T (b j))
  bas : ∀ j, j < N → Bas T W (lo j) (hi j) (b j) (Rm.dr (F j) (c j))
  low : ∀ j, j < N → B ≤ lo j
  apart : ∀ i j, i < j → j < N → hi i ≤ lo j
  gap : ∀ j, j < N → g < lo j ∨ hi j ≤ g
  old : Below B Wz W
section
variable {Wz W W' : World} {p B T N g : Nat} {F : Nat → Nat → Int} {lo hi b c : Nat → Nat} {v : Value}
theorem Gath.alive (h : Gath W p B T N F lo hi b v) : ∃ A cap g, v = .slice A N cap ∧ (0 < N → A = some ⟨g, 0, none⟩) ∧ Alive W W B g N T lo hi b F (fun _ => 0) := by
  rcases h.row.2 with ⟨h1, h0⟩ | ⟨g, cap, cur, h1, hg, hb, _⟩
  · subst h0
    exact ⟨none, 0, 0, h1, fun h => absurd h (by omega), fun _ h => absurd h (by omega), fun _ h => absurd h (by omega), fun _ h => absurd h (by omega), fun _ _ _ h => absurd h (by omega), fun _ h => absurd h (by omega), Below.refl _ _⟩
  · refine ⟨_, cap, g, h1, fun _ => rfl, fun j hj => ?_, h.bas, h.low, h.apart, fun j hj => h.gap g (by rw [h1]; rfl) j hj, Below.refl _ _⟩
    have hr := h.row
    rw [h1] at hr
    obtain ⟨b0, off, e, _, hc⟩ := (Lst.of_own hr).at_ hj
    injection e with e
    injection e with e1 e2
    subst e1
    subst e2
    rw [Nat.zero_add] at hc
    rw [hc, List.getElem?_map, List.getElem?_eq_getElem (by simpa using hj)]
    simp
theorem Alive.keep (h : Alive Wz W B g N T lo hi b F c) (hw : Below B W W') (hk : ∀ j, (∃ i, i < N ∧ lo i ≤ j ∧ j < hi i) ∨ (j = g ∧ 0 < N) → W'.heap[j]? = W.heap[j]?) : Alive Wz W' B g N T lo hi b F c :=
  ⟨fun j hj => (World.cell?_of_block (hk g (.inr ⟨rfl, by omega⟩))).trans (h.row j hj), fun j hj => (h.bas j hj).keep hw.size fun i h1 h2 => hk i (.inl ⟨j, hj, h1, h2⟩), h.low, h.apart, h.gap, h.old.trans hw⟩
theorem Alive.below (h : Alive Wz W B g N T lo hi b F c) (hw : Below W.heap.size W W') (hB : B ≤ W.heap.size) : Alive Wz W' B g N T lo hi b F c :=
  h.keep (hw.mono hB) fun j hj => hw.block j (by
    rcases hj with ⟨i, h1, _, h3⟩ | ⟨rfl, h1⟩
    · have := (h.bas i h1).size; omega
    · exact cell_block_lt (h.row 0 h1))
theorem Alive.other (h : Alive Wz W B g N T lo hi b F c) {m ho : Nat} (hw : Btw m ho W W') (hm : B ≤ m) (hlt : ∀ j, j < N → hi j ≤ m) (hg : 0 < N → g < m) (hB : B ≤ W.heap.size) (hs : m ≤ W.heap.size) : Alive Wz W' B g N T lo hi b F c :=
  h.keep (hw.old hB hm) fun j hj => by
    rcases hj with ⟨i, h1, _, h3⟩ | ⟨rfl, h1⟩
    · have := hlt i h1; exact hw.block j (by omega) (by omega)
    · have := hg h1; exact hw.block _ (by omega) (by omega)
theorem Alive.draw (h : Alive Wz W B g N T lo hi b F c) {j : Nat} (hj : j < N) (hb : Bas T W' (lo j) (hi j) (b j) (Rm.dr (Rm.dr (F j) (c j)) 1)) (hw : Btw (lo j) (hi j) W W') (hB : B ≤ W.heap.size) : Alive Wz W' B g N T lo hi b F (fun i => if i = j then c j + 1 else c i) := by
  have hl := h.low j hj
  refine ⟨fun i hi' => ?_, fun i hi' => ?_, h.low, h.apart, h.gap, h.old.trans (hw.old hB hl)⟩
  · rw [hw.cell (cell_block_lt (h.row i hi')) (by show g < _ ∨ _ ≤ g; exact h.gap j hj)]
    exact h.row i hi'
  · by_cases e : i = j
    · subst e
      simp only [if_pos]
      rw [Rm.dr_dr] at hb
      exact hb
    · simp only [if_neg e]
      refine (h.bas i hi').keep hw.size fun q h1 h2 => hw.block q (by have := (h.bas i hi').size; omega) ?_
      rcases Nat.lt_or_gt_of_ne e with e | e
      · have := h.apart i j e hj; omega
      · have := h.apart j i e hi'; omega
theorem Alive.drew (h : Alive Wz W B g N T lo hi b F c) : Alive Wz W.drew B g N T lo hi b F c := ⟨h.row, h.bas, h.low, h.apart, h.gap, h.old.drew⟩
end
theorem kf_below {B : Nat} {W W' : World} (h : Below W.heap.size W W') : KeepsFrom B W W' := ⟨h.size, fun k _ _ ho _ => (h.block k (Array.getElem?_eq_some_iff.1 ho).1).trans ho⟩
/-- what stands while a caller gathers: k streams, in blocks from B on; the rest of what was there is as it was at W0, but block p -/
def GI (W0 : World) (p T N : Nat) (F : Nat → Nat → Int) (k : Nat) (W : World) : Prop :=
  k ≤ N ∧ (∃ lo hi b v, Gath W p (W0.heap.size + 2) T k F lo hi b v) ∧ Btw p (p + 1) W0 W ∧ W0.heap.size + 2 ≤ W.heap.size
/-- and one more that is told -/
def GM (W0 : World) (p T N : Nat) (F : Nat → Nat → Int) (k bb : Nat) (W : World) : Prop :=
  k < N ∧ (∃ lo hi b v L, Gath W p (W0.heap.size + 2) T k F lo hi b v ∧ Bas T W L W.heap.size bb (F k) ∧ W0.heap.size + 2 ≤ L ∧ (∀ j, j < k → hi j ≤ L) ∧ (∀ g, v.ownBlock = some g → g < L)) ∧ Btw p (p + 1) W0 W ∧ W0.heap.size + 2 ≤ W.heap.size
section
variable {W0 W W' : World} {p T N k bb : Nat} {F : Nat → Nat → Int}
theorem btw_off (h : Btw p (p + 1) W0 W) (ho : Off (W0.heap.size + 1) W W') : Btw p (p + 1) W0 W' :=
  ⟨ho.os.trans h.os, ho.tape.trans h.tape, ho.output.trans h.output, by rw [ho.size]; exact h.size, fun j hj hg => (ho.block j (by omega)).trans (h.block j hj hg)⟩
theorem GI.off (h : GI W0 p T N F k W) (ho : Off (W0.heap.size + 1) W W') (hp : p < W0.heap.size) : GI W0 p T N F k W' := by
  obtain ⟨h1, ⟨lo, hi, b, v, h2⟩, h3, h4⟩ := h
  exact ⟨h1, ⟨lo, hi, b, v, h2.keep (by rw [ho.size]; exact Nat.le_refl _) (ho.block _ (by omega)) fun j hj _ => ho.block j (by omega)⟩, btw_off h3 ho, by rw [ho.size]; exact h4⟩
theorem GM.off (h : GM W0 p T N F k bb W) (ho : Off (W0.heap.size + 1) W W') (hp : p < W0.heap.size) : GM W0 p T N F k bb W' := by
  obtain ⟨h1, ⟨lo, hi, b, v, L, h2, h5, h6, h7, h8⟩, h3, h4⟩ := h
  refine ⟨h1, ⟨lo, hi, b, v, L, h2.keep (by rw [ho.size]; exact Nat.le_refl _) (ho.block _ (by omega)) fun j hj _ => ho.block j (by omega), ?_, h6, h7, h8⟩, btw_off h3 ho, by rw [ho.size]; exact h4⟩
  rw [ho.size]
  exact h5.keep (by rw [ho.size]; exact Nat.le_refl _) fun j hj _ => ho.block j (by omega)
theorem GI.start (hp : W0.heap[p]? = some (.cells #[.slice none 0 0] 35 (0, 0))) (hb : Below W0.heap.size W0 W) (hs : W.heap.size = W0.heap.size + 2) : GI W0 p T N F 0 W :=
  ⟨Nat.zero_le _, ⟨fun _ => 0, fun _ => 0, fun _ => 0, _, Gath.nil ((hb.block p (lt_of_block hp)).trans hp)⟩, Btw.of_below hb, by omega⟩
theorem GI.told (h : GI W0 p T N F k W) (hk : k < N) (hp : p < W0.heap.size) (hb : Below W.heap.size W W') (hs : Bas T W' W.heap.size W'.heap.size bb (F k)) : GM W0 p T N F k bb W' := by
  obtain ⟨h1, ⟨lo, hi, b, v, h2⟩, h3, h4⟩ := h
  exact ⟨hk, ⟨lo, hi, b, v, W.heap.size, h2.keep hb.size (hb.block p (by omega)) fun j _ hj => hb.block j hj, hs, h4, fun j hj => (h2.bas j hj).size, fun g hg => (own_lt h2.row g hg).2⟩,
    h3.trans (Btw.of_below hb), Nat.le_trans h4 hb.size⟩
theorem GI.at_ {q n c : Nat} {sc : Bool} {s : Int} {A : Option Addr} {xs : List Int} {Nt : Int} (h : GI W0 p T N F k W) (ha : AllAt W0 q W0.heap.size sc s A n c xs Nt) (hq : p < q) : AllAt W q W0.heap.size sc s A n c xs Nt :=
  ha.keep fun j h1 h2 => h.2.2.1.block j h2 (by omega)

/-- All's own iterator, for whoever gathers -/
theorem gather {m l q n c : Nat} (sc : Bool) (s : Int) (A : Option Addr) (xs : List Int) (Nt : Int) (hNt : N = 0 ∧ Nt ≤ 0 ∨ Nt = N) (hN : N ≤ 1000) (ha : AllAt W0 q W0.heap.size sc s A n c xs Nt) (hq : p < q) (hp : p < W0.heap.size)
    (hT : ∀ k : Nat, k < N → strT sc k Nt = T) (hF : ∀ k : Nat, k < N → Sm.strF sc s xs k Nt = F k) (B Y : World → Prop) (hB : ∀ W W', B W → KeepsFrom W0.heap.size W W' → B W')
    (hY : ∀ k bb W, GM W0 p T N F k bb W → B W → YieldAt Fence.wide (m - 1) Try.prog l #[.int .i64 (k : Int), sv T bb] W fun e W' => (e = .returned (.bool true) ∧ GI W0 p T N F (k + 1) W' ∧ B W') ∨ (e = .returned (.bool false) ∧ Y W'))
    (W : World) (h0 : GI W0 p T N F 0 W) (hB0 : B W) :
    CallsIn Fence.wide m Try.prog 18 #[.func (.yield l) #[] #[], .pointer (some ⟨q + 1, 0, none⟩), .pointer (some ⟨q, 0, none⟩)] W fun e W' => (∃ v, e = .returned v) ∧ ((GI W0 p T N F N W' ∧ B W') ∨ Y W') := by
  refine iter_all N Nt (by omega) hNt sc s A n c (fun k W => GI W0 p T N F k W ∧ B W) (fun k bb W => GM W0 p T N F k bb W ∧ B W) Y (fun k W h => ?_) (fun k W h hk => ?_) (fun k b W h hk => hY k b W h.1 h.2) W ⟨h0, hB0⟩
  · obtain ⟨h1, h2, h3, h4⟩ := (h.1.at_ ha hq).cells
    exact ⟨h4, h1, h2, h3⟩
  · have hat := h.1.at_ ha hq
    have h4 := h.1.2.2.2
    refine (strOf_any sc s A n c xs k Nt W (hat.d.more (by omega)) hat.len (by omega)).mono ?_
    rintro _ W' ⟨b, rfl, hs, hb⟩
    rw [hT k hk, hF k hk] at hs
    exact ⟨b, by rw [hT k hk], h.1.told hk hp hb hs, hB _ _ h.2 (kf_below hb)⟩
/-- a stream that is told is gathered -/
theorem GM.push {lo hi b : Nat → Nat} {v : Value} {L g cap : Nat} {W2 : World} (hk : k < N) (hG : Gath W p (W0.heap.size + 2) T k F lo hi b v) (hb : Bas T W L W.heap.size bb (F k)) (hL : W0.heap.size + 2 ≤ L) (hL' : ∀ j, j < k → hi j ≤ L) (hg : ∀ g, v.ownBlock = some g → g < L) (hw : Btw p (p + 1) W0 W) (hs : W0.heap.size + 2 ≤ W.heap.size) (hp : p < W0.heap.size)
    (r1 : W2.ownsRow (W0.heap.size + 2) 28 1 (.slice (some ⟨g, 0, none⟩) (k + 1) cap) (k + 1) (((List.range k).map fun j => sv T (b j)) ++ [sv T bb])) (r2 : (W.alloc (.cells #[sv T bb] 28)).grownBy W2 v.ownBlock) (r3 : v.ownBlock = some g ∨ g = (W.alloc (.cells #[sv T bb] 28)).heap.size) :
    KeepsFrom W0.heap.size W (W2.setCell ⟨p, 0, none⟩ (.slice (some ⟨g, 0, none⟩) (k + 1) cap)) ∧ GI W0 p T N F (k + 1) (W2.setCell ⟨p, 0, none⟩ (.slice (some ⟨g, 0, none⟩) (k + 1) cap)) := by
  have hsz : W.heap.size + 1 ≤ W2.heap.size := by have := r2.size; simpa using this
  have hs3 : (W2.setCell ⟨p, 0, none⟩ (.slice (some ⟨g, 0, none⟩) (k + 1) cap)).heap.size = W2.heap.size := size_set _ _ _
  have hold : ∀ j, j < W.heap.size → v.ownBlock ≠ some j → j ≠ p → (W2.setCell ⟨p, 0, none⟩ (.slice (some ⟨g, 0, none⟩) (k + 1) cap)).heap[j]? = W.heap[j]? := fun j h1 h2 h3 => by
    rw [heap_setCell_other _ _ _ _ h3, grown_block r2 (by simp; omega) h2, Below.heap_alloc _ _ _ h1]
  refine ⟨⟨by omega, fun j o hj ho hc => ?_⟩, by omega, ⟨_, _, _, _, hG.push hb hL hL' hg (by omega) r1 r2 r3⟩, ?_, by omega⟩
  · refine (hold j (Array.getElem?_eq_some_iff.1 ho).1 (fun e => ?_) (by omega)).trans ho
    rcases hG.row.2 with ⟨hv, _⟩ | ⟨g', cap', cur, hv, _, hb', _⟩
    · rw [hv] at e; cases e
    · rw [hv] at e
      have e' : g' = j := by simpa [Value.ownBlock] using e
      subst e'
      rw [hb'] at ho
      injection ho with ho
      subst ho
      cases hc
  · refine ⟨?_, ?_, ?_, by have := hw.size; omega, fun j hj hjp => (hold j (by have := hw.size; omega) (fun e => by have := (own_lt hG.row j e).1; omega) (by omega)).trans (hw.block j hj hjp)⟩
    · exact (show _ = W.os from r2.os).trans hw.os
    · exact (show _ = W.tape from r2.tape).trans hw.tape
    · exact (show _ = W.output from r2.output).trans hw.output
end
theorem Try.infoSrc : (Try.prog.info? 28).map (fun i => (i.zero, i.size, i.bytes)) = some (some .nilIface, 1, 16) := by kernel_rfl
theorem below_put' {B : Nat} {W : World} {l : Nat} (h : B ≤ l) (o : Obj) : Below B W (W.putObj l o) := ⟨rfl, rfl, rfl, by simp, fun k hk => World.putObj_heap_other (by omega)⟩
theorem result_bool {fn : Func} {p : Tmp} (h : fn.results = #[.cell p 4]) (tmps : Array Value) (w : World) (g : Nat) (x : Bool) (hp : tmps[p]?.getD undef = .pointer (some ⟨g, 0, none⟩)) (hg : w.cell? ⟨g, 0, none⟩ = some (.bool x)) :
    (results fn tmps).run Try.prog w = .ok (.bool x) w := by
  simp [results, h, hp, asAddr, loadVar, hg]
end Go.Proofs.Ytggbclkinndpnaa
