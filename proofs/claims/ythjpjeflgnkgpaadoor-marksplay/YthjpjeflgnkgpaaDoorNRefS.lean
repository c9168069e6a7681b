/-
  Layer 9 (marks): the document's own set (a list that is looked through), by contracts: Has, Add.
-/
import Derived.Test.YthjpjeflgnkgpaaDoorNMem
import Derived.WalkKit
namespace Go.Proofs.YthjpjeflgnkgpaaDoor
open Go.RowKit

/-- the document's set of n at block r: the ids L were met; their row lies behind it -/
structure Rs (w : World) (r : Nat) (n : Int) (L : List Int) : Prop where
  ex : ∃ (A : Option Addr) (k c : Nat), w.heap[r]? = some (.cells #[.int .i64 n, .slice A k c] 28 (0, 0)) ∧ Sl w A k c L ∧ ∀ b off, A = some ⟨b, off, none⟩ → r < b
section
variable {w w' : World} {r : Nat} {n : Int} {L : List Int}
theorem Rs.lt (h : Rs w r n L) : r < w.heap.size := by obtain ⟨A, k, c, h1, _⟩ := h.ex; exact lt_of_block h1
theorem Rs.below (h : Rs w r n L) (hb : Below w.heap.size w w') : Rs w' r n L := by
  obtain ⟨A, k, c, h1, h2, h3⟩ := h.ex
  exact ⟨A, k, c, (hb.block _ (lt_of_block h1)).trans h1, h2.below hb, h3⟩
theorem Rs.drewN (h : Rs w r n L) (d : Nat) : Rs (w.drewN d) r n L := h.below (bdrew (Below.refl _ w) d)
end
theorem Rs.other {S : Nat → Prop} {w w' : World} {r : Nat} {n : Int} {L : List Int} (h : Rs w r n L) (hk : Kept S w w') (hS : ∀ j, S j → j < r) : Rs w' r n L := by
  obtain ⟨A, k, c, h1, h2, h3⟩ := h.ex
  refine ⟨A, k, c, (hk.block r (lt_of_block h1) (fun q => by have := hS r q; omega)).trans h1, ⟨⟨h2.lst.1, fun h0 => ?_⟩, h2.cap, h2.nil⟩, h3⟩
  obtain ⟨b, off, e, hb, hc⟩ := h2.lst.2 h0
  refine ⟨b, off, e, Nat.lt_of_lt_of_le hb hk.size, fun j u hu => ?_⟩
  exact (World.cell?_of_block (a := ⟨b, off + j, none⟩) (hk.block b hb (fun q => by have := hS b q; have := h3 b off e; omega))).trans (hc j u hu)
theorem mem_step {l : List Int} {i : Nat} {x y : Int} (h : ∀ j, j < i → l[j]? ≠ some x) (hy : l[i]? = some y) (hne : y ≠ x) : ∀ j, j < i + 1 → l[j]? ≠ some x := by
  intro j hj e
  by_cases q : j = i
  · subst q; rw [hy] at e; injection e with e; exact hne e
  · exact h j (by omega) e
theorem mem_none {l : List Int} {x : Int} (h : ∀ j, j < l.length → l[j]? ≠ some x) : x ∉ l := fun hx => by
  obtain ⟨j, hj, e⟩ := List.mem_iff_getElem.1 hx
  exact h j hj (by rw [List.getElem?_eq_getElem hj, e])

theorem refHas (r : Nat) (n : Int) (L : List Int) (x : Int) (w : World) (h : Rs w r n L) (hl : L.length ≤ 1000000) :
    Calls Tryd.prog 9 #[.pointer (some ⟨r, 0, none⟩), .int .i64 x] w fun e w' => e = .returned (.bool (decide (x ∈ L))) ∧ w' = w := by
  obtain ⟨A, N, c, h1, h2, -⟩ := h.ex
  have c1 : w.cell? ⟨r, 1, none⟩ = some (.slice A N c) := by rw [cell_of_row _ _ _ _ _ _ h1]; rfl
  have hN : N ≤ 1000000 := by rw [← h2.length]; exact hl
  have HS := Lib.hid h2
  clear h h1 h2 hl
  go_enter Tryd.func9, Tryd.ntmps9
  go_wp2
  go_loopw [5] (fun p wr => ∃ i : Nat, p = .int .i64 (i : Int) ∧ i ≤ N ∧ (∀ j, j < i → L[j]? ≠ some x) ∧ wr = w) (fun p _ => N - (intOf p).toNat)
  case atStart => exact ⟨0, rfl, Nat.zero_le _, fun j hj => absurd hj (by omega), rfl⟩
  case round =>
    obtain ⟨i, rfl, hi, hno, rfl⟩ := hrel
    have HNO := Lib.hid hno
    clear hno
    by_cases hlt : i < N
    · obtain ⟨y, hy⟩ := HS.out.get hlt
      obtain ⟨b, off, rfl, hb, c0⟩ := HS.out.at_ hy
      have HY := Lib.hid hy
      clear hy hb
      by_cases e : y = x
      · subst e
        have HM := Lib.hid (show y ∈ L from List.mem_of_getElem? HY.out)
        go_wp2
        go_ret
        exact ⟨by rw [decide_eq_true HM.out]; rfl, rfl⟩
      · have g : (y == x) = false := by simp [e]
        have HST := Lib.hid (mem_step HNO.out HY.out e)
        clear e
        go_wp2
        go_roundw
        case rel => exact ⟨i + 1, congrArg (Value.int .i64) (by omega), by omega, HST.out, by simp⟩
        case measure => simp [intOf]; omega
    · obtain rfl : i = N := by omega
      have HM := Lib.hid (show x ∉ L from mem_none fun j hj => HNO.out j (by rwa [HS.out.length] at hj))
      go_wp2
      go_ret
      exact ⟨by rw [decide_eq_false HM.out]; rfl, rfl⟩
theorem row_keep {W W' : World} {B : Nat} {e : TypeId} {v : Value} {n : Nat} {xs : List Value} (h : W.ownsRow B e 1 v n xs) (hk : ∀ g, v.ownBlock = some g → W'.heap[g]? = W.heap[g]?) : W'.ownsRow B e 1 v n xs := by
  refine ⟨h.1, ?_⟩
  rcases h.2 with h0 | ⟨g, cap, cur, hv, hg, hb, hr⟩
  · exact .inl h0
  · exact .inr ⟨g, cap, cur, hv, hg, (hk g (by rw [hv]; rfl)).trans hb, hr⟩
theorem Rs.put {w W : World} {r : Nat} {n x : Int} {L : List Int} (h : Rs w r n L) {v : Value} {k : Nat} (ho : W.ownsRow w.heap.size 3 1 v k (ci (L ++ [x]))) (hb : Below w.heap.size w W) :
    W.frozen? ⟨r, 1, none⟩ = false ∧ (∃ u, W.cell? ⟨r, 1, none⟩ = some u) ∧ Rs (W.setCell ⟨r, 1, none⟩ v) r n (L ++ [x]) ∧ Kept (fun q => q = r) w (W.setCell ⟨r, 1, none⟩ v) := by
  obtain ⟨A, N, c, h1, h2, -⟩ := h.ex
  have hlt := lt_of_block h1
  have hr : W.heap[r]? = some (.cells #[.int .i64 n, .slice A N c] 28 (0, 0)) := (hb.block _ hlt).trans h1
  have hg : ∀ g, v.ownBlock = some g → w.heap.size ≤ g := own_block ho
  have ho2 : (W.setCell ⟨r, 1, none⟩ v).ownsRow w.heap.size 3 1 v k (ci (L ++ [x])) := row_keep ho fun g e => Below.heap_setCell _ _ _ _ (by have := hg g e; show g ≠ r; omega)
  obtain ⟨A', c', e, hA, hc⟩ := own_form ho2
  refine ⟨frozen_of_row _ _ _ _ _ hr, ⟨.slice A N c, by rw [cell_of_row _ _ _ _ _ _ hr]; rfl⟩, ⟨A', k, c', ?_, Sl.of_own (by rw [← e]; exact ho2), fun b off q => ?_⟩, ((Kept.of_below (S := fun q => q = r) hb).setCell (.inl rfl))⟩
  · rw [heap_setCell_same _ _ _ _ _ _ hr, e]; simp
  · have := hg b (by rw [e, q]; rfl)
    omega

set_option maxRecDepth 100000 in
set_option maxHeartbeats 800000 in
theorem refAdd (r : Nat) (n : Int) (L : List Int) (x : Int) (w : World) (h : Rs w r n L) (hl : L.length ≤ 900000) :
    Calls Tryd.prog 11 #[.pointer (some ⟨r, 0, none⟩), .int .i64 x] w fun e w' => e = .returned (.bool (decide (0 ≤ x ∧ x < n ∧ x ∉ L))) ∧ Rs w' r n (Nm.add n L x) ∧ Kept (fun q => q = r) w w' := by
  obtain ⟨i0, hi, hz0, hz1, hz2⟩ := info_parts Tryd.infoI
  obtain ⟨β, hβ⟩ : ∃ β, decide (0 ≤ x ∧ x < n ∧ x ∉ L) = β := ⟨_, rfl⟩
  obtain ⟨LL, hLL⟩ : ∃ LL, Nm.add n L x = LL := ⟨_, rfl⟩
  rw [hβ, hLL]
  have HBE := Lib.hid hβ
  have HLL := Lib.hid hLL
  obtain ⟨A, N, c, h1, h2, -⟩ := h.ex
  have c0 : w.cell? ⟨r, 0, none⟩ = some (.int .i64 n) := by rw [cell_of_row _ _ _ _ _ _ h1]; rfl
  have c1 : w.cell? ⟨r, 1, none⟩ = some (.slice A N c) := by rw [cell_of_row _ _ _ _ _ _ h1]; rfl
  have hlt := lt_of_block h1
  have hN : N ≤ 900000 := by rw [← h2.length]; exact hl
  have HR := Lib.hid h
  have HS := Lib.hid h2
  have HH := Lib.hid (refHas r n L x w h (by omega))
  clear h h1 h2 hl hβ hLL
  by_cases g0 : x < 0
  · have HO := Lib.hid g0
    have d0 : decide (x < 0) = true := decide_eq_true g0
    clear g0
    go_enter Tryd.func11, Tryd.ntmps11
    go_wp2
    go_ret
    have hno : ¬ (0 ≤ x ∧ x < n ∧ x ∉ L) := fun q => by have := HO.out; omega
    refine ⟨by rw [← HBE.out, decide_eq_false hno]; rfl, ?_, Kept.refl _ _⟩
    rw [← HLL.out]
    unfold Nm.add
    rw [if_neg hno]
    exact HR.out
  have d0 : decide (x < 0) = false := decide_eq_false g0
  have HG0 := Lib.hid g0
  by_cases g1 : x ≥ n
  · have HO := Lib.hid g1
    clear g0
    go_enter Tryd.func11, Tryd.ntmps11
    go_wp2
    go_ret
    have hno : ¬ (0 ≤ x ∧ x < n ∧ x ∉ L) := fun q => by have := HO.out; omega
    refine ⟨by rw [← HBE.out, decide_eq_false hno]; rfl, ?_, Kept.refl _ _⟩
    rw [← HLL.out]
    unfold Nm.add
    rw [if_neg hno]
    exact HR.out
  have HG1 := Lib.hid g1
  have g2 : x < n := by omega
  have g3 : decide (n ≤ x) = false := by simp; omega
  clear g0 g1
  by_cases hm : x ∈ L
  · have e1 : decide (x ∈ L) = true := decide_eq_true hm
    rw [e1] at HH
    have HM := Lib.hid hm
    clear hm e1
    go_enter Tryd.func11, Tryd.ntmps11
    go_wp2_with fail
    refine HH.out.mono ?_
    rintro _ _ ⟨rfl, rfl⟩
    go_wp2
    go_ret
    have hno : ¬ (0 ≤ x ∧ x < n ∧ x ∉ L) := fun q => q.2.2 HM.out
    refine ⟨by rw [← HBE.out, decide_eq_false hno]; rfl, ?_, Kept.refl _ _⟩
    rw [← HLL.out]
    unfold Nm.add
    rw [if_neg hno]
    exact HR.out
  · have e1 : decide (x ∈ L) = false := decide_eq_false hm
    rw [e1] at HH
    have HM := Lib.hid (show 0 ≤ x ∧ x < n ∧ x ∉ L from ⟨by have := HG0.out; omega, g2, hm⟩)
    clear hm e1
    have HB := Lib.hid ((Below.refl _ w).alloc (Nat.le_refl _) (.cells #[] 3))
    go_enter Tryd.func11, Tryd.ntmps11
    go_wp2_with fail
    refine HH.out.mono ?_
    rintro _ V ⟨rfl, hV⟩
    subst hV
    go_wp2_with (first
      | (at_builtin; refine append_lst _ rfl (.tmp 21) (.tmp 25) 22 rfl V.heap.size 3 i0 (.int .i64 0) 8 Tryd.underlying22 hi hz0 hz1 hz2 rfl (.slice (some ⟨V.heap.size, 0, none⟩) 0 0) 0 [] rfl (own_empty V 3) V.heap.size A N c (ci L) rfl HS.out.nil (HS.out.lst.below HB.out) (ints_one .i64 L) (by unfold maxLen; omega) (by omega) HB.out.size ?_; intro v1 w2 q1 q2; have O2 := Lib.hid (own_below q1 ((Below.refl _ w2).alloc (Nat.le_refl _) (.cells #[.int .i64 x] 3))); have B2 := Lib.hid (HB.out.grown q2 HB.out.size (fun k hk => by simp [Value.ownBlock] at hk; omega)); have B3 := Lib.hid (B2.out.alloc B2.out.size (.cells #[.int .i64 x] 3)); clear q1 q2)
      | (at_builtin; refine append_lst _ rfl (.tmp 26) (.tmp 28) 22 rfl V.heap.size 3 i0 (.int .i64 0) 8 Tryd.underlying22 hi hz0 hz1 hz2 rfl v1 (0 + N) ([] ++ ci L) rfl O2.out _ (some ⟨w2.heap.size, 0, none⟩) 1 1 (ci [x]) rfl (fun h => by cases h) (lst_one (heap_new w2 _ _)) (ints_one .i64 [x]) (by unfold maxLen; omega) (by omega) B3.out.size ?_; intro v2 w3 q1 q2; rw [Nat.zero_add] at q1; obtain ⟨A4, c4, hv4, -, -⟩ := own_form q1; subst hv4; have O3 := Lib.hid q1; have B4 := Lib.hid (B3.out.grown q2 B3.out.size (own_block O2.out)); obtain ⟨f3, ⟨u3, m3⟩, p1, p2⟩ := HR.out.put (x := x) (k := N + 1) (by have := O3.out; rwa [List.nil_append, ci_app] at this) B4.out; have P1 := Lib.hid p1; have P2 := Lib.hid p2; clear q1 q2 p1 p2))
    go_ret
    refine ⟨by rw [← HBE.out, decide_eq_true HM.out]; rfl, ?_, P2.out⟩
    rw [← HLL.out]
    unfold Nm.add
    rw [if_pos HM.out]
    exact P1.out
end Go.Proofs.YthjpjeflgnkgpaaDoor
