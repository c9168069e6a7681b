/-
  Layer 8 (topk): a selector that was made behind a world, and all that lay there as it was: by contracts.
-/
import Derived.Test.YtdpoieemadblnaaKLswR
namespace Go.Proofs.Ytdpoieemadblnaa
open Go.RowKit

/-- a selector, all of it behind W0; what lay there is as it was; row r is none of its blocks -/
def LvrR (W0 W : World) (r s : Nat) (m : Int) (c : Nat) (K : List Om.E) : Prop := ∃ S : Nat → Prop, SelR W S s m c K ∧ (∀ k, S k → W0.heap.size ≤ k) ∧ ¬ S r ∧ Below W0.heap.size W0 W
def LivR (W0 W : World) (s : Nat) (m : Int) (c : Nat) (K : List Om.E) : Prop := ∃ S : Nat → Prop, SelR W S s m c K ∧ (∀ k, S k → W0.heap.size ≤ k) ∧ Below W0.heap.size W0 W
section
variable {W0 W W' : World} {r s : Nat} {m : Int} {c : Nat} {K : List Om.E}
theorem LvrR.liv (h : LvrR W0 W r s m c K) : LivR W0 W s m c K := by obtain ⟨S, h1, h2, h3, h4⟩ := h; exact ⟨S, h1, h2, h4⟩
theorem LvrR.set (h : LvrR W0 W r s m c K) (hr : W0.heap.size ≤ r) (o : Nat) (v : Value) : LvrR W0 (W.setCell ⟨r, o, none⟩ v) r s m c K := by
  obtain ⟨S, h1, h2, h3, h4⟩ := h
  exact ⟨S, h1.other (S' := fun k => k = r) ((Kept.refl _ _).setCell (.inl rfl)) (fun k hk e => h3 (by rw [← e]; exact hk)), h2, h3, h4.setCell (p := ⟨r, o, none⟩) hr v⟩
theorem LvrR.below (h : LvrR W0 W r s m c K) (hb : Below W.heap.size W W') : LvrR W0 W' r s m c K := by
  obtain ⟨S, h1, h2, h3, h4⟩ := h
  exact ⟨S, h1.below hb, h2, h3, h4.trans (hb.mono h4.size)⟩
theorem LvrR.drew (h : LvrR W0 W r s m c K) : LvrR W0 W.drew r s m c K := by
  obtain ⟨S, h1, h2, h3, h4⟩ := h
  exact ⟨S, h1.drew, h2, h3, h4.drew⟩
theorem LivR.base (h : LivR W0 W s m c K) : Below W0.heap.size W0 W := by obtain ⟨S, h1, h2, h3⟩ := h; exact h3
theorem LivR.below (h : LivR W0 W s m c K) (hb : Below W.heap.size W W') : LivR W0 W' s m c K := by
  obtain ⟨S, h1, h2, h3⟩ := h
  exact ⟨S, h1.below hb, h2, h3.trans (hb.mono h3.size)⟩
theorem LivR.drew (h : LivR W0 W s m c K) : LivR W0 W.drew s m c K := by
  obtain ⟨S, h1, h2, h3⟩ := h
  exact ⟨S, h1.drew, h2, h3.drew⟩
theorem LivR.heap (h : LivR W0 W s m c K) (ho : W'.os = W.os) (ht : W'.tape = W.tape) (hu : W'.output = W.output) (hh : W'.heap = W.heap) : LivR W0 W' s m c K := by
  obtain ⟨S, h1, h2, h3⟩ := h
  exact ⟨S, h1.keep (by rw [hh]; exact Nat.le_refl _) (fun k _ => by rw [hh]), h2, h3.trans ⟨ho, ht, hu, by rw [hh]; exact Nat.le_refl _, fun k _ => by rw [hh]⟩⟩
theorem LivR.new (m : Int) (W0 : World) : Calls Try.prog 23 #[.func (.func 19) #[] #[], .int .i64 m] W0 fun e w' => ∃ s, e = .returned (.pointer (some ⟨s, 0, none⟩)) ∧ LivR W0 w' s m 0 [] :=
  (snewR m W0).mono fun e w' ⟨S, s, h1, h2, h3, h4⟩ => ⟨s, h1, S, h2, h4, h3⟩
theorem LivR.len (h : LivR W0 W s m c K) : Calls Try.prog 25 #[.pointer (some ⟨s, 0, none⟩)] W fun e w' => e = .returned (.int .i64 (K.length : Int)) ∧ w' = W := by
  obtain ⟨S, h1, h2, h3⟩ := h
  exact slenR S s m c K W h1
theorem LivR.last (h : LivR W0 W s m c K) : Calls Try.prog 24 #[.pointer (some ⟨s, 0, none⟩)] W fun e w' => e = .returned (.tuple #[.agg #[.int .i64 (K.getLast?.getD (0, 0)).1, .int .i64 (K.getLast?.getD (0, 0)).2], .bool (decide (0 < K.length))]) ∧ LivR W0 w' s m c K ∧ Below W.heap.size W w' := by
  obtain ⟨S, h1, h2, h3⟩ := h
  exact (slastR S s m c K W h1).mono fun e w' ⟨he, hb⟩ => ⟨he, ⟨S, h1.below hb, h2, h3.trans (hb.mono h3.size)⟩, hb⟩
theorem LivR.offer (h : LivR W0 W s m c K) (hc : c ≤ 100000) (x1 x2 : Int) : Calls Try.prog 26 #[.pointer (some ⟨s, 0, none⟩), .agg #[.int .i64 x1, .int .i64 x2]] W fun e w' => e = .returned (.bool (Km.off Om.near m K (x1, x2)).2) ∧ LivR W0 w' s m (c + 1) (Km.off Om.near m K (x1, x2)).1 ∧ W.heap.size ≤ w'.heap.size := by
  obtain ⟨S, h1, h2, h3⟩ := h
  refine (sofferR S s m c K x1 x2 W h1 hc).mono ?_
  rintro e w' ⟨he, S', g1, g2, g3⟩
  exact ⟨he, ⟨S', g1, fun k hk => by rcases g3 k hk with q | q; exact h2 k q; exact Nat.le_trans h3.size q, h3.trans (g2.old h3.size h2)⟩, g2.size⟩
theorem LivR.list (h : LivR W0 W s m c K) (hc : c ≤ 100000) : Calls Try.prog 27 #[.pointer (some ⟨s, 0, none⟩)] W fun e w' => e = .returned (.slice (some ⟨W.heap.size, 0, none⟩) K.length K.length) ∧ BlkE 42 w' W.heap.size K ∧ LvrR W0 w' W.heap.size s m c K := by
  obtain ⟨S, h1, h2, h3⟩ := h
  refine (slistR.list_ S s m c K W h1 hc).mono ?_
  rintro e w' ⟨he, hb, S', g1, gn, g2, g3⟩
  exact ⟨he, hb, S', g1, fun k hk => by rcases g3 k hk with q | q; exact h2 k q; exact Nat.le_trans h3.size q, gn, h3.trans (g2.old h3.size h2)⟩
end
end Go.Proofs.Ytdpoieemadblnaa
