/-
  Layer 8 (topk): a selector of pairs beside lists that it does not touch, by contracts; is the newest one among those that are kept.
-/
import Derived.Test.YtdpoieemadblnaaKLswP
import Derived.Test.YtdpoieemadblnaaKPai
import Derived.Test.YtdpoieemadblnaaKLem
namespace Go.Proofs.Ytdpoieemadblnaa
namespace Km
open Om (E)
theorem off_in {f : E → E → Bool} {m : Int} {K : List E} {x : E} (h : x ∉ K) : (off f m K x).2 = decide (x ∈ (off f m K x).1) := by
  by_cases h1 : (K.length : Int) < m
  · rw [off_room h1]
    exact (decide_eq_true (Om.merge_mem.2 (.inr (by simp)))).symm
  · rcases List.eq_nil_or_concat K with e | ⟨K0, z, e⟩
    · subst e
      rw [off_none (by simp at h1; omega)]; simp
    · rw [List.concat_eq_append] at e
      subst e
      have h2 : m ≤ (K0.length : Int) + 1 := by simp at h1; omega
      cases hf : f x z with
      | true =>
        rw [off_yes h2 hf]
        exact (decide_eq_true (Om.merge_mem.2 (.inr (by simp)))).symm
      | false =>
        rw [off_no h2 hf]
        exact (decide_eq_false h).symm
theorem fst_mem {f : E → E → Bool} {m : Int} {L : List E} {y : E} (h : y ∈ fst f m L) : y ∈ L := (Om.isort_perm L).subset (List.mem_of_mem_take h)
theorem tag_fresh {z : List Int} {i : Nat} {x : E} (hx : (Om.tag z 0)[i]? = some x) {f : E → E → Bool} {m : Int} : x ∉ fst f m ((Om.tag z 0).take i) := by
  intro h
  have h1 := fst_mem h
  obtain ⟨j, hj⟩ := List.getElem?_of_mem h1
  rw [List.getElem?_take] at hj
  split at hj
  · rename_i hji
    rw [Om.tag_at] at hx hj
    cases h2 : z[i]? with
    | none => rw [h2] at hx; cases hx
    | some a =>
      cases h3 : z[j]? with
      | none => rw [h3] at hj; cases hj
      | some b =>
        rw [h2] at hx; rw [h3] at hj
        simp at hx hj
        have := congrArg Prod.snd (hx.trans hj.symm)
        simp at this
        omega
  · cases hj
theorem take_snoc {l : List E} {i : Nat} {x : E} (h : l[i]? = some x) : l.take (i + 1) = l.take i ++ [x] := by
  rw [List.take_add_one, h]; rfl
end Km
open Go.RowKit

/-- a slice that lies apart from S -/
def Sh (S : Nat → Prop) (w : World) (t : Option Addr × Nat × List Om.E) : Prop := VecE w t.1 t.2.1 t.2.2 ∧ (0 < t.2.1 → ∀ b off, t.1 = some ⟨b, off, none⟩ → ¬ S b)
theorem Sh.kept {S S' : Nat → Prop} {w w' : World} {t : Option Addr × Nat × List Om.E} (h : Sh S w t) (hk : Kept S w w') (hs : ∀ k, S' k → S k ∨ w.heap.size ≤ k) : Sh S' w' t := by
  refine ⟨⟨h.1.1, fun hn => ?_⟩, fun hn b off e q => ?_⟩
  · obtain ⟨b, off, e, hb, hc⟩ := h.1.2 hn
    exact ⟨b, off, e, Nat.lt_of_lt_of_le hb hk.size, fun j u hu => (World.cell?_of_block (w := w) (a := ⟨b, off + j, none⟩) (hk.block b hb (h.2 hn b off e))).trans (hc j u hu)⟩
  · obtain ⟨b', off', e', hb, hc⟩ := h.1.2 hn
    obtain ⟨rfl, rfl⟩ : b = b' ∧ off = off' := by simpa using e.symm.trans e'
    rcases hs b q with q | q
    · exact h.2 hn b off e q
    · omega
/-- a selector of pairs, made behind W1, beside the slices of T -/
def Gd (W1 W : World) (s : Nat) (m : Int) (c : Nat) (K : List Om.E) (T : List (Option Addr × Nat × List Om.E)) : Prop :=
  ∃ S : Nat → Prop, SelP W S s m c K ∧ (∀ k, S k → W1.heap.size ≤ k) ∧ Below W1.heap.size W1 W ∧ ∀ t ∈ T, Sh S W t
section
variable {W1 W W' : World} {s : Nat} {m : Int} {c : Nat} {K : List Om.E} {T T' : List (Option Addr × Nat × List Om.E)}
theorem Gd.base (h : Gd W1 W s m c K T) : Below W1.heap.size W1 W := by obtain ⟨S, h1, h2, h3, h4⟩ := h; exact h3
theorem Gd.length (h : Gd W1 W s m c K T) : K.length ≤ c := by obtain ⟨S, h1, h2, h3, h4⟩ := h; exact h1.length
theorem Gd.below (h : Gd W1 W s m c K T) (hb : Below W.heap.size W W') : Gd W1 W' s m c K T := by
  obtain ⟨S, h1, h2, h3, h4⟩ := h
  exact ⟨S, h1.below hb, h2, h3.trans (hb.mono h3.size), fun t ht => (h4 t ht).kept (Kept.of_below hb) fun k q => .inl q⟩
theorem Gd.drew (h : Gd W1 W s m c K T) : Gd W1 W.drew s m c K T := h.below (Below.refl _ W).drew
theorem Gd.drewN (h : Gd W1 W s m c K T) (d : Nat) : Gd W1 (W.drewN d) s m c K T := by
  induction d with
  | zero => exact h
  | succ d ih => exact ih.drew
theorem Gd.few (h : Gd W1 W s m c K T) (ht : ∀ t ∈ T', t ∈ T) : Gd W1 W s m c K T' := by
  obtain ⟨S, h1, h2, h3, h4⟩ := h
  exact ⟨S, h1, h2, h3, fun t q => h4 t (ht t q)⟩
theorem Gd.vec {A : Option Addr} {n : Nat} {l : List Om.E} (h : Gd W1 W s m c K T) (ht : (A, n, l) ∈ T) : VecE W A n l := by
  obtain ⟨S, h1, h2, h3, h4⟩ := h
  exact (h4 _ ht).1
theorem Gd.add {A : Option Addr} {n : Nat} {l : List Om.E} (h : Gd W1 W s m c K T) (hb : Below W.heap.size W W') (hv : VecE W' A n l) (hg : ∀ g f, A = some ⟨g, f, none⟩ → W.heap.size ≤ g) : Gd W1 W' s m c K ((A, n, l) :: T) := by
  have h' := h.below hb
  obtain ⟨S, h1, h2, h3, h4⟩ := h
  refine ⟨S, h1.below hb, h2, h3.trans (hb.mono h3.size), fun t ht => ?_⟩
  rcases List.mem_cons.1 ht with e | e
  · subst e
    exact ⟨hv, fun _ b off e q => by have := h1.in_ b q; have := hg b off e; omega⟩
  · exact (h4 t e).kept (Kept.of_below hb) fun k q => .inl q
theorem Gd.new (m : Int) (W1 : World) : Calls Try.prog 9 #[.func (.func 10) #[] #[], .int .i64 m] W1 fun e w' => ∃ s, e = .returned (.pointer (some ⟨s, 0, none⟩)) ∧ Gd W1 w' s m 0 [] [] :=
  (snewP m W1).mono fun e w' ⟨S, s, h1, h2, h3, h4⟩ => ⟨s, h1, S, h2, h4, h3, fun t ht => by cases ht⟩
theorem Gd.len (h : Gd W1 W s m c K T) : Calls Try.prog 14 #[.pointer (some ⟨s, 0, none⟩)] W fun e w' => e = .returned (.int .i64 (K.length : Int)) ∧ w' = W := by
  obtain ⟨S, h1, h2, h3, h4⟩ := h
  exact slenP S s m c K W h1
theorem Gd.last (h : Gd W1 W s m c K T) : Calls Try.prog 17 #[.pointer (some ⟨s, 0, none⟩)] W fun e w' => e = .returned (.tuple #[.agg #[.int .i64 (K.getLast?.getD (0, 0)).1, .int .i64 (K.getLast?.getD (0, 0)).2], .bool (decide (0 < K.length))]) ∧ Gd W1 w' s m c K T := by
  have h0 := h
  obtain ⟨S, h1, h2, h3, h4⟩ := h
  exact (slastP S s m c K W h1).mono fun e w' ⟨he, hb⟩ => ⟨he, h0.below hb⟩
theorem Gd.offer (h : Gd W1 W s m c K T) (hc : c ≤ 100000) (x1 x2 : Int) : Calls Try.prog 12 #[.pointer (some ⟨s, 0, none⟩), .agg #[.int .i64 x1, .int .i64 x2]] W fun e w' => e = .returned (.bool (Km.off Om.less m K (x1, x2)).2) ∧ Gd W1 w' s m (c + 1) (Km.off Om.less m K (x1, x2)).1 T := by
  obtain ⟨S, h1, h2, h3, h4⟩ := h
  refine (sofferP S s m c K x1 x2 W h1 hc).mono ?_
  rintro e w' ⟨he, S', g1, g2, g3⟩
  exact ⟨he, S', g1, fun k hk => by rcases g3 k hk with q | q; exact h2 k q; exact Nat.le_trans h3.size q, h3.trans (g2.old h3.size h2), fun t ht => (h4 t ht).kept g2 g3⟩
theorem Gd.list (h : Gd W1 W s m c K T) (hc : c ≤ 100000) : Calls Try.prog 16 #[.pointer (some ⟨s, 0, none⟩)] W fun e w' => e = .returned (.slice (some ⟨W.heap.size, 0, none⟩) K.length K.length) ∧ VecE w' (some ⟨W.heap.size, 0, none⟩) K.length K ∧ Gd W1 w' s m c K T := by
  obtain ⟨S, h1, h2, h3, h4⟩ := h
  refine (slistP.list_ S s m c K W h1 hc).mono ?_
  rintro e w' ⟨he, hb, S', g1, gn, g2, g3⟩
  exact ⟨he, hb.vec rfl, S', g1, fun k hk => by rcases g3 k hk with q | q; exact h2 k q; exact Nat.le_trans h3.size q, h3.trans (g2.old h3.size h2), fun t ht => (h4 t ht).kept g2 g3⟩
end
end Go.Proofs.Ytdpoieemadblnaa
