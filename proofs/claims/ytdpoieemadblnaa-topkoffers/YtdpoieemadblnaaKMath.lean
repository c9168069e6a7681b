/-
  Layer 8 (topk): things that are kept, each beside when it came, in lists alone; nothing of the program stands here.
-/
import Derived.Test.YtdpoieemadblnaaHMath
import Derived.Test.YtdpoieemadblnaaOMath
namespace Go.Proofs.Ytdpoieemadblnaa.Km
open Om (E)

/-- a thing, and when it came -/
abbrev Ent := E × Int
section
variable {f : E → E → Bool}
/-- does a stand behind b? -/
def lat (f : E → E → Bool) (a b : Ent) : Bool := if f b.1 a.1 = true then true else if f a.1 b.1 = true then false else decide (b.2 < a.2)
theorem lat_ord (ho : Om.Ord f) : Hm.Ord (lat f) := by
  constructor
  · intro a b h
    unfold lat at *
    by_cases h1 : f b.1 a.1 = true
    · rw [if_neg (by rw [ho.anti _ _ h1]; simp), if_pos h1]
    · rw [if_neg h1] at h
      by_cases h2 : f a.1 b.1 = true
      · rw [if_pos h2] at h; cases h
      · rw [if_neg h2] at h ⊢
        rw [if_neg h1]
        simp at *
        omega
  · intro a b c h1 h2
    unfold lat at *
    by_cases a1 : f b.1 a.1 = true
    · rw [if_pos a1] at h1; cases h1
    rw [if_neg a1] at h1
    by_cases b1 : f c.1 b.1 = true
    · rw [if_pos b1] at h2; cases h2
    rw [if_neg b1] at h2
    have c1 : f c.1 a.1 = false := ho.goes _ _ _ (by simpa using b1) (by simpa using a1)
    rw [if_neg (by simp [c1])]
    by_cases c2 : f a.1 c.1 = true
    · rw [if_pos c2]
    rw [if_neg c2]
    by_cases a2 : f a.1 b.1 = true
    · exact absurd (Om.first_goes ho (c := c.1) a2 (by simpa using b1)) c2
    rw [if_neg a2] at h1
    by_cases b2 : f b.1 c.1 = true
    · exact absurd (Om.first_goes' ho (c := a.1) b2 (by simpa using a1)) c2
    rw [if_neg b2] at h2
    simp at *
    omega

/-- in order, no two alike -/
def So (f : E → E → Bool) (es : List Ent) : Prop := es.Pairwise fun a b => lat f b a = true
/-- put to its place, behind those that are alike -/
def put (f : E → E → Bool) : List Ent → Ent → List Ent
  | [], e => [e]
  | y :: t, e => if f e.1 y.1 = true then e :: y :: t else y :: put f t e
theorem put_fst (es : List Ent) (e : Ent) : (put f es e).map Prod.fst = Om.merge f (es.map Prod.fst) [e.1] := by
  induction es with
  | nil => simp [put, Om.nil_merge]
  | cons y t ih =>
    unfold put
    by_cases h : f e.1 y.1 = true
    · rw [if_pos h, List.map_cons, List.map_cons, Om.merge_yes h, Om.merge_nil]
    · rw [if_neg h, List.map_cons, List.map_cons, Om.merge_no (by simpa using h), ih]
theorem put_perm (es : List Ent) (e : Ent) : (e :: es).Perm (put f es e) := by
  induction es with
  | nil => exact List.Perm.refl _
  | cons y t ih =>
    unfold put
    by_cases h : f e.1 y.1 = true
    · rw [if_pos h]
    · rw [if_neg h]
      exact (List.Perm.swap _ _ _).trans (List.Perm.cons _ ih)
theorem put_so (ho : Om.Ord f) {es : List Ent} {e : Ent} (h : So f es) (hl : ∀ y ∈ es, y.2 < e.2) : So f (put f es e) := by
  induction es with
  | nil => exact List.pairwise_singleton _ _
  | cons y t ih =>
    obtain ⟨h1, h2⟩ := List.pairwise_cons.1 h
    unfold put
    by_cases hf : f e.1 y.1 = true
    · rw [if_pos hf]
      refine List.pairwise_cons.2 ⟨fun u hu => ?_, h⟩
      have hy : f u.1 y.1 = false := by
        rcases List.mem_cons.1 hu with rfl | hu
        · exact ho.irr _
        · have := h1 u hu
          unfold lat at this
          by_cases q : f y.1 u.1 = true
          · exact ho.anti _ _ q
          · rw [if_neg q] at this
            by_cases q2 : f u.1 y.1 = true
            · rw [if_pos q2] at this; cases this
            · simpa using q2
      unfold lat
      rw [if_pos (Om.first_goes ho hf hy)]
    · rw [if_neg hf]
      refine List.pairwise_cons.2 ⟨fun u hu => ?_, ih h2 fun v hv => hl v (List.mem_cons_of_mem _ hv)⟩
      rcases List.mem_cons.1 ((put_perm t e).symm.subset hu) with rfl | hu
      · unfold lat
        by_cases q : f y.1 u.1 = true
        · rw [if_pos q]
        · rw [if_neg q, if_neg hf]
          exact decide_eq_true (hl y (by simp))
      · exact h1 u hu
theorem So.take {es : List Ent} (h : So f es) (k : Nat) : So f (es.take k) := List.Pairwise.sublist (List.take_sublist _ _) h
theorem So.init {es : List Ent} {z : Ent} (h : So f (es ++ [z])) : So f es := List.Pairwise.sublist (List.sublist_append_left _ _) h
/-- what the heap pops is the last one -/
theorem So.pops (ho : Om.Ord f) {es l' : List Ent} {x z : Ent} (h : So f (es ++ [z])) (hp : (es ++ [z]).Perm (x :: l')) (hx : ∀ y ∈ es ++ [z], lat f y x = false) : x = z ∧ l'.Perm es := by
  have e : x = z := by
    rcases List.mem_append.1 (hp.symm.subset (List.mem_cons_self)) with q | q
    · have h1 := (List.pairwise_append.1 h).2.2 x q z (by simp)
      rw [hx z (by simp)] at h1
      cases h1
    · simpa using q
  subst e
  exact ⟨rfl, ((hp.symm.trans (List.perm_append_singleton x es)).cons_inv)⟩
theorem So.peeks (ho : Om.Ord f) {es : List Ent} {x z : Ent} (h : So f (es ++ [z])) (hm : x ∈ es ++ [z]) (hx : ∀ y ∈ es ++ [z], lat f y x = false) : x = z := by
  rcases List.mem_append.1 hm with q | q
  · have h1 := (List.pairwise_append.1 h).2.2 x q z (by simp)
    rw [hx z (by simp)] at h1
    cases h1
  · simpa using q

/-- what is kept behind an offer, and is it kept: m, the most -/
def off (f : E → E → Bool) (m : Int) (K : List E) (x : E) : List E × Bool :=
  if (K.length : Int) < m then (Om.merge f K [x], true) else
  match K.getLast? with
  | none => (K, false)
  | some z => if f x z = true then (Om.merge f K.dropLast [x], true) else (K, false)
theorem off_room {m : Int} {K : List E} {x : E} (h : (K.length : Int) < m) : off f m K x = (Om.merge f K [x], true) := by unfold off; rw [if_pos h]
theorem off_none {m : Int} {x : E} (h : m ≤ 0) : off f m [] x = ([], false) := by unfold off; rw [if_neg (by simp; omega)]; rfl
theorem off_yes {m : Int} {K : List E} {z x : E} (h : m ≤ (K.length : Int) + 1) (hf : f x z = true) : off f m (K ++ [z]) x = (Om.merge f K [x], true) := by unfold off; rw [if_neg (by simp; omega)]; simp [hf]
theorem off_no {m : Int} {K : List E} {z x : E} (h : m ≤ (K.length : Int) + 1) (hf : f x z = false) : off f m (K ++ [z]) x = (K ++ [z], false) := by unfold off; rw [if_neg (by simp; omega)]; simp [hf]

/-- what is kept behind it, whether the last one gave way (r) -/
def gave (r : Bool) (K : List E) (z : E) : List E := if r = true then K else K ++ [z]
/-- the first ones of all that were offered -/
def fst (f : E → E → Bool) (m : Int) (L : List E) : List E := (Om.isort f L).take m.toNat
theorem fst_nil (m : Int) : fst f m [] = [] := by simp [fst, Om.isort_nil]
theorem fst_length (m : Int) (L : List E) : (fst f m L).length = min m.toNat L.length := by simp [fst, Om.isort_length]
theorem fst_off (ho : Om.Ord f) (m : Int) (L : List E) (x : E) : (off f m (fst f m L) x).1 = fst f m (L ++ [x]) := by
  have hs := Om.isort_srt ho L
  have hl := Om.isort_length (f := f) L
  unfold fst
  rw [Om.isort_snoc]
  generalize Om.isort f L = A at *
  by_cases h : ((A.take m.toNat).length : Int) < m
  · rw [off_room h]
    simp at h
    rw [List.take_of_length_le (by omega), List.take_of_length_le (by rw [Om.merge_length]; simp; omega)]
  · rcases Nat.eq_zero_or_pos m.toNat with h0 | h0
    · rw [h0, List.take_zero, List.take_zero, off_none (by omega)]
    · simp at h
      obtain ⟨k, hk⟩ : ∃ k, m.toNat = k + 1 := ⟨m.toNat - 1, by omega⟩
      have hkl : k < A.length := by omega
      rw [hk]
      have e : A.take (k + 1) = A.take k ++ [A[k]] := by rw [List.take_add_one, List.getElem?_eq_getElem hkl]; rfl
      rw [e]
      have hb : m ≤ ((A.take k).length : Int) + 1 := by simp; omega
      cases hf : f x A[k] with
      | true =>
        rw [off_yes hb hf]
        have := Om.merge_split (f := f) (A.drop k) [] _ (A.take k) [x] (Nat.le_refl _) (by simp) (fun y hy u hu => by simp at hy; subst hy; exact Om.yes_behind ho hs hkl hf u hu)
        rw [List.take_append_drop, List.append_nil, Om.merge_nil] at this
        rw [this, List.take_left' (by rw [Om.merge_length]; simp; omega)]
      | false =>
        rw [off_no hb hf]
        have := Om.merge_split (f := f) (A.drop (k + 1)) [x] _ (A.take (k + 1)) [] (Nat.le_refl _) (fun u hu y hy => by simp at hy; subst hy; exact Om.before_last ho hs hkl hf u hu) (by simp)
        rw [List.take_append_drop, List.nil_append, Om.merge_nil] at this
        rw [this, List.take_left' (by simp; omega), e]
theorem fst_srt (ho : Om.Ord f) (m : Int) (L : List E) : Om.Srt f (fst f m L) := (Om.isort_srt ho L).take _
end
end Go.Proofs.Ytdpoieemadblnaa.Km
