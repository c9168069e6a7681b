/-
  Layer 4 (order): plain mathematics of lists and of what comes first. Nothing of the program stands here.
-/
namespace Go.Proofs.Ytecdgpacofojeaa.Om

/-- two numbers: a result's id and how far it is; a pair's number and place -/
abbrev E := Int × Int
def near (a b : E) : Bool := if a.2 = b.2 then decide (a.1 < b.1) else decide (a.2 < b.2)
def less (a b : E) : Bool := decide (a.1 < b.1)
def ahead (a b : E) : Bool := if a.1 = b.1 then decide (a.2 < b.2) else decide (b.1 < a.1)

def cmp (f : E → E → Bool) (a b : E) : Int := if f a b = true then -1 else if f b a = true then 1 else 0

/-- a first that orders -/
structure Ord (f : E → E → Bool) : Prop where
  anti : ∀ a b, f a b = true → f b a = false
  goes : ∀ a b c, f a b = false → f b c = false → f a c = false
theorem Ord.irr {f : E → E → Bool} (h : Ord f) (a : E) : f a a = false := by
  cases e : f a a with
  | false => rfl
  | true => have := h.anti a a e; rw [e] at this; cases this

theorem near_ord : Ord near := by
  constructor
  · intro a b h
    unfold near at *
    split at h <;> split <;> simp at * <;> omega
  · intro a b c h1 h2
    unfold near at *
    split at h1 <;> split at h2 <;> split <;> simp at * <;> omega
theorem less_ord : Ord less := by
  constructor
  · intro a b h
    unfold less at *
    simp at *
    omega
  · intro a b c h1 h2
    unfold less at *
    simp at *
    omega

def merge (f : E → E → Bool) : List E → List E → List E
  | [], ys => ys
  | x :: xs, [] => x :: xs
  | x :: xs, y :: ys => if f y x = true then y :: merge f (x :: xs) ys else x :: merge f xs (y :: ys)
  termination_by xs ys => xs.length + ys.length

section
variable {f : E → E → Bool}
theorem merge_nil (xs : List E) : merge f xs [] = xs := by cases xs <;> simp [merge]
theorem nil_merge (ys : List E) : merge f [] ys = ys := by simp [merge]
theorem merge_yes {x y : E} {xs ys : List E} (h : f y x = true) : merge f (x :: xs) (y :: ys) = y :: merge f (x :: xs) ys := by rw [merge, if_pos h]
theorem merge_no {x y : E} {xs ys : List E} (h : f y x = false) : merge f (x :: xs) (y :: ys) = x :: merge f xs (y :: ys) := by rw [merge, if_neg (by simp [h])]

theorem merge_split (xs2 ys2 : List E) : ∀ (n : Nat) (xs1 ys1 : List E), xs1.length + ys1.length ≤ n → (∀ x ∈ xs1, ∀ y ∈ ys2, f y x = false) → (∀ y ∈ ys1, ∀ x ∈ xs2, f y x = true) →
    merge f (xs1 ++ xs2) (ys1 ++ ys2) = merge f xs1 ys1 ++ merge f xs2 ys2 := by
  intro n
  induction n with
  | zero =>
    intro xs1 ys1 hn _ _
    obtain rfl : xs1 = [] := List.length_eq_zero_iff.1 (by omega)
    obtain rfl : ys1 = [] := List.length_eq_zero_iff.1 (by omega)
    simp [merge]
  | succ n ih =>
    intro xs1 ys1 hn h1 h2
    match xs1, ys1 with
    | [], [] => simp [merge]
    | [], y :: ys1 =>
      cases xs2 with
      | nil => simp [merge]
      | cons x xs2 =>
        have hy := h2 y (by simp) x (by simp)
        have := ih [] ys1 (by simp at hn ⊢; omega) (by simp) (fun y hy x hx => h2 y (by simp [hy]) x hx)
        simp only [List.nil_append] at this ⊢
        rw [List.cons_append, merge_yes hy, this]
        simp [merge]
    | x :: xs1, [] =>
      cases ys2 with
      | nil => simp [merge_nil]
      | cons y ys2 =>
        have hy := h1 x (by simp) y (by simp)
        have := ih xs1 [] (by simp at hn ⊢; omega) (fun x hx y hy => h1 x (by simp [hx]) y hy) (by simp)
        simp only [List.nil_append, List.cons_append] at this ⊢
        rw [merge_no hy, this]
        simp [merge_nil]
    | x :: xs1, y :: ys1 =>
      simp only [List.cons_append]
      cases e : f y x with
      | true =>
        rw [merge_yes e, merge_yes e, ← List.cons_append, ih (x :: xs1) ys1 (by simp at hn ⊢; omega) h1 (fun y hy x hx => h2 y (by simp [hy]) x hx)]
        simp
      | false =>
        rw [merge_no e, merge_no e, ← List.cons_append, ih xs1 (y :: ys1) (by simp at hn ⊢; omega) (fun x hx y hy => h1 x (by simp [hx]) y hy) h2]
        simp

theorem merge_assoc (ho : Ord f) : ∀ (n : Nat) (a b c : List E), a.length + b.length + c.length ≤ n → merge f (merge f a b) c = merge f a (merge f b c) := by
  intro n
  induction n with
  | zero =>
    intro a b c hn
    obtain rfl : a = [] := List.length_eq_zero_iff.1 (by omega)
    obtain rfl : b = [] := List.length_eq_zero_iff.1 (by omega)
    obtain rfl : c = [] := List.length_eq_zero_iff.1 (by omega)
    simp [merge]
  | succ n ih =>
    intro a b c hn
    match a, b, c with
    | [], b, c => simp [nil_merge]
    | a :: as, [], c => simp [nil_merge, merge_nil]
    | a :: as, b :: bs, [] => simp [merge_nil]
    | a :: as, b :: bs, c :: cs =>
      simp only [List.length_cons] at hn
      cases hba : f b a with
      | true =>
        rw [merge_yes hba]
        cases hcb : f c b with
        | true =>
          have hca : f c a = true := by
            cases e : f c a with
            | true => rfl
            | false =>
              have := ho.goes c a b e (ho.anti _ _ hba)
              rw [hcb] at this; cases this
          rw [merge_yes hcb, merge_yes hcb, merge_yes hca, ← merge_yes hba, ih (a :: as) (b :: bs) cs (by simp; omega)]
        | false =>
          rw [merge_no hcb, merge_no hcb, merge_yes hba, ih (a :: as) bs (c :: cs) (by simp; omega)]
      | false =>
        rw [merge_no hba]
        cases hca : f c a with
        | true =>
          have hcb : f c b = true := by
            cases e : f c b with
            | true => rfl
            | false =>
              have := ho.goes c b a e hba
              rw [hca] at this; cases this
          rw [merge_yes hca, merge_yes hcb, merge_yes hca, ← merge_no hba, ih (a :: as) (b :: bs) cs (by simp; omega)]
        | false =>
          cases hcb : f c b with
          | true =>
            rw [merge_no hca, merge_yes hcb, merge_no hca, ← merge_yes hcb, ih as (b :: bs) (c :: cs) (by simp; omega)]
          | false =>
            rw [merge_no hca, merge_no hcb, merge_no hba, ← merge_no hcb, ih as (b :: bs) (c :: cs) (by simp; omega)]
theorem merge_as (ho : Ord f) (a b c : List E) : merge f (merge f a b) c = merge f a (merge f b c) := merge_assoc ho _ a b c (Nat.le_refl _)

theorem length_merge : ∀ (n : Nat) (a b : List E), a.length + b.length ≤ n → (merge f a b).length = a.length + b.length := by
  intro n
  induction n with
  | zero =>
    intro a b hn
    obtain rfl : a = [] := List.length_eq_zero_iff.1 (by omega)
    obtain rfl : b = [] := List.length_eq_zero_iff.1 (by omega)
    simp [merge]
  | succ n ih =>
    intro a b hn
    match a, b with
    | [], b => simp [nil_merge]
    | a :: as, [] => simp [merge_nil]
    | a :: as, b :: bs =>
      simp only [List.length_cons] at hn
      cases h : f b a with
      | true => rw [merge_yes h, List.length_cons, ih _ _ (by simp; omega)]; simp; omega
      | false => rw [merge_no h, List.length_cons, ih _ _ (by simp; omega)]; simp; omega
theorem merge_length (a b : List E) : (merge f a b).length = a.length + b.length := length_merge _ a b (Nat.le_refl _)
theorem mem_merge (z : E) : ∀ (n : Nat) (a b : List E), a.length + b.length ≤ n → (z ∈ merge f a b ↔ z ∈ a ∨ z ∈ b) := by
  intro n
  induction n with
  | zero =>
    intro a b hn
    obtain rfl : a = [] := List.length_eq_zero_iff.1 (by omega)
    obtain rfl : b = [] := List.length_eq_zero_iff.1 (by omega)
    simp [merge]
  | succ n ih =>
    intro a b hn
    match a, b with
    | [], b => simp [nil_merge]
    | a :: as, [] => simp [merge_nil]
    | a :: as, b :: bs =>
      simp only [List.length_cons] at hn
      cases h : f b a with
      | true => rw [merge_yes h, List.mem_cons, ih _ _ (by simp; omega)]; simp only [List.mem_cons]; grind
      | false => rw [merge_no h, List.mem_cons, ih _ _ (by simp; omega)]; simp only [List.mem_cons]; grind
theorem merge_mem {z : E} {a b : List E} : z ∈ merge f a b ↔ z ∈ a ∨ z ∈ b := mem_merge z _ a b (Nat.le_refl _)

/-- none is first of one ahead of it -/
def Srt (f : E → E → Bool) (l : List E) : Prop := l.Pairwise fun a b => f b a = false
theorem srt_merge (ho : Ord f) : ∀ (n : Nat) (a b : List E), a.length + b.length ≤ n → Srt f a → Srt f b → Srt f (merge f a b) := by
  intro n
  induction n with
  | zero =>
    intro a b hn _ _
    obtain rfl : a = [] := List.length_eq_zero_iff.1 (by omega)
    obtain rfl : b = [] := List.length_eq_zero_iff.1 (by omega)
    simp [merge, Srt]
  | succ n ih =>
    intro a b hn ha hb
    match a, b with
    | [], b => simpa [nil_merge] using hb
    | a :: as, [] => simpa [merge_nil] using ha
    | a :: as, b :: bs =>
      simp only [List.length_cons] at hn
      unfold Srt at *
      have ha' := List.pairwise_cons.1 ha
      have hb' := List.pairwise_cons.1 hb
      cases h : f b a with
      | true =>
        rw [merge_yes h, List.pairwise_cons]
        refine ⟨fun z hz => ?_, ih _ _ (by simp; omega) ha hb'.2⟩
        rcases merge_mem.1 hz with hz | hz
        · rcases List.mem_cons.1 hz with rfl | hz
          · exact ho.anti _ _ h
          · exact ho.goes z a b (ha'.1 z hz) (ho.anti _ _ h)
        · exact hb'.1 z hz
      | false =>
        rw [merge_no h, List.pairwise_cons]
        refine ⟨fun z hz => ?_, ih _ _ (by simp; omega) ha'.2 hb⟩
        rcases merge_mem.1 hz with hz | hz
        · exact ha'.1 z hz
        · rcases List.mem_cons.1 hz with rfl | hz
          · exact h
          · exact ho.goes z b a (hb'.1 z hz) h
theorem merge_srt (ho : Ord f) {a b : List E} (ha : Srt f a) (hb : Srt f b) : Srt f (merge f a b) := srt_merge ho _ a b (Nat.le_refl _) ha hb

/-- one behind the other put where it belongs -/
def isort (f : E → E → Bool) (l : List E) : List E := l.foldl (fun acc y => merge f acc [y]) []
theorem isort_nil : isort f [] = [] := rfl
theorem isort_snoc (l : List E) (y : E) : isort f (l ++ [y]) = merge f (isort f l) [y] := by simp [isort, List.foldl_append]
theorem isort_one (y : E) : isort f [y] = [y] := by simp [isort, merge]
theorem isort_append (ho : Ord f) (a b : List E) : isort f (a ++ b) = merge f (isort f a) (isort f b) := by
  have key : ∀ (n : Nat) (b : List E), b.length = n → isort f (a ++ b) = merge f (isort f a) (isort f b) := by
    intro n
    induction n with
    | zero =>
      intro b hb
      obtain rfl : b = [] := List.length_eq_zero_iff.1 hb
      simp [isort_nil, merge_nil]
    | succ n ih =>
      intro b hb
      obtain ⟨b', y, rfl⟩ : ∃ b' y, b = b' ++ [y] := ⟨b.dropLast, b.getLast (by intro e; simp [e] at hb), (List.dropLast_concat_getLast _).symm⟩
      rw [← List.append_assoc, isort_snoc, isort_snoc, ih b' (by simpa using hb), merge_as ho]
  exact key _ b rfl
theorem isort_length (l : List E) : (isort f l).length = l.length := by
  have key : ∀ (l acc : List E), (l.foldl (fun acc y => merge f acc [y]) acc).length = acc.length + l.length := by
    intro l
    induction l with
    | nil => simp
    | cons y l ih => intro acc; rw [List.foldl_cons, ih, merge_length]; simp; omega
  simpa [isort] using key l []
theorem isort_srt (ho : Ord f) (l : List E) : Srt f (isort f l) := by
  have key : ∀ (l acc : List E), Srt f acc → Srt f (l.foldl (fun acc y => merge f acc [y]) acc) := by
    intro l
    induction l with
    | nil => simp
    | cons y l ih => intro acc h; exact ih _ (merge_srt ho h (by simp [Srt]))
  exact key l [] (by simp [Srt])

/-- neighbours alone tell it -/
theorem srt_of_next (ho : Ord f) : ∀ l : List E, (∀ i (h : i + 1 < l.length), f l[i + 1] l[i] = false) → Srt f l := by
  intro l
  induction l with
  | nil => intro _; simp [Srt]
  | cons x l ih =>
    intro h
    have hl : Srt f l := ih fun i hi => h (i + 1) (by simp; omega)
    refine List.pairwise_cons.2 ⟨?_, hl⟩
    cases l with
    | nil => simp
    | cons y l =>
      have h0 : f y x = false := h 0 (by simp)
      intro z hz
      rcases List.mem_cons.1 hz with rfl | hz
      · exact h0
      · exact ho.goes z y x ((List.pairwise_cons.1 hl).1 z hz) h0
theorem Srt.next {l : List E} (h : Srt f l) {i : Nat} (hi : i + 1 < l.length) : f l[i + 1] l[i] = false := (List.pairwise_iff_getElem.1 h) i (i + 1) (by omega) hi (by omega)
theorem Srt.take {l : List E} (h : Srt f l) (k : Nat) : Srt f (l.take k) := List.Pairwise.sublist (List.take_sublist _ _) h
theorem Srt.drop {l : List E} (h : Srt f l) (k : Nat) : Srt f (l.drop k) := List.Pairwise.sublist (List.drop_sublist _ _) h

/-- the parts up to a place, where all up to there are no later than what stands there -/
theorem before_last (ho : Ord f) {l : List E} (h : Srt f l) {k : Nat} (hk : k < l.length) {z : E} (hz : f z l[k] = false) : ∀ x ∈ l.take (k + 1), f z x = false := by
  intro x hx
  obtain ⟨i, hi, rfl⟩ := List.getElem_of_mem hx
  rw [List.getElem_take]
  have hi' : i ≤ k := by simp at hi; omega
  rcases Nat.lt_or_ge i k with hlt | hge
  · exact ho.goes _ _ _ hz ((List.pairwise_iff_getElem.1 h) i k (by omega) hk hlt)
  · obtain rfl : i = k := by omega
    exact hz
/-- what isn't ahead of one isn't ahead of what comes behind either -/
theorem behind_first (ho : Ord f) {l : List E} (h : Srt f l) {k : Nat} (hk : k < l.length) {x : E} (hx : f l[k] x = false) : ∀ y ∈ l.drop k, f y x = false := by
  intro y hy
  obtain ⟨i, hi, rfl⟩ := List.getElem_of_mem hy
  rw [List.getElem_drop]
  rcases Nat.eq_zero_or_pos i with rfl | hpos
  · exact hx
  · exact ho.goes _ _ _ ((List.pairwise_iff_getElem.1 h) k (k + i) hk (by simp at hi; omega) (by omega)) hx
theorem first_goes (ho : Ord f) {a b c : E} (h1 : f a b = true) (h2 : f c b = false) : f a c = true := by
  cases e : f a c with
  | true => rfl
  | false => have := ho.goes a c b e h2; rw [h1] at this; cases this
theorem first_goes' (ho : Ord f) {a b c : E} (h1 : f a b = true) (h2 : f a c = false) : f c b = true := by
  cases e : f c b with
  | true => rfl
  | false => have := ho.goes a c b h2 e; rw [h1] at this; cases this
/-- what is first of one is first of all behind that -/
theorem yes_behind (ho : Ord f) {l : List E} (h : Srt f l) {k : Nat} (hk : k < l.length) {z : E} (hz : f z l[k] = true) : ∀ x ∈ l.drop k, f z x = true := by
  intro x hx
  obtain ⟨i, hi, rfl⟩ := List.getElem_of_mem hx
  rw [List.getElem_drop]
  rcases Nat.eq_zero_or_pos i with rfl | hpos
  · exact hz
  · exact first_goes ho hz ((List.pairwise_iff_getElem.1 h) k (k + i) hk (by simp at hi; omega) (by omega))
/-- all up to one that is first are first -/
theorem yes_before (ho : Ord f) {l : List E} (h : Srt f l) {k : Nat} (hk : k < l.length) {x : E} (hx : f l[k] x = true) : ∀ y ∈ l.take (k + 1), f y x = true := by
  intro y hy
  obtain ⟨i, hi, rfl⟩ := List.getElem_of_mem hy
  rw [List.getElem_take]
  have hi' : i ≤ k := by simp at hi; omega
  rcases Nat.lt_or_ge i k with hlt | hge
  · exact first_goes' ho hx ((List.pairwise_iff_getElem.1 h) i k (by omega) hk hlt)
  · obtain rfl : i = k := by omega
    exact hx

/-- one among others at a place -/
def ins (L : List E) (j : Nat) (x : E) : List E := L.take j ++ x :: L.drop j
theorem ins_length (L : List E) (j : Nat) (x : E) : (ins L j x).length = L.length + 1 := by simp [ins]; omega
theorem ins_at (L : List E) (j : Nat) (x : E) (h : j ≤ L.length) : (ins L j x)[j]? = some x := by
  unfold ins; rw [List.getElem?_append_right (by simp; omega)]; simp [Nat.min_eq_left h]
theorem ins_lt (L : List E) (j k : Nat) (x : E) (h : k < j) (h2 : j ≤ L.length) : (ins L j x)[k]? = L[k]? := by
  unfold ins; rw [List.getElem?_append_left (by simp; omega), List.getElem?_take, if_pos h]
theorem ins_gt (L : List E) (j k : Nat) (x : E) (h : j < k) (h2 : j ≤ L.length) : (ins L j x)[k]? = L[k - 1]? := by
  unfold ins; rw [List.getElem?_append_right (by simp; omega)]
  simp [Nat.min_eq_left h2]
  obtain ⟨d, rfl⟩ : ∃ d, k = j + 1 + d := ⟨k - (j + 1), by omega⟩
  rw [show j + 1 + d - j = d + 1 from by omega, List.getElem?_cons_succ, List.getElem?_drop]
  congr 1; omega
/-- swapped with the one ahead -/
theorem ins_down (L : List E) (j : Nat) (x y : E) (h0 : 0 < j) (h : j ≤ L.length) (hy : L[j - 1]? = some y) : ((ins L j x).set j y).set (j - 1) x = ins L (j - 1) x := by
  refine List.ext_getElem? fun k => ?_
  have hl := ins_length L j x
  simp only [List.getElem?_set, List.length_set, hl]
  by_cases e1 : j - 1 = k
  · subst e1; rw [if_pos rfl, if_pos (by omega), ins_at _ _ _ (by omega)]
  rw [if_neg e1]
  by_cases e2 : j = k
  · subst e2; rw [if_pos rfl, if_pos (by omega), ins_gt _ _ _ _ (by omega) (by omega), hy]
  rw [if_neg e2]
  rcases Nat.lt_or_ge k j with hlt | hge
  · rw [ins_lt _ _ _ _ hlt h, ins_lt _ _ _ _ (by omega) (by omega)]
  · rw [ins_gt _ _ _ _ (by omega) h, ins_gt _ _ _ _ (by omega) (by omega)]
/-- swapped with the one behind -/
theorem ins_up (L : List E) (j : Nat) (x y : E) (h : j < L.length) (hy : L[j]? = some y) : ((ins L j x).set j y).set (j + 1) x = ins L (j + 1) x := by
  refine List.ext_getElem? fun k => ?_
  have hl := ins_length L j x
  simp only [List.getElem?_set, List.length_set, hl]
  by_cases e1 : j + 1 = k
  · subst e1; rw [if_pos rfl, if_pos (by omega), ins_at _ _ _ (by omega)]
  rw [if_neg e1]
  by_cases e2 : j = k
  · subst e2; rw [if_pos rfl, if_pos (by omega), ins_lt _ _ _ _ (by omega) (by omega), hy]
  rw [if_neg e2]
  rcases Nat.lt_or_ge k j with hlt | hge
  · rw [ins_lt _ _ _ _ hlt (by omega), ins_lt _ _ _ _ (by omega) (by omega)]
  · rw [ins_gt _ _ _ _ (by omega) (by omega), ins_gt _ _ _ _ (by omega) (by omega)]

/-- one put behind those that it isn't first of -/
theorem merge_ins (ho : Ord f) {out : List E} (hs : Srt f out) {x : E} {k : Nat} (hk : k ≤ out.length) (hge : k < out.length → f x (out[k]?.getD (0, 0)) = true) (hlt : 0 < k → f x (out[k - 1]?.getD (0, 0)) = false) :
    merge f out [x] = ins out k x := by
  have h1 : ∀ o ∈ out.take k, f x o = false := by
    rcases Nat.eq_zero_or_pos k with rfl | h0
    · simp
    · have hk1 : k - 1 < out.length := by omega
      have := hlt h0
      rw [List.getElem?_eq_getElem hk1] at this
      have := before_last ho hs hk1 this
      rwa [show k - 1 + 1 = k from by omega] at this
  have h2 : ∀ o ∈ out.drop k, f x o = true := by
    rcases Nat.lt_or_ge k out.length with h0 | h0
    · have := hge h0
      rw [List.getElem?_eq_getElem h0] at this
      exact yes_behind ho hs h0 this
    · rw [List.drop_of_length_le h0]; simp
  have e1 := merge_split (f := f) (out.drop k) [x] _ (out.take k) [] (Nat.le_refl _) (fun o ho y hy => by simp at hy; subst hy; exact h1 o ho) (by simp)
  have e2 := merge_split (f := f) (out.drop k) [] _ [] [x] (Nat.le_refl _) (by simp) (fun y hy o ho => by simp at hy; subst hy; exact h2 o ho)
  simp only [List.take_append_drop, List.nil_append, merge_nil, nil_merge, List.append_nil] at e1 e2
  rw [e1, e2]
  simp [ins]
/-- one put ahead of those that aren't first of it -/
theorem ins_merge (ho : Ord f) {out : List E} (hs : Srt f out) {x : E} {k : Nat} (hk : k ≤ out.length) (hge : k < out.length → f (out[k]?.getD (0, 0)) x = false) (hlt : 0 < k → f (out[k - 1]?.getD (0, 0)) x = true) :
    merge f [x] out = ins out k x := by
  have h1 : ∀ o ∈ out.take k, f o x = true := by
    rcases Nat.eq_zero_or_pos k with rfl | h0
    · simp
    · have hk1 : k - 1 < out.length := by omega
      have := hlt h0
      rw [List.getElem?_eq_getElem hk1] at this
      have := yes_before ho hs hk1 this
      rwa [show k - 1 + 1 = k from by omega] at this
  have h2 : ∀ o ∈ out.drop k, f o x = false := by
    rcases Nat.lt_or_ge k out.length with h0 | h0
    · have := hge h0
      rw [List.getElem?_eq_getElem h0] at this
      exact behind_first ho hs h0 this
    · rw [List.drop_of_length_le h0]; simp
  have e1 := merge_split (f := f) [x] (out.drop k) _ [] (out.take k) (Nat.le_refl _) (by simp) (fun o ho y hy => by simp at hy; subst hy; exact h1 o ho)
  have e2 := merge_split (f := f) [] (out.drop k) _ [x] [] (Nat.le_refl _) (fun y hy o ho => by simp at hy; subst hy; exact h2 o ho) (by simp)
  simp only [List.take_append_drop, List.nil_append, merge_nil, nil_merge, List.append_nil] at e1 e2
  rw [e1, e2]
  simp [ins]

/-- two lists, each in two parts -/
theorem sym (ho : Ord f) {X Y : List E} (hX : Srt f X) (hY : Srt f Y) {i j : Nat} (hi : i ≤ X.length) (hj : j ≤ Y.length)
    (h1 : 0 < i → j < Y.length → f (Y[j]?.getD (0, 0)) (X[i - 1]?.getD (0, 0)) = false) (h2 : i < X.length → 0 < j → f (Y[j - 1]?.getD (0, 0)) (X[i]?.getD (0, 0)) = true) :
    merge f (X.take i) (Y.take j) ++ merge f (X.drop i) (Y.drop j) = merge f X Y := by
  have e := merge_split (f := f) (X.drop i) (Y.drop j) _ (X.take i) (Y.take j) (Nat.le_refl _) ?_ ?_
  · simp only [List.take_append_drop] at e
    exact e.symm
  · intro x hx y hy
    have hi0 : 0 < i := by rcases Nat.eq_zero_or_pos i with rfl | h; simp at hx; exact h
    have hj0 : j < Y.length := by rcases Nat.lt_or_ge j Y.length with h | h; exact h; rw [List.drop_of_length_le h] at hy; cases hy
    have h := h1 hi0 hj0
    have hi1 : i - 1 < X.length := by omega
    rw [List.getElem?_eq_getElem hj0, List.getElem?_eq_getElem hi1] at h
    have hx' := before_last ho hX hi1 h
    rw [show i - 1 + 1 = i from by omega] at hx'
    exact behind_first ho hY hj0 (hx' x hx) y hy
  · intro y hy x hx
    have hj0 : 0 < j := by rcases Nat.eq_zero_or_pos j with rfl | h; simp at hy; exact h
    have hi0 : i < X.length := by rcases Nat.lt_or_ge i X.length with h | h; exact h; rw [List.drop_of_length_le h] at hx; cases hx
    have h := h2 hi0 hj0
    have hj1 : j - 1 < Y.length := by omega
    rw [List.getElem?_eq_getElem hi0, List.getElem?_eq_getElem hj1] at h
    have hy' := yes_before ho hY hj1 h
    rw [show j - 1 + 1 = j from by omega] at hy'
    exact yes_behind ho hX hi0 (hy' y hy) x hx

theorem ins_mid (P Sd R : List E) (q : Nat) (x : E) (h : q ≤ Sd.length) : ins (P ++ (Sd ++ R)) (P.length + q) x = P ++ (ins Sd q x ++ R) := by
  unfold ins
  rw [List.take_append, List.drop_append, List.take_of_length_le (by omega), List.drop_of_length_le (l := P) (by omega), Nat.add_sub_cancel_left, List.take_append_of_le_length h, List.drop_append_of_le_length h]
  simp
theorem ins_end (Sd : List E) (x : E) : ins Sd Sd.length x = Sd ++ [x] := by simp [ins]
theorem ins_zero (Sd : List E) (x : E) : ins Sd 0 x = x :: Sd := by simp [ins]
theorem isort_take_one (X : List E) : isort f (X.take 1) ++ X.drop 1 = X := by
  cases X with
  | nil => rfl
  | cons x X => simp [isort_one]
theorem take_snoc {X : List E} {k : Nat} {x : E} (h : X[k]? = some x) : X.take (k + 1) = X.take k ++ [x] := by
  obtain ⟨hk, rfl⟩ := List.getElem?_eq_some_iff.1 h
  exact List.take_succ_eq_append_getElem hk
theorem drop_cons {X : List E} {k : Nat} {x : E} (h : X[k]? = some x) : X.drop k = x :: X.drop (k + 1) := by
  obtain ⟨hk, rfl⟩ := List.getElem?_eq_some_iff.1 h
  exact List.drop_eq_getElem_cons hk
/-- the place of one more, at its beginning -/
theorem put_start {P X S : List E} {k : Nat} {x : E} (hx : X[k]? = some x) : P ++ (isort f (X.take k) ++ (X.drop k ++ S)) = P ++ (ins (isort f (X.take k)) k x ++ (X.drop (k + 1) ++ S)) := by
  have hl : (isort f (X.take k)).length = k := by rw [isort_length]; have := (List.getElem?_eq_some_iff.1 hx).1; simp; omega
  have e := ins_end (isort f (X.take k)) x
  rw [hl] at e
  rw [e, drop_cons hx]
  simp
theorem put_end (ho : Ord f) {X : List E} {k q : Nat} {x : E} (hx : X[k]? = some x) (hq : q ≤ k) (h1 : q < k → f x ((isort f (X.take k))[q]?.getD (0, 0)) = true) (h2 : 0 < q → f x ((isort f (X.take k))[q - 1]?.getD (0, 0)) = false) :
    ins (isort f (X.take k)) q x = isort f (X.take (k + 1)) := by
  have hl : (isort f (X.take k)).length = k := by rw [isort_length]; have := (List.getElem?_eq_some_iff.1 hx).1; simp; omega
  rw [take_snoc hx, isort_snoc, merge_ins ho (isort_srt ho _) (k := q) (by omega) (by rw [hl]; exact h1) h2]

/-- so many swapped, from two places on -/
def swp (D : List E) (a b : Nat) : Nat → List E
  | 0 => D
  | j + 1 => ((swp D a b j).set (a + j) ((swp D a b j)[b + j]?.getD (0, 0))).set (b + j) ((swp D a b j)[a + j]?.getD (0, 0))
theorem swp_length (D : List E) (a b j : Nat) : (swp D a b j).length = D.length := by
  induction j with
  | zero => rfl
  | succ j ih => simp [swp, ih]
theorem swp_succ {D : List E} {a b j : Nat} {x y : E} (hx : (swp D a b j)[a + j]? = some x) (hy : (swp D a b j)[b + j]? = some y) : swp D a b (j + 1) = ((swp D a b j).set (a + j) y).set (b + j) x := by
  simp [swp, hx, hy]
theorem swp_at (D : List E) (a b : Nat) : ∀ (j : Nat), a + j ≤ b → b + j ≤ D.length → ∀ i, (swp D a b j)[i]? = if a ≤ i ∧ i < a + j then D[i + (b - a)]? else if b ≤ i ∧ i < b + j then D[i - (b - a)]? else D[i]? := by
  intro j
  induction j with
  | zero => intro _ _ i; rw [if_neg (by omega), if_neg (by omega)]; rfl
  | succ j ih =>
    intro h1 h2 i
    have ih := ih (by omega) (by omega)
    have hl := swp_length D a b j
    have ex : (swp D a b j)[a + j]? = D[a + j]? := by rw [ih, if_neg (by omega), if_neg (by omega)]
    have ey : (swp D a b j)[b + j]? = D[b + j]? := by rw [ih, if_neg (by omega), if_neg (by omega)]
    simp only [swp, List.getElem?_set, List.length_set, hl, ex, ey]
    by_cases e1 : b + j = i
    · subst e1
      rw [if_pos rfl, if_pos (by omega), if_neg (by omega), if_pos (by omega), show b + j - (b - a) = a + j from by omega, List.getElem?_eq_getElem (by omega)]
      rfl
    rw [if_neg e1]
    by_cases e2 : a + j = i
    · subst e2
      rw [if_pos rfl, if_pos (by omega), if_pos (by omega), show a + j + (b - a) = b + j from by omega, List.getElem?_eq_getElem (by omega)]
      rfl
    rw [if_neg e2, ih]
    by_cases c1 : a ≤ i ∧ i < a + j
    · rw [if_pos c1, if_pos (by omega)]
    rw [if_neg c1]
    have c1' : ¬ (a ≤ i ∧ i < a + (j + 1)) := by omega
    rw [if_neg c1']
    by_cases c2 : b ≤ i ∧ i < b + j
    · have c2' : b ≤ i ∧ i < b + (j + 1) := by omega
      rw [if_pos c2, if_pos c2']
    · have c2' : ¬ (b ≤ i ∧ i < b + (j + 1)) := by omega
      rw [if_neg c2, if_neg c2']
theorem swp_parts (P X M Y S : List E) (k : Nat) (hx : X.length = k) (hy : Y.length = k) : swp (P ++ (X ++ (M ++ (Y ++ S)))) P.length (P.length + k + M.length) k = P ++ (Y ++ (M ++ (X ++ S))) := by
  refine List.ext_getElem? fun i => ?_
  rw [swp_at _ _ _ _ (by omega) (by simp; omega)]
  by_cases c1 : P.length ≤ i ∧ i < P.length + k
  · rw [if_pos c1]
    obtain ⟨d, rfl⟩ : ∃ d, i = P.length + d := ⟨i - P.length, by omega⟩
    rw [show P.length + d + (P.length + k + M.length - P.length) = P.length + (X.length + (M.length + d)) from by omega]
    simp only [List.getElem?_append_right (Nat.le_add_right _ _), Nat.add_sub_cancel_left]
    rw [List.getElem?_append_left (by omega), List.getElem?_append_left (by omega)]
  rw [if_neg c1]
  by_cases c2 : P.length + k + M.length ≤ i ∧ i < P.length + k + M.length + k
  · rw [if_pos c2]
    obtain ⟨d, rfl⟩ : ∃ d, i = P.length + (Y.length + (M.length + d)) := ⟨i - (P.length + k + M.length), by omega⟩
    rw [show P.length + (Y.length + (M.length + d)) - (P.length + k + M.length - P.length) = P.length + d from by omega]
    simp only [List.getElem?_append_right (Nat.le_add_right _ _), Nat.add_sub_cancel_left]
    rw [List.getElem?_append_left (by omega), List.getElem?_append_left (by omega)]
  rw [if_neg c2]
  rcases Nat.lt_or_ge i P.length with h | h
  · rw [List.getElem?_append_left h, List.getElem?_append_left h]
  obtain ⟨d, rfl⟩ : ∃ d, i = P.length + d := ⟨i - P.length, by omega⟩
  simp only [List.getElem?_append_right (Nat.le_add_right _ _), Nat.add_sub_cancel_left]
  rw [List.getElem?_append_right (show X.length ≤ d from by omega), List.getElem?_append_right (show Y.length ≤ d from by omega), hx, hy]
  rcases Nat.lt_or_ge (d - k) M.length with h3 | h3
  · rw [List.getElem?_append_left h3, List.getElem?_append_left h3]
  rw [List.getElem?_append_right h3, List.getElem?_append_right h3, List.getElem?_append_right (show Y.length ≤ d - k - M.length from by omega), List.getElem?_append_right (show X.length ≤ d - k - M.length from by omega), hx, hy]

/-- the two parts that are yet to be turned, and what it comes to -/
def Rot (D T : List E) (p i j s : Nat) : Prop := ∃ P U V S : List E, P.length = p ∧ U.length = i ∧ V.length = j ∧ S.length = s ∧ D = P ++ (U ++ (V ++ S)) ∧ P ++ (V ++ (U ++ S)) = T
theorem Rot.length {D T : List E} {p i j s : Nat} (h : Rot D T p i j s) : D.length = p + i + j + s := by
  obtain ⟨P, U, V, S, rfl, rfl, rfl, rfl, rfl, -⟩ := h
  simp; omega
theorem Rot.left {D T : List E} {p i j s : Nat} (h : Rot D T p i j s) (hij : j < i) : Rot (swp D p (p + i) j) T (p + j) (i - j) j s := by
  obtain ⟨P, U, V, S, rfl, rfl, rfl, rfl, rfl, rfl⟩ := h
  have e := swp_parts P (U.take V.length) (U.drop V.length) V S V.length (by simp; omega) rfl
  rw [show P.length + V.length + (U.drop V.length).length = P.length + U.length from by simp; omega] at e
  have e2 : P ++ (U.take V.length ++ (U.drop V.length ++ (V ++ S))) = P ++ (U ++ (V ++ S)) := by rw [← List.append_assoc (U.take _), List.take_append_drop]
  rw [e2] at e
  rw [e]
  refine ⟨P ++ V, U.drop V.length, U.take V.length, S, by simp, by simp, by simp; omega, rfl, by simp, ?_⟩
  rw [← List.append_assoc (U.take _), List.take_append_drop]
  simp
theorem Rot.right {D T : List E} {p i j s : Nat} (h : Rot D T p i j s) (hij : i < j) : Rot (swp D p (p + i + j - i) i) T p i (j - i) (s + i) := by
  obtain ⟨P, U, V, S, rfl, rfl, rfl, rfl, rfl, rfl⟩ := h
  have e := swp_parts P U (V.take (V.length - U.length)) (V.drop (V.length - U.length)) S U.length rfl (by simp; omega)
  rw [show P.length + U.length + (V.take (V.length - U.length)).length = P.length + U.length + V.length - U.length from by simp; omega] at e
  have e2 : P ++ (U ++ (V.take (V.length - U.length) ++ (V.drop (V.length - U.length) ++ S))) = P ++ (U ++ (V ++ S)) := by rw [← List.append_assoc (V.take _), List.take_append_drop]
  rw [e2] at e
  rw [e]
  refine ⟨P, V.drop (V.length - U.length), V.take (V.length - U.length), U ++ S, rfl, by simp; omega, by simp, by simp; omega, rfl, ?_⟩
  rw [← List.append_assoc (V.take _), List.take_append_drop]
theorem Rot.last {D T : List E} {p i s : Nat} (h : Rot D T p i i s) : swp D p (p + i) i = T := by
  obtain ⟨P, U, V, S, rfl, rfl, hV, rfl, rfl, rfl⟩ := h
  have e := swp_parts P U [] V S U.length rfl hV
  simpa using e

/-- cut by a size, each part in order -/
def ckf (f : E → E → Bool) (s : Nat) : Nat → List E → List E
  | 0, _ => []
  | r + 1, D => isort f (D.take s) ++ ckf f s r (D.drop s)
def ck (f : E → E → Bool) (s : Nat) (D : List E) : List E := ckf f s D.length D
theorem ckf_more (s : Nat) (hs : 0 < s) : ∀ (r r' : Nat) (D : List E), D.length ≤ r → D.length ≤ r' → ckf f s r D = ckf f s r' D := by
  intro r
  induction r with
  | zero =>
    intro r' D h _
    obtain rfl : D = [] := List.length_eq_zero_iff.1 (by omega)
    have : ∀ r', ckf f s r' [] = [] := by
      intro r'
      induction r' with
      | zero => rfl
      | succ r' ih => simp [ckf, isort_nil, ih]
    rw [this, this]
  | succ r ih =>
    intro r' D h h'
    cases r' with
    | zero =>
      obtain rfl : D = [] := List.length_eq_zero_iff.1 (by omega)
      have : ∀ r', ckf f s r' [] = [] := by
        intro r'
        induction r' with
        | zero => rfl
        | succ r' ih => simp [ckf, isort_nil, ih]
      rw [this, this]
    | succ r' =>
      simp only [ckf]
      rw [ih r' (D.drop s) (by simp; omega) (by simp; omega)]
theorem ck_eq (s : Nat) (hs : 0 < s) (D : List E) : ck f s D = isort f (D.take s) ++ ck f s (D.drop s) := by
  unfold ck
  rw [ckf_more s hs D.length (D.length + 1) D (by omega) (by omega), ckf, ckf_more s hs D.length (D.drop s).length (D.drop s) (by simp) (by omega)]
theorem ck_nil (s : Nat) : ck f s [] = [] := rfl
theorem ck_whole (s : Nat) (hs : 0 < s) (D : List E) (h : D.length ≤ s) : ck f s D = isort f D := by
  rw [ck_eq s hs, List.take_of_length_le h, List.drop_of_length_le h, ck_nil, List.append_nil]
theorem ck_length (s : Nat) (hs : 0 < s) : ∀ (n : Nat) (D : List E), D.length ≤ n → (ck f s D).length = D.length := by
  intro n
  induction n with
  | zero => intro D h; obtain rfl : D = [] := List.length_eq_zero_iff.1 (by omega); rfl
  | succ n ih =>
    intro D h
    rcases Nat.eq_zero_or_pos D.length with h0 | h0
    · obtain rfl : D = [] := List.length_eq_zero_iff.1 h0; rfl
    rw [ck_eq s hs, List.length_append, isort_length, ih (D.drop s) (by simp; omega)]
    simp; omega
/-- two parts of one size make one of twice that -/
theorem ck_two (s : Nat) (hs : 0 < s) (D : List E) : ck f s D = isort f (D.take s) ++ (isort f ((D.drop s).take s) ++ ck f s (D.drop (2 * s))) := by
  rw [ck_eq s hs, ck_eq s hs (D.drop s), List.drop_drop, show s + s = 2 * s from by omega]
theorem isort_two (ho : Ord f) (s : Nat) (D : List E) : merge f (isort f (D.take s)) (isort f ((D.drop s).take s)) = isort f (D.take (2 * s)) := by
  rw [← isort_append ho]
  congr 1
  rw [show 2 * s = s + s from by omega, List.take_add]
end
end Go.Proofs.Ytecdgpacofojeaa.Om
