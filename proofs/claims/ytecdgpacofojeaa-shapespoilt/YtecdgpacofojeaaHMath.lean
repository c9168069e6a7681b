/-
  Layer 7 (heap): a tree in a list, in lists alone: what rises, what sinks, what is popped; nothing of the program stands here.
-/
import Derived.Tactics
namespace Go.Proofs.Ytecdgpacofojeaa.Hm

/-- a first that orders -/
structure Ord {α : Type} (f : α → α → Bool) : Prop where
  asym : ∀ a b, f a b = true → f b a = false
  go : ∀ a b c, f a b = false → f b c = false → f a c = false

section
variable {α : Type} {f : α → α → Bool} {l : List α} {i j k n : Nat} {x y z : α}

/-- k is right below i -/
def Kid (i k : Nat) : Prop := k = 2 * i + 1 ∨ k = 2 * i + 2
/-- from place j on, none is first of the one above it -/
def Hp (f : α → α → Bool) (j : Nat) (l : List α) : Prop := ∀ i k x y, j ≤ i → Kid i k → l[i]? = some x → l[k]? = some y → f y x = false
/-- the same, but for what is right below i; and what is below i is not first of what is above i -/
def Sk (f : α → α → Bool) (j i : Nat) (l : List α) : Prop :=
  (∀ p k x y, j ≤ p → p ≠ i → Kid p k → l[p]? = some x → l[k]? = some y → f y x = false) ∧
  (∀ p k x y, j ≤ p → Kid p i → Kid i k → l[p]? = some x → l[k]? = some y → f y x = false)
/-- the same, but for i itself and what is above it -/
def Rs (f : α → α → Bool) (i : Nat) (l : List α) : Prop :=
  (∀ p k x y, k ≠ i → Kid p k → l[p]? = some x → l[k]? = some y → f y x = false) ∧
  (∀ p k x y, Kid p i → Kid i k → l[p]? = some x → l[k]? = some y → f y x = false)
/-- two change places -/
def sw (l : List α) (i k : Nat) (x y : α) : List α := (l.set i y).set k x

theorem sw_length : (sw l i k x y).length = l.length := by simp [sw]
theorem sw_at (hi : l[i]? = some x) (hk : l[k]? = some y) (p : Nat) : (sw l i k x y)[p]? = if p = k then some x else if p = i then some y else l[p]? := by
  have h1 := (List.getElem?_eq_some_iff.1 hi).1
  have h2 := (List.getElem?_eq_some_iff.1 hk).1
  unfold sw
  rw [List.getElem?_set]
  split
  · subst k; simp [h2]
  · rw [List.getElem?_set]
    split
    · subst i; rw [if_neg (by omega)]; simp [h1]
    · rw [if_neg (by omega), if_neg (by omega)]
theorem sw_perm (hi : l[i]? = some x) (hk : l[k]? = some y) : (sw l i k x y).Perm l := by
  obtain ⟨h1, rfl⟩ := List.getElem?_eq_some_iff.1 hi
  obtain ⟨h2, rfl⟩ := List.getElem?_eq_some_iff.1 hk
  exact List.set_set_perm h1 h2

/-- where the first one stands of i and those right below it -/
def At (f : α → α → Bool) (l : List α) (i a : Nat) : Prop :=
  (a = i ∨ Kid i a) ∧ a < l.length ∧ (∀ x y, l[a]? = some x → l[i]? = some y → f y x = false) ∧ ∀ k x y, Kid i k → l[a]? = some x → l[k]? = some y → f y x = false
/-- the same, while only those below place b were looked at -/
def AtB (f : α → α → Bool) (l : List α) (i b a : Nat) : Prop :=
  (a = i ∨ (Kid i a ∧ a < b)) ∧ a < l.length ∧ (∀ x y, l[a]? = some x → l[i]? = some y → f y x = false) ∧ ∀ k x y, Kid i k → k < b → l[a]? = some x → l[k]? = some y → f y x = false

theorem Ord.irr (h : Ord f) (a : α) : f a a = false := by
  cases e : f a a with
  | false => rfl
  | true => have := h.asym a a e; rw [e] at this; cases this
theorem AtB.start (ho : Ord f) (hi : i < l.length) : AtB f l i (2 * i + 1) i :=
  ⟨.inl rfl, hi, fun x y h1 h2 => by rw [h1] at h2; injection h2 with h2; subst h2; exact ho.irr _, fun k x y hk hb => by rcases hk with h | h <;> omega⟩
theorem AtB.yes (ho : Ord f) {b a : Nat} (h : AtB f l i b a) (hb : Kid i b) (hx : l[a]? = some x) (hy : l[b]? = some y) (hf : f y x = true) : AtB f l i (b + 1) b := by
  have hr := ho.asym _ _ hf
  refine ⟨.inr ⟨hb, by omega⟩, (List.getElem?_eq_some_iff.1 hy).1, fun u v h1 h2 => ?_, fun k u v hk hlt h1 h2 => ?_⟩
  · rw [hy] at h1; injection h1 with h1; subst h1
    exact ho.go _ _ _ (h.2.2.1 x v hx h2) hr
  · rw [hy] at h1; injection h1 with h1; subst h1
    rcases Nat.lt_or_ge k b with hk' | hk'
    · exact ho.go _ _ _ (h.2.2.2 k x v hk hk' hx h2) hr
    · obtain rfl : k = b := by omega
      rw [hy] at h2; injection h2 with h2; subst h2; exact ho.irr _
theorem AtB.no {b a : Nat} (h : AtB f l i b a) (hx : l[a]? = some x) (hy : l[b]? = some y) (hf : f y x = false) : AtB f l i (b + 1) a := by
  refine ⟨?_, h.2.1, h.2.2.1, fun k u v hk hlt h1 h2 => ?_⟩
  · rcases h.1 with e | ⟨e, q⟩
    · exact .inl e
    · exact .inr ⟨e, by omega⟩
  · rcases Nat.lt_or_ge k b with hk' | hk'
    · exact h.2.2.2 k u v hk hk' h1 h2
    · obtain rfl : k = b := by omega
      rw [hy] at h2; injection h2 with h2; subst h2
      rw [hx] at h1; injection h1 with h1; subst h1; exact hf
theorem AtB.done {b a : Nat} (h : AtB f l i b a) (hb : 2 * i + 2 < b ∨ l.length ≤ b) : At f l i a := by
  refine ⟨?_, h.2.1, h.2.2.1, fun k u v hk h1 h2 => h.2.2.2 k u v hk ?_ h1 h2⟩
  · rcases h.1 with e | ⟨e, _⟩
    · exact .inl e
    · exact .inr e
  · have := (List.getElem?_eq_some_iff.1 h2).1
    rcases hk with e | e <;> omega

theorem Sk.done (h : Sk f j i l) (ha : At f l i i) : Hp f j l := by
  intro p k x y hj hk h1 h2
  by_cases e : p = i
  · subst e; exact ha.2.2.2 k x y hk h1 h2
  · exact h.1 p k x y hj e hk h1 h2
theorem Sk.down {a : Nat} (h : Sk f j i l) (ha : At f l i a) (hne : a ≠ i) (hj : j ≤ i) (hx : l[i]? = some x) (hy : l[a]? = some y) : Sk f j a (sw l i a x y) := by
  have hka : Kid i a := ha.1.resolve_left hne
  have hi := sw_at hx hy
  have hlt : i < a := by rcases hka with e | e <;> omega
  constructor
  · intro p k u v hp hpa hk h1 h2
    rw [hi] at h1 h2
    rw [if_neg hpa] at h1
    by_cases e : p = i
    · subst e
      rw [if_pos rfl] at h1; injection h1 with h1; subst h1
      by_cases e2 : k = a
      · subst e2
        rw [if_pos rfl] at h2; injection h2 with h2; subst h2
        exact ha.2.2.1 y x hy hx
      · rw [if_neg e2, if_neg (by rcases hk with e | e <;> omega)] at h2
        exact ha.2.2.2 k y v hk hy h2
    · rw [if_neg e] at h1
      rw [if_neg (by rintro rfl; rcases hk with q | q <;> rcases hka with q2 | q2 <;> omega)] at h2
      by_cases e2 : k = i
      · subst e2
        rw [if_pos rfl] at h2; injection h2 with h2; subst h2
        exact h.2 p a u y hp hk hka h1 hy
      · rw [if_neg e2] at h2
        exact h.1 p k u v hp e hk h1 h2
  · intro p k u v hp hpa hk h1 h2
    obtain rfl : p = i := by rcases hpa with q | q <;> rcases hka with q2 | q2 <;> omega
    rw [hi] at h1 h2
    rw [if_neg (by omega), if_pos rfl] at h1; injection h1 with h1; subst h1
    rw [if_neg (by rcases hk with q | q <;> omega), if_neg (by rcases hk with q | q <;> omega)] at h2
    exact h.1 a k y v (by omega) hne hk hy h2

theorem Rs.top (h : Rs f 0 l) : Hp f 0 l := fun p k x y _ hk h1 h2 => h.1 p k x y (by rcases hk with e | e <;> omega) hk h1 h2
theorem Rs.done {a : Nat} (h : Rs f i l) (ha : Kid a i) (hx : l[i]? = some x) (hy : l[a]? = some y) (hf : f x y = false) : Hp f 0 l := by
  intro p k u v _ hk h1 h2
  by_cases e : k = i
  · subst e
    obtain rfl : p = a := by rcases hk with q | q <;> rcases ha with q2 | q2 <;> omega
    rw [hx] at h2; injection h2 with h2; subst h2
    rw [hy] at h1; injection h1 with h1; subst h1
    exact hf
  · exact h.1 p k u v e hk h1 h2
theorem Rs.up {a : Nat} (ho : Ord f) (h : Rs f i l) (ha : Kid a i) (hx : l[i]? = some x) (hy : l[a]? = some y) (hf : f x y = true) : Rs f a (sw l i a x y) := by
  have hi := sw_at hx hy
  have hlt : a < i := by rcases ha with e | e <;> omega
  have hr := ho.asym _ _ hf
  constructor
  · intro p k u v hka hk h1 h2
    rw [hi] at h1 h2
    rw [if_neg hka] at h2
    by_cases e : p = a
    · subst e
      rw [if_pos rfl] at h1; injection h1 with h1; subst h1
      by_cases e2 : k = i
      · subst e2
        rw [if_pos rfl] at h2; injection h2 with h2; subst h2
        exact hr
      · rw [if_neg e2] at h2
        exact ho.go _ _ _ (h.1 p k y v e2 hk hy h2) hr
    · rw [if_neg e] at h1
      by_cases e2 : p = i
      · subst e2
        rw [if_pos rfl] at h1; injection h1 with h1; subst h1
        rw [if_neg (by rcases hk with q | q <;> omega)] at h2
        exact h.2 a k y v ha hk hy h2
      · rw [if_neg e2] at h1
        rw [if_neg (by rintro rfl; rcases hk with q | q <;> rcases ha with q2 | q2 <;> omega)] at h2
        exact h.1 p k u v (by rintro rfl; rcases hk with q | q <;> rcases ha with q2 | q2 <;> omega) hk h1 h2
  · intro p k u v hp hk h1 h2
    rw [hi] at h1 h2
    have hpa : p < a := by rcases hp with e | e <;> omega
    rw [if_neg (by omega), if_neg (by omega)] at h1
    have hya := h.1 p a u y (by omega) hp h1 hy
    rw [if_neg (by rcases hk with q | q <;> omega)] at h2
    by_cases e2 : k = i
    · subst e2
      rw [if_pos rfl] at h2; injection h2 with h2; subst h2
      exact hya
    · rw [if_neg e2] at h2
      exact ho.go _ _ _ (h.1 a k y v e2 hk hy h2) hya

/-- the one at 0 is such that none is first of it -/
theorem Hp.first (ho : Ord f) (h : Hp f 0 l) (hx : l[0]? = some x) : ∀ (n i : Nat) (y : α), i ≤ n → l[i]? = some y → f y x = false := by
  intro n
  induction n with
  | zero => intro i y hi hy; obtain rfl : i = 0 := by omega
            rw [hx] at hy; injection hy with hy; subst hy; exact ho.irr _
  | succ n ih =>
    intro i y hi hy
    by_cases h0 : i = 0
    · subst h0; rw [hx] at hy; injection hy with hy; subst hy; exact ho.irr _
    · have hlt := (List.getElem?_eq_some_iff.1 hy).1
      obtain ⟨u, hu⟩ : ∃ u, l[(i - 1) / 2]? = some u := ⟨_, List.getElem?_eq_getElem (by omega)⟩
      exact ho.go _ _ _ (h ((i - 1) / 2) i u y (Nat.zero_le _) (by unfold Kid; omega) hu hy) (ih _ u (by omega) hu)
theorem Hp.least (ho : Ord f) (h : Hp f 0 l) (hx : l[0]? = some x) : ∀ y ∈ l, f y x = false := by
  intro y hy
  obtain ⟨i, hi, e⟩ := List.mem_iff_getElem.1 hy
  exact Hp.first ho h hx i i y (Nat.le_refl _) (by rw [List.getElem?_eq_getElem hi, e])
theorem Hp.none (hn : l.length ≤ 2 * j + 1) : Hp f j l := by
  intro i k x y hi hk h1 h2
  have := (List.getElem?_eq_some_iff.1 h2).1
  rcases hk with e | e <;> omega
theorem Hp.sk (h : Hp f (i + 1) l) : Sk f i i l :=
  ⟨fun p k x y hp hne hk h1 h2 => h p k x y (by omega) hk h1 h2, fun p k x y hp hk _ _ _ => by rcases hk with e | e <;> omega⟩
theorem Hp.push (h : Hp f 0 l) (x : α) : Rs f l.length (l ++ [x]) := by
  constructor
  · intro p k u v hne hk h1 h2
    have hk' := (List.getElem?_eq_some_iff.1 h2).1
    simp at hk'
    have hp : p < l.length := by rcases hk with e | e <;> omega
    rw [List.getElem?_append_left (by omega)] at h1 h2
    exact h p k u v (Nat.zero_le _) hk h1 h2
  · intro p k u v _ hk h1 h2
    have hk' := (List.getElem?_eq_some_iff.1 h2).1
    simp at hk'
    rcases hk with e | e <;> omega
/-- what is popped: the last one comes to the top -/
def pop (l : List α) (z : α) : List α := (l.set 0 z).take (l.length - 1)
theorem pop_length : (pop l z).length = l.length - 1 := by simp [pop]
theorem Hp.pop (h : Hp f 0 l) : Sk f 0 0 (pop l z) := by
  constructor
  · intro p k u v _ hp hk h1 h2
    unfold Hm.pop at h1 h2
    rw [List.getElem?_take] at h1 h2
    split at h1
    · split at h2
      · rw [List.getElem?_set_ne (by omega)] at h1
        rw [List.getElem?_set_ne (by rcases hk with e | e <;> omega)] at h2
        exact h p k u v (Nat.zero_le _) hk h1 h2
      · cases h2
    · cases h1
  · intro p k u v _ hp _ _ _
    rcases hp with e | e <;> omega
theorem pop_perm (hx : l[0]? = some x) (hz : l[l.length - 1]? = some z) : l.Perm (x :: pop l z) := by
  cases l with
  | nil => simp at hx
  | cons a t =>
    simp at hx
    subst hx
    refine List.Perm.cons _ ?_
    unfold pop
    simp only [List.set_cons_zero, List.length_cons, Nat.add_sub_cancel]
    cases t with
    | nil => simp
    | cons b t =>
      simp only [List.length_cons, Nat.add_sub_cancel] at hz ⊢
      rw [List.take_succ_cons]
      have e : b :: t = (b :: t).take t.length ++ [z] := by
        have h1 : (b :: t)[t.length]? = some z := by simpa using hz
        have h2 := List.take_append_drop t.length (b :: t)
        rw [List.drop_eq_getElem_cons (by simp)] at h2
        obtain ⟨h3, h4⟩ := List.getElem?_eq_some_iff.1 h1
        rw [h4, List.drop_of_length_le (by simp)] at h2
        exact h2.symm
      conv => lhs; rw [e]
      exact List.perm_append_singleton z _
/-- those that were drained, in order -/
theorem least_unique {m m' : List α} (hf : ∀ a b, f a b = false → f b a = false → a = b) (hp : (x :: m).Perm (y :: m')) (hx : ∀ u ∈ x :: m, f u x = false) (hy : ∀ u ∈ y :: m', f u y = false) : x = y ∧ m.Perm m' := by
  have e : x = y := hf _ _ (hy x (hp.subset (by simp))) (hx y (hp.symm.subset (by simp)))
  subst e
  exact ⟨rfl, hp.cons_inv⟩
/-- what is looked at: z stands where there is none -/
def Pk (f : α → α → Bool) (z : α) (l : List α) (x : α) (ok : Bool) : Prop := (l = [] ∧ x = z ∧ ok = false) ∨ (ok = true ∧ x ∈ l ∧ ∀ y ∈ l, f y x = false)
/-- what is popped, and what is held still -/
def Po (f : α → α → Bool) (z : α) (l : List α) (x : α) (ok : Bool) (l' : List α) : Prop := (l = [] ∧ x = z ∧ ok = false ∧ l' = []) ∨ (ok = true ∧ l.Perm (x :: l') ∧ ∀ y ∈ l, f y x = false)
theorem Pk.unique {ok ok' : Bool} (hf : ∀ a b, f a b = false → f b a = false → a = b) (h : Pk f z l x ok) (h' : Pk f z l y ok') : x = y ∧ ok = ok' := by
  rcases h with ⟨rfl, rfl, rfl⟩ | ⟨rfl, h1, h2⟩
  · rcases h' with ⟨_, rfl, rfl⟩ | ⟨_, h, _⟩
    · exact ⟨rfl, rfl⟩
    · simp at h
  · rcases h' with ⟨rfl, _, _⟩ | ⟨rfl, h3, h4⟩
    · simp at h1
    · exact ⟨hf _ _ (h4 x h1) (h2 y h3), rfl⟩
theorem Po.pk {ok : Bool} {l' : List α} (h : Po f z l x ok l') : Pk f z l x ok := by
  rcases h with ⟨h1, h2, h3, _⟩ | ⟨h1, h2, h3⟩
  · exact .inl ⟨h1, h2, h3⟩
  · exact .inr ⟨h1, h2.symm.subset (by simp), h3⟩
theorem Po.length {ok : Bool} {l' : List α} (h : Po f z l x ok l') : l'.length = l.length - 1 := by
  rcases h with ⟨rfl, _, _, rfl⟩ | ⟨_, h, _⟩
  · rfl
  · have := h.length_eq; simp at this; omega
theorem Pk.perm {ok : Bool} {l' : List α} (h : Pk f z l x ok) (hp : l.Perm l') : Pk f z l' x ok := by
  rcases h with ⟨rfl, h2, h3⟩ | ⟨h1, h2, h3⟩
  · exact .inl ⟨hp.symm.eq_nil, h2, h3⟩
  · exact .inr ⟨h1, hp.subset h2, fun y hy => h3 y (hp.symm.subset hy)⟩
theorem Po.perm {ok : Bool} {l' m : List α} (h : Po f z l x ok m) (hp : l.Perm l') : Po f z l' x ok m := by
  rcases h with ⟨rfl, h2, h3, h4⟩ | ⟨h1, h2, h3⟩
  · exact .inl ⟨hp.symm.eq_nil, h2, h3, h4⟩
  · exact .inr ⟨h1, hp.symm.trans h2, fun y hy => h3 y (hp.symm.subset hy)⟩
theorem Po.unique {ok ok' : Bool} {m m' : List α} (hf : ∀ a b, f a b = false → f b a = false → a = b) (h : Po f z l x ok m) (h' : Po f z l y ok' m') : x = y ∧ ok = ok' ∧ m.Perm m' := by
  obtain ⟨rfl, rfl⟩ := h.pk.unique hf h'.pk
  refine ⟨rfl, rfl, ?_⟩
  rcases h with ⟨rfl, rfl, rfl, rfl⟩ | ⟨rfl, h1, h2⟩
  · rcases h' with ⟨_, _, _, rfl⟩ | ⟨h, _⟩
    · exact List.Perm.refl _
    · cases h
  · rcases h' with ⟨_, _, h, _⟩ | ⟨_, h3, _⟩
    · cases h
    · exact (h1.symm.trans h3).cons_inv
end
end Go.Proofs.Ytecdgpacofojeaa.Hm
