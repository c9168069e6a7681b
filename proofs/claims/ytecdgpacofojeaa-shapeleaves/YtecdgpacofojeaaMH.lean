/-
  Layer 7 (heap): a tree in a list, in lists alone: what rises, what sinks, what is popped; nothing of the program stands here.
  Layer 4 (order): plain mathematics of lists and of what comes first. Nothing of the program stands here.
  Layer 4 (order): own words for memory: a block of structs of two numbers, and a world of which all but one block is as it was.
  Layer 4 (order): which of two comes first, by contracts: Nearer, Ahead, Less, Compare, and the comparison that Sort hands on.
  Layer 7 (heap): own words for memory: a row that begins with some cells, a heap that holds it, and what lies beside it.
-/
import Derived.Tactics
import Derived.Test.YtecdgpacofojeaaFLst
import Derived.BigQuiet
import Derived.Test.YtecdgpacofojeaaGRet
import Derived.Test.YtecdgpacofojeaaRows
import Derived.WalkKit
import Derived.WalkSpells
import Derived.WalkLawsBesides
import Derived.Outline
import Derived.Below
import Derived.Lib.Hide
import Derived.Deep.QuietTactic
import Derived.Lib.SliceRun
namespace Go.Proofs.Ytecdgpacofojeaa.Hm

/-- a first that orders -/
structure Ord {α : Type} (f : α → α → Bool) : Prop where
  asym : ∀ a b, f a b = true → f b a = false
  go : ∀ a b c, f a b = false → f b c = false → f a c = false

section
variable {α : Type} {f : α → α → Bool} {l : List α} {i j k n : Nat} {x y z : α}

/-- k is right below i -/
def Kid (i k : Nat) : Prop := k = 2 * i + 1 ∨ k = 2 * i + 2
/-- from place j on, none is first of the one above it -/
def Hp (f : α → α → Bool) (j : Nat) (l : List α) : Prop := ∀ i k x y, j ≤ i → Kid i k → l[i]? = some x → l[k]? = some y → f y x = false
/-- the same, but for what is right below i; and what is below i is not first of what is above i -/
def Sk (f : α → α → Bool) (j i : Nat) (l : List α) : Prop :=
  (∀ p k x y, j ≤ p → p ≠ i → Kid p k → l[p]? = some x → l[k]? = some y → f y x = false) ∧
  (∀ p k x y, j ≤ p → Kid p i → Kid i k → l[p]? = some x → l[k]? = some y → f y x = false)
/-- the same, but for i itself and what is above it -/
def Rs (f : α → α → Bool) (i : Nat) (l : List α) : Prop :=
  (∀ p k x y, k ≠ i → Kid p k → l[p]? = some x → l[k]? = some y → f y x = false) ∧
  (∀ p k x y, Kid p i → Kid i k → l[p]? = some x → l[k]? = some y → f y x = false)
/-- two change places -/
def sw (l : List α) (i k : Nat) (x y : α) : List α := (l.set i y).set k x

theorem sw_length : (sw l i k x y).length = l.length := by simp [sw]
theorem sw_at (hi : l[i]? = some x) (hk : l[k]? = some y) (p : Nat) : (sw l i k x y)[p]? = if p = k then some x else if p = i then some y else l[p]? := by
  have h1 := (List.getElem?_eq_some_iff.1 hi).1
  have h2 := (List.getElem?_eq_some_iff.1 hk).1
  unfold sw
  rw [List.getElem?_set]
  split
  · subst k; simp [h2]
  · rw [List.getElem?_set]
    split
    · subst i; rw [if_neg (by omega)]; simp [h1]
    · rw [if_neg (by omega), if_neg (by omega)]
theorem sw_perm (hi : l[i]? = some x) (hk : l[k]? = some y) : (sw l i k x y).Perm l := by
  obtain ⟨h1, rfl⟩ := List.getElem?_eq_some_iff.1 hi
  obtain ⟨h2, rfl⟩ := List.getElem?_eq_some_iff.1 hk
  exact List.set_set_perm h1 h2

/-- where the first one stands of i and those right below it -/
def At (f : α → α → Bool) (l : List α) (i a : Nat) : Prop :=
  (a = i ∨ Kid i a) ∧ a < l.length ∧ (∀ x y, l[a]? = some x → l[i]? = some y → f y x = false) ∧ ∀ k x y, Kid i k → l[a]? = some x → l[k]? = some y → f y x = false
/-- the same, while only those below place b were looked at -/
def AtB (f : α → α → Bool) (l : List α) (i b a : Nat) : Prop :=
  (a = i ∨ (Kid i a ∧ a < b)) ∧ a < l.length ∧ (∀ x y, l[a]? = some x → l[i]? = some y → f y x = false) ∧ ∀ k x y, Kid i k → k < b → l[a]? = some x → l[k]? = some y → f y x = false

theorem Ord.irr (h : Ord f) (a : α) : f a a = false := by
  cases e : f a a with
  | false => rfl
  | true => have := h.asym a a e; rw [e] at this; cases this
theorem AtB.start (ho : Ord f) (hi : i < l.length) : AtB f l i (2 * i + 1) i :=
  ⟨.inl rfl, hi, fun x y h1 h2 => by rw [h1] at h2; injection h2 with h2; subst h2; exact ho.irr _, fun k x y hk hb => by rcases hk with h | h <;> omega⟩
theorem AtB.yes (ho : Ord f) {b a : Nat} (h : AtB f l i b a) (hb : Kid i b) (hx : l[a]? = some x) (hy : l[b]? = some y) (hf : f y x = true) : AtB f l i (b + 1) b := by
  have hr := ho.asym _ _ hf
  refine ⟨.inr ⟨hb, by omega⟩, (List.getElem?_eq_some_iff.1 hy).1, fun u v h1 h2 => ?_, fun k u v hk hlt h1 h2 => ?_⟩
  · rw [hy] at h1; injection h1 with h1; subst h1
    exact ho.go _ _ _ (h.2.2.1 x v hx h2) hr
  · rw [hy] at h1; injection h1 with h1; subst h1
    rcases Nat.lt_or_ge k b with hk' | hk'
    · exact ho.go _ _ _ (h.2.2.2 k x v hk hk' hx h2) hr
    · obtain rfl : k = b := by omega
      rw [hy] at h2; injection h2 with h2; subst h2; exact ho.irr _
theorem AtB.no {b a : Nat} (h : AtB f l i b a) (hx : l[a]? = some x) (hy : l[b]? = some y) (hf : f y x = false) : AtB f l i (b + 1) a := by
  refine ⟨?_, h.2.1, h.2.2.1, fun k u v hk hlt h1 h2 => ?_⟩
  · rcases h.1 with e | ⟨e, q⟩
    · exact .inl e
    · exact .inr ⟨e, by omega⟩
  · rcases Nat.lt_or_ge k b with hk' | hk'
    · exact h.2.2.2 k u v hk hk' h1 h2
    · obtain rfl : k = b := by omega
      rw [hy] at h2; injection h2 with h2; subst h2
      rw [hx] at h1; injection h1 with h1; subst h1; exact hf
theorem AtB.done {b a : Nat} (h : AtB f l i b a) (hb : 2 * i + 2 < b ∨ l.length ≤ b) : At f l i a := by
  refine ⟨?_, h.2.1, h.2.2.1, fun k u v hk h1 h2 => h.2.2.2 k u v hk ?_ h1 h2⟩
  · rcases h.1 with e | ⟨e, _⟩
    · exact .inl e
    · exact .inr e
  · have := (List.getElem?_eq_some_iff.1 h2).1
    rcases hk with e | e <;> omega

theorem Sk.done (h : Sk f j i l) (ha : At f l i i) : Hp f j l := by
  intro p k x y hj hk h1 h2
  by_cases e : p = i
  · subst e; exact ha.2.2.2 k x y hk h1 h2
  · exact h.1 p k x y hj e hk h1 h2
theorem Sk.down {a : Nat} (h : Sk f j i l) (ha : At f l i a) (hne : a ≠ i) (hj : j ≤ i) (hx : l[i]? = some x) (hy : l[a]? = some y) : Sk f j a (sw l i a x y) := by
  have hka : Kid i a := ha.1.resolve_left hne
  have hi := sw_at hx hy
  have hlt : i < a := by rcases hka with e | e <;> omega
  constructor
  · intro p k u v hp hpa hk h1 h2
    rw [hi] at h1 h2
    rw [if_neg hpa] at h1
    by_cases e : p = i
    · subst e
      rw [if_pos rfl] at h1; injection h1 with h1; subst h1
      by_cases e2 : k = a
      · subst e2
        rw [if_pos rfl] at h2; injection h2 with h2; subst h2
        exact ha.2.2.1 y x hy hx
      · rw [if_neg e2, if_neg (by rcases hk with e | e <;> omega)] at h2
        exact ha.2.2.2 k y v hk hy h2
    · rw [if_neg e] at h1
      rw [if_neg (by rintro rfl; rcases hk with q | q <;> rcases hka with q2 | q2 <;> omega)] at h2
      by_cases e2 : k = i
      · subst e2
        rw [if_pos rfl] at h2; injection h2 with h2; subst h2
        exact h.2 p a u y hp hk hka h1 hy
      · rw [if_neg e2] at h2
        exact h.1 p k u v hp e hk h1 h2
  · intro p k u v hp hpa hk h1 h2
    obtain rfl : p = i := by rcases hpa with q | q <;> rcases hka with q2 | q2 <;> omega
    rw [hi] at h1 h2
    rw [if_neg (by omega), if_pos rfl] at h1; injection h1 with h1; subst h1
    rw [if_neg (by rcases hk with q | q <;> omega), if_neg (by rcases hk with q | q <;> omega)] at h2
    exact h.1 a k y v (by omega) hne hk hy h2

theorem Rs.top (h : Rs f 0 l) : Hp f 0 l := fun p k x y _ hk h1 h2 => h.1 p k x y (by rcases hk with e | e <;> omega) hk h1 h2
theorem Rs.done {a : Nat} (h : Rs f i l) (ha : Kid a i) (hx : l[i]? = some x) (hy : l[a]? = some y) (hf : f x y = false) : Hp f 0 l := by
  intro p k u v _ hk h1 h2
  by_cases e : k = i
  · subst e
    obtain rfl : p = a := by rcases hk with q | q <;> rcases ha with q2 | q2 <;> omega
    rw [hx] at h2; injection h2 with h2; subst h2
    rw [hy] at h1; injection h1 with h1; subst h1
    exact hf
  · exact h.1 p k u v e hk h1 h2
theorem Rs.up {a : Nat} (ho : Ord f) (h : Rs f i l) (ha : Kid a i) (hx : l[i]? = some x) (hy : l[a]? = some y) (hf : f x y = true) : Rs f a (sw l i a x y) := by
  have hi := sw_at hx hy
  have hlt : a < i := by rcases ha with e | e <;> omega
  have hr := ho.asym _ _ hf
  constructor
  · intro p k u v hka hk h1 h2
    rw [hi] at h1 h2
    rw [if_neg hka] at h2
    by_cases e : p = a
    · subst e
      rw [if_pos rfl] at h1; injection h1 with h1; subst h1
      by_cases e2 : k = i
      · subst e2
        rw [if_pos rfl] at h2; injection h2 with h2; subst h2
        exact hr
      · rw [if_neg e2] at h2
        exact ho.go _ _ _ (h.1 p k y v e2 hk hy h2) hr
    · rw [if_neg e] at h1
      by_cases e2 : p = i
      · subst e2
        rw [if_pos rfl] at h1; injection h1 with h1; subst h1
        rw [if_neg (by rcases hk with q | q <;> omega)] at h2
        exact h.2 a k y v ha hk hy h2
      · rw [if_neg e2] at h1
        rw [if_neg (by rintro rfl; rcases hk with q | q <;> rcases ha with q2 | q2 <;> omega)] at h2
        exact h.1 p k u v (by rintro rfl; rcases hk with q | q <;> rcases ha with q2 | q2 <;> omega) hk h1 h2
  · intro p k u v hp hk h1 h2
    rw [hi] at h1 h2
    have hpa : p < a := by rcases hp with e | e <;> omega
    rw [if_neg (by omega), if_neg (by omega)] at h1
    have hya := h.1 p a u y (by omega) hp h1 hy
    rw [if_neg (by rcases hk with q | q <;> omega)] at h2
    by_cases e2 : k = i
    · subst e2
      rw [if_pos rfl] at h2; injection h2 with h2; subst h2
      exact hya
    · rw [if_neg e2] at h2
      exact ho.go _ _ _ (h.1 a k y v e2 hk hy h2) hya

/-- the one at 0 is such that none is first of it -/
theorem Hp.first (ho : Ord f) (h : Hp f 0 l) (hx : l[0]? = some x) : ∀ (n i : Nat) (y : α), i ≤ n → l[i]? = some y → f y x = false := by
  intro n
  induction n with
  | zero => intro i y hi hy; obtain rfl : i = 0 := by omega
            rw [hx] at hy; injection hy with hy; subst hy; exact ho.irr _
  | succ n ih =>
    intro i y hi hy
    by_cases h0 : i = 0
    · subst h0; rw [hx] at hy; injection hy with hy; subst hy; exact ho.irr _
    · have hlt := (List.getElem?_eq_some_iff.1 hy).1
      obtain ⟨u, hu⟩ : ∃ u, l[(i - 1) / 2]? = some u := ⟨_, List.getElem?_eq_getElem (by omega)⟩
      exact ho.go _ _ _ (h ((i - 1) / 2) i u y (Nat.zero_le _) (by unfold Kid; omega) hu hy) (ih _ u (by omega) hu)
theorem Hp.least (ho : Ord f) (h : Hp f 0 l) (hx : l[0]? = some x) : ∀ y ∈ l, f y x = false := by
  intro y hy
  obtain ⟨i, hi, e⟩ := List.mem_iff_getElem.1 hy
  exact Hp.first ho h hx i i y (Nat.le_refl _) (by rw [List.getElem?_eq_getElem hi, e])
theorem Hp.none (hn : l.length ≤ 2 * j + 1) : Hp f j l := by
  intro i k x y hi hk h1 h2
  have := (List.getElem?_eq_some_iff.1 h2).1
  rcases hk with e | e <;> omega
theorem Hp.sk (h : Hp f (i + 1) l) : Sk f i i l :=
  ⟨fun p k x y hp hne hk h1 h2 => h p k x y (by omega) hk h1 h2, fun p k x y hp hk _ _ _ => by rcases hk with e | e <;> omega⟩
theorem Hp.push (h : Hp f 0 l) (x : α) : Rs f l.length (l ++ [x]) := by
  constructor
  · intro p k u v hne hk h1 h2
    have hk' := (List.getElem?_eq_some_iff.1 h2).1
    simp at hk'
    have hp : p < l.length := by rcases hk with e | e <;> omega
    rw [List.getElem?_append_left (by omega)] at h1 h2
    exact h p k u v (Nat.zero_le _) hk h1 h2
  · intro p k u v _ hk h1 h2
    have hk' := (List.getElem?_eq_some_iff.1 h2).1
    simp at hk'
    rcases hk with e | e <;> omega
/-- what is popped: the last one comes to the top -/
def pop (l : List α) (z : α) : List α := (l.set 0 z).take (l.length - 1)
theorem pop_length : (pop l z).length = l.length - 1 := by simp [pop]
theorem Hp.pop (h : Hp f 0 l) : Sk f 0 0 (pop l z) := by
  constructor
  · intro p k u v _ hp hk h1 h2
    unfold Hm.pop at h1 h2
    rw [List.getElem?_take] at h1 h2
    split at h1
    · split at h2
      · rw [List.getElem?_set_ne (by omega)] at h1
        rw [List.getElem?_set_ne (by rcases hk with e | e <;> omega)] at h2
        exact h p k u v (Nat.zero_le _) hk h1 h2
      · cases h2
    · cases h1
  · intro p k u v _ hp _ _ _
    rcases hp with e | e <;> omega
theorem pop_perm (hx : l[0]? = some x) (hz : l[l.length - 1]? = some z) : l.Perm (x :: pop l z) := by
  cases l with
  | nil => simp at hx
  | cons a t =>
    simp at hx
    subst hx
    refine List.Perm.cons _ ?_
    unfold pop
    simp only [List.set_cons_zero, List.length_cons, Nat.add_sub_cancel]
    cases t with
    | nil => simp
    | cons b t =>
      simp only [List.length_cons, Nat.add_sub_cancel] at hz ⊢
      rw [List.take_succ_cons]
      have e : b :: t = (b :: t).take t.length ++ [z] := by
        have h1 : (b :: t)[t.length]? = some z := by simpa using hz
        have h2 := List.take_append_drop t.length (b :: t)
        rw [List.drop_eq_getElem_cons (by simp)] at h2
        obtain ⟨h3, h4⟩ := List.getElem?_eq_some_iff.1 h1
        rw [h4, List.drop_of_length_le (by simp)] at h2
        exact h2.symm
      conv => lhs; rw [e]
      exact List.perm_append_singleton z _
/-- those that were drained, in order -/
theorem least_unique {m m' : List α} (hf : ∀ a b, f a b = false → f b a = false → a = b) (hp : (x :: m).Perm (y :: m')) (hx : ∀ u ∈ x :: m, f u x = false) (hy : ∀ u ∈ y :: m', f u y = false) : x = y ∧ m.Perm m' := by
  have e : x = y := hf _ _ (hy x (hp.subset (by simp))) (hx y (hp.symm.subset (by simp)))
  subst e
  exact ⟨rfl, hp.cons_inv⟩
/-- what is looked at: z stands where there is none -/
def Pk (f : α → α → Bool) (z : α) (l : List α) (x : α) (ok : Bool) : Prop := (l = [] ∧ x = z ∧ ok = false) ∨ (ok = true ∧ x ∈ l ∧ ∀ y ∈ l, f y x = false)
/-- what is popped, and what is held still -/
def Po (f : α → α → Bool) (z : α) (l : List α) (x : α) (ok : Bool) (l' : List α) : Prop := (l = [] ∧ x = z ∧ ok = false ∧ l' = []) ∨ (ok = true ∧ l.Perm (x :: l') ∧ ∀ y ∈ l, f y x = false)
theorem Pk.unique {ok ok' : Bool} (hf : ∀ a b, f a b = false → f b a = false → a = b) (h : Pk f z l x ok) (h' : Pk f z l y ok') : x = y ∧ ok = ok' := by
  rcases h with ⟨rfl, rfl, rfl⟩ | ⟨rfl, h1, h2⟩
  · rcases h' with ⟨_, rfl, rfl⟩ | ⟨_, h, _⟩
    · exact ⟨rfl, rfl⟩
    · simp at h
  · rcases h' with ⟨rfl, _, _⟩ | ⟨rfl, h3, h4⟩
    · simp at h1
    · exact ⟨hf _ _ (h4 x h1) (h2 y h3), rfl⟩
theorem Po.pk {ok : Bool} {l' : List α} (h : Po f z l x ok l') : Pk f z l x ok := by
  rcases h with ⟨h1, h2, h3, _⟩ | ⟨h1, h2, h3⟩
  · exact .inl ⟨h1, h2, h3⟩
  · exact .inr ⟨h1, h2.symm.subset (by simp), h3⟩
theorem Po.length {ok : Bool} {l' : List α} (h : Po f z l x ok l') : l'.length = l.length - 1 := by
  rcases h with ⟨rfl, _, _, rfl⟩ | ⟨_, h, _⟩
  · rfl
  · have := h.length_eq; simp at this; omega
theorem Pk.perm {ok : Bool} {l' : List α} (h : Pk f z l x ok) (hp : l.Perm l') : Pk f z l' x ok := by
  rcases h with ⟨rfl, h2, h3⟩ | ⟨h1, h2, h3⟩
  · exact .inl ⟨hp.symm.eq_nil, h2, h3⟩
  · exact .inr ⟨h1, hp.subset h2, fun y hy => h3 y (hp.symm.subset hy)⟩
theorem Po.perm {ok : Bool} {l' m : List α} (h : Po f z l x ok m) (hp : l.Perm l') : Po f z l' x ok m := by
  rcases h with ⟨rfl, h2, h3, h4⟩ | ⟨h1, h2, h3⟩
  · exact .inl ⟨hp.symm.eq_nil, h2, h3, h4⟩
  · exact .inr ⟨h1, hp.symm.trans h2, fun y hy => h3 y (hp.symm.subset hy)⟩
theorem Po.unique {ok ok' : Bool} {m m' : List α} (hf : ∀ a b, f a b = false → f b a = false → a = b) (h : Po f z l x ok m) (h' : Po f z l y ok' m') : x = y ∧ ok = ok' ∧ m.Perm m' := by
  obtain ⟨rfl, rfl⟩ := h.pk.unique hf h'.pk
  refine ⟨rfl, rfl, ?_⟩
  rcases h with ⟨rfl, rfl, rfl, rfl⟩ | ⟨rfl, h1, h2⟩
  · rcases h' with ⟨_, _, _, rfl⟩ | ⟨h, _⟩
    · exact List.Perm.refl _
    · cases h
  · rcases h' with ⟨_, _, h, _⟩ | ⟨_, h3, _⟩
    · cases h
    · exact (h1.symm.trans h3).cons_inv
end
end Go.Proofs.Ytecdgpacofojeaa.Hm
namespace Go.Proofs.Ytecdgpacofojeaa.Om

/-- two numbers: a result's id and how far it is; a pair's number and place -/
abbrev E := Int × Int
def near (a b : E) : Bool := if a.2 = b.2 then decide (a.1 < b.1) else decide (a.2 < b.2)
def less (a b : E) : Bool := decide (a.1 < b.1)
def ahead (a b : E) : Bool := if a.1 = b.1 then decide (a.2 < b.2) else decide (b.1 < a.1)

def cmp (f : E → E → Bool) (a b : E) : Int := if f a b = true then -1 else if f b a = true then 1 else 0

/-- a first that orders -/
structure Ord (f : E → E → Bool) : Prop where
  anti : ∀ a b, f a b = true → f b a = false
  goes : ∀ a b c, f a b = false → f b c = false → f a c = false
theorem Ord.irr {f : E → E → Bool} (h : Ord f) (a : E) : f a a = false := by
  cases e : f a a with
  | false => rfl
  | true => have := h.anti a a e; rw [e] at this; cases this

theorem near_ord : Ord near := by
  constructor
  · intro a b h
    unfold near at *
    split at h <;> split <;> simp at * <;> omega
  · intro a b c h1 h2
    unfold near at *
    split at h1 <;> split at h2 <;> split <;> simp at * <;> omega
theorem less_ord : Ord less := by
  constructor
  · intro a b h
    unfold less at *
    simp at *
    omega
  · intro a b c h1 h2
    unfold less at *
    simp at *
    omega

def merge (f : E → E → Bool) : List E → List E → List E
  | [], ys => ys
  | x :: xs, [] => x :: xs
  | x :: xs, y :: ys => if f y x = true then y :: merge f (x :: xs) ys else x :: merge f xs (y :: ys)
  termination_by xs ys => xs.length + ys.length

section
variable {f : E → E → Bool}
theorem merge_nil (xs : List E) : merge f xs [] = xs := by cases xs <;> simp [merge]
theorem nil_merge (ys : List E) : merge f [] ys = ys := by simp [merge]
theorem merge_yes {x y : E} {xs ys : List E} (h : f y x = true) : merge f (x :: xs) (y :: ys) = y :: merge f (x :: xs) ys := by rw [merge, if_pos h]
theorem merge_no {x y : E} {xs ys : List E} (h : f y x = false) : merge f (x :: xs) (y :: ys) = x :: merge f xs (y :: ys) := by rw [merge, if_neg (by simp [h])]

theorem merge_split (xs2 ys2 : List E) : ∀ (n : Nat) (xs1 ys1 : List E), xs1.length + ys1.length ≤ n → (∀ x ∈ xs1, ∀ y ∈ ys2, f y x = false) → (∀ y ∈ ys1, ∀ x ∈ xs2, f y x = true) →
    merge f (xs1 ++ xs2) (ys1 ++ ys2) = merge f xs1 ys1 ++ merge f xs2 ys2 := by
  intro n
  induction n with
  | zero =>
    intro xs1 ys1 hn _ _
    obtain rfl : xs1 = [] := List.length_eq_zero_iff.1 (by omega)
    obtain rfl : ys1 = [] := List.length_eq_zero_iff.1 (by omega)
    simp [merge]
  | succ n ih =>
    intro xs1 ys1 hn h1 h2
    match xs1, ys1 with
    | [], [] => simp [merge]
    | [], y :: ys1 =>
      cases xs2 with
      | nil => simp [merge]
      | cons x xs2 =>
        have hy := h2 y (by simp) x (by simp)
        have := ih [] ys1 (by simp at hn ⊢; omega) (by simp) (fun y hy x hx => h2 y (by simp [hy]) x hx)
        simp only [List.nil_append] at this ⊢
        rw [List.cons_append, merge_yes hy, this]
        simp [merge]
    | x :: xs1, [] =>
      cases ys2 with
      | nil => simp [merge_nil]
      | cons y ys2 =>
        have hy := h1 x (by simp) y (by simp)
        have := ih xs1 [] (by simp at hn ⊢; omega) (fun x hx y hy => h1 x (by simp [hx]) y hy) (by simp)
        simp only [List.nil_append, List.cons_append] at this ⊢
        rw [merge_no hy, this]
        simp [merge_nil]
    | x :: xs1, y :: ys1 =>
      simp only [List.cons_append]
      cases e : f y x with
      | true =>
        rw [merge_yes e, merge_yes e, ← List.cons_append, ih (x :: xs1) ys1 (by simp at hn ⊢; omega) h1 (fun y hy x hx => h2 y (by simp [hy]) x hx)]
        simp
      | false =>
        rw [merge_no e, merge_no e, ← List.cons_append, ih xs1 (y :: ys1) (by simp at hn ⊢; omega) (fun x hx y hy => h1 x (by simp [hx]) y hy) h2]
        simp

theorem merge_assoc (ho : Ord f) : ∀ (n : Nat) (a b c : List E), a.length + b.length + c.length ≤ n → merge f (merge f a b) c = merge f a (merge f b c) := by
  intro n
  induction n with
  | zero =>
    intro a b c hn
    obtain rfl : a = [] := List.length_eq_zero_iff.1 (by omega)
    obtain rfl : b = [] := List.length_eq_zero_iff.1 (by omega)
    obtain rfl : c = [] := List.length_eq_zero_iff.1 (by omega)
    simp [merge]
  | succ n ih =>
    intro a b c hn
    match a, b, c with
    | [], b, c => simp [nil_merge]
    | a :: as, [], c => simp [nil_merge, merge_nil]
    | a :: as, b :: bs, [] => simp [merge_nil]
    | a :: as, b :: bs, c :: cs =>
      simp only [List.length_cons] at hn
      cases hba : f b a with
      | true =>
        rw [merge_yes hba]
        cases hcb : f c b with
        | true =>
          have hca : f c a = true := by
            cases e : f c a with
            | true => rfl
            | false =>
              have := ho.goes c a b e (ho.anti _ _ hba)
              rw [hcb] at this; cases this
          rw [merge_yes hcb, merge_yes hcb, merge_yes hca, ← merge_yes hba, ih (a :: as) (b :: bs) cs (by simp; omega)]
        | false =>
          rw [merge_no hcb, merge_no hcb, merge_yes hba, ih (a :: as) bs (c :: cs) (by simp; omega)]
      | false =>
        rw [merge_no hba]
        cases hca : f c a with
        | true =>
          have hcb : f c b = true := by
            cases e : f c b with
            | true => rfl
            | false =>
              have := ho.goes c b a e hba
              rw [hca] at this; cases this
          rw [merge_yes hca, merge_yes hcb, merge_yes hca, ← merge_no hba, ih (a :: as) (b :: bs) cs (by simp; omega)]
        | false =>
          cases hcb : f c b with
          | true =>
            rw [merge_no hca, merge_yes hcb, merge_no hca, ← merge_yes hcb, ih as (b :: bs) (c :: cs) (by simp; omega)]
          | false =>
            rw [merge_no hca, merge_no hcb, merge_no hba, ← merge_no hcb, ih as (b :: bs) (c :: cs) (by simp; omega)]
theorem merge_as (ho : Ord f) (a b c : List E) : merge f (merge f a b) c = merge f a (merge f b c) := merge_assoc ho _ a b c (Nat.le_refl _)

theorem length_merge : ∀ (n : Nat) (a b : List E), a.length + b.length ≤ n → (merge f a b).length = a.length + b.length := by
  intro n
  induction n with
  | zero =>
    intro a b hn
    obtain rfl : a = [] := List.length_eq_zero_iff.1 (by omega)
    obtain rfl : b = [] := List.length_eq_zero_iff.1 (by omega)
    simp [merge]
  | succ n ih =>
    intro a b hn
    match a, b with
    | [], b => simp [nil_merge]
    | a :: as, [] => simp [merge_nil]
    | a :: as, b :: bs =>
      simp only [List.length_cons] at hn
      cases h : f b a with
      | true => rw [merge_yes h, List.length_cons, ih _ _ (by simp; omega)]; simp; omega
      | false => rw [merge_no h, List.length_cons, ih _ _ (by simp; omega)]; simp; omega
theorem merge_length (a b : List E) : (merge f a b).length = a.length + b.length := length_merge _ a b (Nat.le_refl _)
theorem mem_merge (z : E) : ∀ (n : Nat) (a b : List E), a.length + b.length ≤ n → (z ∈ merge f a b ↔ z ∈ a ∨ z ∈ b) := by
  intro n
  induction n with
  | zero =>
    intro a b hn
    obtain rfl : a = [] := List.length_eq_zero_iff.1 (by omega)
    obtain rfl : b = [] := List.length_eq_zero_iff.1 (by omega)
    simp [merge]
  | succ n ih =>
    intro a b hn
    match a, b with
    | [], b => simp [nil_merge]
    | a :: as, [] => simp [merge_nil]
    | a :: as, b :: bs =>
      simp only [List.length_cons] at hn
      cases h : f b a with
      | true => rw [merge_yes h, List.mem_cons, ih _ _ (by simp; omega)]; simp only [List.mem_cons]; grind
      | false => rw [merge_no h, List.mem_cons, ih _ _ (by simp; omega)]; simp only [List.mem_cons]; grind
theorem merge_mem {z : E} {a b : List E} : z ∈ merge f a b ↔ z ∈ a ∨ z ∈ b := mem_merge z _ a b (Nat.le_refl _)

/-- none is first of one ahead of it -/
def Srt (f : E → E → Bool) (l : List E) : Prop := l.Pairwise fun a b => f b a = false
theorem srt_merge (ho : Ord f) : ∀ (n : Nat) (a b : List E), a.length + b.length ≤ n → Srt f a → Srt f b → Srt f (merge f a b) := by
  intro n
  induction n with
  | zero =>
    intro a b hn _ _
    obtain rfl : a = [] := List.length_eq_zero_iff.1 (by omega)
    obtain rfl : b = [] := List.length_eq_zero_iff.1 (by omega)
    simp [merge, Srt]
  | succ n ih =>
    intro a b hn ha hb
    match a, b with
    | [], b => simpa [nil_merge] using hb
    | a :: as, [] => simpa [merge_nil] using ha
    | a :: as, b :: bs =>
      simp only [List.length_cons] at hn
      unfold Srt at *
      have ha' := List.pairwise_cons.1 ha
      have hb' := List.pairwise_cons.1 hb
      cases h : f b a with
      | true =>
        rw [merge_yes h, List.pairwise_cons]
        refine ⟨fun z hz => ?_, ih _ _ (by simp; omega) ha hb'.2⟩
        rcases merge_mem.1 hz with hz | hz
        · rcases List.mem_cons.1 hz with rfl | hz
          · exact ho.anti _ _ h
          · exact ho.goes z a b (ha'.1 z hz) (ho.anti _ _ h)
        · exact hb'.1 z hz
      | false =>
        rw [merge_no h, List.pairwise_cons]
        refine ⟨fun z hz => ?_, ih _ _ (by simp; omega) ha'.2 hb⟩
        rcases merge_mem.1 hz with hz | hz
        · exact ha'.1 z hz
        · rcases List.mem_cons.1 hz with rfl | hz
          · exact h
          · exact ho.goes z b a (hb'.1 z hz) h
theorem merge_srt (ho : Ord f) {a b : List E} (ha : Srt f a) (hb : Srt f b) : Srt f (merge f a b) := srt_merge ho _ a b (Nat.le_refl _) ha hb

/-- one behind the other put where it belongs -/
def isort (f : E → E → Bool) (l : List E) : List E := l.foldl (fun acc y => merge f acc [y]) []
theorem isort_nil : isort f [] = [] := rfl
theorem isort_snoc (l : List E) (y : E) : isort f (l ++ [y]) = merge f (isort f l) [y] := by simp [isort, List.foldl_append]
theorem isort_one (y : E) : isort f [y] = [y] := by simp [isort, merge]
theorem isort_append (ho : Ord f) (a b : List E) : isort f (a ++ b) = merge f (isort f a) (isort f b) := by
  have key : ∀ (n : Nat) (b : List E), b.length = n → isort f (a ++ b) = merge f (isort f a) (isort f b) := by
    intro n
    induction n with
    | zero =>
      intro b hb
      obtain rfl : b = [] := List.length_eq_zero_iff.1 hb
      simp [isort_nil, merge_nil]
    | succ n ih =>
      intro b hb
      obtain ⟨b', y, rfl⟩ : ∃ b' y, b = b' ++ [y] := ⟨b.dropLast, b.getLast (by intro e; simp [e] at hb), (List.dropLast_concat_getLast _).symm⟩
      rw [← List.append_assoc, isort_snoc, isort_snoc, ih b' (by simpa using hb), merge_as ho]
  exact key _ b rfl
theorem isort_length (l : List E) : (isort f l).length = l.length := by
  have key : ∀ (l acc : List E), (l.foldl (fun acc y => merge f acc [y]) acc).length = acc.length + l.length := by
    intro l
    induction l with
    | nil => simp
    | cons y l ih => intro acc; rw [List.foldl_cons, ih, merge_length]; simp; omega
  simpa [isort] using key l []
theorem isort_srt (ho : Ord f) (l : List E) : Srt f (isort f l) := by
  have key : ∀ (l acc : List E), Srt f acc → Srt f (l.foldl (fun acc y => merge f acc [y]) acc) := by
    intro l
    induction l with
    | nil => simp
    | cons y l ih => intro acc h; exact ih _ (merge_srt ho h (by simp [Srt]))
  exact key l [] (by simp [Srt])

/-- neighbours alone tell it -/
theorem srt_of_next (ho : Ord f) : ∀ l : List E, (∀ i (h : i + 1 < l.length), f l[i + 1] l[i] = false) → Srt f l := by
  intro l
  induction l with
  | nil => intro _; simp [Srt]
  | cons x l ih =>
    intro h
    have hl : Srt f l := ih fun i hi => h (i + 1) (by simp; omega)
    refine List.pairwise_cons.2 ⟨?_, hl⟩
    cases l with
    | nil => simp
    | cons y l =>
      have h0 : f y x = false := h 0 (by simp)
      intro z hz
      rcases List.mem_cons.1 hz with rfl | hz
      · exact h0
      · exact ho.goes z y x ((List.pairwise_cons.1 hl).1 z hz) h0
theorem Srt.next {l : List E} (h : Srt f l) {i : Nat} (hi : i + 1 < l.length) : f l[i + 1] l[i] = false := (List.pairwise_iff_getElem.1 h) i (i + 1) (by omega) hi (by omega)
theorem Srt.take {l : List E} (h : Srt f l) (k : Nat) : Srt f (l.take k) := List.Pairwise.sublist (List.take_sublist _ _) h
theorem Srt.drop {l : List E} (h : Srt f l) (k : Nat) : Srt f (l.drop k) := List.Pairwise.sublist (List.drop_sublist _ _) h

/-- the parts up to a place, where all up to there are no later than what stands there -/
theorem before_last (ho : Ord f) {l : List E} (h : Srt f l) {k : Nat} (hk : k < l.length) {z : E} (hz : f z l[k] = false) : ∀ x ∈ l.take (k + 1), f z x = false := by
  intro x hx
  obtain ⟨i, hi, rfl⟩ := List.getElem_of_mem hx
  rw [List.getElem_take]
  have hi' : i ≤ k := by simp at hi; omega
  rcases Nat.lt_or_ge i k with hlt | hge
  · exact ho.goes _ _ _ hz ((List.pairwise_iff_getElem.1 h) i k (by omega) hk hlt)
  · obtain rfl : i = k := by omega
    exact hz
/-- what isn't ahead of one isn't ahead of what comes behind either -/
theorem behind_first (ho : Ord f) {l : List E} (h : Srt f l) {k : Nat} (hk : k < l.length) {x : E} (hx : f l[k] x = false) : ∀ y ∈ l.drop k, f y x = false := by
  intro y hy
  obtain ⟨i, hi, rfl⟩ := List.getElem_of_mem hy
  rw [List.getElem_drop]
  rcases Nat.eq_zero_or_pos i with rfl | hpos
  · exact hx
  · exact ho.goes _ _ _ ((List.pairwise_iff_getElem.1 h) k (k + i) hk (by simp at hi; omega) (by omega)) hx
theorem first_goes (ho : Ord f) {a b c : E} (h1 : f a b = true) (h2 : f c b = false) : f a c = true := by
  cases e : f a c with
  | true => rfl
  | false => have := ho.goes a c b e h2; rw [h1] at this; cases this
theorem first_goes' (ho : Ord f) {a b c : E} (h1 : f a b = true) (h2 : f a c = false) : f c b = true := by
  cases e : f c b with
  | true => rfl
  | false => have := ho.goes a c b h2 e; rw [h1] at this; cases this
/-- what is first of one is first of all behind that -/
theorem yes_behind (ho : Ord f) {l : List E} (h : Srt f l) {k : Nat} (hk : k < l.length) {z : E} (hz : f z l[k] = true) : ∀ x ∈ l.drop k, f z x = true := by
  intro x hx
  obtain ⟨i, hi, rfl⟩ := List.getElem_of_mem hx
  rw [List.getElem_drop]
  rcases Nat.eq_zero_or_pos i with rfl | hpos
  · exact hz
  · exact first_goes ho hz ((List.pairwise_iff_getElem.1 h) k (k + i) hk (by simp at hi; omega) (by omega))
/-- all up to one that is first are first -/
theorem yes_before (ho : Ord f) {l : List E} (h : Srt f l) {k : Nat} (hk : k < l.length) {x : E} (hx : f l[k] x = true) : ∀ y ∈ l.take (k + 1), f y x = true := by
  intro y hy
  obtain ⟨i, hi, rfl⟩ := List.getElem_of_mem hy
  rw [List.getElem_take]
  have hi' : i ≤ k := by simp at hi; omega
  rcases Nat.lt_or_ge i k with hlt | hge
  · exact first_goes' ho hx ((List.pairwise_iff_getElem.1 h) i k (by omega) hk hlt)
  · obtain rfl : i = k := by omega
    exact hx

/-- one among others at a place -/
def ins (L : List E) (j : Nat) (x : E) : List E := L.take j ++ x :: L.drop j
theorem ins_length (L : List E) (j : Nat) (x : E) : (ins L j x).length = L.length + 1 := by simp [ins]; omega
theorem ins_at (L : List E) (j : Nat) (x : E) (h : j ≤ L.length) : (ins L j x)[j]? = some x := by
  unfold ins; rw [List.getElem?_append_right (by simp; omega)]; simp [Nat.min_eq_left h]
theorem ins_lt (L : List E) (j k : Nat) (x : E) (h : k < j) (h2 : j ≤ L.length) : (ins L j x)[k]? = L[k]? := by
  unfold ins; rw [List.getElem?_append_left (by simp; omega), List.getElem?_take, if_pos h]
theorem ins_gt (L : List E) (j k : Nat) (x : E) (h : j < k) (h2 : j ≤ L.length) : (ins L j x)[k]? = L[k - 1]? := by
  unfold ins; rw [List.getElem?_append_right (by simp; omega)]
  simp [Nat.min_eq_left h2]
  obtain ⟨d, rfl⟩ : ∃ d, k = j + 1 + d := ⟨k - (j + 1), by omega⟩
  rw [show j + 1 + d - j = d + 1 from by omega, List.getElem?_cons_succ, List.getElem?_drop]
  congr 1; omega
/-- swapped with the one ahead -/
theorem ins_down (L : List E) (j : Nat) (x y : E) (h0 : 0 < j) (h : j ≤ L.length) (hy : L[j - 1]? = some y) : ((ins L j x).set j y).set (j - 1) x = ins L (j - 1) x := by
  refine List.ext_getElem? fun k => ?_
  have hl := ins_length L j x
  simp only [List.getElem?_set, List.length_set, hl]
  by_cases e1 : j - 1 = k
  · subst e1; rw [if_pos rfl, if_pos (by omega), ins_at _ _ _ (by omega)]
  rw [if_neg e1]
  by_cases e2 : j = k
  · subst e2; rw [if_pos rfl, if_pos (by omega), ins_gt _ _ _ _ (by omega) (by omega), hy]
  rw [if_neg e2]
  rcases Nat.lt_or_ge k j with hlt | hge
  · rw [ins_lt _ _ _ _ hlt h, ins_lt _ _ _ _ (by omega) (by omega)]
  · rw [ins_gt _ _ _ _ (by omega) h, ins_gt _ _ _ _ (by omega) (by omega)]
/-- swapped with the one behind -/
theorem ins_up (L : List E) (j : Nat) (x y : E) (h : j < L.length) (hy : L[j]? = some y) : ((ins L j x).set j y).set (j + 1) x = ins L (j + 1) x := by
  refine List.ext_getElem? fun k => ?_
  have hl := ins_length L j x
  simp only [List.getElem?_set, List.length_set, hl]
  by_cases e1 : j + 1 = k
  · subst e1; rw [if_pos rfl, if_pos (by omega), ins_at _ _ _ (by omega)]
  rw [if_neg e1]
  by_cases e2 : j = k
  · subst e2; rw [if_pos rfl, if_pos (by omega), ins_lt _ _ _ _ (by omega) (by omega), hy]
  rw [if_neg e2]
  rcases Nat.lt_or_ge k j with hlt | hge
  · rw [ins_lt _ _ _ _ hlt (by omega), ins_lt _ _ _ _ (by omega) (by omega)]
  · rw [ins_gt _ _ _ _ (by omega) (by omega), ins_gt _ _ _ _ (by omega) (by omega)]

/-- one put behind those that it isn't first of -/
theorem merge_ins (ho : Ord f) {out : List E} (hs : Srt f out) {x : E} {k : Nat} (hk : k ≤ out.length) (hge : k < out.length → f x (out[k]?.getD (0, 0)) = true) (hlt : 0 < k → f x (out[k - 1]?.getD (0, 0)) = false) :
    merge f out [x] = ins out k x := by
  have h1 : ∀ o ∈ out.take k, f x o = false := by
    rcases Nat.eq_zero_or_pos k with rfl | h0
    · simp
    · have hk1 : k - 1 < out.length := by omega
      have := hlt h0
      rw [List.getElem?_eq_getElem hk1] at this
      have := before_last ho hs hk1 this
      rwa [show k - 1 + 1 = k from by omega] at this
  have h2 : ∀ o ∈ out.drop k, f x o = true := by
    rcases Nat.lt_or_ge k out.length with h0 | h0
    · have := hge h0
      rw [List.getElem?_eq_getElem h0] at this
      exact yes_behind ho hs h0 this
    · rw [List.drop_of_length_le h0]; simp
  have e1 := merge_split (f := f) (out.drop k) [x] _ (out.take k) [] (Nat.le_refl _) (fun o ho y hy => by simp at hy; subst hy; exact h1 o ho) (by simp)
  have e2 := merge_split (f := f) (out.drop k) [] _ [] [x] (Nat.le_refl _) (by simp) (fun y hy o ho => by simp at hy; subst hy; exact h2 o ho)
  simp only [List.take_append_drop, List.nil_append, merge_nil, nil_merge, List.append_nil] at e1 e2
  rw [e1, e2]
  simp [ins]
/-- one put ahead of those that aren't first of it -/
theorem ins_merge (ho : Ord f) {out : List E} (hs : Srt f out) {x : E} {k : Nat} (hk : k ≤ out.length) (hge : k < out.length → f (out[k]?.getD (0, 0)) x = false) (hlt : 0 < k → f (out[k - 1]?.getD (0, 0)) x = true) :
    merge f [x] out = ins out k x := by
  have h1 : ∀ o ∈ out.take k, f o x = true := by
    rcases Nat.eq_zero_or_pos k with rfl | h0
    · simp
    · have hk1 : k - 1 < out.length := by omega
      have := hlt h0
      rw [List.getElem?_eq_getElem hk1] at this
      have := yes_before ho hs hk1 this
      rwa [show k - 1 + 1 = k from by omega] at this
  have h2 : ∀ o ∈ out.drop k, f o x = false := by
    rcases Nat.lt_or_ge k out.length with h0 | h0
    · have := hge h0
      rw [List.getElem?_eq_getElem h0] at this
      exact behind_first ho hs h0 this
    · rw [List.drop_of_length_le h0]; simp
  have e1 := merge_split (f := f) [x] (out.drop k) _ [] (out.take k) (Nat.le_refl _) (by simp) (fun o ho y hy => by simp at hy; subst hy; exact h1 o ho)
  have e2 := merge_split (f := f) [] (out.drop k) _ [x] [] (Nat.le_refl _) (fun y hy o ho => by simp at hy; subst hy; exact h2 o ho) (by simp)
  simp only [List.take_append_drop, List.nil_append, merge_nil, nil_merge, List.append_nil] at e1 e2
  rw [e1, e2]
  simp [ins]

/-- two lists, each in two parts -/
theorem sym (ho : Ord f) {X Y : List E} (hX : Srt f X) (hY : Srt f Y) {i j : Nat} (hi : i ≤ X.length) (hj : j ≤ Y.length)
    (h1 : 0 < i → j < Y.length → f (Y[j]?.getD (0, 0)) (X[i - 1]?.getD (0, 0)) = false) (h2 : i < X.length → 0 < j → f (Y[j - 1]?.getD (0, 0)) (X[i]?.getD (0, 0)) = true) :
    merge f (X.take i) (Y.take j) ++ merge f (X.drop i) (Y.drop j) = merge f X Y := by
  have e := merge_split (f := f) (X.drop i) (Y.drop j) _ (X.take i) (Y.take j) (Nat.le_refl _) ?_ ?_
  · simp only [List.take_append_drop] at e
    exact e.symm
  · intro x hx y hy
    have hi0 : 0 < i := by rcases Nat.eq_zero_or_pos i with rfl | h; simp at hx; exact h
    have hj0 : j < Y.length := by rcases Nat.lt_or_ge j Y.length with h | h; exact h; rw [List.drop_of_length_le h] at hy; cases hy
    have h := h1 hi0 hj0
    have hi1 : i - 1 < X.length := by omega
    rw [List.getElem?_eq_getElem hj0, List.getElem?_eq_getElem hi1] at h
    have hx' := before_last ho hX hi1 h
    rw [show i - 1 + 1 = i from by omega] at hx'
    exact behind_first ho hY hj0 (hx' x hx) y hy
  · intro y hy x hx
    have hj0 : 0 < j := by rcases Nat.eq_zero_or_pos j with rfl | h; simp at hy; exact h
    have hi0 : i < X.length := by rcases Nat.lt_or_ge i X.length with h | h; exact h; rw [List.drop_of_length_le h] at hx; cases hx
    have h := h2 hi0 hj0
    have hj1 : j - 1 < Y.length := by omega
    rw [List.getElem?_eq_getElem hi0, List.getElem?_eq_getElem hj1] at h
    have hy' := yes_before ho hY hj1 h
    rw [show j - 1 + 1 = j from by omega] at hy'
    exact yes_behind ho hX hi0 (hy' y hy) x hx

theorem ins_mid (P Sd R : List E) (q : Nat) (x : E) (h : q ≤ Sd.length) : ins (P ++ (Sd ++ R)) (P.length + q) x = P ++ (ins Sd q x ++ R) := by
  unfold ins
  rw [List.take_append, List.drop_append, List.take_of_length_le (by omega), List.drop_of_length_le (l := P) (by omega), Nat.add_sub_cancel_left, List.take_append_of_le_length h, List.drop_append_of_le_length h]
  simp
theorem ins_end (Sd : List E) (x : E) : ins Sd Sd.length x = Sd ++ [x] := by simp [ins]
theorem ins_zero (Sd : List E) (x : E) : ins Sd 0 x = x :: Sd := by simp [ins]
theorem isort_take_one (X : List E) : isort f (X.take 1) ++ X.drop 1 = X := by
  cases X with
  | nil => rfl
  | cons x X => simp [isort_one]
theorem take_snoc {X : List E} {k : Nat} {x : E} (h : X[k]? = some x) : X.take (k + 1) = X.take k ++ [x] := by
  obtain ⟨hk, rfl⟩ := List.getElem?_eq_some_iff.1 h
  exact List.take_succ_eq_append_getElem hk
theorem drop_cons {X : List E} {k : Nat} {x : E} (h : X[k]? = some x) : X.drop k = x :: X.drop (k + 1) := by
  obtain ⟨hk, rfl⟩ := List.getElem?_eq_some_iff.1 h
  exact List.drop_eq_getElem_cons hk
/-- the place of one more, at its beginning -/
theorem put_start {P X S : List E} {k : Nat} {x : E} (hx : X[k]? = some x) : P ++ (isort f (X.take k) ++ (X.drop k ++ S)) = P ++ (ins (isort f (X.take k)) k x ++ (X.drop (k + 1) ++ S)) := by
  have hl : (isort f (X.take k)).length = k := by rw [isort_length]; have := (List.getElem?_eq_some_iff.1 hx).1; simp; omega
  have e := ins_end (isort f (X.take k)) x
  rw [hl] at e
  rw [e, drop_cons hx]
  simp
theorem put_end (ho : Ord f) {X : List E} {k q : Nat} {x : E} (hx : X[k]? = some x) (hq : q ≤ k) (h1 : q < k → f x ((isort f (X.take k))[q]?.getD (0, 0)) = true) (h2 : 0 < q → f x ((isort f (X.take k))[q - 1]?.getD (0, 0)) = false) :
    ins (isort f (X.take k)) q x = isort f (X.take (k + 1)) := by
  have hl : (isort f (X.take k)).length = k := by rw [isort_length]; have := (List.getElem?_eq_some_iff.1 hx).1; simp; omega
  rw [take_snoc hx, isort_snoc, merge_ins ho (isort_srt ho _) (k := q) (by omega) (by rw [hl]; exact h1) h2]

/-- so many swapped, from two places on -/
def swp (D : List E) (a b : Nat) : Nat → List E
  | 0 => D
  | j + 1 => ((swp D a b j).set (a + j) ((swp D a b j)[b + j]?.getD (0, 0))).set (b + j) ((swp D a b j)[a + j]?.getD (0, 0))
theorem swp_length (D : List E) (a b j : Nat) : (swp D a b j).length = D.length := by
  induction j with
  | zero => rfl
  | succ j ih => simp [swp, ih]
theorem swp_succ {D : List E} {a b j : Nat} {x y : E} (hx : (swp D a b j)[a + j]? = some x) (hy : (swp D a b j)[b + j]? = some y) : swp D a b (j + 1) = ((swp D a b j).set (a + j) y).set (b + j) x := by
  simp [swp, hx, hy]
theorem swp_at (D : List E) (a b : Nat) : ∀ (j : Nat), a + j ≤ b → b + j ≤ D.length → ∀ i, (swp D a b j)[i]? = if a ≤ i ∧ i < a + j then D[i + (b - a)]? else if b ≤ i ∧ i < b + j then D[i - (b - a)]? else D[i]? := by
  intro j
  induction j with
  | zero => intro _ _ i; rw [if_neg (by omega), if_neg (by omega)]; rfl
  | succ j ih =>
    intro h1 h2 i
    have ih := ih (by omega) (by omega)
    have hl := swp_length D a b j
    have ex : (swp D a b j)[a + j]? = D[a + j]? := by rw [ih, if_neg (by omega), if_neg (by omega)]
    have ey : (swp D a b j)[b + j]? = D[b + j]? := by rw [ih, if_neg (by omega), if_neg (by omega)]
    simp only [swp, List.getElem?_set, List.length_set, hl, ex, ey]
    by_cases e1 : b + j = i
    · subst e1
      rw [if_pos rfl, if_pos (by omega), if_neg (by omega), if_pos (by omega), show b + j - (b - a) = a + j from by omega, List.getElem?_eq_getElem (by omega)]
      rfl
    rw [if_neg e1]
    by_cases e2 : a + j = i
    · subst e2
      rw [if_pos rfl, if_pos (by omega), if_pos (by omega), show a + j + (b - a) = b + j from by omega, List.getElem?_eq_getElem (by omega)]
      rfl
    rw [if_neg e2, ih]
    by_cases c1 : a ≤ i ∧ i < a + j
    · rw [if_pos c1, if_pos (by omega)]
    rw [if_neg c1]
    have c1' : ¬ (a ≤ i ∧ i < a + (j + 1)) := by omega
    rw [if_neg c1']
    by_cases c2 : b ≤ i ∧ i < b + j
    · have c2' : b ≤ i ∧ i < b + (j + 1) := by omega
      rw [if_pos c2, if_pos c2']
    · have c2' : ¬ (b ≤ i ∧ i < b + (j + 1)) := by omega
      rw [if_neg c2, if_neg c2']
theorem swp_parts (P X M Y S : List E) (k : Nat) (hx : X.length = k) (hy : Y.length = k) : swp (P ++ (X ++ (M ++ (Y ++ S)))) P.length (P.length + k + M.length) k = P ++ (Y ++ (M ++ (X ++ S))) := by
  refine List.ext_getElem? fun i => ?_
  rw [swp_at _ _ _ _ (by omega) (by simp; omega)]
  by_cases c1 : P.length ≤ i ∧ i < P.length + k
  · rw [if_pos c1]
    obtain ⟨d, rfl⟩ : ∃ d, i = P.length + d := ⟨i - P.length, by omega⟩
    rw [show P.length + d + (P.length + k + M.length - P.length) = P.length + (X.length + (M.length + d)) from by omega]
    simp only [List.getElem?_append_right (Nat.le_add_right _ _), Nat.add_sub_cancel_left]
    rw [List.getElem?_append_left (by omega), List.getElem?_append_left (by omega)]
  rw [if_neg c1]
  by_cases c2 : P.length + k + M.length ≤ i ∧ i < P.length + k + M.length + k
  · rw [if_pos c2]
    obtain ⟨d, rfl⟩ : ∃ d, i = P.length + (Y.length + (M.length + d)) := ⟨i - (P.length + k + M.length), by omega⟩
    rw [show P.length + (Y.length + (M.length + d)) - (P.length + k + M.length - P.length) = P.length + d from by omega]
    simp only [List.getElem?_append_right (Nat.le_add_right _ _), Nat.add_sub_cancel_left]
    rw [List.getElem?_append_left (by omega), List.getElem?_append_left (by omega)]
  rw [if_neg c2]
  rcases Nat.lt_or_ge i P.length with h | h
  · rw [List.getElem?_append_left h, List.getElem?_append_left h]
  obtain ⟨d, rfl⟩ : ∃ d, i = P.length + d := ⟨i - P.length, by omega⟩
  simp only [List.getElem?_append_right (Nat.le_add_right _ _), Nat.add_sub_cancel_left]
  rw [List.getElem?_append_right (show X.length ≤ d from by omega), List.getElem?_append_right (show Y.length ≤ d from by omega), hx, hy]
  rcases Nat.lt_or_ge (d - k) M.length with h3 | h3
  · rw [List.getElem?_append_left h3, List.getElem?_append_left h3]
  rw [List.getElem?_append_right h3, List.getElem?_append_right h3, List.getElem?_append_right (show Y.length ≤ d - k - M.length from by omega), List.getElem?_append_right (show X.length ≤ d - k - M.length from by omega), hx, hy]

/-- the two parts that are yet to be turned, and what it comes to -/
def Rot (D T : List E) (p i j s : Nat) : Prop := ∃ P U V S : List E, P.length = p ∧ U.length = i ∧ V.length = j ∧ S.length = s ∧ D = P ++ (U ++ (V ++ S)) ∧ P ++ (V ++ (U ++ S)) = T
theorem Rot.length {D T : List E} {p i j s : Nat} (h : Rot D T p i j s) : D.length = p + i + j + s := by
  obtain ⟨P, U, V, S, rfl, rfl, rfl, rfl, rfl, -⟩ := h
  simp; omega
theorem Rot.left {D T : List E} {p i j s : Nat} (h : Rot D T p i j s) (hij : j < i) : Rot (swp D p (p + i) j) T (p + j) (i - j) j s := by
  obtain ⟨P, U, V, S, rfl, rfl, rfl, rfl, rfl, rfl⟩ := h
  have e := swp_parts P (U.take V.length) (U.drop V.length) V S V.length (by simp; omega) rfl
  rw [show P.length + V.length + (U.drop V.length).length = P.length + U.length from by simp; omega] at e
  have e2 : P ++ (U.take V.length ++ (U.drop V.length ++ (V ++ S))) = P ++ (U ++ (V ++ S)) := by rw [← List.append_assoc (U.take _), List.take_append_drop]
  rw [e2] at e
  rw [e]
  refine ⟨P ++ V, U.drop V.length, U.take V.length, S, by simp, by simp, by simp; omega, rfl, by simp, ?_⟩
  rw [← List.append_assoc (U.take _), List.take_append_drop]
  simp
theorem Rot.right {D T : List E} {p i j s : Nat} (h : Rot D T p i j s) (hij : i < j) : Rot (swp D p (p + i + j - i) i) T p i (j - i) (s + i) := by
  obtain ⟨P, U, V, S, rfl, rfl, rfl, rfl, rfl, rfl⟩ := h
  have e := swp_parts P U (V.take (V.length - U.length)) (V.drop (V.length - U.length)) S U.length rfl (by simp; omega)
  rw [show P.length + U.length + (V.take (V.length - U.length)).length = P.length + U.length + V.length - U.length from by simp; omega] at e
  have e2 : P ++ (U ++ (V.take (V.length - U.length) ++ (V.drop (V.length - U.length) ++ S))) = P ++ (U ++ (V ++ S)) := by rw [← List.append_assoc (V.take _), List.take_append_drop]
  rw [e2] at e
  rw [e]
  refine ⟨P, V.drop (V.length - U.length), V.take (V.length - U.length), U ++ S, rfl, by simp; omega, by simp, by simp; omega, rfl, ?_⟩
  rw [← List.append_assoc (V.take _), List.take_append_drop]
theorem Rot.last {D T : List E} {p i s : Nat} (h : Rot D T p i i s) : swp D p (p + i) i = T := by
  obtain ⟨P, U, V, S, rfl, rfl, hV, rfl, rfl, rfl⟩ := h
  have e := swp_parts P U [] V S U.length rfl hV
  simpa using e

/-- cut by a size, each part in order -/
def ckf (f : E → E → Bool) (s : Nat) : Nat → List E → List E
  | 0, _ => []
  | r + 1, D => isort f (D.take s) ++ ckf f s r (D.drop s)
def ck (f : E → E → Bool) (s : Nat) (D : List E) : List E := ckf f s D.length D
theorem ckf_more (s : Nat) (hs : 0 < s) : ∀ (r r' : Nat) (D : List E), D.length ≤ r → D.length ≤ r' → ckf f s r D = ckf f s r' D := by
  intro r
  induction r with
  | zero =>
    intro r' D h _
    obtain rfl : D = [] := List.length_eq_zero_iff.1 (by omega)
    have : ∀ r', ckf f s r' [] = [] := by
      intro r'
      induction r' with
      | zero => rfl
      | succ r' ih => simp [ckf, isort_nil, ih]
    rw [this, this]
  | succ r ih =>
    intro r' D h h'
    cases r' with
    | zero =>
      obtain rfl : D = [] := List.length_eq_zero_iff.1 (by omega)
      have : ∀ r', ckf f s r' [] = [] := by
        intro r'
        induction r' with
        | zero => rfl
        | succ r' ih => simp [ckf, isort_nil, ih]
      rw [this, this]
    | succ r' =>
      simp only [ckf]
      rw [ih r' (D.drop s) (by simp; omega) (by simp; omega)]
theorem ck_eq (s : Nat) (hs : 0 < s) (D : List E) : ck f s D = isort f (D.take s) ++ ck f s (D.drop s) := by
  unfold ck
  rw [ckf_more s hs D.length (D.length + 1) D (by omega) (by omega), ckf, ckf_more s hs D.length (D.drop s).length (D.drop s) (by simp) (by omega)]
theorem ck_nil (s : Nat) : ck f s [] = [] := rfl
theorem ck_whole (s : Nat) (hs : 0 < s) (D : List E) (h : D.length ≤ s) : ck f s D = isort f D := by
  rw [ck_eq s hs, List.take_of_length_le h, List.drop_of_length_le h, ck_nil, List.append_nil]
theorem ck_length (s : Nat) (hs : 0 < s) : ∀ (n : Nat) (D : List E), D.length ≤ n → (ck f s D).length = D.length := by
  intro n
  induction n with
  | zero => intro D h; obtain rfl : D = [] := List.length_eq_zero_iff.1 (by omega); rfl
  | succ n ih =>
    intro D h
    rcases Nat.eq_zero_or_pos D.length with h0 | h0
    · obtain rfl : D = [] := List.length_eq_zero_iff.1 h0; rfl
    rw [ck_eq s hs, List.length_append, isort_length, ih (D.drop s) (by simp; omega)]
    simp; omega
/-- two parts of one size make one of twice that -/
theorem ck_two (s : Nat) (hs : 0 < s) (D : List E) : ck f s D = isort f (D.take s) ++ (isort f ((D.drop s).take s) ++ ck f s (D.drop (2 * s))) := by
  rw [ck_eq s hs, ck_eq s hs (D.drop s), List.drop_drop, show s + s = 2 * s from by omega]
theorem isort_two (ho : Ord f) (s : Nat) (D : List E) : merge f (isort f (D.take s)) (isort f ((D.drop s).take s)) = isort f (D.take (2 * s)) := by
  rw [← isort_append ho]
  congr 1
  rw [show 2 * s = s + s from by omega, List.take_add]
end
end Go.Proofs.Ytecdgpacofojeaa.Om
namespace Go.Proofs.Ytecdgpacofojeaa
open Go.RowKit

/-- the cells of a list of structs -/
def cel (l : List Om.E) : List Value := l.flatMap fun p => [.int .i64 p.1, .int .i64 p.2]
theorem cel_nil : cel [] = [] := rfl
theorem cel_cons (p : Om.E) (l : List Om.E) : cel (p :: l) = .int .i64 p.1 :: .int .i64 p.2 :: cel l := rfl
theorem cel_append (a b : List Om.E) : cel (a ++ b) = cel a ++ cel b := by simp [cel]
theorem cel_length (l : List Om.E) : (cel l).length = 2 * l.length := by
  induction l with
  | nil => rfl
  | cons p l ih => rw [cel_cons]; simp [ih]; omega
theorem cel_fst : ∀ (l : List Om.E) (i : Nat) (x : Om.E), l[i]? = some x → (cel l)[2 * i]? = some (.int .i64 x.1) := by
  intro l
  induction l with
  | nil => intro i x h; simp at h
  | cons p l ih =>
    intro i x h
    cases i with
    | zero => simp at h; subst h; rfl
    | succ i => rw [cel_cons, show 2 * (i + 1) = 2 * i + 1 + 1 from by omega, List.getElem?_cons_succ, List.getElem?_cons_succ]; exact ih i x (by simpa using h)
theorem cel_snd : ∀ (l : List Om.E) (i : Nat) (x : Om.E), l[i]? = some x → (cel l)[2 * i + 1]? = some (.int .i64 x.2) := by
  intro l
  induction l with
  | nil => intro i x h; simp at h
  | cons p l ih =>
    intro i x h
    cases i with
    | zero => simp at h; subst h; rfl
    | succ i => rw [cel_cons, show 2 * (i + 1) + 1 = 2 * i + 1 + 1 + 1 from by omega, List.getElem?_cons_succ, List.getElem?_cons_succ]; exact ih i x (by simpa using h)
theorem cel_set : ∀ (l : List Om.E) (i : Nat) (x : Om.E), ((cel l).set (2 * i) (.int .i64 x.1)).set (2 * i + 1) (.int .i64 x.2) = cel (l.set i x) := by
  intro l
  induction l with
  | nil => intro i x; rfl
  | cons p l ih =>
    intro i x
    cases i with
    | zero => rfl
    | succ i =>
      rw [cel_cons, show 2 * (i + 1) = 2 * i + 1 + 1 from by omega, List.set_cons_succ, List.set_cons_succ, List.set_cons_succ, List.set_cons_succ, List.set_cons_succ, cel_cons, ih]

/-- a block of these structs alone -/
def BlkE (t : TypeId) (w : World) (g : Nat) (l : List Om.E) : Prop := w.heap[g]? = some (.cells (cel l).toArray t (0, 0))
section
variable {t : TypeId} {w w' : World} {g : Nat} {l : List Om.E}
theorem BlkE.lt (h : BlkE t w g l) : g < w.heap.size := lt_of_block h
theorem BlkE.fst (h : BlkE t w g l) {i : Nat} {x : Om.E} (hx : l[i]? = some x) : w.cell? ⟨g, i * 2, none⟩ = some (.int .i64 x.1) := by
  rw [Nat.mul_comm i 2, cell_of_row _ _ _ _ _ _ h]; simpa using cel_fst l i x hx
theorem BlkE.snd (h : BlkE t w g l) {i : Nat} {x : Om.E} (hx : l[i]? = some x) : w.cell? ⟨g, i * 2 + 1, none⟩ = some (.int .i64 x.2) := by
  rw [Nat.mul_comm i 2, cell_of_row _ _ _ _ _ _ h]; simpa using cel_snd l i x hx
theorem BlkE.frozen (h : BlkE t w g l) (k : Nat) : w.frozen? ⟨g, k, none⟩ = false := frozen_of_row _ _ _ _ _ h
theorem BlkE.set (h : BlkE t w g l) (i : Nat) (x1 x2 : Int) : BlkE t ((w.setCell ⟨g, i * 2, none⟩ (.int .i64 x1)).setCell ⟨g, i * 2 + 1, none⟩ (.int .i64 x2)) g (l.set i (x1, x2)) := by
  rw [Nat.mul_comm i 2]
  have h1 : (w.setCell ⟨g, 2 * i, none⟩ (.int .i64 x1)).heap[g]? = some (.cells ((cel l).toArray.setIfInBounds (2 * i) (.int .i64 x1)) t (0, 0)) := heap_setCell_same _ _ _ _ _ _ h
  have h2 : ((w.setCell ⟨g, 2 * i, none⟩ (.int .i64 x1)).setCell ⟨g, 2 * i + 1, none⟩ (.int .i64 x2)).heap[g]? = some (.cells (((cel l).toArray.setIfInBounds (2 * i) (.int .i64 x1)).setIfInBounds (2 * i + 1) (.int .i64 x2)) t (0, 0)) := heap_setCell_same _ _ _ _ _ _ h1
  unfold BlkE
  rw [h2, ← cel_set l i (x1, x2)]
  congr 2
  refine Array.ext' ?_
  simp
theorem BlkE.drew (h : BlkE t w g l) : BlkE t w.drew g l := h
theorem BlkE.drewN (h : BlkE t w g l) (d : Nat) : BlkE t (w.drewN d) g l := by
  induction d with
  | zero => exact h
  | succ d ih => exact ih.drew
theorem BlkE.below (h : BlkE t w g l) (hb : Below w.heap.size w w') : BlkE t w' g l := by
  unfold BlkE; rw [hb.block g h.lt]; exact h

/-- all but block g is as it was -/
structure But (g : Nat) (w w' : World) : Prop where
  os : w'.os = w.os
  tape : w'.tape = w.tape
  output : w'.output = w.output
  size : w.heap.size ≤ w'.heap.size
  block : ∀ k, k < w.heap.size → k ≠ g → w'.heap[k]? = w.heap[k]?
theorem But.refl (g : Nat) (w : World) : But g w w := ⟨rfl, rfl, rfl, Nat.le_refl _, fun _ _ _ => rfl⟩
theorem But.trans {a b c : World} (h : But g a b) (k : But g b c) : But g a c :=
  ⟨k.os.trans h.os, k.tape.trans h.tape, k.output.trans h.output, Nat.le_trans h.size k.size, fun i hi hg => (k.block i (Nat.lt_of_lt_of_le hi h.size) hg).trans (h.block i hi hg)⟩
theorem But.of_below (h : Below w.heap.size w w') : But g w w' := ⟨h.os, h.tape, h.output, h.size, fun k hk _ => h.block k hk⟩
theorem But.below {a b c : World} (h : But g a b) (k : Below b.heap.size b c) : But g a c := h.trans (But.of_below k)
theorem But.drew {a : World} (h : But g a w) : But g a w.drew := ⟨h.os, h.tape, h.output, h.size, h.block⟩
theorem But.drewN {a : World} (h : But g a w) (d : Nat) : But g a (w.drewN d) := by
  induction d with
  | zero => exact h
  | succ d ih => exact ih.drew
theorem But.setCell {a : World} (h : But g a w) (o : Nat) (u : Value) : But g a (w.setCell ⟨g, o, none⟩ u) :=
  h.trans ⟨rfl, rfl, rfl, by simp [World.setCell], fun k _ hg => Below.heap_setCell _ _ _ _ hg⟩
theorem But.cell {a : World} (h : But g a w) {p : Addr} (hp : p.block < a.heap.size) (hg : p.block ≠ g) : w.cell? p = a.cell? p := World.cell?_of_block (w := a) (h.block p.block hp hg)
/-- a block that is new is none of the old ones -/
theorem But.old {B : Nat} {a : World} (h : But g a w) (hB : B ≤ a.heap.size) (hg : B ≤ g) : Below B a w := ⟨h.os, h.tape, h.output, h.size, fun k hk => h.block k (by omega) (by omega)⟩
/-- two structs stored -/
theorem BlkE.swap {a : World} (h : BlkE t w g l) (hb : But g a w) (p q : Nat) (x1 x2 y1 y2 : Int) :
    BlkE t ((((w.setCell ⟨g, p * 2, none⟩ (.int .i64 y1)).setCell ⟨g, p * 2 + 1, none⟩ (.int .i64 y2)).setCell ⟨g, q * 2, none⟩ (.int .i64 x1)).setCell ⟨g, q * 2 + 1, none⟩ (.int .i64 x2)).drew g ((l.set p (y1, y2)).set q (x1, x2)) ∧
    But g a ((((w.setCell ⟨g, p * 2, none⟩ (.int .i64 y1)).setCell ⟨g, p * 2 + 1, none⟩ (.int .i64 y2)).setCell ⟨g, q * 2, none⟩ (.int .i64 x1)).setCell ⟨g, q * 2 + 1, none⟩ (.int .i64 x2)).drew :=
  ⟨((h.set p y1 y2).set q x1 x2).drew, ((((hb.setCell _ _).setCell _ _).setCell _ _).setCell _ _).drew⟩
end
end Go.Proofs.Ytecdgpacofojeaa
namespace Go.Proofs.Ytecdgpacofojeaa
open Go.RowKit


theorem below_two (w : World) (o o' : Obj) : Below w.heap.size w ((w.alloc o).alloc o') := ((Below.refl _ w).alloc (Nat.le_refl _) _).alloc (by simp) _

/-- two boxed structs, as a call that came behind reads them -/
theorem boxes {w w1 : World} {x1 x2 y1 y2 : Int} {t : TypeId} (hb : Below ((w.alloc (.cells #[.int .i64 x1, .int .i64 x2] t)).alloc (.cells #[.int .i64 y1, .int .i64 y2] t)).heap.size ((w.alloc (.cells #[.int .i64 x1, .int .i64 x2] t)).alloc (.cells #[.int .i64 y1, .int .i64 y2] t)) w1) :
    w1.cell? ⟨w.heap.size, 0, none⟩ = some (.int .i64 x1) ∧ w1.cell? ⟨w.heap.size, 1, none⟩ = some (.int .i64 x2) ∧ w1.cell? ⟨w.heap.size + 1, 0, none⟩ = some (.int .i64 y1) ∧ w1.cell? ⟨w.heap.size + 1, 1, none⟩ = some (.int .i64 y2) ∧ w.heap.size + 1 < w1.heap.size ∧ Below w.heap.size w w1 := by
  have h2 : ((w.alloc (.cells #[.int .i64 x1, .int .i64 x2] t)).alloc (.cells #[.int .i64 y1, .int .i64 y2] t)).heap.size = w.heap.size + 2 := by simp
  have hs := hb.size
  rw [h2] at hb hs
  refine ⟨?_, ?_, ?_, ?_, by omega, (below_two w _ _).trans (hb.mono (by omega))⟩
  all_goals
    rw [hb.cell (by simp)]
    simp

end Go.Proofs.Ytecdgpacofojeaa
namespace Go.Proofs.Ytecdgpacofojeaa
open Go.RowKit

/-- block g has room for c elements of sz cells, and begins with the cells cs -/
def Rw (t : TypeId) (sz : Nat) (w : World) (g c : Nat) (cs : List Value) : Prop :=
  ∃ cur : Array Value, w.heap[g]? = some (.cells cur t (0, 0)) ∧ cur.size = c * sz ∧ cs.length ≤ c * sz ∧ cur.toList.take cs.length = cs
section
variable {t T : TypeId} {sz : Nat} {w w' : World} {g c n B : Nat} {cs : List Value} {F : Value}
theorem Rw.lt (h : Rw t sz w g c cs) : g < w.heap.size := by obtain ⟨_, h, _⟩ := h; exact lt_of_block h
theorem Rw.cell (h : Rw t sz w g c cs) {i : Nat} {v : Value} (hv : cs[i]? = some v) : w.cell? ⟨g, i, none⟩ = some v := by
  obtain ⟨cur, h1, h2, h3, h4⟩ := h
  have hi := (List.getElem?_eq_some_iff.1 hv).1
  rw [cell_of_row _ _ _ _ _ _ h1]
  rw [← h4, List.getElem?_take, if_pos hi] at hv
  simpa using hv
theorem Rw.some_ (h : Rw t sz w g c cs) {i : Nat} (hi : i < c * sz) : (w.cell? ⟨g, i, none⟩).isSome = true := by
  obtain ⟨cur, h1, h2, h3, h4⟩ := h
  rw [cell_of_row _ _ _ _ _ _ h1]
  simp; omega
theorem Rw.frozen (h : Rw t sz w g c cs) (k : Nat) : w.frozen? ⟨g, k, none⟩ = false := by obtain ⟨_, h, _⟩ := h; exact frozen_of_row _ _ _ _ _ h
theorem Rw.set (h : Rw t sz w g c cs) (i : Nat) (v : Value) : Rw t sz (w.setCell ⟨g, i, none⟩ v) g c (cs.set i v) := by
  obtain ⟨cur, h1, h2, h3, h4⟩ := h
  refine ⟨_, heap_setCell_same _ _ _ _ _ _ h1, by simpa using h2, by simpa using h3, ?_⟩
  rw [List.length_set]
  conv => rhs; rw [← h4]
  simp [List.take_set]
theorem Rw.drew (h : Rw t sz w g c cs) : Rw t sz w.drew g c cs := h
theorem Rw.keep (h : Rw t sz w g c cs) (hb : w'.heap[g]? = w.heap[g]?) : Rw t sz w' g c cs := by obtain ⟨cur, h1, h2⟩ := h; exact ⟨cur, hb.trans h1, h2⟩
theorem Rw.take (h : Rw t sz w g c cs) (k : Nat) : Rw t sz w g c (cs.take k) := by
  obtain ⟨cur, h1, h2, h3, h4⟩ := h
  refine ⟨cur, h1, h2, by simp; omega, ?_⟩
  rw [List.length_take, ← List.take_take, h4, List.take_eq_take_iff]

/-- a heap at block B (its type T, its first F) whose list is the row g: n elements, with room for c, that are the cells cs -/
structure In (T : TypeId) (F : Value) (t : TypeId) (sz : Nat) (w : World) (B g n c : Nat) (cs : List Value) : Prop where
  blk : w.heap[B]? = some (.cells #[F, .slice (some ⟨g, 0, none⟩) n c] T (0, 0))
  row : Rw t sz w g c cs
  len : cs.length = n * sz
  nc : n ≤ c
  cm : c ≤ maxLen
  ne : B ≠ g
theorem In.f (h : In T F t sz w B g n c cs) : w.cell? ⟨B, 0, none⟩ = some F := by rw [cell_of_row _ _ _ _ _ _ h.blk]; rfl
theorem In.l (h : In T F t sz w B g n c cs) : w.cell? ⟨B, 1, none⟩ = some (.slice (some ⟨g, 0, none⟩) n c) := by rw [cell_of_row _ _ _ _ _ _ h.blk]; rfl
theorem In.frozen (h : In T F t sz w B g n c cs) (k : Nat) : w.frozen? ⟨B, k, none⟩ = false := frozen_of_row _ _ _ _ _ h.blk
theorem In.lt (h : In T F t sz w B g n c cs) : B < w.heap.size := lt_of_block h.blk
theorem In.below (h : In T F t sz w B g n c cs) (hb : Below w.heap.size w w') : In T F t sz w' B g n c cs :=
  ⟨(hb.block B h.lt).trans h.blk, h.row.keep (hb.block g h.row.lt), h.len, h.nc, h.cm, h.ne⟩
theorem In.drew (h : In T F t sz w B g n c cs) : In T F t sz w.drew B g n c cs := ⟨h.blk, h.row, h.len, h.nc, h.cm, h.ne⟩
theorem In.drewN (h : In T F t sz w B g n c cs) (d : Nat) : In T F t sz (w.drewN d) B g n c cs := by
  induction d with
  | zero => exact h
  | succ d ih => exact ih.drew
theorem In.set (h : In T F t sz w B g n c cs) (i : Nat) (v : Value) : In T F t sz (w.setCell ⟨g, i, none⟩ v) B g n c (cs.set i v) :=
  ⟨(Below.heap_setCell _ _ _ _ h.ne).trans h.blk, h.row.set i v, by simpa using h.len, h.nc, h.cm, h.ne⟩
/-- the list is cut shorter -/
theorem In.short (h : In T F t sz w B g n c cs) {m : Nat} (hm : m ≤ n) (u : Value) (hu : u = .slice (some ⟨g, 0, none⟩) m c) : In T F t sz (w.setCell ⟨B, 1, none⟩ u) B g m c (cs.take (m * sz)) := by
  subst hu
  have hg : g ≠ B := fun e => h.ne e.symm
  refine ⟨by rw [heap_setCell_same _ _ _ _ _ _ h.blk]; rfl, (h.row.take _).keep (Below.heap_setCell _ _ _ _ hg), ?_, Nat.le_trans hm h.nc, h.cm, h.ne⟩
  rw [List.length_take, h.len]
  exact Nat.min_eq_left (Nat.mul_le_mul_right _ hm)

/-- all but the blocks of S is as it was -/
structure Kept (S : Nat → Prop) (w w' : World) : Prop where
  os : w'.os = w.os
  tape : w'.tape = w.tape
  output : w'.output = w.output
  size : w.heap.size ≤ w'.heap.size
  block : ∀ k, k < w.heap.size → ¬ S k → w'.heap[k]? = w.heap[k]?
variable {S S' : Nat → Prop} {a b : World}
theorem Kept.refl (S : Nat → Prop) (w : World) : Kept S w w := ⟨rfl, rfl, rfl, Nat.le_refl _, fun _ _ _ => rfl⟩
theorem Kept.trans (h : Kept S a b) (k : Kept S' b w) (hS : ∀ k, S' k → S k ∨ a.heap.size ≤ k) : Kept S a w :=
  ⟨k.os.trans h.os, k.tape.trans h.tape, k.output.trans h.output, Nat.le_trans h.size k.size, fun i hi hg => (k.block i (Nat.lt_of_lt_of_le hi h.size) (fun e => by rcases hS i e with q | q; exact hg q; omega)).trans (h.block i hi hg)⟩
theorem Kept.of_below (h : Below w.heap.size w w') : Kept S w w' := ⟨h.os, h.tape, h.output, h.size, fun k hk _ => h.block k hk⟩
theorem Kept.below (h : Kept S a b) (k : Below b.heap.size b w) : Kept S a w := h.trans (Kept.of_below (S := S) k) fun _ h => .inl h
theorem Kept.but (h : Kept S a b) (k : But g b w) (hg : S g ∨ a.heap.size ≤ g) : Kept S a w :=
  h.trans (S' := fun i => i = g) ⟨k.os, k.tape, k.output, k.size, fun i hi hne => k.block i hi hne⟩ fun i e => by subst e; exact hg
theorem Kept.setCell (h : Kept S a w) {o : Nat} {v : Value} (hg : S g ∨ a.heap.size ≤ g) : Kept S a (w.setCell ⟨g, o, none⟩ v) := h.but ((But.refl g w).setCell o v) hg
theorem Kept.drew (h : Kept S a w) : Kept S a w.drew := ⟨h.os, h.tape, h.output, h.size, h.block⟩
theorem Kept.drewN (h : Kept S a w) (d : Nat) : Kept S a (w.drewN d) := by
  induction d with
  | zero => exact h
  | succ d ih => exact ih.drew
/-- what is new is none of the old -/
theorem Kept.old {B0 : Nat} (h : Kept S a w) (hB : B0 ≤ a.heap.size) (hS : ∀ k, S k → B0 ≤ k) : Below B0 a w :=
  ⟨h.os, h.tape, h.output, h.size, fun k hk => h.block k (by omega) (fun e => by have := hS k e; omega)⟩
theorem Kept.grown {row : Option Nat} (h : Kept S a b) (k : b.grownBy w row) (hr : ∀ i, row = some i → S i ∨ a.heap.size ≤ i) : Kept S a w :=
  h.trans (S' := fun i => some i = row) ⟨k.os, k.tape, k.output, k.size, fun i hi hne => k.block i hi hne⟩ fun i e => hr i e.symm

/-- a heap at block B, all of it within the blocks of S, its cells cs (n elements) -/
def Hd (T : TypeId) (F : Value) (t : TypeId) (sz : Nat) (w : World) (S : Nat → Prop) (B n : Nat) (cs : List Value) : Prop :=
  S B ∧ (∀ k, S k → k < w.heap.size) ∧
  ((cs = [] ∧ n = 0 ∧ w.heap[B]? = some (.cells #[F, .slice none 0 0] T (0, 0))) ∨ ∃ g c, S g ∧ In T F t sz w B g n c cs)
theorem Hd.lt (h : Hd T F t sz w S B n cs) : B < w.heap.size := h.2.1 B h.1
theorem Hd.keep (h : Hd T F t sz w S B n cs) (hs : w.heap.size ≤ w'.heap.size) (hk : ∀ k, S k → w'.heap[k]? = w.heap[k]?) : Hd T F t sz w' S B n cs := by
  refine ⟨h.1, fun k hS => Nat.lt_of_lt_of_le (h.2.1 k hS) hs, ?_⟩
  rcases h.2.2 with ⟨h1, h2, h3⟩ | ⟨g, c, hg, hi⟩
  · exact .inl ⟨h1, h2, (hk B h.1).trans h3⟩
  · exact .inr ⟨g, c, hg, (hk B h.1).trans hi.blk, hi.row.keep (hk g hg), hi.len, hi.nc, hi.cm, hi.ne⟩
theorem Hd.below (h : Hd T F t sz w S B n cs) (hb : Below w.heap.size w w') : Hd T F t sz w' S B n cs := h.keep hb.size fun k hS => hb.block k (h.2.1 k hS)
theorem Hd.drew (h : Hd T F t sz w S B n cs) : Hd T F t sz w.drew S B n cs := h.keep (Nat.le_refl _) fun _ _ => rfl
theorem Hd.other (h : Hd T F t sz w S B n cs) (hb : Kept S' w w') (ho : ∀ k, S k → ¬ S' k) : Hd T F t sz w' S B n cs := h.keep hb.size fun k hS => hb.block k (h.2.1 k hS) (ho k hS)
/-- its list, as it lies in its cell -/
theorem Hd.list (h : Hd T F t sz w S B n cs) : ∃ A c, w.heap[B]? = some (.cells #[F, .slice A n c] T (0, 0)) ∧ w.cell? ⟨B, 1, none⟩ = some (.slice A n c) ∧ w.frozen? ⟨B, 1, none⟩ = false ∧ cs.length = n * sz ∧ w.ownsRow 0 t sz (.slice A n c) n cs ∧ (∀ k, (Value.slice A n c).ownBlock = some k → S k ∧ k ≠ B) ∧ ((A = none ∧ n = 0 ∧ c = 0 ∧ cs = []) ∨ ∃ g, A = some ⟨g, 0, none⟩ ∧ S g ∧ In T F t sz w B g n c cs) := by
  rcases h.2.2 with ⟨rfl, rfl, h3⟩ | ⟨g, c, hg, hi⟩
  · exact ⟨none, 0, h3, by rw [cell_of_row _ _ _ _ _ _ h3]; rfl, frozen_of_row _ _ _ _ _ h3, by simp, World.ownsRow_nil _ _ _ _, fun k hk => by simp [Value.ownBlock] at hk, .inl ⟨rfl, rfl, rfl, rfl⟩⟩
  · refine ⟨some ⟨g, 0, none⟩, c, hi.blk, hi.l, hi.frozen 1, hi.len, ?_, fun k hk => ?_, .inr ⟨g, rfl, hg, hi⟩⟩
    · obtain ⟨cur, h1, h2, h3, h4⟩ := hi.row
      exact ⟨hi.len, .inr ⟨g, c, cur, rfl, Nat.zero_le _, h1, hi.nc, hi.cm, h2, by rw [← hi.len]; exact h4⟩⟩
    · have e : g = k := by simpa [Value.ownBlock] using hk
      subst e
      exact ⟨hg, fun e => hi.ne e.symm⟩
/-- a list of one's own becomes a heap's -/
theorem In.of_own {base : Nat} (hB : w.heap[B]? = some (.cells #[F, .slice (some ⟨g, 0, none⟩) n c] T (0, 0))) (ho : w.ownsRow base t sz (.slice (some ⟨g, 0, none⟩) n c) n cs) (hg : B ≠ g) : In T F t sz w B g n c cs := by
  obtain ⟨h1, h2⟩ := ho
  rcases h2 with ⟨h, _⟩ | ⟨g', cap, cur, hv, _, hb, hn, hm, hs, ht⟩
  · cases h
  · injection hv with e1 _ e3
    injection e1 with e1
    injection e1 with e1
    subst e1
    subst e3
    exact ⟨hB, ⟨cur, hb, hs, by rw [h1]; exact Nat.mul_le_mul_right _ hn, by rw [h1]; exact ht⟩, h1, hn, hm, hg⟩
end
/-- clear of a slice of one element -/
theorem clear_one {P : Program} (w : World) (t e ty : TypeId) (z : Value) (cs : List Value) (ht : P.underlying t = some (.slice e)) (hv : ∀ w, (zeroValue e).run P w = .ok z w) (hz : (Builtin.zeroCells z.cells 1).toList = cs) (h1 : ∀ v ∈ cs, v.oneCell' = true) (b o c k : Nat) (hk : k = 1)
    (hc : ∀ j, j < cs.length → (w.cell? ⟨b, o + j, none⟩).isSome = true) (hf : ∀ j, j < cs.length → w.frozen? ⟨b, o + j, none⟩ = false) :
    (Builtin.clear_ #[t] ty #[.slice (some ⟨b, o, none⟩) k c]).run P w = .ok (.tuple #[]) (w.setCells b o cs) := by
  subst hk
  have hst := run_storeCells_cells (P := P) b o cs 0 w (by simpa using hc) (by simpa using hf) h1
  simp only [Nat.add_zero] at hst
  simp [Builtin.clear_, run_underlying ht, hv, hz, hst]
/-- what an append to a heap's list comes to, ahead of the store -/
theorem pushed {T t : TypeId} {F : Value} {sz : Nat} {w W0 W2 : World} {S : Nat → Prop} {B n c g' cap' : Nat} {A : Option Addr} {cs : List Value} {nw : Obj}
    (h : Hd T F t sz w S B n cs) (hb : w.heap[B]? = some (.cells #[F, .slice A n c] T (0, 0))) (hS : ∀ k, (Value.slice A n c).ownBlock = some k → S k ∧ k ≠ B)
    (hW : W0 = w.alloc nw) (hg : W0.grownBy W2 (Value.slice A n c).ownBlock) (hl : (Value.slice A n c).ownBlock = some g' ∨ g' = W0.heap.size) {cs' : List Value} {n' : Nat} (ho : W2.ownsRow 0 t sz (.slice (some ⟨g', 0, none⟩) n' cap') n' cs') :
    W2.heap[B]? = some (.cells #[F, .slice A n c] T (0, 0)) ∧ Kept S w (W2.setCell ⟨B, 1, none⟩ (.slice (some ⟨g', 0, none⟩) n' cap')) ∧ (S g' ∨ w.heap.size ≤ g') ∧
    In T F t sz (W2.setCell ⟨B, 1, none⟩ (.slice (some ⟨g', 0, none⟩) n' cap')) B g' n' cap' cs' := by
  have hs0 : W0.heap.size = w.heap.size + 1 := by rw [hW]; simp
  have hBlt := h.lt
  have hB0 : W0.heap[B]? = some (.cells #[F, .slice A n c] T (0, 0)) := by rw [hW, Below.heap_alloc _ _ _ hBlt]; exact hb
  have hB2 : W2.heap[B]? = some (.cells #[F, .slice A n c] T (0, 0)) := by
    rw [hg.block B (by omega) (fun e => (hS B e.symm).2 rfl)]
    exact hB0
  have hg' : S g' ∨ w.heap.size ≤ g' := by
    rcases hl with e | e
    · exact .inl (hS g' e).1
    · exact .inr (by omega)
  have hne : B ≠ g' := by
    rcases hl with e | e
    · exact fun q => (hS g' e).2 q.symm
    · omega
  have k0 : Kept S w W0 := by rw [hW]; exact Kept.of_below ((Below.refl _ w).alloc (Nat.le_refl _) _)
  have k2 : Kept S w W2 := k0.grown hg fun i e => .inl (hS i e).1
  refine ⟨hB2, k2.setCell (.inl h.1), hg', In.of_own (base := 0) (by rw [heap_setCell_same _ _ _ _ _ _ hB2]; rfl) ?_ hne⟩
  refine ho.kept (row := some B) ⟨rfl, rfl, rfl, by simp [World.setCell], fun k _ hk => Below.heap_setCell _ _ _ _ (fun e => hk (by rw [e]))⟩ (.inr (by simp [Value.ownBlock]; exact fun e => hne e.symm))

end Go.Proofs.Ytecdgpacofojeaa
