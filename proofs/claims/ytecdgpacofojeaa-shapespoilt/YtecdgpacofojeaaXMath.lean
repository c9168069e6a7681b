/-
  Layer 14 (shape): plain facts: which lists of nodes are a tree, by the document's own recursion, and by what is left to be told.
-/
import Derived.Test.YtecdgpacofojeaaPMath
namespace Go.Proofs.Ytecdgpacofojeaa
open Go.RowKit

namespace Xm
/-- a node as it may be handed in -/
structure Nd where
  leaf : Bool
  ids : List Int
  pn : List Int
  po : Int
  lt : Int
  rt : Int
instance : Inhabited Nd := ⟨⟨false, [], [], 0, 0, 0⟩⟩
/-- a leaf is as it should be -/
def lfOk (x : Nd) : Bool := decide (x.lt = 0 ∧ x.rt = 0 ∧ x.po = 0 ∧ x.pn = [])
/-- a split is, but for its right child -/
def spOk (d : Int) (p : Nat) (x : Nd) : Bool := decide (x.ids = [] ∧ Pm.chk x.pn x.po d = 0 ∧ x.lt = (p : Int) + 1)
/-- the tree that begins at a place, with so many depths left: its nodes' depths, and the place behind it -/
def tree (T : List Nd) (d : Int) : Nat → Nat → Option (List Nat × Nat)
  | 0, _ => none
  | r + 1, p =>
    match T[p]? with
    | none => none
    | some x =>
      if x.leaf = true then (if lfOk x = true then some ([64 - r], p + 1) else none)
      else if spOk d p x = true then
        (tree T d r (p + 1)).bind fun a => if x.rt = (a.2 : Int) then (tree T d r a.2).bind fun b => some ((64 - r) :: (a.1 ++ b.1), b.2) else none
      else none
/-- the same, told as a relation -/
inductive Is (T : List Nd) (d : Int) : Nat → Nat → List Nat → Nat → Prop
  | leaf {r p : Nat} {x : Nd} (h : T[p]? = some x) (hl : x.leaf = true) (ho : lfOk x = true) : Is T d (r + 1) p [64 - r] (p + 1)
  | node {r p m e : Nat} {x : Nd} {a b : List Nat} (h : T[p]? = some x) (hl : x.leaf = false) (ho : spOk d p x = true) (ha : Is T d r (p + 1) a m) (hr : x.rt = (m : Int)) (hb : Is T d r m b e) : Is T d (r + 1) p ((64 - r) :: (a ++ b)) e
/-- a right child stands where its split says -/
def rtOk (T : List Nd) : Option Nat → Nat → Bool
  | none, _ => true
  | some j, p => decide (T[j]?.map (·.rt) = some (p : Int))
/-- what is left: right children that wait, each with whose it is, and the depths that it has left -/
def run (T : List Nd) (d : Int) : List (Option Nat × Nat) → Nat → Option (List Nat × Nat)
  | [], p => some ([], p)
  | (q, r) :: S, p => if rtOk T q p = true then (tree T d r p).bind fun a => (run T d S a.2).bind fun b => some (a.1 ++ b.1, b.2) else none
section
variable {T T' : List Nd} {d : Int} {r p m e : Nat} {x : Nd} {v : List Nat} {q : Option Nat} {S : List (Option Nat × Nat)}
theorem tree_end (h : T.length ≤ p) : tree T d r p = none := by
  cases r with
  | zero => rfl
  | succ r => rw [tree, List.getElem?_eq_none h]
theorem tree_leaf (h : T[p]? = some x) (hl : x.leaf = true) : tree T d (r + 1) p = if lfOk x = true then some ([64 - r], p + 1) else none := by
  rw [tree, h]; dsimp only; rw [if_pos hl]
theorem tree_node (h : T[p]? = some x) (hl : x.leaf = false) : tree T d (r + 1) p = if spOk d p x = true then
    (tree T d r (p + 1)).bind fun a => if x.rt = (a.2 : Int) then (tree T d r a.2).bind fun b => some ((64 - r) :: (a.1 ++ b.1), b.2) else none else none := by
  rw [tree, h]; dsimp only; rw [if_neg (by rw [hl]; simp)]
theorem is_tree (h : Is T d r p v m) : tree T d r p = some (v, m) := by
  induction h with
  | leaf h hl ho => rw [tree_leaf h hl, if_pos ho]
  | node h hl ho ha hr hb iha ihb => rw [tree_node h hl, if_pos ho, iha]; simp [hr, ihb]
theorem tree_is : ∀ {r p : Nat} {v : List Nat} {m : Nat}, tree T d r p = some (v, m) → Is T d r p v m := by
  intro r
  induction r with
  | zero => intro p v m h; cases h
  | succ r ih =>
    intro p v m h
    cases hx : T[p]? with
    | none => rw [tree, hx] at h; cases h
    | some x =>
      cases hl : x.leaf with
      | true =>
        rw [tree_leaf hx hl] at h
        by_cases ho : lfOk x = true
        · rw [if_pos ho] at h; injection h with h; injection h with h1 h2; subst h1; subst h2; exact .leaf hx hl ho
        · rw [if_neg ho] at h; cases h
      | false =>
        rw [tree_node hx hl] at h
        by_cases ho : spOk d p x = true
        · rw [if_pos ho] at h
          cases ha : tree T d r (p + 1) with
          | none => rw [ha] at h; cases h
          | some a =>
            rw [ha, Option.bind_some] at h
            by_cases hr : x.rt = (a.2 : Int)
            · rw [if_pos hr] at h
              cases hb : tree T d r a.2 with
              | none => rw [hb] at h; cases h
              | some b =>
                rw [hb, Option.bind_some] at h
                injection h with h; injection h with h1 h2; subst h1; subst h2
                exact .node hx hl ho (ih ha) hr (ih hb)
            · rw [if_neg hr] at h; cases h
        · rw [if_neg ho] at h; cases h
theorem Is.len (h : Is T d r p v m) : m = p + v.length ∧ 1 ≤ v.length ∧ m ≤ T.length := by
  induction h with
  | leaf h hl ho => have := (List.getElem?_eq_some_iff.1 h).1; simp; omega
  | node h hl ho ha hr hb iha ihb => simp; omega
theorem Is.head (h : Is T d r p v m) : 1 ≤ r ∧ v.head? = some (65 - r) ∧ ∀ y ∈ v.tail, 65 - r < y ∨ 65 ≤ r := by
  induction h with
  | leaf h hl ho => exact ⟨by omega, by simp, by simp⟩
  | @node r p m e x a b h hl ho ha hr hb iha ihb =>
    refine ⟨by omega, by simp, fun y hy => ?_⟩
    have one : ∀ {u : List Nat}, (1 ≤ r ∧ u.head? = some (65 - r) ∧ ∀ y ∈ u.tail, 65 - r < y ∨ 65 ≤ r) → y ∈ u → 65 - (r + 1) < y ∨ 65 ≤ r + 1 := by
      intro u hu hy
      cases u with
      | nil => cases hy
      | cons z u =>
        obtain ⟨h1, h2, h3⟩ := hu
        simp only [List.head?_cons] at h2
        injection h2 with h2
        rcases List.mem_cons.1 hy with rfl | hy
        · omega
        · have := h3 y hy; omega
    rcases List.mem_append.1 hy with hy | hy
    · exact one iha hy
    · exact one ihb hy
theorem Is.loc (h : Is T d r p v m) : ∀ i, p ≤ i → i < m → ∃ x, T[i]? = some x ∧ (x.leaf = true → lfOk x = true) ∧ (x.leaf = false → spOk d i x = true) := by
  induction h with
  | @leaf r p x h hl ho =>
    intro i h1 h2
    obtain rfl : i = p := by omega
    exact ⟨x, h, fun _ => ho, (fun h => by rw [hl] at h; cases h)⟩
  | @node r p m e x a b h hl ho ha hr hb iha ihb =>
    intro i h1 h2
    rcases Nat.lt_or_ge p i with h3 | h3
    · rcases Nat.lt_or_ge i m with h4 | h4
      · exact iha i (by omega) h4
      · exact ihb i h4 h2
    · obtain rfl : i = p := by omega
      exact ⟨x, h, (fun h => by rw [hl] at h; cases h), fun _ => ho⟩
theorem Is.mono (h : Is T d r p v m) (hT : ∀ (i : Nat) (x : Nd), T[i]? = some x → T'[i]? = some x) : Is T' d r p v m := by
  induction h with
  | leaf h hl ho => exact .leaf (hT _ _ h) hl ho
  | node h hl ho ha hr hb iha ihb => exact .node (hT _ _ h) hl ho iha hr ihb
/-- a tree's form hangs on which nodes are leaves alone -/
theorem Is.form (h : Is T d r p v m) : ∀ {v' : List Nat} {m' : Nat} {d' : Int}, Is T' d' r p v' m' → (∀ (i : Nat) (x x' : Nd), p ≤ i → i < m → T[i]? = some x → T'[i]? = some x' → x.leaf = x'.leaf) →
    m = m' ∧ ∀ (i : Nat) (x x' : Nd), p ≤ i → i < m → T[i]? = some x → T'[i]? = some x' → x.leaf = false → x.rt = x'.rt := by
  induction h with
  | @leaf r p x h hl ho =>
    intro v' m' d' h' hf
    cases h' with
    | leaf g gl go =>
      refine ⟨rfl, fun i y y' h1 h2 hy hy' hl' => ?_⟩
      obtain rfl : i = p := by omega
      rw [h] at hy; injection hy with hy; subst hy; rw [hl] at hl'; cases hl'
    | node g gl go ga gr gb => have := hf p _ _ (Nat.le_refl _) (by omega) h g; rw [hl, gl] at this; cases this
  | @node r p m e x a b h hl ho ha hr hb iha ihb =>
    intro v' m' d' h' hf
    have la := ha.len
    have lb := hb.len
    cases h' with
    | leaf g gl go => have := hf p _ _ (Nat.le_refl _) (by omega) h g; rw [hl, gl] at this; cases this
    | @node _ _ m2 _ x' a' b' g gl go ga gr gb =>
      obtain ⟨h1, h2⟩ := iha ga fun i y y' i1 i2 => hf i y y' (by omega) (by omega)
      subst h1
      obtain ⟨h3, h4⟩ := ihb gb fun i y y' i1 i2 => hf i y y' (by omega) (by omega)
      subst h3
      refine ⟨rfl, fun i y y' i1 i2 hy hy' hl' => ?_⟩
      rcases Nat.lt_or_ge p i with h5 | h5
      · rcases Nat.lt_or_ge i m with h6 | h6
        · exact h2 i y y' (by omega) h6 hy hy' hl'
        · exact h4 i y y' h6 i2 hy hy' hl'
      · obtain rfl : i = p := by omega
        rw [h] at hy; injection hy with hy; subst hy
        rw [g] at hy'; injection hy' with hy'; subst hy'
        rw [hr, gr]
/-- the nodes from a place on, up to another one -/
def seg (T : List Nd) (p m : Nat) : List Nd := (T.take m).drop p
theorem seg_cons (h : T[p]? = some x) (hm : p < m) : seg T p m = x :: seg T (p + 1) m := by
  unfold seg
  have hp := (List.getElem?_eq_some_iff.1 h)
  obtain ⟨hp, rfl⟩ := hp
  rw [List.drop_eq_getElem_cons (by rw [List.length_take]; omega)]
  simp
theorem seg_append (h1 : p ≤ m) (h2 : m ≤ e) (h3 : e ≤ T.length) : seg T p e = seg T p m ++ seg T m e := by
  unfold seg
  have : T.take e = T.take m ++ (T.take e).drop m := by
    conv => lhs; rw [← List.take_append_drop m (T.take e)]
    rw [List.take_take, Nat.min_eq_left h2]
  conv => lhs; rw [this]
  rw [List.drop_append_of_le_length (by rw [List.length_take]; omega)]
theorem seg_all : seg T 0 T.length = T := by unfold seg; simp
/-- how many leaves -/
def leaves (T : List Nd) : Nat := (T.filter (·.leaf)).length
theorem leaves_cons (t : Nd) (T : List Nd) : leaves (t :: T) = (if t.leaf = true then 1 else 0) + leaves T := by
  unfold leaves; rw [List.filter_cons]; split <;> simp; omega
theorem leaves_append (A B : List Nd) : leaves (A ++ B) = leaves A + leaves B := by unfold leaves; rw [List.filter_append, List.length_append]
theorem Is.twice (h : Is T d r p v m) : v.length + 1 = 2 * leaves (seg T p m) := by
  induction h with
  | @leaf r p x h hl ho =>
    rw [seg_cons h (by omega), leaves_cons, if_pos hl, show seg T (p + 1) (p + 1) = [] from by unfold seg; simp]; rfl
  | @node r p m e x a b h hl ho ha hr hb iha ihb =>
    have la := ha.len
    have lb := hb.len
    rw [seg_cons h (by omega), seg_append (m := m) (by omega) (by omega) (by omega), leaves_cons, leaves_append, if_neg (by rw [hl]; simp)]
    simp; omega
/-- the ids of all leaves -/
def lists (T : List Nd) : List (List Int) := (T.filter (·.leaf)).map (·.ids)
theorem lists_length (T : List Nd) : (lists T).length = leaves T := by unfold lists leaves; rw [List.length_map]
/-- the list is a tree, of these depths -/
def whole (T : List Nd) (d : Int) (v : List Nat) : Prop := Is T d 65 0 v T.length
theorem run_one : run T d [(none, r)] p = tree T d r p := by
  rw [run, if_pos (show rtOk T none p = true from rfl)]
  cases h : tree T d r p with
  | none => rfl
  | some a => simp [run]
theorem run_zero : run T d ((q, 0) :: S) p = none := by rw [run]; simp [tree]
theorem run_end (h : T.length ≤ p) : run T d ((q, r) :: S) p = none := by rw [run, tree_end h]; simp
theorem run_leaf (h : T[p]? = some x) (hl : x.leaf = true) : run T d ((q, r + 1) :: S) p = if rtOk T q p = true ∧ lfOk x = true then (run T d S (p + 1)).map (fun b => ((64 - r) :: b.1, b.2)) else none := by
  rw [run, tree_leaf h hl]
  by_cases h1 : rtOk T q p = true
  · by_cases h2 : lfOk x = true
    · rw [if_pos h1, if_pos h2, if_pos ⟨h1, h2⟩, Option.bind_some]
      cases run T d S (p + 1) <;> simp
    · rw [if_pos h1, if_neg h2, if_neg (fun h => h2 h.2)]; rfl
  · rw [if_neg h1, if_neg (fun h => h1 h.1)]
theorem run_node (h : T[p]? = some x) (hl : x.leaf = false) : run T d ((q, r + 1) :: S) p = if rtOk T q p = true ∧ spOk d p x = true then (run T d ((none, r) :: (some p, r) :: S) (p + 1)).map (fun b => ((64 - r) :: b.1, b.2)) else none := by
  rw [run, tree_node h hl]
  by_cases h1 : rtOk T q p = true
  · by_cases h2 : spOk d p x = true
    · rw [if_pos h1, if_pos h2, if_pos ⟨h1, h2⟩, run, if_pos (show rtOk T none (p + 1) = true from rfl)]
      cases ha : tree T d r (p + 1) with
      | none => rfl
      | some a =>
        rw [Option.bind_some, Option.bind_some, run]
        by_cases h3 : x.rt = (a.2 : Int)
        · have h4 : rtOk T (some p) a.2 = true := by show decide (T[p]?.map (·.rt) = some (a.2 : Int)) = true; rw [h]; simp [h3]
          rw [if_pos h3, if_pos h4]
          cases hb : tree T d r a.2 with
          | none => rfl
          | some b =>
            rw [Option.bind_some, Option.bind_some, Option.bind_some]
            cases run T d S b.2 <;> simp
        · have h4 : ¬ rtOk T (some p) a.2 = true := by show ¬ decide (T[p]?.map (·.rt) = some (a.2 : Int)) = true; rw [h]; simpa using h3
          rw [if_neg h3, if_neg h4]; rfl
    · rw [if_pos h1, if_neg h2, if_neg (fun h => h2 h.2)]; rfl
  · rw [if_neg h1, if_neg (fun h => h1 h.1)]
end
end Xm
end Go.Proofs.Ytecdgpacofojeaa
