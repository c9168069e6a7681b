/-
  Layer 14 (shape): plain facts: trees that may go down however deep, and how two stacks tell them: of what must stand behind each leaf, and of depths.
-/
import Derived.Test.YtecdgpacofojeaaXTree
import Derived.Test.YtecdgpacofojeaaXVis
namespace Go.Proofs.Ytecdgpacofojeaa
open Go.RowKit

namespace Xm
/-- a tree, its depths counted from so deep on, however deep it goes -/
inductive Shp (T : List Nd) (d : Int) : Nat → Nat → List Nat → Nat → Prop
  | leaf {k p : Nat} {x : Nd} (h : T[p]? = some x) (hl : x.leaf = true) (ho : lfOk x = true) : Shp T d k p [k] (p + 1)
  | node {k p m e : Nat} {x : Nd} {a b : List Nat} (h : T[p]? = some x) (hl : x.leaf = false) (ho : spOk d p x = true) (ha : Shp T d (k + 1) (p + 1) a m) (hr : x.rt = (m : Int)) (hb : Shp T d (k + 1) m b e) : Shp T d k p (k :: (a ++ b)) e
/-- what is still to be told: a tree for each depth that waits -/
inductive Rem (T : List Nd) (d : Int) : List Nat → Nat → List Nat → Prop
  | nil : Rem T d [] T.length []
  | cons {k p m : Nat} {S a b : List Nat} (h : Shp T d k p a m) (hs : Rem T d S m b) : Rem T d (k :: S) p (a ++ b)
/-- is a node as it should be at its place, but for its right child? -/
def lcl (d : Int) (p : Nat) (x : Nd) : Bool := if x.leaf = true then lfOk x else spOk d p x
/-- behind each leaf is what was last told to stand there -/
def lnk : Nat → List Nd → List Int → Bool
  | _, [], S => S.isEmpty
  | p, x :: X, S => if x.leaf = true then (match S with | [] => false | s :: S' => if s = (p : Int) + 1 then lnk (p + 1) X S' else false) else lnk (p + 1) X (x.rt :: S)
section
variable {T : List Nd} {d : Int} {k r p m e : Nat} {x : Nd} {v a b S : List Nat}
theorem Shp.len (h : Shp T d k p v m) : m = p + v.length ∧ 1 ≤ v.length ∧ m ≤ T.length := by
  induction h with
  | leaf h hl ho => have := (List.getElem?_eq_some_iff.1 h).1; simp; omega
  | node h hl ho ha hr hb iha ihb => simp; omega
theorem Is.shp (h : Is T d r p v m) : ∀ k, r + k = 65 → Shp T d k p v m := by
  induction h with
  | @leaf r p x h hl ho =>
    intro k hk
    rw [show 64 - r = k from by omega]
    exact .leaf h hl ho
  | @node r p m e x a b h hl ho ha hr hb iha ihb =>
    intro k hk
    rw [show 64 - r = k from by omega]
    exact .node h hl ho (iha (k + 1) (by omega)) hr (ihb (k + 1) (by omega))
theorem Shp.is (h : Shp T d k p v m) : ∀ r, r + k = 65 → (∀ y ∈ v, y ≤ 64) → Is T d r p v m := by
  induction h with
  | @leaf k p x h hl ho =>
    intro r hk hv
    have h1 := hv k (.head _)
    obtain ⟨r', rfl⟩ : ∃ r', r = r' + 1 := ⟨r - 1, by omega⟩
    have e : k = 64 - r' := by omega
    subst e
    exact .leaf h hl ho
  | @node k p m e x a b h hl ho ha hr hb iha ihb =>
    intro r hk hv
    have h1 := hv k (.head _)
    obtain ⟨r', rfl⟩ : ∃ r', r = r' + 1 := ⟨r - 1, by omega⟩
    have i1 := iha r' (by omega) fun y hy => hv y (.tail _ (List.mem_append_left _ hy))
    have i2 := ihb r' (by omega) fun y hy => hv y (.tail _ (List.mem_append_right _ hy))
    have e : k = 64 - r' := by omega
    subst e
    exact .node h hl ho i1 hr i2
theorem Shp.bound (h : Shp T d k p v m) : ∀ y ∈ v, y < k + v.length := by
  induction h with
  | leaf h hl ho => intro y hy; simp at hy; subst hy; simp
  | @node k p m e x a b h hl ho ha hr hb iha ihb =>
    intro y hy
    simp only [List.length_cons, List.length_append]
    rcases List.mem_cons.1 hy with rfl | hy
    · omega
    · rcases List.mem_append.1 hy with hy | hy
      · have := iha y hy; omega
      · have := ihb y hy; omega
theorem Shp.loc (h : Shp T d k p v m) : ∀ i, p ≤ i → i < m → ∃ x, T[i]? = some x ∧ lcl d i x = true := by
  induction h with
  | @leaf k p x h hl ho =>
    intro i h1 h2
    obtain rfl : i = p := by omega
    exact ⟨x, h, by unfold lcl; rw [if_pos hl]; exact ho⟩
  | @node k p m e x a b h hl ho ha hr hb iha ihb =>
    intro i h1 h2
    rcases Nat.lt_or_ge p i with h3 | h3
    · rcases Nat.lt_or_ge i m with h4 | h4
      · exact iha i (by omega) h4
      · exact ihb i h4 h2
    · obtain rfl : i = p := by omega
      exact ⟨x, h, by unfold lcl; rw [if_neg (by rw [hl]; simp)]; exact ho⟩
theorem drop_cons (h : T[p]? = some x) : T.drop p = x :: T.drop (p + 1) := by
  obtain ⟨h1, rfl⟩ := List.getElem?_eq_some_iff.1 h
  exact List.drop_eq_getElem_cons h1
theorem lnk_leaf (h : T[p]? = some x) (hl : x.leaf = true) (s : Int) (R : List Int) : lnk p (T.drop p) (s :: R) = if s = (p : Int) + 1 then lnk (p + 1) (T.drop (p + 1)) R else false := by
  rw [drop_cons h]; simp [lnk, hl]
theorem lnk_node (h : T[p]? = some x) (hl : x.leaf = false) (R : List Int) : lnk p (T.drop p) R = lnk (p + 1) (T.drop (p + 1)) (x.rt :: R) := by
  rw [drop_cons h]; simp [lnk, hl]
theorem lnk_end (h : T.length ≤ p) (R : List Int) : lnk p (T.drop p) R = R.isEmpty := by rw [List.drop_eq_nil_of_le h]; simp [lnk]
theorem Shp.lnk (h : Shp T d k p v m) : ∀ R : List Int, Xm.lnk p (T.drop p) ((m : Int) :: R) = Xm.lnk m (T.drop m) R := by
  induction h with
  | leaf h hl ho => intro R; rw [lnk_leaf h hl, if_pos (by omega)]
  | @node k p m e x a b h hl ho ha hr hb iha ihb => intro R; rw [lnk_node h hl, hr, iha, ihb]
theorem shp_of (hloc : ∀ (i : Nat) (x : Nd), T[i]? = some x → lcl d i x = true) : ∀ (N p k : Nat) (s : Int) (R : List Int), T.length - p ≤ N → lnk p (T.drop p) (s :: R) = true → ∃ v m, Shp T d k p v m ∧ s = (m : Int) ∧ lnk m (T.drop m) R = true := by
  intro N
  induction N with
  | zero =>
    intro p k s R hN h
    rw [lnk_end (by omega)] at h
    cases h
  | succ N ih =>
    intro p k s R hN h
    cases hx : T[p]? with
    | none => rw [lnk_end (by rw [List.getElem?_eq_none_iff] at hx; exact hx)] at h; cases h
    | some x =>
      have hc := hloc p x hx
      have hp := (List.getElem?_eq_some_iff.1 hx).1
      cases hl : x.leaf with
      | true =>
        rw [lnk_leaf hx hl] at h
        by_cases e : s = (p : Int) + 1
        · rw [if_pos e] at h
          exact ⟨[k], p + 1, .leaf hx hl (by unfold lcl at hc; rwa [if_pos hl] at hc), by omega, h⟩
        · rw [if_neg e] at h; cases h
      | false =>
        rw [lnk_node hx hl] at h
        obtain ⟨a, m, ha, hr, h1⟩ := ih (p + 1) (k + 1) x.rt (s :: R) (by omega) h
        have la := ha.len
        obtain ⟨b, e, hb, hs, h2⟩ := ih m (k + 1) s R (by omega) h1
        exact ⟨k :: (a ++ b), e, .node hx hl (by unfold lcl at hc; rwa [if_neg (by rw [hl]; simp)] at hc) ha hr hb, hs, h2⟩
/-- a list is a tree just if each node is as it should be, and behind each leaf stands what must -/
theorem shp_iff : ((∀ (i : Nat) (x : Nd), T[i]? = some x → lcl d i x = true) ∧ lnk 0 T [(T.length : Int)] = true) ↔ ∃ v, Shp T d 0 0 v T.length := by
  constructor
  · rintro ⟨h1, h2⟩
    obtain ⟨v, m, hv, e, -⟩ := shp_of h1 T.length 0 0 (T.length : Int) [] (by omega) (by simpa using h2)
    have : m = T.length := by omega
    subst this
    exact ⟨v, hv⟩
  · rintro ⟨v, hv⟩
    refine ⟨fun i x hx => ?_, ?_⟩
    · obtain ⟨y, hy, hc⟩ := hv.loc i (Nat.zero_le _) (List.getElem?_eq_some_iff.1 hx).1
      rw [hx] at hy
      injection hy with hy
      subst hy
      exact hc
    · have := hv.lnk []
      rw [lnk_end (Nat.le_refl _)] at this
      simpa using this
theorem Is.top (h : Is T d r p v m) : ∀ y ∈ v, y ≤ 64 := by
  induction h with
  | leaf h hl ho => intro y hy; simp at hy; omega
  | node h hl ho ha hr hb iha ihb =>
    intro y hy
    rcases List.mem_cons.1 hy with rfl | hy
    · omega
    · rcases List.mem_append.1 hy with hy | hy
      · exact iha y hy
      · exact ihb y hy
theorem isT_shp : isT T d = true ↔ ∃ v, Shp T d 0 0 v T.length ∧ ∀ y ∈ v, y ≤ 64 := by
  rw [isT_iff]
  constructor
  · rintro ⟨v, hv⟩
    refine ⟨v, hv.shp 0 rfl, fun y hy => ?_⟩
    exact hv.top y hy
  · rintro ⟨v, hv, hy⟩
    exact ⟨v, hv.is 65 rfl hy⟩
theorem Rem.len (h : Rem T d S p v) : T.length = p + v.length ∧ S.length ≤ v.length := by
  induction h with
  | nil => simp
  | cons h hs ih => have := h.len; simp; omega
theorem Rem.leaf (h : Rem T d (k :: S) p v) (hx : T[p]? = some x) (hl : x.leaf = true) : ∃ v', v = k :: v' ∧ Rem T d S (p + 1) v' := by
  cases h with
  | cons h hs =>
    cases h with
    | leaf h hl ho => exact ⟨_, rfl, hs⟩
    | node h hl' ho ha hr hb => rw [hx] at h; injection h with h; subst h; rw [hl] at hl'; cases hl'
theorem Rem.node (h : Rem T d (k :: S) p v) (hx : T[p]? = some x) (hl : x.leaf = false) : ∃ v', v = k :: v' ∧ Rem T d ((k + 1) :: (k + 1) :: S) (p + 1) v' := by
  cases h with
  | cons h hs =>
    cases h with
    | leaf h hl' ho => rw [hx] at h; injection h with h; subst h; rw [hl] at hl'; cases hl'
    | node h hl ho ha hr hb => exact ⟨_, by rw [List.cons_append, List.append_assoc], .cons ha (.cons hb hs)⟩
theorem Rem.all (h : Shp T d 0 0 v T.length) : Rem T d [0] 0 v := by simpa using Rem.cons h .nil
/-- at a place: what waits, the depth that is told there, and what waits behind it -/
theorem Rem.at_ (h : Rem T d S p (v.drop p)) (hx : T[p]? = some x) : ∃ k S', S = k :: S' ∧ v[p]? = some k ∧ (x.leaf = true → Rem T d S' (p + 1) (v.drop (p + 1))) ∧ (x.leaf = false → Rem T d ((k + 1) :: (k + 1) :: S') (p + 1) (v.drop (p + 1))) := by
  have hp := (List.getElem?_eq_some_iff.1 hx).1
  match S, h with
  | [], h =>
    have := h.len
    generalize hw : v.drop p = u at h this
    cases h
    simp at this hp
  | k :: S', h =>
    have key : ∀ {u : List Nat}, v.drop p = k :: u → v[p]? = some k ∧ u = v.drop (p + 1) := by
      intro u hu
      have h1 : (v.drop p)[0]? = some k := by rw [hu]; rfl
      rw [List.getElem?_drop] at h1
      refine ⟨h1, ?_⟩
      have h2 : (v.drop p).tail = u := by rw [hu]; rfl
      rw [← h2, List.tail_drop]
    cases hl : x.leaf with
    | true =>
      obtain ⟨u, hu, hr⟩ := h.leaf hx hl
      obtain ⟨k1, k2⟩ := key hu
      exact ⟨k, S', rfl, k1, fun _ => k2 ▸ hr, fun h => by cases h⟩
    | false =>
      obtain ⟨u, hu, hr⟩ := h.node hx hl
      obtain ⟨k1, k2⟩ := key hu
      exact ⟨k, S', rfl, k1, (fun h => by cases h), fun _ => k2 ▸ hr⟩
theorem Rem.over (h : Rem T d S p (v.drop p)) (hp : T.length ≤ p) : S = [] := by
  have := h.len
  rw [List.eq_nil_iff_length_eq_zero]
  omega
theorem most_snoc_take {v : List Nat} {k y : Nat} (h : v[k]? = some y) : most (v.take (k + 1)) = max (most (v.take k)) y := by
  rw [List.take_add_one, h]; exact most_snoc _ _
theorem most_ge {v : List Nat} {y : Nat} (h : y ∈ v) : y ≤ most v := by
  have : ∀ (v : List Nat) (a : Nat), (a ≤ v.foldl max a) ∧ ∀ y ∈ v, y ≤ v.foldl max a := by
    intro v
    induction v with
    | nil => intro a; exact ⟨Nat.le_refl _, fun y hy => by cases hy⟩
    | cons z v ih =>
      intro a
      have := ih (max a z)
      simp only [List.foldl_cons]
      refine ⟨by omega, fun y hy => ?_⟩
      rcases List.mem_cons.1 hy with rfl | hy
      · omega
      · exact this.2 y hy
  exact (this v 0).2 y h
theorem most_iff {v : List Nat} {c : Nat} : most v ≤ c ↔ ∀ y ∈ v, y ≤ c := ⟨fun h y hy => Nat.le_trans (most_ge hy) h, most_le⟩
end
end Xm
end Go.Proofs.Ytecdgpacofojeaa
