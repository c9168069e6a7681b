/-
  Layer 13 (grow): plain facts: a tree of ids, by the document's own recursion, and what it is.
-/
import Derived.Test.YtecdgpacofojeaaZChs
namespace Go.Proofs.Ytecdgpacofojeaa
open Go.RowKit

namespace Wm
/-- a node of a tree -/
structure Nd where
  leaf : Bool
  ids : List Int
  pn : List Int
  po : Int
  lt : Nat
  rt : Nat
/-- a leaf -/
def one (ids : List Int) : Nd := ⟨true, ids, [], 0, 0, 0⟩
/-- what is chosen of ids by draws -/
def lfF (L : List (List Int)) (ids : List Int) (f : Nat → Int) : List Int := Zm.lfOf L ids (refP f ids.length) (refQ f ids.length)
def rgF (L : List (List Int)) (ids : List Int) (f : Nat → Int) : List Int := Zm.rgOf L ids (refP f ids.length) (refQ f ids.length)
def pnF (L : List (List Int)) (ids : List Int) (f : Nat → Int) (d : Nat) : List Int := Zm.pnOf L ids (refP f ids.length) (refQ f ids.length) d
def poF (L : List (List Int)) (ids : List Int) (f : Nat → Int) : Int := Zm.poOf L ids (refP f ids.length) (refQ f ids.length)
def trF (L : List (List Int)) (ids : List Int) (f : Nat → Int) : Nat := Zm.tries L ids (refP f ids.length) (refQ f ids.length)
/-- the tree of ids with so many depths left, its nodes from a place on, and how many draws it took -/
def grow (L : List (List Int)) (d lim : Nat) : Nat → List Int → Nat → (Nat → Int) → List Nd × Nat
  | 0, ids, _, _ => ([one ids], 0)
  | r + 1, ids, p, f =>
    if ids.length ≤ lim then ([one ids], 0)
    else
      (⟨false, [], pnF L ids f d, poF L ids f, p + 1, p + 1 + (grow L d lim r (lfF L ids f) (p + 1) (Rm.dr f (2 * trF L ids f))).1.length⟩ ::
          ((grow L d lim r (lfF L ids f) (p + 1) (Rm.dr f (2 * trF L ids f))).1 ++
            (grow L d lim r (rgF L ids f) (p + 1 + (grow L d lim r (lfF L ids f) (p + 1) (Rm.dr f (2 * trF L ids f))).1.length)
              (Rm.dr f (2 * trF L ids f + (grow L d lim r (lfF L ids f) (p + 1) (Rm.dr f (2 * trF L ids f))).2))).1),
        2 * trF L ids f + (grow L d lim r (lfF L ids f) (p + 1) (Rm.dr f (2 * trF L ids f))).2 +
          (grow L d lim r (rgF L ids f) (p + 1 + (grow L d lim r (lfF L ids f) (p + 1) (Rm.dr f (2 * trF L ids f))).1.length)
            (Rm.dr f (2 * trF L ids f + (grow L d lim r (lfF L ids f) (p + 1) (Rm.dr f (2 * trF L ids f))).2))).2)
section
variable {L : List (List Int)} {d lim r p : Nat} {ids : List Int} {f : Nat → Int}
theorem grow_leaf (h : ids.length ≤ lim ∨ r = 0) : grow L d lim r ids p f = ([one ids], 0) := by
  rcases h with h | rfl
  · cases r with
    | zero => rfl
    | succ r => unfold grow; rw [if_pos h]
  · rfl
theorem grow_node (h : lim < ids.length) {a b : List Nd × Nat} (ha : grow L d lim r (lfF L ids f) (p + 1) (Rm.dr f (2 * trF L ids f)) = a)
    (hb : grow L d lim r (rgF L ids f) (p + 1 + a.1.length) (Rm.dr f (2 * trF L ids f + a.2)) = b) :
    grow L d lim (r + 1) ids p f = (⟨false, [], pnF L ids f d, poF L ids f, p + 1, p + 1 + a.1.length⟩ :: (a.1 ++ b.1), 2 * trF L ids f + a.2 + b.2) := by
  rw [grow, if_neg (by omega), ha, hb]
theorem tr_le : trF L ids f ≤ 4 := Zm.tries_le
theorem tr_pos (h : 2 ≤ ids.length) : 1 ≤ trF L ids f := by
  unfold trF Zm.tries
  rw [if_neg (by omega)]
  cases Zm.pick L ids (refP f ids.length) (refQ f ids.length) <;> simp
theorem lr_perm : (lfF L ids f ++ rgF L ids f).Perm ids := Zm.of_perm
theorem lr_len : (lfF L ids f).length + (rgF L ids f).length = ids.length := Zm.of_length
theorem lr_pos (h : 2 ≤ ids.length) : 0 < (lfF L ids f).length ∧ 0 < (rgF L ids f).length := by
  have := Zm.of_whole (L := L) (ids := ids) (p := refP f ids.length) (q := refQ f ids.length) h
  exact ⟨this.1, this.2.1⟩
end

/-- a tree of ids with so many depths left, from a place on: its nodes, its draws, how deep it is -/
inductive Tr (lim : Nat) : Nat → List Int → Nat → List Nd → Nat → Nat → Prop
  | leaf {r p : Nat} {ids : List Int} (h : ids.length ≤ lim ∨ r = 0) : Tr lim r ids p [one ids] 0 0
  | node {r p ka kb k da db : Nat} {ids l g : List Int} {A B : List Nd} {pn : List Int} {po : Int} (h : lim < ids.length) (hp : (l ++ g).Perm ids) (hl : 0 < l.length) (hg : 0 < g.length) (h2 : 2 ≤ k) (h8 : k ≤ 8)
      (a : Tr lim r l (p + 1) A ka da) (b : Tr lim r g (p + 1 + A.length) B kb db) : Tr lim (r + 1) ids p (⟨false, [], pn, po, p + 1, p + 1 + A.length⟩ :: (A ++ B)) (k + ka + kb) (max da db + 1)
theorem grow_tr {L : List (List Int)} {d lim : Nat} (hlim : 1 ≤ lim) : ∀ (r : Nat) (ids : List Int) (p : Nat) (f : Nat → Int), ∃ dp, Tr lim r ids p (grow L d lim r ids p f).1 (grow L d lim r ids p f).2 dp := by
  intro r
  induction r with
  | zero => intro ids p f; exact ⟨0, by rw [grow_leaf (.inr rfl)]; exact .leaf (.inr rfl)⟩
  | succ r ih =>
    intro ids p f
    rcases Nat.lt_or_ge lim ids.length with h | h
    · rw [grow_node h rfl rfl]
      obtain ⟨da, ha⟩ := ih (lfF L ids f) (p + 1) (Rm.dr f (2 * trF L ids f))
      obtain ⟨db, hb⟩ := ih (rgF L ids f) (p + 1 + (grow L d lim r (lfF L ids f) (p + 1) (Rm.dr f (2 * trF L ids f))).1.length) (Rm.dr f (2 * trF L ids f + (grow L d lim r (lfF L ids f) (p + 1) (Rm.dr f (2 * trF L ids f))).2))
      have := tr_pos (L := L) (f := f) (ids := ids) (by omega)
      have h4 := tr_le (L := L) (f := f) (ids := ids)
      have hw := lr_pos (L := L) (f := f) (ids := ids) (by omega)
      exact ⟨_, .node h lr_perm hw.1 hw.2 (by omega) (by omega) ha hb⟩
    · exact ⟨0, by rw [grow_leaf (.inl h)]; exact .leaf (.inl h)⟩

/-- how many leaves -/
def leaves (T : List Nd) : Nat := (T.filter (·.leaf)).length
/-- all ids of a tree's leaves -/
def held (T : List Nd) : List Int := T.flatMap (·.ids)
theorem leaves_cons (t : Nd) (T : List Nd) : leaves (t :: T) = (if t.leaf then 1 else 0) + leaves T := by
  unfold leaves; rw [List.filter_cons]; split <;> simp; omega
theorem leaves_append (A B : List Nd) : leaves (A ++ B) = leaves A + leaves B := by unfold leaves; rw [List.filter_append, List.length_append]
theorem held_append (A B : List Nd) : held (A ++ B) = held A ++ held B := by unfold held; rw [List.flatMap_append]
theorem held_cons (t : Nd) (T : List Nd) : held (t :: T) = t.ids ++ held T := by unfold held; rw [List.flatMap_cons]
section
variable {lim r p k dp : Nat} {ids : List Int} {T : List Nd}
theorem Tr.twice (h : Tr lim r ids p T k dp) : T.length + 1 = 2 * leaves T := by
  induction h with
  | leaf h => rfl
  | node h hp hl hg h2 h8 a b iha ihb =>
    rw [leaves_cons, leaves_append, List.length_cons, List.length_append]; dsimp only; rw [if_neg (by simp)]; omega
theorem Tr.few (h : Tr lim r ids p T k dp) (hi : 1 ≤ ids.length) : leaves T ≤ ids.length ∧ k + 8 ≤ 8 * ids.length := by
  induction h with
  | leaf h => exact ⟨by simpa [leaves, one] using hi, by omega⟩
  | node h hp hl hg h2 h8 a b iha ihb =>
    have hlen := hp.length_eq
    rw [List.length_append] at hlen
    have h1 := iha hl
    have h2 := ihb hg
    rw [leaves_cons, leaves_append]; dsimp only; rw [if_neg (by simp)]
    omega
theorem Tr.pos (h : Tr lim r ids p T k dp) : 0 < T.length := by have := h.twice; omega
theorem Tr.perm (h : Tr lim r ids p T k dp) : (held T).Perm ids := by
  induction h with
  | leaf h => simp [held, one]
  | node h hp hl hg h2 h8 a b iha ihb =>
    rw [held_cons, held_append]
    exact (iha.append ihb).trans hp
theorem Tr.deep (h : Tr lim r ids p T k dp) : dp ≤ r := by
  induction h with
  | leaf h => exact Nat.zero_le _
  | node h hp hl hg h2 h8 a b iha ihb => omega
/-- no leaf is empty, and those above the limit stand at the greatest depth -/
theorem Tr.full (h : Tr lim r ids p T k dp) (hi : 1 ≤ ids.length) : ∀ t ∈ T, t.leaf = true → 1 ≤ t.ids.length ∧ (t.ids.length ≤ lim ∨ dp = r) := by
  induction h with
  | leaf h =>
    intro t ht _
    rw [List.mem_singleton] at ht
    subst ht
    exact ⟨hi, h.imp id fun h => h.symm⟩
  | node h hp hl hg h2 h8 a b iha ihb =>
    intro t ht hlf
    have hda := a.deep
    have hdb := b.deep
    rcases List.mem_cons.1 ht with rfl | ht
    · cases hlf
    rcases List.mem_append.1 ht with ht | ht
    · have := iha hl t ht hlf
      exact ⟨this.1, this.2.imp id fun h => by omega⟩
    · have := ihb hg t ht hlf
      exact ⟨this.1, this.2.imp id fun h => by omega⟩
/-- one node alone: a leaf -/
theorem Tr.single (h : Tr lim r ids p T k dp) : (T.length = 1 ↔ (ids.length ≤ lim ∨ r = 0)) ∧ (k = 0 ↔ (ids.length ≤ lim ∨ r = 0)) := by
  cases h with
  | leaf h => simp [h]
  | node h hp hl hg h2 h8 a b =>
    have := a.pos
    have := b.pos
    rw [List.length_cons, List.length_append]
    constructor <;> constructor <;> intro h <;> omega
end
/-- how often each id was met -/
def bump (C : List Int) (X : List Int) : List Int := X.foldl (fun C i => C.set i.toNat (C.getD i.toNat 0 + 1)) C
theorem bump_append (C X Y : List Int) : bump C (X ++ Y) = bump (bump C X) Y := by unfold bump; rw [List.foldl_append]
theorem bump_snoc (C X : List Int) (x : Int) : bump C (X ++ [x]) = (bump C X).set x.toNat ((bump C X).getD x.toNat 0 + 1) := by rw [bump_append]; rfl
theorem bump_length (C X : List Int) : (bump C X).length = C.length := by
  induction X generalizing C with
  | nil => rfl
  | cons x X ih => show (bump (C.set x.toNat _) X).length = _; rw [ih, List.length_set]
theorem bump_get {X : List Int} (hX : ∀ x ∈ X, 0 ≤ x) (C : List Int) {j : Nat} (hj : j < C.length) : (bump C X).getD j 0 = C.getD j 0 + ((X.count (j : Int) : Nat) : Int) := by
  induction X generalizing C with
  | nil => simp [bump]
  | cons x X ih =>
    show (bump (C.set x.toNat _) X).getD j 0 = _
    rw [ih (fun y hy => hX y (.tail _ hy)) _ (by rw [List.length_set]; exact hj), List.count_cons]
    have h0 := hX x (.head _)
    by_cases e : x = (j : Int)
    · subst e
      simp [List.getD_eq_getElem?_getD, hj]
      omega
    · have hne : x.toNat ≠ j := by omega
      have hb : (x == (j : Int)) = false := by simpa using e
      rw [hb]
      simp [List.getD_eq_getElem?_getD, List.getElem?_set_ne hne]
/-- ids that rise from 0 -/
def upto (n : Nat) : List Int := (List.range n).map fun (k : Nat) => (k : Int)
theorem upto_length (n : Nat) : (upto n).length = n := by simp [upto]
theorem upto_succ (n : Nat) : upto (n + 1) = upto n ++ [(n : Int)] := by simp [upto, List.range_succ]
theorem upto_in {n : Nat} {x : Int} (h : x ∈ upto n) : 0 ≤ x ∧ x < n := by
  obtain ⟨k, hk, rfl⟩ := List.mem_map.1 h
  have := List.mem_range.1 hk
  omega
theorem upto_count {n j : Nat} (hj : j < n) : (upto n).count (j : Int) = 1 := by
  induction n with
  | zero => omega
  | succ n ih =>
    rw [upto_succ, List.count_append, List.count_singleton]
    by_cases e : j = n
    · subst e
      rw [List.count_eq_zero_of_not_mem (fun h => by have := upto_in h; omega)]; simp
    · rw [ih (by omega)]
      have : ((n : Int) == (j : Int)) = false := by simp; omega
      rw [this]; rfl
/-- each once -/
theorem bump_once {n j : Nat} {X : List Int} (hX : X.Perm (upto n)) (hj : j < n) : (bump (List.replicate n 0) X).getD j 0 = 1 := by
  rw [bump_get (fun x hx => (upto_in (hX.mem_iff.1 hx)).1) _ (by simpa using hj), hX.count_eq, upto_count hj]
  simp [List.getD_eq_getElem?_getD, hj]

/-- items that are all the same are halved -/
theorem same_none {L : List (List Int)} {ids : List Int} {v : List Int} (h : ∀ x ∈ ids, Zm.item L x = v) (f : Nat → Int) : Zm.pick L ids (refP f ids.length) (refQ f ids.length) = none := by
  refine Zm.pick_none ?_
  rcases Nat.lt_or_ge ids.length 2 with g | g
  · exact .inl g
  · refine .inr fun s _ => ?_
    obtain ⟨p0, p1, q0, q1, -⟩ := Rm.pair_ok (Rm.dr f (2 * s)) (ids.length : Int) (by omega)
    have at_mem : ∀ i : Int, 0 ≤ i → i < (ids.length : Int) → Zm.item L (Zm.at_ ids i) = v := fun i h0 h1 => h _ (by
      unfold Zm.at_
      rw [List.getD_eq_getElem?_getD, List.getElem?_eq_getElem (by omega)]
      exact List.getElem_mem _)
    exact Zm.same_bad (v := v) (at_mem _ p0 p1) (at_mem _ q0 q1)
theorem same_of {L : List (List Int)} {ids : List Int} {v : List Int} (h : ∀ x ∈ ids, Zm.item L x = v) (f : Nat → Int) (d : Nat) :
    lfF L ids f = ids.take (Zm.half ids) ∧ rgF L ids f = ids.drop (Zm.half ids) ∧ pnF L ids f d = Pm.flat d ∧ poF L ids f = 0 := by
  obtain ⟨h1, h2, h3, h4, -⟩ := Zm.of_none (same_none h f) d
  exact ⟨h3, h4, h1, h2⟩
theorem same_tree {L : List (List Int)} {v : List Int} {d lim : Nat} (hlim : 1 ≤ lim) : ∀ (r : Nat) (ids : List Int) (p : Nat) (f g : Nat → Int), (∀ x ∈ ids, Zm.item L x = v) →
    (grow L d lim r ids p f).1 = (grow L d lim r ids p g).1 ∧ held (grow L d lim r ids p f).1 = ids ∧ (ids.length ≤ 2 ^ r → ∀ t ∈ (grow L d lim r ids p f).1, t.leaf = true → t.ids.length ≤ lim) := by
  intro r
  induction r with
  | zero =>
    intro ids p f g h
    rw [grow_leaf (.inr rfl), grow_leaf (.inr rfl)]
    refine ⟨rfl, by simp [held, one], fun hl t ht _ => ?_⟩
    rw [List.mem_singleton] at ht
    subst ht
    exact Nat.le_trans hl hlim
  | succ r ih =>
    intro ids p f g h
    rcases Nat.lt_or_ge lim ids.length with hc | hc
    · obtain ⟨f1, f2, f3, f4⟩ := same_of h f d
      obtain ⟨g1, g2, g3, g4⟩ := same_of h g d
      have ha : ∀ x ∈ ids.take (Zm.half ids), Zm.item L x = v := fun x hx => h x (List.mem_of_mem_take hx)
      have hb : ∀ x ∈ ids.drop (Zm.half ids), Zm.item L x = v := fun x hx => h x (List.mem_of_mem_drop hx)
      rw [grow_node hc rfl rfl, grow_node hc rfl rfl]
      dsimp only
      rw [f1, f2, f3, f4, g1, g2, g3, g4]
      obtain ⟨a1, a2, a3⟩ := ih (ids.take (Zm.half ids)) (p + 1) (Rm.dr f (2 * trF L ids f)) (Rm.dr g (2 * trF L ids g)) ha
      rw [← a1]
      obtain ⟨b1, b2, b3⟩ := ih (ids.drop (Zm.half ids)) (p + 1 + (grow L d lim r (ids.take (Zm.half ids)) (p + 1) (Rm.dr f (2 * trF L ids f))).1.length)
        (Rm.dr f (2 * trF L ids f + (grow L d lim r (ids.take (Zm.half ids)) (p + 1) (Rm.dr f (2 * trF L ids f))).2)) (Rm.dr g (2 * trF L ids g + (grow L d lim r (ids.take (Zm.half ids)) (p + 1) (Rm.dr g (2 * trF L ids g))).2)) hb
      refine ⟨by rw [b1], by rw [held_cons, held_append, a2, b2, List.nil_append, List.take_append_drop], fun hl t ht hlf => ?_⟩
      rw [Nat.pow_succ] at hl
      rcases List.mem_cons.1 ht with rfl | ht
      · cases hlf
      rcases List.mem_append.1 ht with ht | ht
      · exact a3 (by rw [List.length_take]; unfold Zm.half; omega) t ht hlf
      · exact b3 (by rw [List.length_drop]; unfold Zm.half; omega) t ht hlf
    · rw [grow_leaf (.inl hc), grow_leaf (.inl hc)]
      refine ⟨rfl, by simp [held, one], fun hl t ht _ => ?_⟩
      rw [List.mem_singleton] at ht
      subst ht
      exact hc
end Wm
theorem Wm.held_le {t : Wm.Nd} {T : List Wm.Nd} (h : t ∈ T) : t.ids.length ≤ (Wm.held T).length := by
  induction T with
  | nil => cases h
  | cons a T ih =>
    rw [Wm.held_cons, List.length_append]
    rcases List.mem_cons.1 h with rfl | h
    · omega
    · have := ih h; omega
end Go.Proofs.Ytecdgpacofojeaa
