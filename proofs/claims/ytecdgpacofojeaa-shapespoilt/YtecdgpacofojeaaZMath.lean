/-
  Plain facts of ids that are split by planes, for layer 12 (split): which item an id is, both sides, what is good, halves, and what is chosen of four tries. Nothing of the program stands here.
-/
import Derived.Test.YtecdgpacofojeaaPMath
namespace Go.Proofs.Ytecdgpacofojeaa.Zm
open Go Go.RowKit

/-- an id's item: the empty vector, if there is none -/
def item (L : List (List Int)) (id : Int) : List Int := if 0 ≤ id then L.getD id.toNat [] else []
theorem item_in {L : List (List Int)} {k : Nat} (h : k < L.length) : item L (k : Int) = L[k] := by
  unfold item; rw [if_pos (by omega)]; simp [List.getD_eq_getElem?_getD, h]
theorem item_low {L : List (List Int)} {id : Int} (h : id < 0) : item L id = [] := by unfold item; rw [if_neg (by omega)]
theorem item_high {L : List (List Int)} {id : Int} (h : (L.length : Int) ≤ id) : item L id = [] := by
  unfold item
  by_cases q : 0 ≤ id
  · rw [if_pos q, List.getD_eq_getElem?_getD, List.getElem?_eq_none (by omega)]; rfl
  · rw [if_neg q]
/-- is it on the Side of a plane? -/
def on (L : List (List Int)) (l : List Int) (o : Int) (id : Int) : Bool := decide (0 ≤ Pm.mar l o (item L id))
/-- those that are, or aren't, as they stood -/
def side (L : List (List Int)) (l : List Int) (o : Int) (b : Bool) (ids : List Int) : List Int := ids.filter fun id => on L l o id == b
theorem side_snoc_yes {L : List (List Int)} {l : List Int} {o : Int} {b : Bool} {ids : List Int} {k : Nat} (hk : k < ids.length) (h : on L l o ids[k] = b) :
    side L l o b (ids.take (k + 1)) = side L l o b (ids.take k) ++ [ids[k]] := by
  unfold side
  rw [List.take_succ_eq_append_getElem hk, List.filter_append]
  simp [h]
theorem side_snoc_no {L : List (List Int)} {l : List Int} {o : Int} {b : Bool} {ids : List Int} {k : Nat} (hk : k < ids.length) (h : on L l o ids[k] = !b) :
    side L l o b (ids.take (k + 1)) = side L l o b (ids.take k) := by
  unfold side
  rw [List.take_succ_eq_append_getElem hk, List.filter_append]
  simp [h]
theorem side_le (L : List (List Int)) (l : List Int) (o : Int) (b : Bool) (ids : List Int) : (side L l o b ids).length ≤ ids.length := List.length_filter_le _ _
theorem side_perm (L : List (List Int)) (l : List Int) (o : Int) (ids : List Int) : (side L l o false ids ++ side L l o true ids).Perm ids := by
  unfold side
  induction ids with
  | nil => exact List.Perm.refl _
  | cons x ids ih =>
    cases h : on L l o x with
    | false => simpa [h] using ih
    | true =>
      simp only [List.filter_cons, h, beq_self_eq_true, if_true, show (true == false) = false from rfl, Bool.false_eq_true, if_false]
      exact List.perm_middle.trans (List.Perm.cons _ ih)
theorem side_both (L : List (List Int)) (l : List Int) (o : Int) (ids : List Int) : (side L l o false ids).length + (side L l o true ids).length = ids.length := by
  have := (side_perm L l o ids).length_eq; rwa [List.length_append] at this
/-- is a part good? -/
def good (n m : Nat) : Bool := decide (0 < n ∧ 0 < m ∧ n + m ≤ 8 * n ∧ n + m ≤ 8 * m)
/-- halves: left the first ones -/
def half (ids : List Int) : Nat := ids.length - ids.length / 2

section
variable (L : List (List Int)) (ids : List Int) (p q : Nat → Int)
/-- the t-th try's plane, by the places that the source told -/
def at_ (i : Int) : Int := ids.getD i.toNat 0
def pn (t : Nat) : List Int := Vm.less (item L (at_ ids (p t))) (item L (at_ ids (q t)))
def po (t : Nat) : Int := Pm.off (item L (at_ ids (p t))) (item L (at_ ids (q t)))
def lf (t : Nat) : List Int := side L (pn L ids p q t) (po L ids p q t) false ids
def rg (t : Nat) : List Int := side L (pn L ids p q t) (po L ids p q t) true ids
def ok (t : Nat) : Bool := good (lf L ids p q t).length (rg L ids p q t).length
/-- the first of four tries that is good -/
def pick : Option Nat := if ids.length < 2 then none else (List.range 4).find? (ok L ids p q)
def tries : Nat := if ids.length < 2 then 0 else match pick L ids p q with | some t => t + 1 | none => 4
end
section
variable {L : List (List Int)} {ids : List Int} {p q : Nat → Int}
theorem pick_some {t : Nat} (h2 : 2 ≤ ids.length) (ht : t < 4) (h : ok L ids p q t = true) (hb : ∀ s, s < t → ok L ids p q s = false) : pick L ids p q = some t := by
  unfold pick
  rw [if_neg (by omega), List.find?_range_eq_some]
  exact ⟨h, by simpa using ht, fun s hs => by simpa using hb s hs⟩
theorem pick_none (h : ids.length < 2 ∨ ∀ s, s < 4 → ok L ids p q s = false) : pick L ids p q = none := by
  unfold pick
  rcases h with h | h
  · rw [if_pos h]
  · split
    · rfl
    · rw [List.find?_eq_none]
      intro s hs
      rw [h s (by simpa using hs)]; simp
theorem pick_is {t : Nat} (h : pick L ids p q = some t) : 2 ≤ ids.length ∧ t < 4 ∧ ok L ids p q t = true := by
  unfold pick at h
  by_cases g : ids.length < 2
  · rw [if_pos g] at h; cases h
  · rw [if_neg g] at h
    rw [List.find?_range_eq_some] at h
    exact ⟨by omega, by simpa using h.2.1, h.1⟩
/-- both sides of what is chosen -/
def lfOf (L : List (List Int)) (ids : List Int) (p q : Nat → Int) : List Int := match pick L ids p q with | some t => lf L ids p q t | none => ids.take (half ids)
def rgOf (L : List (List Int)) (ids : List Int) (p q : Nat → Int) : List Int := match pick L ids p q with | some t => rg L ids p q t | none => ids.drop (half ids)
/-- the plane of what is chosen -/
def pnOf (L : List (List Int)) (ids : List Int) (p q : Nat → Int) (d : Nat) : List Int := match pick L ids p q with | some t => pn L ids p q t | none => Pm.flat d
def poOf (L : List (List Int)) (ids : List Int) (p q : Nat → Int) : Int := match pick L ids p q with | some t => po L ids p q t | none => 0
/-- what is chosen where a try was good, and where none was -/
theorem of_some {t : Nat} (h : pick L ids p q = some t) (d : Nat) : pnOf L ids p q d = pn L ids p q t ∧ poOf L ids p q = po L ids p q t ∧ lfOf L ids p q = lf L ids p q t ∧ rgOf L ids p q = rg L ids p q t ∧ tries L ids p q = t + 1 := by
  have := (pick_is h).1
  unfold pnOf poOf lfOf rgOf tries
  rw [h, if_neg (by omega)]; exact ⟨rfl, rfl, rfl, rfl, rfl⟩
theorem of_none (h : pick L ids p q = none) (d : Nat) : pnOf L ids p q d = Pm.flat d ∧ poOf L ids p q = 0 ∧ lfOf L ids p q = ids.take (half ids) ∧ rgOf L ids p q = ids.drop (half ids) ∧ tries L ids p q = if ids.length < 2 then 0 else 4 := by
  unfold pnOf poOf lfOf rgOf tries
  rw [h]; exact ⟨rfl, rfl, rfl, rfl, rfl⟩
theorem of_perm : (lfOf L ids p q ++ rgOf L ids p q).Perm ids := by
  unfold lfOf rgOf
  cases pick L ids p q with
  | some t => exact side_perm _ _ _ _
  | none => rw [List.take_append_drop]
theorem of_length : (lfOf L ids p q).length + (rgOf L ids p q).length = ids.length := by
  have := (of_perm (L := L) (ids := ids) (p := p) (q := q)).length_eq; rwa [List.length_append] at this
theorem of_whole (h : 2 ≤ ids.length) : 0 < (lfOf L ids p q).length ∧ 0 < (rgOf L ids p q).length ∧ ids.length ≤ 8 * (lfOf L ids p q).length ∧ ids.length ≤ 8 * (rgOf L ids p q).length := by
  have hl := of_length (L := L) (ids := ids) (p := p) (q := q)
  unfold lfOf rgOf at *
  cases hp : pick L ids p q with
  | some t =>
    rw [hp] at hl
    obtain ⟨-, -, hk⟩ := pick_is hp
    unfold ok good at hk
    have := of_decide_eq_true hk
    dsimp only at hl ⊢
    omega
  | none =>
    rw [hp] at hl
    dsimp only at hl ⊢
    have h1 : (ids.take (half ids)).length = half ids := by rw [List.length_take]; unfold half; omega
    unfold half at *
    omega
theorem tries_le : tries L ids p q ≤ 4 := by
  unfold tries
  split
  · omega
  · cases hp : pick L ids p q with
    | some t => have := (pick_is hp).2.1; dsimp only; omega
    | none => dsimp only; omega
end

/-- items that are all the same: nothing is left of any plane between two of them -/
theorem same_less (v : List Int) : Vm.less v v = Pm.flat v.length := by
  unfold Pm.flat
  induction v with
  | nil => rfl
  | cons x v ih => rw [List.length_cons, List.replicate_succ, ← ih]; simp [Vm.less, wrap32]
theorem same_off (v : List Int) : Pm.off v v = 0 := by
  unfold Pm.off; rw [same_less, Pm.flat_dot]; exact Vm.wrap_in (by omega) (by omega)
theorem same_side (L : List (List Int)) (v : List Int) (ids : List Int) : side L (Vm.less v v) (Pm.off v v) false ids = [] := by
  unfold side on
  rw [same_less, same_off]
  simp [Pm.flat_mar]
theorem same_bad {L : List (List Int)} {ids : List Int} {p q : Nat → Int} {v : List Int} {t : Nat} (h1 : item L (at_ ids (p t)) = v) (h2 : item L (at_ ids (q t)) = v) : ok L ids p q t = false := by
  unfold ok lf pn po
  rw [h1, h2, same_side]
  simp [good]

/-- all shifted by the same number -/
def up (by_ : Int) (l : List Int) : List Int := l.map (· + by_)
theorem up_far (c : Int) (l m : List Int) : Vm.farZ (up c l) (up c m) = Vm.farZ l m := by
  unfold up
  induction l generalizing m with
  | nil => simp [Vm.farZ]
  | cons x l ih =>
    cases m with
    | nil => simp [Vm.farZ]
    | cons y m =>
      simp only [List.map_cons, Vm.farZ, ih m]
      rw [show x + c - (y + c) = x - y from by omega]
theorem up_length (c : Int) (l : List Int) : (up c l).length = l.length := by simp [up]
/-- of three items that may be, and may be when they are shifted, the margin stays -/
theorem up_mar {a b v : List Int} {n : Nat} {c : Int} (h : Pm.Two a b n) (k : Pm.Two a v n) (h' : Pm.Two (up c a) (up c b) n) (k' : Pm.Two (up c a) (up c v) n) :
    Pm.mar (Vm.less (up c a) (up c b)) (Pm.off (up c a) (up c b)) (up c v) = Pm.mar (Vm.less a b) (Pm.off a b) v := by
  obtain ⟨m1, m2, m3, -⟩ := h.mar k
  obtain ⟨n1, n2, n3, -⟩ := h'.mar k'
  rw [m1, n1, m2, m3, n2, n3, up_far, up_far]
/-- items that may be, each of them -/
def All (L : List (List Int)) (n : Nat) : Prop := ∀ l ∈ L, l.length = n ∧ ∀ x ∈ l, Vm.good x
def In (L : List (List Int)) (id : Int) : Prop := 0 ≤ id ∧ id < (L.length : Int)
theorem item_mem {L : List (List Int)} {id : Int} (h : In L id) : item L id ∈ L := by
  obtain ⟨h0, h1⟩ := h
  obtain ⟨k, rfl⟩ : ∃ k : Nat, id = k := ⟨id.toNat, by omega⟩
  rw [item_in (by omega)]; exact List.getElem_mem _
theorem item_up {L : List (List Int)} {id : Int} (c : Int) (h : In L id) : item (L.map (up c)) id = up c (item L id) := by
  obtain ⟨h0, h1⟩ := h
  obtain ⟨k, rfl⟩ : ∃ k : Nat, id = k := ⟨id.toNat, by omega⟩
  rw [item_in (L := L) (k := k) (by omega), item_in (L := L.map (up c)) (k := k) (by rw [List.length_map]; omega)]; simp
theorem two_items {L : List (List Int)} {n : Nat} {i j : Int} (hn : n ≤ 1024) (h : All L n) (hi : In L i) (hj : In L j) : Pm.Two (item L i) (item L j) n :=
  ⟨hn, (h _ (item_mem hi)).1, (h _ (item_mem hj)).1, (h _ (item_mem hi)).2, (h _ (item_mem hj)).2⟩
theorem at_mem {ids : List Int} {i : Int} (h0 : 0 ≤ i) (h1 : i < (ids.length : Int)) : at_ ids i ∈ ids := by
  unfold at_
  rw [List.getD_eq_getElem?_getD, List.getElem?_eq_getElem (by omega)]
  exact List.getElem_mem _
/-- ids are split as they are, when all items are shifted by the same -/
theorem up_side {L : List (List Int)} {n : Nat} {c : Int} {i j : Int} (hn : n ≤ 1024) (h : All L n) (h' : All (L.map (up c)) n) (hi : In L i) (hj : In L j) (b : Bool) (ids : List Int) (hx : ∀ x ∈ ids, In L x) :
    side (L.map (up c)) (Vm.less (item (L.map (up c)) i) (item (L.map (up c)) j)) (Pm.off (item (L.map (up c)) i) (item (L.map (up c)) j)) b ids = side L (Vm.less (item L i) (item L j)) (Pm.off (item L i) (item L j)) b ids := by
  unfold side
  refine List.filter_congr fun x hm => ?_
  have hI : ∀ {k}, In L k → In (L.map (up c)) k := fun h => ⟨h.1, by simpa using h.2⟩
  have e : Pm.mar (Vm.less (item (L.map (up c)) i) (item (L.map (up c)) j)) (Pm.off (item (L.map (up c)) i) (item (L.map (up c)) j)) (item (L.map (up c)) x) = Pm.mar (Vm.less (item L i) (item L j)) (Pm.off (item L i) (item L j)) (item L x) := by
    have t1 := two_items hn h hi hj
    have t2 := two_items hn h hi (hx x hm)
    have t3 := two_items hn h' (hI hi) (hI hj)
    have t4 := two_items hn h' (hI hi) (hI (hx x hm))
    rw [item_up c hi, item_up c hj] at t3
    rw [item_up c hi, item_up c (hx x hm)] at t4
    rw [item_up c hi, item_up c hj, item_up c (hx x hm)]
    exact up_mar t1 t2 t3 t4
  unfold on
  rw [e]
theorem up_of {L : List (List Int)} {n : Nat} {c : Int} {ids : List Int} {p q : Nat → Int} (hn : n ≤ 1024) (h : All L n) (h' : All (L.map (up c)) n) (hx : ∀ x ∈ ids, In L x)
    (hp : ∀ t, 2 ≤ ids.length → 0 ≤ p t ∧ p t < (ids.length : Int) ∧ 0 ≤ q t ∧ q t < (ids.length : Int)) :
    lfOf (L.map (up c)) ids p q = lfOf L ids p q ∧ rgOf (L.map (up c)) ids p q = rgOf L ids p q ∧ tries (L.map (up c)) ids p q = tries L ids p q := by
  by_cases g : ids.length < 2
  · unfold lfOf rgOf tries
    rw [pick_none (.inl g), pick_none (.inl g), if_pos g]; exact ⟨rfl, rfl, rfl⟩
  · have key : ∀ t b, side (L.map (up c)) (pn (L.map (up c)) ids p q t) (po (L.map (up c)) ids p q t) b ids = side L (pn L ids p q t) (po L ids p q t) b ids := fun t b => by
      obtain ⟨a1, a2, a3, a4⟩ := hp t (by omega)
      exact up_side hn h h' (hx _ (at_mem a1 a2)) (hx _ (at_mem a3 a4)) b ids hx
    have k1 : lf (L.map (up c)) ids p q = lf L ids p q := funext fun t => key t false
    have k2 : rg (L.map (up c)) ids p q = rg L ids p q := funext fun t => key t true
    have k3 : ok (L.map (up c)) ids p q = ok L ids p q := funext fun t => by unfold ok; rw [k1, k2]
    have k4 : pick (L.map (up c)) ids p q = pick L ids p q := by unfold pick; rw [k3]
    unfold lfOf rgOf tries
    rw [k4, k1, k2]; exact ⟨rfl, rfl, rfl⟩
end Go.Proofs.Ytecdgpacofojeaa.Zm
