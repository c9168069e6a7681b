/-
  Layer 14 (shape): plain facts: what is known of a tree, what a tree that is spoilt is, and that a tree that is grown is one.
-/
import Derived.Test.YtecdgpacofojeaaXMath
import Derived.Test.YtecdgpacofojeaaNMath
import Derived.Test.YtecdgpacofojeaaWMath
namespace Go.Proofs.Ytecdgpacofojeaa
open Go.RowKit

namespace Xm
/-- is the list a tree? -/
def isT (T : List Nd) (d : Int) : Bool := match tree T d 65 0 with
  | some a => a.2 == T.length
  | none => false
/-- what the document's check tells -/
def chk (T : List Nd) (n d : Int) : Int := if n < 0 ∨ 1048576 < n ∨ d < 1 ∨ 1024 < d then 1 else if isT T d = true ∧ Nm.cov n (lists T).flatten = true then 0 else 14
section
variable {T T' : List Nd} {n d : Int} {k : Nat} {x : Nd} {v : List Nat}
theorem isT_iff : isT T d = true ↔ ∃ v, Is T d 65 0 v T.length := by
  unfold isT
  constructor
  · intro h
    cases ht : tree T d 65 0 with
    | none => rw [ht] at h; cases h
    | some a => rw [ht] at h; have e : a.2 = T.length := by simpa using h
                exact ⟨a.1, tree_is (by rw [ht, ← e])⟩
  · rintro ⟨v, h⟩
    rw [is_tree h]; simp
theorem chk_zero (h : chk T n d = 0) : 0 ≤ n ∧ n ≤ 1048576 ∧ 1 ≤ d ∧ d ≤ 1024 ∧ (∃ v, Is T d 65 0 v T.length) ∧ Nm.cov n (lists T).flatten = true := by
  unfold chk at h
  by_cases h1 : n < 0 ∨ 1048576 < n ∨ d < 1 ∨ 1024 < d
  · rw [if_pos h1] at h; omega
  · rw [if_neg h1] at h
    by_cases h2 : isT T d = true ∧ Nm.cov n (lists T).flatten = true
    · exact ⟨by omega, by omega, by omega, by omega, isT_iff.1 h2.1, h2.2⟩
    · rw [if_neg h2] at h; omega
theorem chk_node (h : chk T n d = 0) (h' : ¬ (isT T' d = true ∧ Nm.cov n (lists T').flatten = true)) : chk T' n d = 14 := by
  obtain ⟨h0, h1, h2, h3, -⟩ := chk_zero h
  unfold chk
  rw [if_neg (by omega), if_neg h']
theorem cov_len {l : List Int} (h : Nm.cov n l = true) (h0 : 0 ≤ n) : (l.length : Int) = n := by
  unfold Nm.cov at h
  have := (of_decide_eq_true h).2.2
  omega
theorem set_get (hk : k < T.length) (i : Nat) (x' : Nd) : (T.set k x')[i]? = if i = k then some x' else T[i]? := by
  rw [List.getElem?_set]
  by_cases e : k = i
  · subst e; rw [if_pos rfl, if_pos rfl, if_pos hk]
  · rw [if_neg e, if_neg (fun h => e h.symm)]
theorem get_lt (hx : T[k]? = some x) : k < T.length := (List.getElem?_eq_some_iff.1 hx).1
/-- a tree's node, and the spoilt list's one in its place -/
theorem both_loc {x' : Nd} (h : isT T d = true) (h' : isT (T.set k x') d = true) (hx : T[k]? = some x) :
    ((x.leaf = true → lfOk x = true) ∧ (x.leaf = false → spOk d k x = true)) ∧ ((x'.leaf = true → lfOk x' = true) ∧ (x'.leaf = false → spOk d k x' = true)) := by
  have hk := get_lt hx
  obtain ⟨v, h1⟩ := isT_iff.1 h
  obtain ⟨v', h2⟩ := isT_iff.1 h'
  rw [List.length_set] at h2
  obtain ⟨y, hy, y1, y2⟩ := h1.loc k (Nat.zero_le _) hk
  obtain ⟨z, hz, z1, z2⟩ := h2.loc k (Nat.zero_le _) hk
  rw [hx] at hy; injection hy with hy; subst hy
  rw [set_get hk, if_pos rfl] at hz; injection hz with hz; subst hz
  exact ⟨⟨y1, y2⟩, z1, z2⟩
theorem spoil_lt {b : Int} (h : chk T n d = 0) (hx : T[k]? = some x) (hb : b ≠ x.lt) : chk (T.set k { x with lt := b }) n d = 14 := by
  refine chk_node h fun hh => ?_
  obtain ⟨-, -, -, -, h1, -⟩ := chk_zero h
  obtain ⟨⟨a1, a2⟩, b1, b2⟩ := both_loc (isT_iff.2 h1) hh.1 hx
  cases hl : x.leaf with
  | true => have u := of_decide_eq_true (a1 hl); have w := of_decide_eq_true (b1 hl); have e := w.1; dsimp only at e; omega
  | false => have u := of_decide_eq_true (a2 hl); have w := of_decide_eq_true (b2 hl); have e := w.2.2; dsimp only at e; have := u.2.2; omega
theorem spoil_rt {b : Int} (h : chk T n d = 0) (hx : T[k]? = some x) (hb : b ≠ x.rt) : chk (T.set k { x with rt := b }) n d = 14 := by
  refine chk_node h fun hh => ?_
  have hk := get_lt hx
  obtain ⟨-, -, -, -, h1, -⟩ := chk_zero h
  obtain ⟨⟨a1, a2⟩, b1, b2⟩ := both_loc (isT_iff.2 h1) hh.1 hx
  cases hl : x.leaf with
  | true => have u := of_decide_eq_true (a1 hl); have w := of_decide_eq_true (b1 hl); have e := w.2.1; dsimp only at e; have := u.2.1; omega
  | false =>
    obtain ⟨v, h1⟩ := h1
    obtain ⟨v', h2⟩ := isT_iff.1 hh.1
    have := (h1.form h2 fun i y y' _ _ hy hy' => by
      rw [set_get hk] at hy'
      by_cases e : i = k
      · rw [if_pos e] at hy'; injection hy' with hy'; subst hy'; rw [e, hx] at hy; injection hy with hy; subst hy; rfl
      · rw [if_neg e, hy] at hy'; injection hy' with hy'; subst hy'; rfl).2 k x _ (Nat.zero_le _) hk hx (by rw [set_get hk, if_pos rfl]) hl
    exact hb this.symm
theorem leaves_set {b : Bool} (hx : T[k]? = some x) : leaves (T.set k { x with leaf := b }) + (if x.leaf = true then 1 else 0) = leaves T + (if b = true then 1 else 0) := by
  induction T generalizing k with
  | nil => cases hx
  | cons t T ih =>
    cases k with
    | zero =>
      simp only [List.getElem?_cons_zero] at hx
      injection hx with hx
      subst hx
      rw [List.set_cons_zero, leaves_cons, leaves_cons]
      dsimp only
      omega
    | succ k =>
      rw [List.set_cons_succ, leaves_cons, leaves_cons]
      have := ih (k := k) (by simpa using hx)
      omega
theorem spoil_leaf (h : chk T n d = 0) (hx : T[k]? = some x) : chk (T.set k { x with leaf := !x.leaf }) n d = 14 := by
  refine chk_node h fun hh => ?_
  obtain ⟨-, -, -, -, ⟨v, h1⟩, -⟩ := chk_zero h
  obtain ⟨v', h2⟩ := isT_iff.1 hh.1
  have t1 := h1.twice
  have t2 := h2.twice
  have l1 := h1.len
  have l2 := h2.len
  have hs := leaves_set (b := !x.leaf) hx
  rw [seg_all] at t1 t2
  rw [List.length_set] at l2
  cases hl : x.leaf <;> rw [hl] at hs t2 <;> simp at hs t2 <;> omega
theorem lists_set {b : List Int} (hx : T[k]? = some x) : ((lists (T.set k { x with ids := b })).flatten.length : Int) = (lists T).flatten.length + (if x.leaf = true then (b.length : Int) - x.ids.length else 0) := by
  induction T generalizing k with
  | nil => cases hx
  | cons t T ih =>
    have lc : ∀ (t : Nd) (T : List Nd), ((lists (t :: T)).flatten.length : Int) = (if t.leaf = true then (t.ids.length : Int) else 0) + (lists T).flatten.length := by
      intro t T
      unfold lists
      rw [List.filter_cons]
      by_cases e : t.leaf = true
      · rw [if_pos e, if_pos e]; simp
      · rw [if_neg e, if_neg e]; simp
    cases k with
    | zero =>
      simp only [List.getElem?_cons_zero] at hx
      injection hx with hx
      subst hx
      rw [List.set_cons_zero, lc, lc]
      dsimp only
      split <;> omega
    | succ k =>
      rw [List.set_cons_succ, lc, lc]
      have := ih (k := k) (by simpa using hx)
      omega
theorem spoil_ids {b : List Int} (h : chk T n d = 0) (hx : T[k]? = some x) (hb : b.length = x.ids.length + 1) : chk (T.set k { x with ids := b }) n d = 14 := by
  refine chk_node h fun hh => ?_
  obtain ⟨h0, -, -, -, h1, hc⟩ := chk_zero h
  obtain ⟨⟨a1, a2⟩, b1, b2⟩ := both_loc (isT_iff.2 h1) hh.1 hx
  have c1 := cov_len hc h0
  have c2 := cov_len hh.2 h0
  have hs := lists_set (b := b) hx
  cases hl : x.leaf with
  | true => rw [if_pos hl] at hs; omega
  | false =>
    have w := (of_decide_eq_true (b2 hl)).1
    dsimp only at w
    rw [w] at hb
    simp at hb
theorem spoil_pn {b : List Int} (h : chk T n d = 0) (hx : T[k]? = some x) (hb : b.length = x.pn.length + 1) : chk (T.set k { x with pn := b }) n d = 14 := by
  refine chk_node h fun hh => ?_
  obtain ⟨-, -, -, -, h1, -⟩ := chk_zero h
  obtain ⟨⟨a1, a2⟩, b1, b2⟩ := both_loc (isT_iff.2 h1) hh.1 hx
  cases hl : x.leaf with
  | true =>
    have w := (of_decide_eq_true (b1 hl)).2.2.2
    dsimp only at w
    rw [w] at hb
    simp at hb
  | false =>
    have u := (Pm.chk_ok (of_decide_eq_true (a2 hl)).2.1).2.2.1
    have w := (Pm.chk_ok (of_decide_eq_true (b2 hl)).2.1).2.2.1
    dsimp only at w
    omega
theorem spoil_cut (h : chk T n d = 0) (hk : k < T.length) : chk (T.take k) n d = 14 := by
  refine chk_node h fun hh => ?_
  obtain ⟨-, -, -, -, ⟨v, h1⟩, -⟩ := chk_zero h
  obtain ⟨v', h2⟩ := isT_iff.1 hh.1
  have h3 : Is T d 65 0 v' (T.take k).length := h2.mono fun i x hx => by
    have hi := get_lt hx
    rw [List.length_take] at hi
    rw [List.getElem?_take_of_lt (by omega)] at hx
    exact hx
  have e1 := is_tree h1
  have e2 := is_tree h3
  rw [e1] at e2
  injection e2 with e2
  injection e2 with _ e2
  rw [List.length_take] at e2
  omega
/-- a tree of more than one node -/
theorem Is.root (h : Is T d 65 0 v T.length) : ∃ x, T[0]? = some x ∧ v.head? = some 0 ∧ ((x.leaf = true ∧ T.length = 1 ∧ v = [0]) ∨
    (x.leaf = false ∧ x.lt = 1 ∧ ∃ mid : Nat, x.rt = (mid : Int) ∧ 2 ≤ mid ∧ mid < T.length ∧ v[1]? = some 1 ∧ v[mid]? = some 1 ∧ ∀ i y, v[i]? = some y → (y = 0 ↔ i = 0))) := by
  have hlen := h.len
  have hhd := h.head
  generalize hr : 65 = r at h hhd
  generalize hm : T.length = m at h
  cases h with
  | leaf hx hl ho => exact ⟨_, hx, by simp; omega, .inl ⟨hl, by omega, by simp; omega⟩⟩
  | @node r p m2 e x a b hx hl ho ha hrt hb =>
    have la := ha.len
    have lb := hb.len
    have ga := ha.head
    have gb := hb.head
    obtain rfl : r = 64 := by omega
    refine ⟨x, hx, rfl, .inr ⟨hl, by have := (of_decide_eq_true ho).2.2; omega, m2, hrt, by omega, by omega, ?_, ?_, ?_⟩⟩
    · cases a with
      | nil => simp at la
      | cons z a => have := ga.2.1; simp at this; simp [this]
    · rw [show m2 = (m2 - 1) + 1 from by omega, List.getElem?_cons_succ, List.getElem?_append_right (by omega), show m2 - 1 - a.length = 0 from by omega]
      cases b with
      | nil => simp at lb
      | cons z b => have := gb.2.1; simp at this; simp [this]
    · intro i y hy
      cases i with
      | zero => simp at hy; omega
      | succ i =>
        rw [List.getElem?_cons_succ] at hy
        have hm := List.mem_of_getElem? hy
        have one : ∀ {u : List Nat}, (1 ≤ 64 ∧ u.head? = some (65 - 64) ∧ ∀ y ∈ u.tail, 65 - 64 < y ∨ 65 ≤ 64) → y ∈ u → 1 ≤ y := by
          intro u hu hy
          cases u with
          | nil => cases hy
          | cons z u =>
            obtain ⟨_, h2, h3⟩ := hu
            simp at h2
            rcases List.mem_cons.1 hy with rfl | hy
            · omega
            · have := h3 y hy; omega
        have : 1 ≤ y := by
          rcases List.mem_append.1 hm with hm | hm
          · exact one ga hm
          · exact one gb hm
        omega
end
/-- a node of a tree that is grown -/
def conv (t : Wm.Nd) : Nd := ⟨t.leaf, t.ids, t.pn, t.po, t.lt, t.rt⟩
theorem pn_ok {L : List (List Int)} {d : Nat} {ids : List Int} (h1 : 1 ≤ d) (h2 : d ≤ 1024) (hL : Zm.All L d) (hx : ∀ x ∈ ids, Zm.In L x) (f : Nat → Int) : Pm.chk (Wm.pnF L ids f d) (Wm.poF L ids f) (d : Int) = 0 := by
  unfold Wm.pnF Wm.poF
  cases hp : Zm.pick L ids (refP f ids.length) (refQ f ids.length) with
  | none =>
    obtain ⟨e1, e2, -⟩ := Zm.of_none hp d
    rw [e1, e2]
    exact Pm.flat_chk d h1 h2
  | some t =>
    obtain ⟨e1, e2, -⟩ := Zm.of_some hp d
    obtain ⟨g1, g2, -⟩ := Zm.pick_is hp
    rw [e1, e2]
    obtain ⟨p0, p1, q0, q1, -⟩ := Rm.pair_ok (Rm.dr f (2 * t)) (ids.length : Int) (by omega)
    exact (Zm.two_items h2 hL (hx _ (Zm.at_mem p0 p1)) (hx _ (Zm.at_mem q0 q1))).chk h1
theorem grow_is {L : List (List Int)} {d lim : Nat} (h1 : 1 ≤ d) (h2 : d ≤ 1024) (hL : Zm.All L d) : ∀ (r R : Nat) (ids : List Int) (p : Nat) (f : Nat → Int) (T : List Nd), r + 1 ≤ R → (∀ x ∈ ids, Zm.In L x) →
    (∀ i, i < (Wm.grow L d lim r ids p f).1.length → T[p + i]? = (Wm.grow L d lim r ids p f).1[i]?.map conv) → ∃ v, Is T (d : Int) R p v (p + (Wm.grow L d lim r ids p f).1.length) ∧ ∀ y ∈ v, y ≤ (65 - R) + r := by
  have one : ∀ (r R : Nat) (ids : List Int) (p : Nat) (T : List Nd), 1 ≤ R → T[p]? = some (conv (Wm.one ids)) → ∃ v, Is T (d : Int) R p v (p + 1) ∧ ∀ y ∈ v, y ≤ (65 - R) + r := by
    intro r R ids p T hR hT
    obtain ⟨R, rfl⟩ : ∃ k, R = k + 1 := ⟨R - 1, by omega⟩
    exact ⟨[64 - R], .leaf hT rfl (by simp [lfOk, conv, Wm.one]), fun y hy => by rw [List.mem_singleton] at hy; omega⟩
  intro r
  induction r with
  | zero =>
    intro R ids p f T hR _ hT
    rw [Wm.grow_leaf (.inr rfl)] at hT ⊢
    exact one 0 R ids p T (by omega) (by have := hT 0 (by simp); simpa using this)
  | succ r ih =>
    intro R ids p f T hR hx hT
    rcases Nat.lt_or_ge lim ids.length with h | h
    · rw [Wm.grow_node h rfl rfl] at hT ⊢
      obtain ⟨R, rfl⟩ : ∃ k, R = k + 1 := ⟨R - 1, by omega⟩
      obtain ⟨a, ha⟩ : ∃ a, Wm.grow L d lim r (Wm.lfF L ids f) (p + 1) (Rm.dr f (2 * Wm.trF L ids f)) = a := ⟨_, rfl⟩
      rw [ha] at hT ⊢
      obtain ⟨b, hb⟩ : ∃ b, Wm.grow L d lim r (Wm.rgF L ids f) (p + 1 + a.1.length) (Rm.dr f (2 * Wm.trF L ids f + a.2)) = b := ⟨_, rfl⟩
      rw [hb] at hT ⊢
      dsimp only at hT ⊢
      simp only [List.length_cons, List.length_append] at hT ⊢
      have hperm := Wm.lr_perm (L := L) (ids := ids) (f := f)
      have hT0 := hT 0 (by omega)
      simp only [Nat.add_zero, List.getElem?_cons_zero, Option.map_some] at hT0
      obtain ⟨va, ia, wa⟩ := ih R (Wm.lfF L ids f) (p + 1) (Rm.dr f (2 * Wm.trF L ids f)) T (by omega) (fun x hx2 => hx x (hperm.mem_iff.1 (List.mem_append_left _ hx2))) (by
        rw [ha]
        intro i hi
        have := hT (i + 1) (by omega)
        rw [List.getElem?_cons_succ, List.getElem?_append_left hi] at this
        rw [show p + 1 + i = p + (i + 1) from by omega]
        exact this)
      obtain ⟨vb, ib, wb⟩ := ih R (Wm.rgF L ids f) (p + 1 + a.1.length) (Rm.dr f (2 * Wm.trF L ids f + a.2)) T (by omega) (fun x hx2 => hx x (hperm.mem_iff.1 (List.mem_append_right _ hx2))) (by
        rw [hb]
        intro i hi
        have := hT (a.1.length + i + 1) (by omega)
        rw [List.getElem?_cons_succ, List.getElem?_append_right (by omega), show a.1.length + i - a.1.length = i from by omega] at this
        rw [show p + 1 + a.1.length + i = p + (a.1.length + i + 1) from by omega]
        exact this)
      rw [ha] at ia
      rw [hb] at ib
      refine ⟨(64 - R) :: (va ++ vb), ?_, fun y hy => ?_⟩
      · have := Is.node (d := (d : Int)) hT0 rfl (by simp [spOk, conv, pn_ok h1 h2 hL hx f]) ia (by simp [conv]) ib
        rw [show p + (a.1.length + b.1.length + 1) = p + 1 + a.1.length + b.1.length from by omega]
        exact this
      · rcases List.mem_cons.1 hy with rfl | hy
        · omega
        rcases List.mem_append.1 hy with hy | hy
        · have := wa y hy; omega
        · have := wb y hy; omega
    · rw [Wm.grow_leaf (.inl h)] at hT ⊢
      exact one (r + 1) R ids p T (by omega) (by have := hT 0 (by simp); simpa using this)
theorem tr_none {lim r p k dp : Nat} {ids : List Int} {T : List Wm.Nd} (h : Wm.Tr lim r ids p T k dp) : (lists (T.map conv)).flatten = Wm.held T := by
  have app : ∀ A B : List Nd, (lists (A ++ B)).flatten = (lists A).flatten ++ (lists B).flatten := by
    intro A B; unfold lists; simp
  induction h with
  | leaf h => simp [lists, conv, Wm.one, Wm.held]
  | node h hp hl hg h2 h8 a b iha ihb =>
    rw [Wm.held_cons, Wm.held_append, ← iha, ← ihb, List.map_cons, List.map_append]
    have : ∀ (x : Nd) (A : List Nd), x.leaf = false → lists (x :: A) = lists A := by intro x A hx; unfold lists; rw [List.filter_cons, if_neg (by rw [hx]; simp)]
    rw [this _ _ rfl, app]; rfl
theorem cov_upto {n : Nat} {l : List Int} (h : l.Perm (Wm.upto n)) : Nm.cov (n : Int) l = true := by
  unfold Nm.cov
  refine decide_eq_true ⟨(h.nodup_iff).2 ?_, fun x hx => Wm.upto_in (h.mem_iff.1 hx), by rw [h.length_eq, Wm.upto_length]; omega⟩
  unfold Wm.upto
  exact List.Pairwise.map _ (fun a b hab h => hab (Int.ofNat.inj h)) List.nodup_range
end Xm
end Go.Proofs.Ytecdgpacofojeaa
