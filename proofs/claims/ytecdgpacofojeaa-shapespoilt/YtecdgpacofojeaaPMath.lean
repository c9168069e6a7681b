/-
  Plain facts of planes between vectors, for layer 11 (plane): what a margin is, what the plane between two vectors is, which plane may be. Nothing of the program stands here.
-/
import Derived.Test.YtecdgpacofojeaaVMath
namespace Go.Proofs.Ytecdgpacofojeaa.Pm
open Go Go.RowKit

/-- the margin of a vector at a plane (its normal, its offset) -/
def mar (l : List Int) (o : Int) (v : List Int) : Int := wrap64 (2 * Vm.dotZ l v - o)
/-- the offset of the plane between two vectors -/
def off (a b : List Int) : Int := wrap64 (Vm.dotZ (Vm.less a b) a + Vm.dotZ (Vm.less a b) b)
/-- may a normal's coordinate be? may a plane of a dimension? the errors' numbers -/
def ok (x : Int) : Prop := -2097152 ≤ x ∧ x ≤ 2097152
instance (x : Int) : Decidable (ok x) := by unfold ok; infer_instance
def chk (l : List Int) (o dim : Int) : Int :=
  if dim < 1 ∨ 1024 < dim then 1 else if (l.length : Int) ≠ dim then 3 else if ∀ x ∈ l, ok x then (if -9007199254740992 ≤ o ∧ o ≤ 9007199254740992 then 0 else 1) else 4
theorem chk_range {l : List Int} {o dim : Int} (h : dim < 1 ∨ 1024 < dim) : chk l o dim = 1 := by unfold chk; rw [if_pos h]
theorem chk_dim {l : List Int} {o dim : Int} (h : ¬ (dim < 1 ∨ 1024 < dim)) (h2 : (l.length : Int) ≠ dim) : chk l o dim = 3 := by unfold chk; rw [if_neg h, if_pos h2]
theorem chk_good {l : List Int} {o dim : Int} (h : ¬ (dim < 1 ∨ 1024 < dim)) (h2 : (l.length : Int) = dim) (h3 : ∀ x ∈ l, ok x) (h4 : -9007199254740992 ≤ o) (h5 : o ≤ 9007199254740992) : chk l o dim = 0 := by
  unfold chk; rw [if_neg h, if_neg (by omega), if_pos h3, if_pos ⟨h4, h5⟩]
theorem chk_off {l : List Int} {o dim : Int} (h : ¬ (dim < 1 ∨ 1024 < dim)) (h2 : (l.length : Int) = dim) (h3 : ∀ x ∈ l, ok x) (h4 : o < -9007199254740992 ∨ 9007199254740992 < o) : chk l o dim = 1 := by
  unfold chk; rw [if_neg h, if_neg (by omega), if_pos h3, if_neg (by omega)]
theorem chk_bad {l : List Int} {o dim : Int} (h : ¬ (dim < 1 ∨ 1024 < dim)) (h2 : (l.length : Int) = dim) (h3 : ¬ ∀ x ∈ l, ok x) : chk l o dim = 4 := by
  unfold chk; rw [if_neg h, if_neg (by omega), if_neg h3]
theorem chk_ok {l : List Int} {o dim : Int} (h : chk l o dim = 0) : 1 ≤ dim ∧ dim ≤ 1024 ∧ (l.length : Int) = dim ∧ (∀ x ∈ l, ok x) ∧ -9007199254740992 ≤ o ∧ o ≤ 9007199254740992 := by
  by_cases a : dim < 1 ∨ 1024 < dim
  · rw [chk_range a] at h; omega
  · by_cases b : (l.length : Int) = dim
    · by_cases c : ∀ x ∈ l, ok x
      · by_cases d : o < -9007199254740992 ∨ 9007199254740992 < o
        · rw [chk_off a b c d] at h; omega
        · exact ⟨by omega, by omega, b, c, by omega, by omega⟩
      · rw [chk_bad a b c] at h; omega
    · rw [chk_dim a b] at h; omega

theorem mar_two (l : List Int) (o : Int) (v : List Int) : wrap64 (wrap64 (2 * Vm.dot l v) - o) = mar l o v := by
  unfold mar Vm.dot; simp only [wrap64]; omega
theorem mar_sum (l : List Int) (o : Int) (v : List Int) : wrap64 (wrap64 (Vm.dot l v + Vm.dot l v) - o) = mar l o v := by
  unfold mar Vm.dot; simp only [wrap64]; omega
theorem off_sum (a b : List Int) : wrap64 (Vm.dot (Vm.less a b) a + Vm.dot (Vm.less a b) b) = off a b := by
  unfold off Vm.dot; rw [Vm.wrap_add']
theorem mar_lo (l : List Int) (o : Int) (v : List Int) : -9223372036854775808 ≤ mar l o v := Vm.wrap_lo _
theorem mar_hi (l : List Int) (o : Int) (v : List Int) : mar l o v ≤ 9223372036854775807 := Vm.wrap_hi _
theorem off_lo (a b : List Int) : -9223372036854775808 ≤ off a b := Vm.wrap_lo _
theorem off_hi (a b : List Int) : off a b ≤ 9223372036854775807 := Vm.wrap_hi _

/-- a normal that may be and a vector that may be -/
theorem dotZ_bound (l m : List Int) (hl : ∀ x ∈ l, ok x) (hm : ∀ x ∈ m, Vm.good x) : -((l.length : Int) * 2199023255552) ≤ Vm.dotZ l m ∧ Vm.dotZ l m ≤ (l.length : Int) * 2199023255552 := by
  induction l generalizing m with
  | nil => simp [Vm.dotZ]
  | cons x l ih =>
    cases m with
    | nil => simp [Vm.dotZ]; omega
    | cons y m =>
      have ⟨i0, i1⟩ := ih m (fun z hz => hl z (.tail _ hz)) (fun z hz => hm z (.tail _ hz))
      have ⟨x0, x1⟩ := hl x (.head _)
      have ⟨y0, y1⟩ := hm y (.head _)
      have ⟨p0, p1⟩ := Vm.mul_bound (x := x) (y := 2 * y) (a := 2097152) x0 x1 (by omega) (by omega)
      have e : Vm.dotZ (x :: l) (y :: m) = x * y + Vm.dotZ l m := rfl
      rw [e, List.length_cons, Int.natCast_add]
      rw [show x * (2 * y) = 2 * (x * y) from by grind] at p0 p1
      generalize x * y = p at *
      omega
theorem less_ok (l m : List Int) (hl : ∀ x ∈ l, Vm.good x) (hm : ∀ x ∈ m, Vm.good x) : ∀ x ∈ Vm.less l m, ok x := by
  induction l generalizing m with
  | nil => simp [Vm.less]
  | cons x l ih =>
    cases m with
    | nil => simp [Vm.less]
    | cons y m =>
      intro z hz
      have hx := hl x (.head _)
      have hy := hm y (.head _)
      rw [Vm.less_cons x y l m hx hy] at hz
      rcases List.mem_cons.1 hz with rfl | hz
      · unfold ok; unfold Vm.good at hx hy; omega
      · exact ih m (fun z hz => hl z (.tail _ hz)) (fun z hz => hm z (.tail _ hz)) z hz
theorem less_flip (l m : List Int) (h : l.length = m.length) (hl : ∀ x ∈ l, Vm.good x) (hm : ∀ x ∈ m, Vm.good x) : Vm.less l m = Vm.less m l ↔ l = m := by
  induction l generalizing m with
  | nil => cases m with
    | nil => simp
    | cons y m => simp at h
  | cons x l ih =>
    cases m with
    | nil => simp at h
    | cons y m =>
      have hx := hl x (.head _)
      have hy := hm y (.head _)
      have := ih m (by simpa using h) (fun z hz => hl z (.tail _ hz)) (fun z hz => hm z (.tail _ hz))
      rw [Vm.less_cons x y l m hx hy, Vm.less_cons y x m l hy hx, List.cons.injEq, List.cons.injEq, this]
      constructor
      · rintro ⟨a, b⟩; exact ⟨by omega, b⟩
      · rintro ⟨a, b⟩; exact ⟨by omega, b⟩

/-- vectors that may be, of one length -/
structure Two (a b : List Int) (n : Nat) : Prop where
  le : n ≤ 1024
  la : a.length = n
  lb : b.length = n
  ga : ∀ x ∈ a, Vm.good x
  gb : ∀ x ∈ b, Vm.good x
theorem Two.flip {a b : List Int} {n : Nat} (h : Two a b n) : Two b a n := ⟨h.le, h.lb, h.la, h.gb, h.ga⟩
theorem Two.off {a b : List Int} {n : Nat} (h : Two a b n) : off a b = Vm.dotZ a a - Vm.dotZ b b := by
  have h1 := Vm.dotZ_less_by a b a (by rw [h.la, h.lb]) rfl h.ga h.gb
  have h2 := Vm.dotZ_less_by a b b (by rw [h.la, h.lb]) (by rw [h.la, h.lb]) h.ga h.gb
  have h3 := Vm.dotZ_comm a b
  have b1 := Vm.dotZ_bound a a h.ga h.ga
  have b2 := Vm.dotZ_bound b b h.gb h.gb
  have := h.le
  rw [h.la] at b1
  rw [h.lb] at b2
  unfold Pm.off
  rw [show Vm.dotZ (Vm.less a b) a + Vm.dotZ (Vm.less a b) b = Vm.dotZ a a - Vm.dotZ b b from by omega]
  exact Vm.wrap_in (by omega) (by omega)
theorem Two.chk {a b : List Int} {n : Nat} (h : Two a b n) (h0 : 1 ≤ n) : chk (Vm.less a b) (Pm.off a b) (n : Int) = 0 := by
  have b1 := Vm.dotZ_bound a a h.ga h.ga
  have b2 := Vm.dotZ_bound b b h.gb h.gb
  have e := h.off
  have := h.le
  rw [h.la] at b1
  rw [h.lb] at b2
  refine chk_good (by omega) ?_ (less_ok a b h.ga h.gb) (by omega) (by omega)
  rw [Vm.less_length]; unfold Vm.both; rw [h.la, h.lb]; omega
/-- margins at the plane between two: how far from the second one, less how far from the first one -/
theorem Two.mar {a b v : List Int} {n : Nat} (h : Two a b n) (k : Two a v n) : mar (Vm.less a b) (Pm.off a b) v = Vm.far v b - Vm.far v a ∧ Vm.far v b = Vm.farZ v b ∧ Vm.far v a = Vm.farZ v a ∧ 0 ≤ Vm.farZ v a ∧ Vm.farZ v a ≤ 4503599627370496 ∧ 0 ≤ Vm.farZ v b ∧ Vm.farZ v b ≤ 4503599627370496 := by
  have b1 := Vm.farZ_bound v b k.gb h.gb
  have b2 := Vm.farZ_bound v a k.gb h.ga
  have hn := h.le
  rw [k.lb] at b1 b2
  have e1 : Vm.far v b = Vm.farZ v b := Vm.wrap_in (by omega) (by omega)
  have e2 : Vm.far v a = Vm.farZ v a := Vm.wrap_in (by omega) (by omega)
  refine ⟨?_, e1, e2, by omega, by omega, by omega, by omega⟩
  rw [e1, e2]
  unfold Pm.mar
  rw [h.off, Vm.dotZ_less_by a b v (by rw [h.la, h.lb]) (by rw [h.la, k.lb]) h.ga h.gb]
  have s1 := Vm.farZ_split v b (by rw [k.lb, h.lb])
  have s2 := Vm.farZ_split v a (by rw [k.lb, h.la])
  have c1 := Vm.dotZ_comm a v
  have c2 := Vm.dotZ_comm b v
  rw [show 2 * (Vm.dotZ a v - Vm.dotZ b v) - (Vm.dotZ a a - Vm.dotZ b b) = Vm.farZ v b - Vm.farZ v a from by omega]
  exact Vm.wrap_in (by omega) (by omega)
theorem far_self (a : List Int) : Vm.far a a = 0 := by
  unfold Vm.far
  rw [(Vm.farZ_zero a a rfl).2 rfl]
  exact Vm.wrap_in (by omega) (by omega)
theorem Two.fst {a b : List Int} {n : Nat} (h : Two a b n) : Pm.mar (Vm.less a b) (Pm.off a b) a = Vm.far a b := by
  rw [(h.mar (v := a) ⟨h.le, h.la, h.la, h.ga, h.ga⟩).1, far_self]; omega
theorem Two.snd {a b : List Int} {n : Nat} (h : Two a b n) : Pm.mar (Vm.less a b) (Pm.off a b) b = -Vm.far a b := by
  rw [(h.mar (v := b) h).1, far_self, Vm.far_comm b a]; omega
theorem Two.turn {a b v : List Int} {n : Nat} (h : Two a b n) (k : Two a v n) : Pm.mar (Vm.less a b) (Pm.off a b) v = -Pm.mar (Vm.less b a) (Pm.off b a) v := by
  rw [(h.mar k).1, (h.flip.mar (v := v) ⟨h.le, h.lb, k.lb, h.gb, k.gb⟩).1]; omega
theorem Two.same {a b : List Int} {n : Nat} (h : Two a b n) : (Pm.off a b = Pm.off b a ∧ Vm.less a b = Vm.less b a) ↔ a = b := by
  constructor
  · rintro ⟨-, e⟩; exact (less_flip a b (by rw [h.la, h.lb]) h.ga h.gb).1 e
  · rintro rfl; exact ⟨rfl, rfl⟩
/-- of a plane and a vector that may be the margin doesn't go round -/
theorem mar_bound {l v : List Int} {o : Int} {n : Nat} (h : chk l o (n : Int) = 0) (k : Vm.chk v (n : Int) = 0) : -18014398509481984 ≤ mar l o v ∧ mar l o v ≤ 18014398509481984 := by
  obtain ⟨-, d1, e0, g0, o0, o1⟩ := chk_ok h
  obtain ⟨-, -, -, g1⟩ := Vm.chk_ok k
  have b := dotZ_bound l v g0 g1
  have e : mar l o v = 2 * Vm.dotZ l v - o := Vm.wrap_in (by omega) (by omega)
  omega
/-- the flat plane -/
def flat (n : Nat) : List Int := List.replicate n 0
theorem flat_dot (n : Nat) (v : List Int) : Vm.dotZ (flat n) v = 0 := by
  unfold flat
  induction n generalizing v with
  | zero => rfl
  | succ n ih =>
    cases v with
    | nil => rfl
    | cons y v => rw [List.replicate_succ]; simp only [Vm.dotZ, ih v]; omega
theorem flat_mar (n : Nat) (v : List Int) : mar (flat n) 0 v = 0 := by
  unfold mar; rw [flat_dot]; exact Vm.wrap_in (by omega) (by omega)
theorem flat_length (n : Nat) : (flat n).length = n := by simp [flat]
theorem flat_in (n : Nat) : ∀ x ∈ flat n, -2147483648 ≤ x ∧ x ≤ 2147483647 := fun x hx => by
  rw [flat, List.mem_replicate] at hx; omega
theorem flat_chk (n : Nat) (h0 : 1 ≤ n) (h1 : n ≤ 1024) : chk (flat n) 0 (n : Int) = 0 :=
  chk_good (by omega) (by rw [flat_length]) (fun x hx => by rw [flat, List.mem_replicate] at hx; unfold ok; omega) (by omega) (by omega)
theorem flat_succ (k : Nat) : flat (k + 1) = flat k ++ [0] := List.replicate_succ'

/-- the middle, and the one as far behind it -/
def mid : List Int → List Int → List Int
  | x :: l, y :: m => (x + y) :: mid l m
  | _, _ => []
def far2 : List Int → List Int → List Int
  | x :: l, y :: m => (x + 2 * y) :: far2 l m
  | _, _ => []
theorem mid_snoc (k : Nat) (l m : List Int) (hl : k < l.length) (hm : k < m.length) : mid (l.take (k + 1)) (m.take (k + 1)) = mid (l.take k) (m.take k) ++ [l[k] + m[k]] := by
  induction k generalizing l m with
  | zero =>
    cases l with
    | nil => exact absurd hl (by simp)
    | cons x l => cases m with
      | nil => exact absurd hm (by simp)
      | cons y m => simp [mid]
  | succ k ih =>
    cases l with
    | nil => exact absurd hl (by simp)
    | cons x l => cases m with
      | nil => exact absurd hm (by simp)
      | cons y m =>
        have := ih l m (by simpa using hl) (by simpa using hm)
        simp only [List.take_succ_cons, mid, List.getElem_cons_succ, List.cons_append] at this ⊢
        rw [this]
theorem far2_snoc (k : Nat) (l m : List Int) (hl : k < l.length) (hm : k < m.length) : far2 (l.take (k + 1)) (m.take (k + 1)) = far2 (l.take k) (m.take k) ++ [l[k] + 2 * m[k]] := by
  induction k generalizing l m with
  | zero =>
    cases l with
    | nil => exact absurd hl (by simp)
    | cons x l => cases m with
      | nil => exact absurd hm (by simp)
      | cons y m => simp [far2]
  | succ k ih =>
    cases l with
    | nil => exact absurd hl (by simp)
    | cons x l => cases m with
      | nil => exact absurd hm (by simp)
      | cons y m =>
        have := ih l m (by simpa using hl) (by simpa using hm)
        simp only [List.take_succ_cons, far2, List.getElem_cons_succ, List.cons_append] at this ⊢
        rw [this]
/-- what PlaneMiddle asks of its numbers -/
def near (x y : Int) : Prop := -524288 ≤ x ∧ x ≤ 524288 ∧ -131072 ≤ y ∧ y ≤ 131072
def Near : List Int → List Int → Prop
  | x :: l, y :: m => near x y ∧ Near l m
  | _, _ => True
theorem near_snoc (k : Nat) (l m : List Int) (hl : k < l.length) (hm : k < m.length) (h : Near (l.take k) (m.take k)) (h' : near l[k] m[k]) : Near (l.take (k + 1)) (m.take (k + 1)) := by
  induction k generalizing l m with
  | zero =>
    cases l with
    | nil => exact absurd hl (by simp)
    | cons x l => cases m with
      | nil => exact absurd hm (by simp)
      | cons y m => simpa [Near] using h'
  | succ k ih =>
    cases l with
    | nil => exact absurd hl (by simp)
    | cons x l => cases m with
      | nil => exact absurd hm (by simp)
      | cons y m =>
        simp only [List.take_succ_cons, Near, List.getElem_cons_succ] at h h' ⊢
        exact ⟨h.1, ih l m (by simpa using hl) (by simpa using hm) h.2 h'⟩
theorem mid_facts (l m : List Int) (h : l.length = m.length) (k : Near l m) : (mid l m).length = l.length ∧ (far2 l m).length = l.length ∧ (∀ x ∈ l, Vm.good x) ∧ (∀ x ∈ mid l m, Vm.good x) ∧ (∀ x ∈ far2 l m, Vm.good x) ∧
    Vm.farZ (mid l m) (far2 l m) = Vm.farZ (mid l m) l ∧ Vm.farZ l (far2 l m) = 4 * Vm.farZ l (mid l m) := by
  induction l generalizing m with
  | nil => cases m with
    | nil => simp [mid, far2, Vm.farZ]
    | cons y m => simp at h
  | cons x l ih =>
    cases m with
    | nil => simp at h
    | cons y m =>
      obtain ⟨⟨x0, x1, y0, y1⟩, k2⟩ := k
      obtain ⟨i1, i2, i3, i4, i5, i6, i7⟩ := ih m (by simpa using h) k2
      refine ⟨by simp [mid, i1], by simp [far2, i2], ?_, ?_, ?_, ?_, ?_⟩
      · intro z hz; rcases List.mem_cons.1 hz with rfl | hz
        · exact ⟨by omega, by omega⟩
        · exact i3 z hz
      · intro z hz; simp only [mid] at hz; rcases List.mem_cons.1 hz with rfl | hz
        · exact ⟨by omega, by omega⟩
        · exact i4 z hz
      · intro z hz; simp only [far2] at hz; rcases List.mem_cons.1 hz with rfl | hz
        · exact ⟨by omega, by omega⟩
        · exact i5 z hz
      · simp only [mid, far2, Vm.farZ, i6]; grind
      · simp only [mid, far2, Vm.farZ, i7]; grind
theorem mid_tells {l m : List Int} {n : Nat} (h : l.length = n) (h' : m.length = n) (hn : n ≤ 1024) (k : Near l m) : Pm.mar (Vm.less l (far2 l m)) (Pm.off l (far2 l m)) (mid l m) = 0 ∧
    ∃ D, Vm.far l (mid l m) = D ∧ Pm.mar (Vm.less l (far2 l m)) (Pm.off l (far2 l m)) l = 4 * D ∧ 0 ≤ D ∧ D ≤ 4503599627370496 := by
  obtain ⟨i1, i2, i3, i4, i5, i6, i7⟩ := mid_facts l m (by rw [h, h']) k
  have T : Two l (far2 l m) n := ⟨hn, h, by rw [i2, h], i3, i5⟩
  have K : Two l (mid l m) n := ⟨hn, h, by rw [i1, h], i3, i4⟩
  obtain ⟨m1, m2, m3, m4, m5, m6, m7⟩ := T.mar K
  refine ⟨by rw [m1, m2, m3, i6]; omega, _, rfl, ?_, ?_, ?_⟩
  · rw [T.fst]
    have b1 := Vm.farZ_bound l (far2 l m) i3 i5
    have b2 := Vm.farZ_bound l (mid l m) i3 i4
    rw [h] at b1 b2
    have e1 : Vm.far l (far2 l m) = Vm.farZ l (far2 l m) := Vm.wrap_in (by omega) (by omega)
    have e2 : Vm.far l (mid l m) = Vm.farZ l (mid l m) := Vm.wrap_in (by omega) (by omega)
    rw [e1, e2, i7]
  · rw [Vm.far_comm, m3]; omega
  · rw [Vm.far_comm, m3]; omega
end Go.Proofs.Ytecdgpacofojeaa.Pm
