/-
  Plain facts of sums (layer 2, seal): of the first 8,000 powers of one bit no three come to nothing, no two are the same: so three bits that are turned over are seen in a text of 1,000 bytes. By a search tree that the kernel fills. Nothing of the program stands here.
-/
import Derived.Test.YtabfjlokemkpjaaSMath
import Derived.KernelRfl
namespace Go.Proofs.Ytabfjlokemkpjaa.Sm
open Go

/-- a step, on a plain number -/
def ust (n : Nat) : Nat := Nat.xor (Nat.shiftRight n 1) (Nat.mul (Nat.land n 1) 3988292384)
def ustn : Nat → Nat → Nat
  | 0, n => n
  | k + 1, n => ustn k (ust n)
theorem st_nat (r : BitVec 32) : (st r).toNat = ust r.toNat := by
  unfold st ust
  show _ = (r.toNat >>> 1) ^^^ ((r.toNat &&& 1) * 3988292384)
  rw [BitVec.toNat_xor, BitVec.toNat_ushiftRight, Nat.and_one_is_mod]
  have h : r.getLsbD 0 = decide (r.toNat % 2 = 1) := by rw [← BitVec.testBit_toNat, Nat.testBit_zero]
  rw [h]
  rcases Nat.mod_two_eq_zero_or_one r.toNat with e | e <;> rw [e] <;> simp [pl]
theorem stn_nat (k : Nat) (r : BitVec 32) : (stn k r).toNat = ustn k r.toNat := by
  induction k generalizing r with
  | zero => rfl
  | succ k ih => simp only [stn, ustn]; rw [ih, st_nat]

/-- a search tree -/
inductive Tr where
  | e : Tr
  | n (v : Nat) (l r : Tr) : Tr
def find (v : Nat) : Tr → Bool
  | .e => false
  | .n w l r => bif Nat.beq v w then true else bif Nat.ble v w then find v l else find v r
/-- a number's value is worked out ahead -/
def force (n : Nat) (f : Nat → Bool) : Bool := match n with
  | 0 => f 0
  | m + 1 => f (m + 1)
theorem force_eq (n : Nat) (f : Nat → Bool) : force n f = f n := by cases n <;> rfl
def ins (v : Nat) : Tr → (Tr → Bool) → Bool
  | .e, k => k (.n v .e .e)
  | .n w l r, k => bif Nat.beq v w then false else bif Nat.ble v w then ins v l (fun l' => k (.n w l' r)) else ins v r (fun r' => k (.n w l r'))
/-- so many powers, each without its lowest bit, are unlike -/
def run : Nat → Nat → Tr → Bool
  | 0, _, _ => true
  | k + 1, u, t => force (Nat.shiftRight u 1) fun v => ins v t fun t' => force (ust u) fun u' => run k u' t'
theorem ins_sound (v : Nat) (t : Tr) (k : Tr → Bool) (h : ins v t k = true) :
    find v t = false ∧ ∃ t', k t' = true ∧ find v t' = true ∧ ∀ w, find w t = true → find w t' = true := by
  induction t generalizing k with
  | e => exact ⟨rfl, _, h, by simp [find], fun w hw => by simp [find] at hw⟩
  | n x l r il ir =>
    simp only [ins] at h
    cases hb : Nat.beq v x with
    | true => rw [hb] at h; simp at h
    | false =>
      rw [hb] at h
      cases hl : Nat.ble v x with
      | true =>
        rw [hl] at h
        obtain ⟨h1, t', h2, h3, h4⟩ := il _ h
        refine ⟨by simp [find, hb, hl, h1], _, h2, by simp [find, hb, hl, h3], fun w hw => ?_⟩
        simp only [find] at hw ⊢
        cases hwb : Nat.beq w x with
        | true => rfl
        | false =>
          rw [hwb] at hw
          cases hwl : Nat.ble w x with
          | true => rw [hwl] at hw; exact h4 w hw
          | false => rw [hwl] at hw; exact hw
      | false =>
        rw [hl] at h
        obtain ⟨h1, t', h2, h3, h4⟩ := ir _ h
        refine ⟨by simp [find, hb, hl, h1], _, h2, by simp [find, hb, hl, h3], fun w hw => ?_⟩
        simp only [find] at hw ⊢
        cases hwb : Nat.beq w x with
        | true => rfl
        | false =>
          rw [hwb] at hw
          cases hwl : Nat.ble w x with
          | true => rw [hwl] at hw; exact hw
          | false => rw [hwl] at hw; exact h4 w hw
theorem run_sound (k u : Nat) (t : Tr) (h : run k u t = true) :
    (∀ i, i < k → find (ustn i u >>> 1) t = false) ∧ ∀ i j, i < j → j < k → ustn i u >>> 1 ≠ ustn j u >>> 1 := by
  induction k generalizing u t with
  | zero => exact ⟨fun i hi => absurd hi (by omega), fun i j _ hj => absurd hj (by omega)⟩
  | succ k ih =>
    simp only [run] at h
    rw [force_eq] at h
    obtain ⟨h1, t', h2, h3, h4⟩ := ins_sound _ _ _ h
    rw [force_eq] at h2
    obtain ⟨g1, g2⟩ := ih _ _ h2
    refine ⟨fun i hi => ?_, fun i j hij hj => ?_⟩
    · cases i with
      | zero => exact h1
      | succ i =>
        have := g1 i (by omega)
        cases hf : find (ustn (i + 1) u >>> 1) t with
        | false => rfl
        | true => rw [show ustn (i + 1) u = ustn i (ust u) from rfl] at hf; rw [h4 _ hf] at this; cases this
    · obtain ⟨j, rfl⟩ : ∃ m, j = m + 1 := ⟨j - 1, by omega⟩
      cases i with
      | zero =>
        intro e
        have := g1 j (by omega)
        rw [show ustn (j + 1) u = ustn j (ust u) from rfl, show ustn 0 u = u from rfl] at e
        rw [← e] at this
        have h3' : find (u >>> 1) t' = true := h3
        rw [this] at h3'; cases h3'
      | succ i => exact g2 i j (by omega) (by omega)
set_option maxRecDepth 1000000 in
theorem ran : run 8000 1 .e = true := by kernel_rfl

/-- no two of the powers differ in the lowest bit alone, or not at all -/
theorem powers (i j : Nat) (hi : i < 8000) (hj : j < 8000) (h : stn i one >>> 1 = stn j one >>> 1) : i = j := by
  have key := (run_sound 8000 1 .e ran).2
  have e : ∀ k, (stn k one >>> 1).toNat = ustn k 1 >>> 1 := fun k => by rw [BitVec.toNat_ushiftRight, stn_nat]; rfl
  have h' : ustn i 1 >>> 1 = ustn j 1 >>> 1 := by rw [← e, ← e, h]
  rcases Nat.lt_trichotomy i j with hlt | he | hgt
  · exact absurd h' (key i j hlt hj)
  · exact he
  · exact absurd h'.symm (key j i hgt hi)
theorem one_shr : one >>> 1 = 0#32 := by decide
theorem three_ordered (a d e : Nat) (hd : d < 8000) (he : e < 8000) (h : stn a one ^^^ stn (a + d) one ^^^ stn (a + e) one = 0#32) : d = e := by
  rw [Nat.add_comm a d, Nat.add_comm a e, stn_add d a, stn_add e a, ← stn_xor, ← stn_xor] at h
  have h1 := stn_none a h
  have h2 : stn e one = one ^^^ stn d one := (xor_eq_zero h1).symm
  have h3 : stn d one >>> 1 = stn e one >>> 1 := by rw [h2, BitVec.ushiftRight_xor_distrib, one_shr, BitVec.zero_xor]
  exact powers d e hd he h3
theorem two_same (a b : Nat) (a1 : 1 ≤ a) (ha : a ≤ 8000) (b1 : 1 ≤ b) (hb : b ≤ 8000) (h : stn a one ^^^ stn b one = 0#32) : a = b := by
  have key : ∀ a d : Nat, d < 8000 → stn a one = stn (a + d) one → d = 0 := by
    intro a d hd h
    rw [Nat.add_comm a d, stn_add d a] at h
    have := stn_inj a h
    exact powers d 0 hd (by omega) (by rw [← this]; rfl)
  have h' := xor_eq_zero h
  rcases Nat.le_total a b with hab | hab
  · obtain ⟨d, rfl⟩ := Nat.le.dest hab
    have := key a d (by omega) h'; omega
  · obtain ⟨d, rfl⟩ := Nat.le.dest hab
    have := key b d (by omega) h'.symm; omega
theorem one_not (a : Nat) : stn a one ≠ 0#32 := fun h => absurd (stn_none a h) (by decide)
theorem three_min (a b c : Nat) (a1 : 1 ≤ a) (hab : a ≤ b) (hac : a ≤ c) (hb : b ≤ 8000) (hc : c ≤ 8000) : stn a one ^^^ stn b one ^^^ stn c one ≠ 0#32 := by
  intro h
  obtain ⟨d, rfl⟩ := Nat.le.dest hab
  obtain ⟨e, rfl⟩ := Nat.le.dest hac
  have := three_ordered a d e (by omega) (by omega) h
  subst this
  rw [BitVec.xor_assoc, BitVec.xor_self, BitVec.xor_zero] at h
  exact one_not a h
theorem three_none (a b c : Nat) (a1 : 1 ≤ a) (ha : a ≤ 8000) (b1 : 1 ≤ b) (hb : b ≤ 8000) (c1 : 1 ≤ c) (hc : c ≤ 8000) : stn a one ^^^ stn b one ^^^ stn c one ≠ 0#32 := by
  intro h
  rcases (show (a ≤ b ∧ a ≤ c) ∨ (b ≤ a ∧ b ≤ c) ∨ (c ≤ a ∧ c ≤ b) from by omega) with ⟨h1, h2⟩ | ⟨h1, h2⟩ | ⟨h1, h2⟩
  · exact three_min a b c a1 h1 h2 hb hc h
  · rw [BitVec.xor_comm (stn a one)] at h
    exact three_min b a c b1 h1 h2 ha hc h
  · rw [BitVec.xor_comm, ← BitVec.xor_assoc] at h
    exact three_min c a b c1 h1 h2 ha hb h

/-- a text with a bit turned over, if it has that bit -/
def turnI (l : List UInt8) (k : Int) : List UInt8 := if 0 ≤ k ∧ k < 8 * (l.length : Int) then turn l k.toNat else l
theorem turnI_length (l : List UInt8) (k : Int) : (turnI l k).length = l.length := by unfold turnI; split; exact turn_length _ _; rfl
theorem turn_turn (l : List UInt8) (k : Nat) : turn (turn l k) k = l := by
  unfold turn
  apply List.ext_getElem?
  intro i
  rw [List.getElem?_modify, List.getElem?_modify]
  cases l[i]? with
  | none => rfl
  | some x =>
    by_cases h : k / 8 = i
    · simp [h, UInt8.xor_assoc]
    · simp [h]
theorem turnI_no {l : List UInt8} {k : Int} (h : ¬ (0 ≤ k ∧ k < 8 * (l.length : Int))) : turnI l k = l := if_neg h
theorem turnI_yes {l : List UInt8} {k : Int} (h : 0 ≤ k ∧ k < 8 * (l.length : Int)) : turnI l k = turn l k.toNat := if_pos h
/-- one, two or three bits of a sealed text -/
theorem bits_seen (x : List UInt8) (hx : okB x = true) (h4 : 4 ≤ x.length) (hl : x.length ≤ 1000) (a b c : Int) (h : okB (turnI (turnI (turnI x a) b) c) = true) : turnI (turnI (turnI x a) b) c = x := by
  have la := turnI_length x a
  have lb := turnI_length (turnI x a) b
  have lc := turnI_length (turnI (turnI x a) b) c
  rw [okB_iff _ (by omega)] at h hx
  rw [← hx] at h
  have dif : ∀ {u v : BitVec 32}, u ^^^ v = u → v = 0#32 := by
    intro u v q
    have := congrArg (u ^^^ ·) q
    simpa [← BitVec.xor_assoc] using this
  by_cases ia : 0 ≤ a ∧ a < 8 * (x.length : Int) <;> by_cases ib : 0 ≤ b ∧ b < 8 * (x.length : Int) <;> by_cases ic : 0 ≤ c ∧ c < 8 * (x.length : Int)
  · rw [turnI_yes (l := turnI (turnI x a) b) (by omega), crc_turn _ _ (by omega), turnI_yes (l := turnI x a) (by omega), turn_length, crc_turn _ _ (by omega), turnI_yes ia, turn_length, crc_turn _ _ (by omega), BitVec.xor_assoc, BitVec.xor_assoc] at h
    have := dif h
    rw [← BitVec.xor_assoc] at this
    exact absurd this (three_none _ _ _ (by omega) (by omega) (by omega) (by omega) (by omega) (by omega))
  · rw [turnI_no (l := turnI (turnI x a) b) (by omega), turnI_yes (l := turnI x a) (by omega), crc_turn _ _ (by omega), turnI_yes ia, turn_length, crc_turn _ _ (by omega), BitVec.xor_assoc] at h
    have := two_same _ _ (by omega) (by omega) (by omega) (by omega) (dif h)
    rw [turnI_no (l := turnI (turnI x a) b) (by omega), turnI_yes (l := turnI x a) (by omega), turnI_yes ia, show b.toNat = a.toNat from by omega, turn_turn]
  · rw [turnI_yes (l := turnI (turnI x a) b) (by omega), crc_turn _ _ (by omega), turnI_no (l := turnI x a) (by omega), turnI_yes ia, turn_length, crc_turn _ _ (by omega), BitVec.xor_assoc] at h
    have := two_same _ _ (by omega) (by omega) (by omega) (by omega) (dif h)
    rw [turnI_yes (l := turnI (turnI x a) b) (by omega), turnI_no (l := turnI x a) (by omega), turnI_yes ia, show c.toNat = a.toNat from by omega, turn_turn]
  · rw [turnI_no (l := turnI (turnI x a) b) (by omega), turnI_no (l := turnI x a) (by omega), turnI_yes ia, crc_turn _ _ (by omega)] at h
    exact absurd (dif h) (one_not _)
  · rw [turnI_yes (l := turnI (turnI x a) b) (by omega), crc_turn _ _ (by omega), turnI_yes (l := turnI x a) (by omega), turn_length, crc_turn _ _ (by omega), turnI_no ia, BitVec.xor_assoc] at h
    have := two_same _ _ (by omega) (by omega) (by omega) (by omega) (dif h)
    rw [turnI_yes (l := turnI (turnI x a) b) (by omega), turnI_yes (l := turnI x a) (by omega), turnI_no ia, show c.toNat = b.toNat from by omega, turn_turn]
  · rw [turnI_no (l := turnI (turnI x a) b) (by omega), turnI_yes (l := turnI x a) (by omega), crc_turn _ _ (by omega), turnI_no ia] at h
    exact absurd (dif h) (one_not _)
  · rw [turnI_yes (l := turnI (turnI x a) b) (by omega), crc_turn _ _ (by omega), turnI_no (l := turnI x a) (by omega), turnI_no ia] at h
    exact absurd (dif h) (one_not _)
  · rw [turnI_no (l := turnI (turnI x a) b) (by omega), turnI_no (l := turnI x a) (by omega), turnI_no ia]

/-- behind k places of a burst that begins at a place 'at_' of a text: which bits of it were turned over -/
def Burst (x y : List UInt8) (at_ k : Nat) : Prop :=
  y.length = x.length ∧ ∃ p : BitVec 32, p.toNat < 2 ^ k ∧ (p = 0#32 → y = x) ∧ crc ones y = crc ones x ^^^ stn (8 * x.length - at_) p
theorem burst_start (x : List UInt8) (at_ : Nat) : Burst x x at_ 0 := ⟨rfl, 0#32, by decide, fun _ => rfl, by rw [stn_zero, BitVec.xor_zero]⟩
theorem burst_skip {x y : List UInt8} {at_ k : Nat} (h : Burst x y at_ k) : Burst x y at_ (k + 1) := by
  obtain ⟨hl, p, h1, h2, h3⟩ := h
  exact ⟨hl, p, Nat.lt_of_lt_of_le h1 (Nat.pow_le_pow_right (by omega) (by omega)), h2, h3⟩
theorem burst_turn {x y : List UInt8} {at_ k : Nat} (h : Burst x y at_ k) (hk : k < 32) : Burst x (turnI y ((at_ : Int) + (k : Int))) at_ (k + 1) := by
  by_cases hr : at_ + k < 8 * x.length
  · obtain ⟨hl, p, h1, h2, h3⟩ := h
    have e : turnI y ((at_ : Int) + (k : Int)) = turn y (at_ + k) := by rw [turnI_yes (by omega)]; congr 1
    have ho : (one <<< k).toNat = 2 ^ k := by
      rw [BitVec.toNat_shiftLeft, Nat.shiftLeft_eq, show one.toNat = 1 from by decide, Nat.one_mul]
      exact Nat.mod_eq_of_lt (Nat.pow_lt_pow_right (by omega) hk)
    rw [e]
    refine ⟨by rw [turn_length, hl], p ^^^ (one <<< k), ?_, ?_, ?_⟩
    · rw [BitVec.toNat_xor, ho]
      exact Nat.xor_lt_two_pow (Nat.lt_of_lt_of_le h1 (Nat.pow_le_pow_right (by omega) (by omega))) (Nat.pow_lt_pow_right (by omega) (by omega))
    · intro hz
      have := xor_eq_zero hz
      rw [this, ho] at h1
      omega
    · rw [crc_turn _ _ (by omega), h3, stn_xor, pow_one k _ (by omega) hk, BitVec.xor_assoc, hl, Nat.sub_add_eq]
  · have e : turnI y ((at_ : Int) + (k : Int)) = y := turnI_no (by have := h.1; omega)
    rw [e]
    exact burst_skip h
theorem burst_seen {x y : List UInt8} {at_ k : Nat} (h : Burst x y at_ k) (hx : okB x = true) (h4 : 4 ≤ x.length) (hy : okB y = true) : y = x := by
  obtain ⟨hl, p, h1, h2, h3⟩ := h
  rw [okB_iff _ (by omega)] at hx hy
  rw [hx, hy] at h3
  apply h2
  apply stn_none (8 * x.length - at_)
  have := congrArg (stn 32 ones ^^^ ·) h3
  simpa [← BitVec.xor_assoc] using this.symm
end Go.Proofs.Ytabfjlokemkpjaa.Sm
