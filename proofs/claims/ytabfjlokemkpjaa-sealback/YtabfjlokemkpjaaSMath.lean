/-
  Plain facts of sums (layer 2, seal): a row of 32 bits, its step, what a text does to it; the sum, what turning bits over does to it. Nothing of the program stands here.
-/
import Derived.Test.YtabfjlokemkpjaaFMath
import Derived.Laws.BitsLemmas
namespace Go.Proofs.Ytabfjlokemkpjaa.Sm
open Go

/-- the places that a step turns over -/
def pl : BitVec 32 := 0xEDB88320#32
/-- all bits 1 -/
def ones : BitVec 32 := 0xFFFFFFFF#32
/-- one place down, on a row whose lowest bit tells whether it and the text's are unlike -/
def st (r : BitVec 32) : BitVec 32 := (r >>> 1) ^^^ (bif r.getLsbD 0 then pl else 0#32)
theorem st_xor (a b : BitVec 32) : st (a ^^^ b) = st a ^^^ st b := by
  unfold st
  rw [BitVec.ushiftRight_xor_distrib, BitVec.getLsbD_xor]
  apply BitVec.eq_of_getLsbD_eq
  intro i _
  cases a.getLsbD 0 <;> cases b.getLsbD 0 <;> simp only [BitVec.getLsbD_xor, cond_true, cond_false, Bool.xor_false, Bool.xor_true, Bool.not_true, Bool.not_false] <;>
    cases (a >>> 1).getLsbD i <;> cases (b >>> 1).getLsbD i <;> cases pl.getLsbD i <;> simp
theorem st_zero : st 0#32 = 0#32 := by decide
theorem bit_ext {a b : BitVec 32} (h : ∀ i, i < 32 → a.getLsbD i = b.getLsbD i) : a = b := BitVec.eq_of_getLsbD_eq (fun i hi => h i hi)
theorem st_none {z : BitVec 32} (h : st z = 0#32) : z = 0#32 := by
  unfold st at h
  cases hz : z.getLsbD 0 with
  | true =>
    rw [hz] at h
    have h31 : ((z >>> 1) ^^^ (bif true then pl else 0#32)).getLsbD 31 = false := by rw [h]; simp
    rw [BitVec.getLsbD_xor, BitVec.getLsbD_ushiftRight] at h31
    have e : pl.getLsbD 31 = true := by decide
    rw [BitVec.getLsbD_of_ge z (1 + 31) (by omega)] at h31
    rw [cond_true, e] at h31
    cases h31
  | false =>
    rw [hz] at h
    apply bit_ext
    intro i hi
    cases i with
    | zero => rw [hz]; simp
    | succ i =>
      have := congrArg (fun x : BitVec 32 => x.getLsbD i) h
      simp only [cond_false, BitVec.xor_zero, BitVec.getLsbD_ushiftRight] at this
      rw [Nat.add_comm 1 i] at this
      rw [this]; simp
theorem xor_eq_zero {a b : BitVec 32} (h : a ^^^ b = 0#32) : a = b := by
  have := congrArg (· ^^^ b) h
  simpa [BitVec.xor_assoc] using this
theorem st_inj {a b : BitVec 32} (h : st a = st b) : a = b := by
  apply xor_eq_zero
  apply st_none
  rw [st_xor, h, BitVec.xor_self]

/-- so many steps -/
def stn : Nat → BitVec 32 → BitVec 32
  | 0, r => r
  | k + 1, r => stn k (st r)
theorem stn_xor (k : Nat) (a b : BitVec 32) : stn k (a ^^^ b) = stn k a ^^^ stn k b := by
  induction k generalizing a b with
  | zero => rfl
  | succ k ih => simp only [stn]; rw [st_xor, ih]
theorem stn_zero (k : Nat) : stn k 0#32 = 0#32 := by
  induction k with
  | zero => rfl
  | succ k ih => simp only [stn]; rw [st_zero, ih]
theorem stn_none (k : Nat) {z : BitVec 32} (h : stn k z = 0#32) : z = 0#32 := by
  induction k generalizing z with
  | zero => exact h
  | succ k ih => exact st_none (ih h)
theorem stn_inj (k : Nat) {a b : BitVec 32} (h : stn k a = stn k b) : a = b := by
  apply xor_eq_zero
  apply stn_none k
  rw [stn_xor, h, BitVec.xor_self]
theorem stn_add (j k : Nat) (r : BitVec 32) : stn (j + k) r = stn k (stn j r) := by
  induction j generalizing r with
  | zero => rw [Nat.zero_add]; rfl
  | succ j ih => rw [show j + 1 + k = (j + k) + 1 from by omega]; simp only [stn]; exact ih _
theorem stn_last (k : Nat) (r : BitVec 32) : stn (k + 1) r = st (stn k r) := by rw [stn_add]; rfl

/-- what stands high comes down unturned -/
theorem st_shl (z : BitVec 32) (h : z.toNat < 2 ^ 31) : st (z <<< 1) = z := by
  unfold st
  have h0 : (z <<< 1).getLsbD 0 = false := by simp
  rw [h0]
  apply bit_ext
  intro i hi
  simp only [cond_false, BitVec.xor_zero, BitVec.getLsbD_ushiftRight, BitVec.getLsbD_shiftLeft]
  by_cases hi31 : i = 31
  · subst hi31
    have : z.getLsbD 31 = false := by
      rw [← BitVec.testBit_toNat]; exact Nat.testBit_lt_two_pow h
    rw [this]; simp
  · have e1 : 1 + i < 32 := by omega
    have e2 : ¬ 1 + i < 1 := by omega
    simp [e1]
theorem stn_shl (k : Nat) (z : BitVec 32) (hk : k ≤ 32) (h : z.toNat < 2 ^ (32 - k)) : stn k (z <<< k) = z := by
  induction k generalizing z with
  | zero => simp [stn]
  | succ k ih =>
    simp only [stn]
    have hp : 2 ^ (32 - k) = 2 * 2 ^ (32 - (k + 1)) := by rw [show 32 - k = (32 - (k + 1)) + 1 from by omega, Nat.pow_succ]; omega
    have e : z <<< (k + 1) = (z <<< k) <<< 1 := by rw [BitVec.shiftLeft_add]
    have hlt : z.toNat * 2 ^ k < 2 ^ 31 := by
      have h1 : z.toNat * 2 ^ k < 2 ^ (32 - (k + 1)) * 2 ^ k := Nat.mul_lt_mul_of_pos_right h (Nat.pow_pos (by omega))
      rw [← Nat.pow_add, show 32 - (k + 1) + k = 31 from by omega] at h1
      exact h1
    have hs : (z <<< k).toNat < 2 ^ 31 := by
      rw [BitVec.toNat_shiftLeft, Nat.shiftLeft_eq]
      exact Nat.lt_of_le_of_lt (Nat.mod_le _ _) hlt
    rw [e, st_shl _ hs]
    exact ih z (by omega) (by omega)

/-- four steps, by the four lowest bits -/
theorem nib_parts (r : BitVec 32) : r = ((r >>> 4) <<< 4) ^^^ (r &&& 15#32) := by
  apply bit_ext
  intro i hi
  simp only [BitVec.getLsbD_xor, BitVec.getLsbD_and, BitVec.getLsbD_shiftLeft, BitVec.getLsbD_ushiftRight]
  have e : ∀ j : Fin 32, (15#32).getLsbD j.val = decide (j.val < 4) := by decide
  rw [show (15#32).getLsbD i = decide (i < 4) from e ⟨i, hi⟩]
  by_cases h : i < 4
  · simp [h]
  · have : 4 + (i - 4) = i := by omega
    simp [h, hi, this]
theorem nib (r : BitVec 32) : stn 4 r = (r >>> 4) ^^^ stn 4 (r &&& 15#32) := by
  have hs : (r >>> 4).toNat < 2 ^ (32 - 4) := by
    rw [BitVec.toNat_ushiftRight, Nat.shiftRight_eq_div_pow]
    have := r.isLt
    omega
  conv => lhs; rw [nib_parts r]
  rw [stn_xor, stn_shl 4 _ (by omega) hs]

/-- a byte as a row -/
def bb (b : UInt8) : BitVec 32 := BitVec.ofNat 32 b.toNat
/-- what a text does to a row -/
def crc : BitVec 32 → List UInt8 → BitVec 32
  | r, [] => r
  | r, b :: l => crc (stn 8 (r ^^^ bb b)) l
theorem crc_append (r : BitVec 32) (a b : List UInt8) : crc r (a ++ b) = crc (crc r a) b := by
  induction a generalizing r with
  | nil => rfl
  | cons x a ih => simp only [List.cons_append, crc]; exact ih _
theorem crc_snoc (r : BitVec 32) (a : List UInt8) (b : UInt8) : crc r (a ++ [b]) = stn 8 (crc r a ^^^ bb b) := by rw [crc_append]; rfl
theorem crc_xor (l : List UInt8) (a d : BitVec 32) : crc (a ^^^ d) l = crc a l ^^^ stn (8 * l.length) d := by
  induction l generalizing a d with
  | nil => simp [crc, stn]
  | cons b l ih =>
    simp only [crc, List.length_cons]
    have e : a ^^^ d ^^^ bb b = (a ^^^ bb b) ^^^ d := by rw [BitVec.xor_assoc, BitVec.xor_comm d, ← BitVec.xor_assoc]
    rw [e, stn_xor, ih, Nat.mul_add, Nat.mul_one, Nat.add_comm (8 * l.length) 8, stn_add]

/-- a bit as a row -/
def br (b : Nat) : BitVec 32 := BitVec.ofNat 32 b
/-- the byte at a place, as a row; behind the end none -/
def bat (l : List UInt8) (q : Nat) : BitVec 32 := bb (l.getD q 0)
/-- the row behind k bits of a text -/
def rowAt (r : BitVec 32) (l : List UInt8) (k : Nat) : BitVec 32 := stn (k % 8) (crc r (l.take (k / 8)) ^^^ bat l (k / 8)) ^^^ (bat l (k / 8) >>> (k % 8))
theorem bat_lt (l : List UInt8) (q : Nat) : (bat l q).toNat < 256 := by
  unfold bat bb
  have := (l.getD q 0).toNat_lt
  rw [BitVec.toNat_ofNat]; exact Nat.lt_of_le_of_lt (Nat.mod_le _ _) (by omega)
theorem row_start (r : BitVec 32) (l : List UInt8) : rowAt r l 0 = r := by
  unfold rowAt
  rw [show 0 % 8 = 0 from rfl, show 0 / 8 = 0 from rfl]
  simp [stn, crc, BitVec.xor_assoc]
theorem row_end (r : BitVec 32) (l : List UInt8) : rowAt r l (8 * l.length) = crc r l := by
  unfold rowAt
  have e1 : 8 * l.length % 8 = 0 := by omega
  have e2 : 8 * l.length / 8 = l.length := by omega
  rw [e1, e2]
  simp [stn, BitVec.xor_assoc]
theorem bit_parts (B : BitVec 32) (j : Nat) : (B >>> j) ^^^ br (B.toNat / 2 ^ j % 2) = (B >>> (j + 1)) <<< 1 := by
  apply bit_ext
  intro i hi
  simp only [br, BitVec.getLsbD_xor, BitVec.getLsbD_ushiftRight, BitVec.getLsbD_ofNat, BitVec.getLsbD_shiftLeft]
  have e0 : B.getLsbD j = decide (B.toNat / 2 ^ j % 2 = 1) := by rw [← BitVec.testBit_toNat, Nat.testBit_eq_decide_div_mod_eq]
  cases i with
  | zero =>
    rw [Nat.add_zero, e0, Nat.testBit_zero]
    rcases Nat.mod_two_eq_zero_or_one (B.toNat / 2 ^ j) with e | e <;> simp [e]
  | succ i =>
    have : (B.toNat / 2 ^ j % 2).testBit (i + 1) = false := Nat.testBit_lt_two_pow (Nat.lt_of_lt_of_le (Nat.mod_lt _ (by omega)) (by
      have := Nat.pow_le_pow_right (n := 2) (by omega) (show 1 ≤ i + 1 by omega)
      simpa using this))
    rw [this]
    have e : j + (i + 1) = j + 1 + i := by omega
    simp [hi, e]
theorem row_step (r : BitVec 32) (l : List UInt8) (k : Nat) (hk : k / 8 < l.length) :
    st (rowAt r l k ^^^ br ((bat l (k / 8)).toNat / 2 ^ (k % 8) % 2)) = rowAt r l (k + 1) := by
  have hlt := bat_lt l (k / 8)
  have e1 : rowAt r l k ^^^ br ((bat l (k / 8)).toNat / 2 ^ (k % 8) % 2) = stn (k % 8) (crc r (l.take (k / 8)) ^^^ bat l (k / 8)) ^^^ ((bat l (k / 8) >>> (k % 8 + 1)) <<< 1) := by
    unfold rowAt; rw [BitVec.xor_assoc, bit_parts]
  have h31 : (bat l (k / 8) >>> (k % 8 + 1)).toNat < 2 ^ 31 := by
    rw [BitVec.toNat_ushiftRight, Nat.shiftRight_eq_div_pow]
    exact Nat.lt_of_le_of_lt (Nat.div_le_self _ _) (by omega)
  rw [e1, st_xor, st_shl _ h31, ← stn_last]
  by_cases h7 : k % 8 = 7
  · have e2 : (k + 1) % 8 = 0 := by omega
    have e3 : (k + 1) / 8 = k / 8 + 1 := by omega
    have e4 : bat l (k / 8) >>> (7 + 1) = 0#32 := by
      apply BitVec.eq_of_toNat_eq
      rw [BitVec.toNat_ushiftRight, Nat.shiftRight_eq_div_pow, Nat.div_eq_of_lt (by omega)]; rfl
    have e5 : l.take (k / 8 + 1) = l.take (k / 8) ++ [l[k / 8]] := List.take_succ_eq_append_getElem hk
    have e6 : bat l (k / 8) = bb l[k / 8] := by unfold bat; rw [List.getD_eq_getElem?_getD, List.getElem?_eq_getElem hk]; rfl
    rw [h7, e4, BitVec.xor_zero]
    unfold rowAt
    rw [e2, e3, e5, crc_snoc, e6]
    simp [stn, BitVec.xor_assoc]
  · have e2 : (k + 1) % 8 = k % 8 + 1 := by omega
    have e3 : (k + 1) / 8 = k / 8 := by omega
    unfold rowAt
    rw [e2, e3]
theorem st_br (r : BitVec 32) (b : Nat) (hb : b ≤ 1) : st (r ^^^ br b) = (r >>> 1) ^^^ (if r.toNat % 2 = b then 0#32 else pl) := by
  have h : r.getLsbD 0 = decide (r.toNat % 2 = 1) := by rw [← BitVec.testBit_toNat, Nat.testBit_zero]
  have e0 : br 0 = 0#32 := rfl
  have e1 : (br 1) >>> 1 = 0#32 := by decide
  have e2 : (br 1).getLsbD 0 = true := by decide
  unfold st
  rcases (show b = 0 ∨ b = 1 by omega) with rfl | rfl <;> rcases Nat.mod_two_eq_zero_or_one r.toNat with e | e
  · rw [e0, BitVec.xor_zero, h, e]; simp
  · rw [e0, BitVec.xor_zero, h, e]; simp
  · rw [BitVec.ushiftRight_xor_distrib, e1, BitVec.xor_zero, BitVec.getLsbD_xor, e2, h, e]; simp
  · rw [BitVec.ushiftRight_xor_distrib, e1, BitVec.xor_zero, BitVec.getLsbD_xor, e2, h, e]; simp

/-- the sum of a text whose sum is a, and l behind it -/
def join (a : BitVec 32) (l : List UInt8) : BitVec 32 := ones ^^^ crc (ones ^^^ a) l
def sum (l : List UInt8) : BitVec 32 := join 0#32 l
theorem ones_ones (a : BitVec 32) : ones ^^^ (ones ^^^ a) = a := by rw [← BitVec.xor_assoc, BitVec.xor_self, BitVec.zero_xor]
theorem join_append (a : BitVec 32) (s t : List UInt8) : join (join a s) t = join a (s ++ t) := by
  unfold join; rw [ones_ones, crc_append]
theorem join_sum (s t : List UInt8) : join (sum s) t = sum (s ++ t) := join_append _ _ _
theorem join_none (a : BitVec 32) : join a [] = a := ones_ones a
theorem sum_crc (l : List UInt8) : sum l = ones ^^^ crc ones l := by unfold sum join; rw [BitVec.xor_zero]

/-- three texts, byte by byte -/
def x3 : List UInt8 → List UInt8 → List UInt8 → List UInt8
  | a :: r, b :: s, c :: t => (a ^^^ b ^^^ c) :: x3 r s t
  | _, _, _ => []
theorem bb_xor (a b : UInt8) : bb (a ^^^ b) = bb a ^^^ bb b := by
  apply bit_ext
  intro i hi
  simp only [bb, BitVec.getLsbD_xor, BitVec.getLsbD_ofNat, UInt8.toNat_xor, Nat.testBit_xor]
  simp [hi]
theorem xor6 (a b c x y z : BitVec 32) : a ^^^ b ^^^ c ^^^ (x ^^^ y ^^^ z) = (a ^^^ x) ^^^ (b ^^^ y) ^^^ (c ^^^ z) := by
  apply bit_ext
  intro i _
  simp only [BitVec.getLsbD_xor]
  cases a.getLsbD i <;> cases b.getLsbD i <;> cases c.getLsbD i <;> cases x.getLsbD i <;> cases y.getLsbD i <;> cases z.getLsbD i <;> rfl
theorem crc_x3 (n : Nat) (s t u : List UInt8) (hs : s.length = n) (ht : t.length = n) (hu : u.length = n) (a b c : BitVec 32) :
    crc (a ^^^ b ^^^ c) (x3 s t u) = crc a s ^^^ crc b t ^^^ crc c u := by
  induction n generalizing s t u a b c with
  | zero =>
    obtain rfl := List.length_eq_zero_iff.1 hs
    obtain rfl := List.length_eq_zero_iff.1 ht
    obtain rfl := List.length_eq_zero_iff.1 hu
    rfl
  | succ n ih =>
    obtain ⟨x, s, rfl⟩ := List.exists_cons_of_length_eq_add_one hs
    obtain ⟨y, t, rfl⟩ := List.exists_cons_of_length_eq_add_one ht
    obtain ⟨z, u, rfl⟩ := List.exists_cons_of_length_eq_add_one hu
    simp only [x3, crc]
    rw [bb_xor, bb_xor, xor6, stn_xor, stn_xor]
    exact ih s t u (by simpa using hs) (by simpa using ht) (by simpa using hu) _ _ _
theorem sum_x3 (n : Nat) (s t u : List UInt8) (hs : s.length = n) (ht : t.length = n) (hu : u.length = n) :
    sum (x3 s t u) = sum s ^^^ sum t ^^^ sum u := by
  have h := crc_x3 n s t u hs ht hu ones ones ones
  rw [BitVec.xor_self, BitVec.zero_xor] at h
  rw [sum_crc, sum_crc, sum_crc, sum_crc, h]
  have := xor6 ones ones ones (crc ones s) (crc ones t) (crc ones u)
  rw [BitVec.xor_self, BitVec.zero_xor] at this
  exact this

/-- a short text is laid on at once -/
theorem bb_val (b : UInt8) (v : Nat) : bb b ^^^ (BitVec.ofNat 32 v <<< 8) = BitVec.ofNat 32 (b.toNat + 256 * v) := by
  have hb : b.toNat < 2 ^ 8 := b.toNat_lt
  apply bit_ext
  intro i hi
  simp only [bb, BitVec.getLsbD_xor, BitVec.getLsbD_ofNat, BitVec.getLsbD_shiftLeft, hi, decide_true, Bool.true_and]
  rw [show b.toNat + 256 * v = 2 ^ 8 * v + b.toNat from by omega, Nat.testBit_two_pow_mul_add _ hb]
  by_cases h8 : i < 8
  · simp [h8]
  · have e : b.toNat.testBit i = false := Nat.testBit_lt_two_pow (Nat.lt_of_lt_of_le hb (Nat.pow_le_pow_right (by omega) (by omega)))
    have e2 : i - 8 < 32 := by omega
    simp [h8, e, e2]
theorem crc_short (l : List UInt8) (r : BitVec 32) (h : l.length ≤ 4) : crc r l = stn (8 * l.length) (r ^^^ BitVec.ofNat 32 (Fm.val l)) := by
  induction l generalizing r with
  | nil => simp [crc, stn, Fm.val]
  | cons b l ih =>
    simp only [List.length_cons] at h
    have hv : Fm.val l < 2 ^ 24 := by
      have h1 := Fm.val_lt l
      have h2 : Fm.pw l.length ≤ Fm.pw 3 := Fm.pw_mono (by omega)
      have h3 : Fm.pw 3 = 2 ^ 24 := by decide
      omega
    have hn : (BitVec.ofNat 32 (Fm.val l)).toNat < 2 ^ (32 - 8) := by
      rw [BitVec.toNat_ofNat]; exact Nat.lt_of_le_of_lt (Nat.mod_le _ _) hv
    simp only [crc, List.length_cons, Fm.val]
    rw [ih _ (by omega), ← bb_val b _, ← BitVec.xor_assoc, Nat.mul_add, Nat.mul_one, Nat.add_comm (8 * l.length) 8, stn_add, stn_xor 8 (r ^^^ bb b), stn_shl 8 _ (by omega) hn]

/-- is a text sealed? -/
def okB (l : List UInt8) : Bool := decide (4 ≤ l.length) && decide (Fm.val (l.drop (l.length - 4)) = (sum (l.take (l.length - 4))).toNat)
theorem ones_of {a b : BitVec 32} : a ^^^ b = ones ↔ b = ones ^^^ a := by
  constructor
  · intro h; rw [← h, BitVec.xor_comm a b, BitVec.xor_assoc, BitVec.xor_self, BitVec.xor_zero]
  · intro h; rw [h, BitVec.xor_comm ones a, ← BitVec.xor_assoc, BitVec.xor_self, BitVec.zero_xor]
theorem val_four {l : List UInt8} (h : l.length = 4) : Fm.val l < 2 ^ 32 := by
  have := Fm.val_lt l
  rw [h] at this
  have h3 : Fm.pw 4 = 2 ^ 32 := by decide
  omega
/-- just the sealed texts leave one row -/
theorem okB_iff (l : List UInt8) (h : 4 ≤ l.length) : okB l = true ↔ crc ones l = stn 32 ones := by
  have hd : (l.drop (l.length - 4)).length = 4 := by rw [List.length_drop]; omega
  have e : crc ones l = stn 32 (crc ones (l.take (l.length - 4)) ^^^ BitVec.ofNat 32 (Fm.val (l.drop (l.length - 4)))) := by
    conv => lhs; rw [← List.take_append_drop (l.length - 4) l, crc_append, crc_short _ _ (by omega), hd]
  have hv := val_four hd
  rw [e]
  unfold okB
  simp only [h, decide_true, Bool.true_and, decide_eq_true_eq]
  rw [sum_crc]
  constructor
  · intro q
    have q' : BitVec.ofNat 32 (Fm.val (l.drop (l.length - 4))) = ones ^^^ crc ones (l.take (l.length - 4)) := by
      apply BitVec.eq_of_toNat_eq; rw [BitVec.toNat_ofNat, Nat.mod_eq_of_lt hv, q]
    rw [ones_of.2 q']
  · intro q
    have q' := ones_of.1 (stn_inj 32 q)
    have := congrArg BitVec.toNat q'
    rwa [BitVec.toNat_ofNat, Nat.mod_eq_of_lt hv] at this
/-- a text with its sum behind -/
def sealed (l : List UInt8) : List UInt8 := l ++ Fm.fld (sum l).toNat 4
theorem sealed_length (l : List UInt8) : (sealed l).length = l.length + 4 := by unfold sealed; rw [List.length_append, Fm.fld_length]
theorem sealed_take (l : List UInt8) : (sealed l).take ((sealed l).length - 4) = l := by
  rw [sealed_length, Nat.add_sub_cancel]; unfold sealed; exact List.take_left' rfl
theorem sealed_drop (l : List UInt8) : (sealed l).drop ((sealed l).length - 4) = Fm.fld (sum l).toNat 4 := by
  rw [sealed_length, Nat.add_sub_cancel]; unfold sealed; exact List.drop_left' rfl
theorem pw_four : Fm.pw 4 = 2 ^ 32 := by decide
theorem sealed_ok (l : List UInt8) : okB (sealed l) = true := by
  unfold okB
  rw [sealed_take, sealed_drop, sealed_length, Fm.val_fld, Nat.mod_eq_of_lt (by rw [pw_four]; exact (sum l).isLt)]
  simp
theorem sealed_back (l : List UInt8) (h : okB l = true) : sealed (l.take (l.length - 4)) = l := by
  unfold okB at h
  simp only [Bool.and_eq_true, decide_eq_true_eq] at h
  have hd : (l.drop (l.length - 4)).length = 4 := by rw [List.length_drop]; omega
  unfold sealed
  rw [← h.2]
  have : Fm.fld (Fm.val (l.drop (l.length - 4))) 4 = l.drop (l.length - 4) := by
    have := Fm.fld_val (l.drop (l.length - 4))
    rwa [hd] at this
  rw [this, List.take_append_drop]

/-- a text with a bit of its row turned over -/
def turn (l : List UInt8) (k : Nat) : List UInt8 := l.modify (k / 8) (· ^^^ ((1 : UInt8) <<< UInt8.ofNat (k % 8)))
theorem turn_length (l : List UInt8) (k : Nat) : (turn l k).length = l.length := by unfold turn; simp
/-- the one bit -/
def one : BitVec 32 := 1#32
theorem pow_one (k j : Nat) (h : k ≤ j) (hk : k < 32) : stn j (one <<< k) = stn (j - k) one := by
  obtain ⟨m, rfl⟩ : ∃ m, j = k + m := ⟨j - k, by omega⟩
  rw [stn_add, stn_shl k one (by omega) (by
    have : one.toNat = 1 := by decide
    rw [this]; exact Nat.one_lt_two_pow (by omega)), Nat.add_sub_cancel_left]
theorem bb_one (j : Nat) (h : j < 8) : bb ((1 : UInt8) <<< UInt8.ofNat j) = one <<< j := by
  have : ∀ j : Fin 8, bb ((1 : UInt8) <<< UInt8.ofNat j.val) = one <<< j.val := by decide
  exact this ⟨j, h⟩
theorem crc_turn (l : List UInt8) (k : Nat) (h : k < 8 * l.length) (r : BitVec 32) : crc r (turn l k) = crc r l ^^^ stn (8 * l.length - k) one := by
  have hi : k / 8 < l.length := by omega
  have e1 : l = l.take (k / 8) ++ l[k / 8] :: l.drop (k / 8 + 1) := by
    conv => lhs; rw [← List.take_append_drop (k / 8) l]
    rw [List.drop_eq_getElem_cons hi]
  have e2 : turn l k = l.take (k / 8) ++ (l[k / 8] ^^^ ((1 : UInt8) <<< UInt8.ofNat (k % 8))) :: l.drop (k / 8 + 1) := by
    unfold turn
    rw [List.modify_eq_take_cons_drop hi]
  rw [e2]
  conv => rhs; rw [e1]
  rw [crc_append, crc_append]
  simp only [crc]
  rw [bb_xor, bb_one _ (by omega), ← BitVec.xor_assoc, stn_xor, pow_one _ _ (by omega) (by omega), crc_xor, ← stn_add]
  congr 2
  rw [List.length_append, List.length_cons, List.length_take, List.length_drop]
  omega
end Go.Proofs.Ytabfjlokemkpjaa.Sm
