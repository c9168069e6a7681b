/-
  Layer 2 (seal): bit, Join and Sum of the document's own answer, by their contracts.
-/
import Derived.Test.YtabfjlokemkpjaaSStep
namespace Go.Proofs.Ytabfjlokemkpjaa
open Go.RowKit

theorem half_pow (b j : Nat) : ((b / 2 ^ j : Nat) : Int) / 2 = ((b / 2 ^ (j + 1) : Nat) : Int) := by
  rw [Nat.pow_succ, ← Nat.div_div_eq_div_mul]; omega
theorem bit_any (s : ByteArray) (k : Nat) (w : World) (hs : s.size ≤ maxLen) (hk : k / 8 < s.size) :
    Calls Try.prog 23 #[.string s, .int .i64 k] w fun e w' => e = .returned (.int .u32 (s[k / 8].toNat / 2 ^ (k % 8) % 2 : Nat)) ∧ w = w' := by
  unfold maxLen at hs
  obtain ⟨b, hb⟩ : ∃ b, b = s[k / 8].toNat := ⟨_, rfl⟩
  have hlt : b < 256 := by rw [hb]; exact s[k / 8].toNat_lt
  rw [← hb]
  have hb' := hb.symm
  clear hb
  obtain ⟨x, hx⟩ : ∃ x, x = b / 2 ^ (k % 8) % 2 := ⟨_, rfl⟩
  rw [← hx]
  have HX := Lib.hid hx
  clear hx
  go_enter Try.func23, Try.ntmps23
  go_wp2
  clear hb'
  go_loop [5, 6] (fun v i => ∃ j : Nat, j ≤ k % 8 ∧ i = .int .i64 j ∧ v = .int .u8 (b / 2 ^ j : Nat)) (fun _ i => 8 - (intOf i).toNat)
  case atStart => exact ⟨0, Nat.zero_le _, rfl, by rw [Nat.pow_zero, Nat.div_one]⟩
  case round =>
    obtain ⟨j, hj, rfl, rfl⟩ := hrel
    have hd : b / 2 ^ j ≤ b := Nat.div_le_self _ _
    have hp := Lib.hid (half_pow b j)
    obtain ⟨c, hc⟩ : ∃ c, c = b / 2 ^ j := ⟨_, rfl⟩
    rw [← hc] at hp hd ⊢
    have HC := Lib.hid hc
    clear hc
    by_cases hjk : j < k % 8
    · have hjk' : (j : Int) < (k : Int) % 8 := by omega
      go_wp2
      go_round
      case rel => exact ⟨j + 1, by omega, by go_num, by rw [hp.out]⟩
      case measure => simp [intOf]; omega
    · have hjk' : ¬ (j : Int) < (k : Int) % 8 := by omega
      obtain rfl : j = k % 8 := by omega
      go_wp2
      go_ret
      exact ⟨ret_int (by have := HX.out; rw [← HC.out] at this; omega), rfl⟩

theorem row_yes (r : BitVec 32) (b : Nat) (hb : b ≤ 1) (h : rn r % 2 ≠ b) : bits .xor .u32 ((rn r : Int) / 2) 3988292384 = (rn (Sm.st (r ^^^ Sm.br b)) : Int) := by
  have := xor_rn (r >>> 1) Sm.pl
  rw [rn_shr, show (rn Sm.pl : Int) = 3988292384 from by decide] at this
  rw [Sm.st_br r b hb, if_neg (show ¬ r.toNat % 2 = b from h), ← this]
  simp
theorem row_no (r : BitVec 32) (b : Nat) (hb : b ≤ 1) (h : rn r % 2 = b) : (rn r : Int) / 2 = (rn (Sm.st (r ^^^ Sm.br b)) : Int) := by
  rw [Sm.st_br r b hb, if_pos (show r.toNat % 2 = b from h), BitVec.xor_zero, rn_shr]
  simp
theorem rn_not (r : BitVec 32) : (4294967295 : Int) - (rn r : Int) = (rn (Sm.ones ^^^ r) : Int) := by
  have e : Sm.ones ^^^ r = ~~~ r := by
    apply Sm.bit_ext
    intro i hi
    have : ∀ j : Fin 32, Sm.ones.getLsbD j.val = true := by decide
    rw [BitVec.getLsbD_xor, this ⟨i, hi⟩, BitVec.getLsbD_not]
    simp [hi]
  have := rn_lt r
  rw [e]
  unfold rn at this ⊢
  rw [BitVec.toNat_not]
  omega
theorem bat_get (s : ByteArray) (q : Nat) (h : q < s.size) : (Sm.bat s.data.toList q).toNat = s[q].toNat := by
  unfold Sm.bat Sm.bb
  have e : s.data.toList.getD q 0 = s[q] := by rw [List.getD_eq_getElem?_getD, List.getElem?_eq_getElem (by simpa using h)]; rfl
  rw [e, BitVec.toNat_ofNat]
  exact Nat.mod_eq_of_lt (Nat.lt_trans s[q].toNat_lt (by decide))

theorem refJoin_any (a : BitVec 32) (s : ByteArray) (w : World) (hs : s.size ≤ 100000) :
    Calls Try.prog 15 #[.int .u32 (rn a : Nat), .string s] w fun e w' => e = .returned (.int .u32 (rn (Sm.join a s.data.toList) : Nat)) ∧ w = w' := by
  have ha := rn_lt a
  have hna := rn_not a
  go_enter Try.func15, Try.ntmps15
  go_wp2
  clear hna
  go_loop [5, 6] (fun r i => ∃ k : Nat, k ≤ 8 * s.size ∧ i = .int .i64 k ∧ r = .int .u32 (rn (Sm.rowAt (Sm.ones ^^^ a) s.data.toList k) : Nat)) (fun _ i => 8 * s.size - (intOf i).toNat)
  case atStart => exact ⟨0, Nat.zero_le _, rfl, by rw [Sm.row_start]⟩
  case round =>
    obtain ⟨k, hk, rfl, rfl⟩ := hrel
    by_cases hlt : k < 8 * s.size
    · have hk8 : k / 8 < s.size := by omega
      obtain ⟨r, hr⟩ : ∃ r, r = Sm.rowAt (Sm.ones ^^^ a) s.data.toList k := ⟨_, rfl⟩
      obtain ⟨b, hb⟩ : ∃ b, b = s[k / 8].toNat / 2 ^ (k % 8) % 2 := ⟨_, rfl⟩
      have hb1 : b ≤ 1 := by omega
      have HR : Hid (Sm.st (r ^^^ Sm.br b) = Sm.rowAt (Sm.ones ^^^ a) s.data.toList (k + 1)) := by
        show Sm.st (r ^^^ Sm.br b) = Sm.rowAt (Sm.ones ^^^ a) s.data.toList (k + 1)
        rw [hr, hb, ← bat_get s _ hk8]
        exact Sm.row_step _ _ _ (by simpa using hk8)
      rw [← hr]
      have hbit := fun w => bit_any s k w (by unfold maxLen; omega) hk8
      rw [← hb] at hbit
      have HBIT := Lib.hid hbit
      clear hr hb hbit
      have hrl := rn_lt r
      have hlt' : (k : Int) < 8 * (s.size : Int) := by omega
      by_cases hu : rn r % 2 = b
      · have e := Lib.hid (row_no r b hb1 hu)
        have hne : (((rn r : Int) % 2) != (b : Int)) = false := by simp; omega
        clear hu
        go_wp2_with (go_at_call 23; refine (HBIT.out _).mono ?_; rintro e w' ⟨rfl, rfl⟩)
        go_round
        case rel => exact ⟨k + 1, by omega, by go_num, by rw [← HR.out, ← e.out]⟩
        case measure => simp [intOf]; omega
      · have e := Lib.hid (row_yes r b hb1 hu)
        have hne : (((rn r : Int) % 2) != (b : Int)) = true := by simp; omega
        clear hu
        go_wp2_with (go_at_call 23; refine (HBIT.out _).mono ?_; rintro e w' ⟨rfl, rfl⟩)
        go_round
        case rel => exact ⟨k + 1, by omega, by go_num, by rw [← HR.out, ← e.out]⟩
        case measure => simp [intOf]; omega
    · have hlt' : ¬ (k : Int) < 8 * (s.size : Int) := by omega
      obtain rfl : k = 8 * s.size := by omega
      have hn := rn_not (Sm.rowAt (Sm.ones ^^^ a) s.data.toList (8 * s.size))
      have hb := rn_lt (Sm.rowAt (Sm.ones ^^^ a) s.data.toList (8 * s.size))
      have e : Hid (Sm.ones ^^^ Sm.rowAt (Sm.ones ^^^ a) s.data.toList (8 * s.size) = Sm.join a s.data.toList) := by
        show Sm.ones ^^^ Sm.rowAt (Sm.ones ^^^ a) s.data.toList (8 * s.size) = Sm.join a s.data.toList
        have : s.size = s.data.toList.length := by simp
        rw [this, Sm.row_end]; rfl
      go_wp2
      go_ret
      exact ⟨ret_int (by rw [e.out]), rfl⟩
theorem refSum_any (s : ByteArray) (w : World) (hs : s.size ≤ 100000) :
    Calls Try.prog 13 #[.string s] w fun e w' => e = .returned (.int .u32 (rn (Sm.sum s.data.toList) : Nat)) ∧ w = w' := by
  go_enter Try.func13, Try.ntmps13
  go_wp2_with fail
  refine (refJoin_any 0#32 s _ hs).mono ?_
  rintro e w' ⟨rfl, rfl⟩
  go_wp2
  go_ret
  exact ⟨rfl, rfl⟩
end Go.Proofs.Ytabfjlokemkpjaa
