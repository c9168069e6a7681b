/-
  Layer 1 (field): the calls without memory, by their contracts: isSize, Fits and Signed of the program, power, Fits and Signed of the document's own answer.
-/
import Derived.Test.YtkceagmgabjidaaRows
import Derived.Test.YtkceagmgabjidaaFMath
import Derived.WalkKit
import Derived.WalkSpells
import Derived.WalkLawsBesides
import Derived.Outline
import Derived.Below
import Derived.Lib.Hide
namespace Go.Proofs.Ytkceagmgabjidaa
open Go.RowKit

theorem isSize_yes (n : Int) (w : World) (h1 : 1 ≤ n) (h2 : n ≤ 8) :
    Calls Try.prog 25 #[.int .i64 n] w fun e w' => e = .returned (.bool true) ∧ w = w' := by
  go_enter Try.func25, Try.ntmps25
  go_wp2
  go_ret
  exact ⟨by simp, rfl⟩
theorem isSize_no (n : Int) (w : World) (h : n < 1 ∨ 8 < n) :
    Calls Try.prog 25 #[.int .i64 n] w fun e w' => e = .returned (.bool false) ∧ w = w' := by
  rcases h with h | h
  · have h' : ¬ 1 ≤ n := by omega
    go_enter Try.func25, Try.ntmps25
    go_wp2
    go_ret
    exact ⟨rfl, rfl⟩
  · have h' : 1 ≤ n := by omega
    have h'' : decide (n ≤ 8) = false := by simp; omega
    go_enter Try.func25, Try.ntmps25
    go_wp2
    go_ret
    exact ⟨rfl, rfl⟩

theorem ret_bool {a b : Bool} (h : a = b) : Ending.returned (.bool a) = .returned (.bool b) := by rw [h]
theorem ret_int {k : IntKind} {a b : Int} (h : a = b) : Ending.returned (.int k a) = .returned (.int k b) := by rw [h]

theorem power_any (n : Int) (w : World) (h0 : 0 ≤ n) (h1 : n ≤ 7) :
    Calls Try.prog 29 #[.int .i64 n] w fun e w' => e = .returned (.int .u64 (Fm.pw n.toNat : Nat)) ∧ w = w' := by
  obtain ⟨m, rfl⟩ := Int.eq_ofNat_of_zero_le h0
  rw [Int.toNat_natCast]
  have hm : m ≤ 7 := by omega
  go_enter Try.func29, Try.ntmps29
  go_wp2
  go_loop [3, 4] (fun p i => ∃ k : Nat, k ≤ m ∧ i = .int .i64 k ∧ p = .int .u64 (Fm.pw k : Nat)) (fun _ i => m - (intOf i).toNat)
  case atStart => exact ⟨0, Nat.zero_le _, rfl, rfl⟩
  case round =>
    obtain ⟨k, hk, rfl, rfl⟩ := hrel
    have hb : Fm.pw k ≤ 72057594037927936 := by rw [← Fm.pw_seven]; exact Fm.pw_mono (by omega)
    by_cases hlt : k < m
    · have hb2 : Fm.pw k ≤ 281474976710656 := by
        have : Fm.pw 6 = 281474976710656 := by decide
        rw [← this]; exact Fm.pw_mono (by omega)
      go_wp2
      go_round
      case rel => exact ⟨k + 1, by omega, by go_num, by rw [Fm.pw_succ]; go_num⟩
      case measure => simp [intOf]; omega
    · go_wp2
      go_ret
      exact ⟨ret_int (by rw [show k = m from by omega]), rfl⟩

theorem fits_any (n size : Int) (w : World) (h1 : -9223372036854775808 ≤ n) (h2 : n ≤ 9223372036854775807) :
    Calls Try.prog 17 #[.int .i64 n, .int .i64 size] w fun e w' => e = .returned (.bool (Fm.fitsB n size)) ∧ w = w' := by
  by_cases a : n < 0
  · have e := Lib.hid (Fm.fits_neg (size := size) a)
    go_enter Try.func17, Try.ntmps17
    go_wp2
    go_ret
    exact ⟨ret_bool e.out.symm, rfl⟩
  · have a' : 0 ≤ n := by omega
    by_cases b : size < 1
    · have e := Lib.hid (Fm.fits_none (n := n) b)
      go_enter Try.func17, Try.ntmps17
      go_wp2
      go_ret
      exact ⟨ret_bool e.out.symm, rfl⟩
    · by_cases c : 8 ≤ size
      · have e := Lib.hid (Fm.fits_all a' h2 c)
        go_enter Try.func17, Try.ntmps17
        go_wp2
        go_ret
        exact ⟨ret_bool e.out.symm, rfl⟩
      · have b' : 1 ≤ size := by omega
        have c' : size < 8 := by omega
        have e := Lib.hid (Fm.fits_mid a' b' c')
        go_enter Try.func17, Try.ntmps17
        go_wp2
        go_ret
        exact ⟨ret_bool e.out.symm, rfl⟩

theorem refFits_any (n size : Int) (w : World) (h1 : -9223372036854775808 ≤ n) (h2 : n ≤ 9223372036854775807) :
    Calls Try.prog 18 #[.int .i64 n, .int .i64 size] w fun e w' => e = .returned (.bool (Fm.fitsB n size)) ∧ w = w' := by
  by_cases a : n < 0
  · have e := Lib.hid (Fm.fits_neg (size := size) a)
    have f : (n == 0) = false := by simp; omega
    go_enter Try.func18, Try.ntmps18
    go_wp2
    go_ret
    exact ⟨ret_bool (by rw [e.out]), rfl⟩
  · have a' : 0 ≤ n := by omega
    by_cases b : size < 1
    · have e := Lib.hid (Fm.fits_none (n := n) b)
      go_enter Try.func18, Try.ntmps18
      go_wp2
      go_ret
      exact ⟨ret_bool e.out.symm, rfl⟩
    · by_cases c : 8 ≤ size
      · have e := Lib.hid (Fm.fits_all a' h2 c)
        go_enter Try.func18, Try.ntmps18
        go_wp2
        go_ret
        exact ⟨ret_bool e.out.symm, rfl⟩
      · have b' : 1 ≤ size := by omega
        have c' : size < 8 := by omega
        have e : Hid (Fm.fitsB n size = decide (n < (Fm.pw size.toNat : Nat))) := by
          show Fm.fitsB n size = decide (n < (Fm.pw size.toNat : Nat))
          unfold Fm.fitsB; simp [a']
        go_enter Try.func18, Try.ntmps18
        go_wp2_with (go_at_call 29; refine (power_any _ _ (by omega) (by omega)).mono ?_; rintro e w' ⟨rfl, rfl⟩)
        go_ret
        exact ⟨ret_bool e.out.symm, rfl⟩

theorem signed_yes (n size : Int) (w : World) (h1 : 0 ≤ n) (h2 : n ≤ 18446744073709551615) (s1 : 1 ≤ size) (s2 : size ≤ 8) :
    Calls Try.prog 15 #[.int .u64 n, .int .i64 size] w fun e w' => e = .returned (.int .i64 (Fm.sgn n size)) ∧ w = w' := by
  have e := Lib.hid (Fm.sgn_code h1 h2 s1 s2)
  go_enter Try.func15, Try.ntmps15
  go_wp2_with (go_at_call 25; refine (isSize_yes _ _ (by omega) (by omega)).mono ?_; rintro e w' ⟨rfl, rfl⟩)
  go_ret
  exact ⟨ret_int e.out, rfl⟩
theorem signed_no (n size : Int) (w : World) (h : size < 1 ∨ 8 < size) :
    Calls Try.prog 15 #[.int .u64 n, .int .i64 size] w fun e w' => e = .returned (.int .i64 0) ∧ w = w' := by
  go_enter Try.func15, Try.ntmps15
  go_wp2_with (go_at_call 25; refine (isSize_no _ _ h).mono ?_; rintro e w' ⟨rfl, rfl⟩)
  go_ret
  exact ⟨rfl, rfl⟩
theorem refSigned_no (n size : Int) (w : World) (h : size < 1 ∨ 8 < size) :
    Calls Try.prog 16 #[.int .u64 n, .int .i64 size] w fun e w' => e = .returned (.int .i64 0) ∧ w = w' := by
  rcases h with h | h
  · go_enter Try.func16, Try.ntmps16
    go_wp2
    go_ret
    exact ⟨rfl, rfl⟩
  · have h' : ¬ size < 1 := by omega
    go_enter Try.func16, Try.ntmps16
    go_wp2
    go_ret
    exact ⟨rfl, rfl⟩
theorem refSigned_yes (n size : Int) (w : World) (h1 : 0 ≤ n) (h2 : n ≤ 18446744073709551615) (s1 : 1 ≤ size) (s2 : size ≤ 8) :
    Calls Try.prog 16 #[.int .u64 n, .int .i64 size] w fun e w' => e = .returned (.int .i64 (Fm.sgn n size)) ∧ w = w' := by
  have s1' : ¬ size < 1 := by omega
  have s2' : ¬ 8 < size := by omega
  by_cases s8 : size = 8
  · have e := Lib.hid (Fm.sgn_eight h1 h2)
    subst s8
    go_enter Try.func16, Try.ntmps16
    go_wp2
    go_ret
    exact ⟨ret_int e.out.symm, rfl⟩
  · have s8' : (size == 8) = false := by simp; omega
    have hp : Fm.pw size.toNat ≤ 72057594037927936 := by rw [← Fm.pw_seven]; exact Fm.pw_mono (by omega)
    have hp0 := Fm.pw_pos size.toNat
    have hm0 : 0 ≤ n % (Fm.pw size.toNat : Nat) := Int.emod_nonneg _ (by omega)
    have hm1 : n % (Fm.pw size.toNat : Nat) < (Fm.pw size.toNat : Nat) := Int.emod_lt_of_pos _ (by omega)
    by_cases hh : ((Fm.pw size.toNat : Nat) : Int) / 2 ≤ n % (Fm.pw size.toNat : Nat)
    · have e := Lib.hid (Fm.sgn_high s1 (by omega) hh)
      go_enter Try.func16, Try.ntmps16
      go_wp2_with (go_at_call 29; refine (power_any _ _ (by omega) (by omega)).mono ?_; rintro e w' ⟨rfl, rfl⟩)
      go_ret
      exact ⟨ret_int e.out.symm, rfl⟩
    · have e := Lib.hid (Fm.sgn_low (n := n) s1 (by omega) (by omega))
      go_enter Try.func16, Try.ntmps16
      go_wp2_with (go_at_call 29; refine (power_any _ _ (by omega) (by omega)).mono ?_; rintro e w' ⟨rfl, rfl⟩)
      go_ret
      exact ⟨ret_int e.out.symm, rfl⟩
end Go.Proofs.Ytkceagmgabjidaa
