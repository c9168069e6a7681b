/-
  Layer 1 (field): Get of the program, Value and Get of the document's own answer, by their contracts.
-/
import Derived.Test.YtabfjlokemkpjaaFLeaf
import Derived.BigQuiet
import Derived.Deep.QuietTactic
namespace Go.Proofs.Ytabfjlokemkpjaa
open Go.RowKit

/-- has a text of a length a field of a size at a place? -/
def hasB (len : Nat) (at_ size : Int) : Bool := decide (1 ≤ size ∧ size ≤ 8 ∧ 0 ≤ at_ ∧ at_ + size ≤ len)
/-- the number of that field, else 0 -/
def getN (s : ByteArray) (at_ size : Int) : Nat := if hasB s.size at_ size then Fm.val ((s.data.toList.drop at_.toNat).take size.toNat) else 0

theorem ret_two {a b : Value} {c d : Value} (h : a = b) (h' : c = d) : Ending.returned (.tuple #[a, c]) = .returned (.tuple #[b, d]) := by rw [h, h']

theorem get_no (s : ByteArray) (at_ size : Int) (w : World) (hs : s.size ≤ maxLen) (h : hasB s.size at_ size = false) :
    Calls Try.prog 19 #[.string s, .int .i64 at_, .int .i64 size] w fun e w' => e = .returned (.tuple #[.int .u64 0, .bool false]) ∧ w = w' := by
  unfold maxLen at hs
  have H : ¬ (1 ≤ size ∧ size ≤ 8 ∧ 0 ≤ at_ ∧ at_ + size ≤ s.size) := by simpa [hasB] using h
  clear h
  by_cases a : 1 ≤ size ∧ size ≤ 8
  · obtain ⟨a1, a2⟩ := a
    by_cases b : at_ < 0
    · clear H
      go_enter Try.func19, Try.ntmps19
      go_wp2_with (go_at_call 26; refine (isSize_yes _ _ (by omega) (by omega)).mono ?_; rintro e w' ⟨rfl, rfl⟩)
      go_ret2
      exact ⟨rfl, rfl⟩
    · have b' : 0 ≤ at_ := by omega
      have c : (s.size : Int) - size < at_ := by omega
      clear H b
      go_enter Try.func19, Try.ntmps19
      go_wp2_with (go_at_call 26; refine (isSize_yes _ _ (by omega) (by omega)).mono ?_; rintro e w' ⟨rfl, rfl⟩)
      go_ret2
      exact ⟨rfl, rfl⟩
  · have a' : size < 1 ∨ 8 < size := by omega
    clear H a
    go_enter Try.func19, Try.ntmps19
    go_wp2_with (go_at_call 26; refine (isSize_no _ _ a').mono ?_; rintro e w' ⟨rfl, rfl⟩)
    go_ret2
    exact ⟨rfl, rfl⟩

theorem part_snoc (s : ByteArray) (a k : Nat) (h : a + k < s.size) :
    (s.data.toList.drop a).take (k + 1) = (s.data.toList.drop a).take k ++ [s[a + k]] := by
  have hl : k < (s.data.toList.drop a).length := by simp; omega
  rw [List.take_succ_eq_append_getElem hl]
  congr 2
  simp
  rfl
theorem part_length (s : ByteArray) (a k : Nat) (h : a + k ≤ s.size) : ((s.data.toList.drop a).take k).length = k := by
  simp; omega
theorem byte_pw (b k : Nat) (hb : b < 256) (hk : k ≤ 7) : Fm.pw k * b < 18446744073709551616 ∧ Fm.pw k * b + Fm.pw k ≤ 18446744073709551616 := by
  have h1 : Fm.pw k ≤ 72057594037927936 := by rw [← Fm.pw_seven]; exact Fm.pw_mono hk
  have h2 : Fm.pw k * b ≤ Fm.pw k * 255 := Nat.mul_le_mul_left _ (by omega)
  omega
theorem get_step (s : ByteArray) (a k : Nat) (hk : k ≤ 7) (h : a + k < s.size) :
    bits BinOp.or IntKind.u64 (Fm.val (List.take k (List.drop a s.data.toList)) : Nat) (IntKind.u64.wrap (IntKind.u64.wrap s[a + k].toNat * 2 ^ (8 * k))) =
      ((Fm.val (List.take (k + 1) (List.drop a s.data.toList)) : Nat) : Int) := by
  have hb := s[a + k].toNat_lt
  have hv := Fm.val_lt (List.take k (List.drop a s.data.toList))
  rw [part_length s a k (by omega)] at hv
  obtain ⟨g1, g2⟩ := byte_pw s[a + k].toNat k hb hk
  rw [part_snoc s a k h, Fm.val_snoc, part_length s a k (by omega)]
  have e1 : IntKind.u64.wrap (s[a + k].toNat : Int) = (s[a + k].toNat : Int) := by rw [IntKind.wrap_u64]; omega
  have e2 : (s[a + k].toNat : Int) * 2 ^ (8 * k) = ((2 ^ (8 * k) * s[a + k].toNat : Nat) : Int) := by
    rw [Int.natCast_mul, Int.mul_comm]; simp
  have e3 : IntKind.u64.wrap ((2 ^ (8 * k) * s[a + k].toNat : Nat) : Int) = ((2 ^ (8 * k) * s[a + k].toNat : Nat) : Int) := by
    rw [IntKind.wrap_u64, ← Fm.pw_two]; omega
  rw [e1, e2, e3, Fm.or_sum _ _ _ (by rw [← Fm.pw_two]; exact hv) (by rw [← Fm.pw_two]; omega), Fm.pw_two]

theorem get_yes (s : ByteArray) (a z : Nat) (w : World) (hs : s.size ≤ maxLen) (z1 : 1 ≤ z) (z2 : z ≤ 8) (hz : a + z ≤ s.size) :
    Calls Try.prog 19 #[.string s, .int .i64 a, .int .i64 z] w fun e w' =>
      e = .returned (.tuple #[.int .u64 (Fm.val ((s.data.toList.drop a).take z) : Nat), .bool true]) ∧ w = w' := by
  unfold maxLen at hs
  go_enter Try.func19, Try.ntmps19
  go_wp2_with (go_at_call 26; refine (isSize_yes _ _ (by omega) (by omega)).mono ?_; rintro e w' ⟨rfl, rfl⟩)
  go_loop [8, 26] (fun n i => ∃ k : Nat, k ≤ z ∧ i = .int .i64 k ∧ n = .int .u64 (Fm.val ((s.data.toList.drop a).take k) : Nat)) (fun _ i => z - (intOf i).toNat)
  case atStart => exact ⟨0, Nat.zero_le _, rfl, by simp [Fm.val]⟩
  case round =>
    obtain ⟨k, hk, rfl, rfl⟩ := hrel
    by_cases hlt : k < z
    · have e := Lib.hid (get_step s a k (by omega) (by omega))
      go_wp2
      go_round
      case rel => exact ⟨k + 1, by omega, by go_num, congrArg _ e.out⟩
      case measure => simp [intOf]; omega
    · go_wp2
      go_ret2
      exact ⟨ret_two (by rw [show k = z from by omega]; rfl) rfl, rfl⟩

theorem val_step (s : ByteArray) (k : Nat) (hk : k < s.size) (h8 : s.size ≤ 8) :
    IntKind.u64.wrap ((Fm.val (s.data.toList.take k) : Nat) + IntKind.u64.wrap (IntKind.u64.wrap s[k].toNat * (Fm.pw k : Nat))) = ((Fm.val (s.data.toList.take (k + 1)) : Nat) : Int) := by
  have hb := s[k].toNat_lt
  have hv := Fm.val_lt (s.data.toList.take k)
  have hl : (s.data.toList.take k).length = k := by simp; omega
  rw [hl] at hv
  obtain ⟨g1, g2⟩ := byte_pw s[k].toNat k hb (by omega)
  have hp : s.data.toList.take (k + 1) = s.data.toList.take k ++ [s[k]] := by have := part_snoc s 0 k (by omega); simpa using this
  rw [hp, Fm.val_snoc, hl]
  have e1 : IntKind.u64.wrap (s[k].toNat : Int) = (s[k].toNat : Int) := by rw [IntKind.wrap_u64]; omega
  have e2 : (s[k].toNat : Int) * (Fm.pw k : Nat) = ((Fm.pw k * s[k].toNat : Nat) : Int) := by rw [Int.natCast_mul, Int.mul_comm]
  rw [e1, e2, IntKind.wrap_u64, IntKind.wrap_u64]
  omega

/-- a call that leaves the world alone, in a region that has drawn -/
theorem quietly {f : FuncId} {args : Array Value} {w : World} {n : Nat} {v : Value} (h : Calls Try.prog f args (w.drewN n) fun e w' => e = .returned v ∧ w.drewN n = w') :
    Calls Try.prog f args (w.drewN n) fun e w' => e = .returned v ∧ ∃ m, w' = w.drewN m := h.mono fun _ _ x => ⟨x.1, n, x.2.symm⟩

theorem value_any (s : ByteArray) (w : World) (hs : s.size ≤ 8) :
    Calls Try.prog 21 #[.string s] w fun e w' => e = .returned (.int .u64 (Fm.val s.data.toList : Nat)) ∧ ∃ n, w' = w.drewN n := by
  go_enter Try.func21, Try.ntmps21
  go_wp2
  go_loopw [3, 4] (fun n i wr => ∃ k : Nat, k ≤ s.size ∧ i = .int .i64 k ∧ n = .int .u64 (Fm.val (s.data.toList.take k) : Nat) ∧ ∃ d, wr = w.drewN d) (fun _ i _ => s.size - (intOf i).toNat)
  case atStart => exact ⟨0, Nat.zero_le _, rfl, by simp [Fm.val], 0, rfl⟩
  case round =>
    obtain ⟨k, hk, rfl, rfl, hd⟩ := hrel
    have HD := Lib.hid hd
    clear hd
    by_cases hlt : k < s.size
    · have e := Lib.hid (val_step s k hlt hs)
      go_wp2
      go_quiet ((go_at_call 28; exact quietly (power_any _ _ (by omega) (by omega))))
      go_wp2
      go_roundw
      case rel => exact ⟨k + 1, by omega, by go_num, congrArg _ e.out, by obtain ⟨d, hd⟩ := HD.out; exact ⟨d + nq, by rw [hd, World.drewN_drewN]⟩⟩
      case measure => simp [intOf]; omega
    · go_wp2
      go_ret
      exact ⟨ret_int (by rw [List.take_of_length_le (by simp; omega)]), HD.out⟩

theorem get_any (s : ByteArray) (at_ size : Int) (w : World) (hs : s.size ≤ maxLen) :
    Calls Try.prog 19 #[.string s, .int .i64 at_, .int .i64 size] w fun e w' =>
      e = .returned (.tuple #[.int .u64 (getN s at_ size : Nat), .bool (hasB s.size at_ size)]) ∧ w = w' := by
  cases h : hasB s.size at_ size with
  | false => unfold getN; rw [h]; exact get_no s at_ size w hs h
  | true =>
    have H : 1 ≤ size ∧ size ≤ 8 ∧ 0 ≤ at_ ∧ at_ + size ≤ s.size := by simpa [hasB] using h
    obtain ⟨a, rfl⟩ := Int.eq_ofNat_of_zero_le H.2.2.1
    obtain ⟨z, rfl⟩ := Int.eq_ofNat_of_zero_le (show 0 ≤ size by omega)
    unfold getN; rw [h]
    exact get_yes s a z w hs (by omega) (by omega) (by omega)
end Go.Proofs.Ytabfjlokemkpjaa
