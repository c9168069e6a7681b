/-
  Layer 2 (seal): step, halfByteSteps and Join of the program, by their contracts.
-/
import Derived.Test.YtabfjlokemkpjaaSMath
import Derived.Test.YtabfjlokemkpjaaFLeaf
import Derived.Deep.WholeRow
import Derived.OwnWalk
import Derived.OneCell
namespace Go.Proofs.Ytabfjlokemkpjaa
open Go.RowKit

/-- a row as a number, under a name that no simplifier opens -/
def rn (r : BitVec 32) : Nat := r.toNat
theorem rn_lt (r : BitVec 32) : rn r < 4294967296 := r.isLt
theorem ofInt_rn (r : BitVec 32) : BitVec.ofInt 32 (rn r : Int) = r := by
  unfold rn; rw [BitVec.ofInt_natCast, BitVec.ofNat_toNat, BitVec.setWidth_eq]
theorem rn_ofNat (n : Nat) (h : n < 4294967296) : rn (BitVec.ofNat 32 n) = n := by
  unfold rn; rw [BitVec.toNat_ofNat]; exact Nat.mod_eq_of_lt (by simpa using h)
theorem wrap_rn (r : BitVec 32) : IntKind.u32.wrap (r.toNat : Int) = (rn r : Int) := by
  have := r.isLt
  rw [IntKind.wrap_u32]; unfold rn; omega
theorem xor_rn (a b : BitVec 32) : bits .xor .u32 (rn a : Int) (rn b : Int) = (rn (a ^^^ b) : Int) := by
  show IntKind.u32.wrap ((BitVec.ofInt 32 (rn a : Int) ^^^ BitVec.ofInt 32 (rn b : Int)).toNat : Int) = _
  rw [ofInt_rn, ofInt_rn, wrap_rn]
theorem and_rn (a b : BitVec 32) : bits .and .u32 (rn a : Int) (rn b : Int) = (rn (a &&& b) : Int) := by
  show IntKind.u32.wrap ((BitVec.ofInt 32 (rn a : Int) &&& BitVec.ofInt 32 (rn b : Int)).toNat : Int) = _
  rw [ofInt_rn, ofInt_rn, wrap_rn]
theorem rn_shr (r : BitVec 32) (k : Nat) : rn (r >>> k) = rn r / 2 ^ k := by
  unfold rn; rw [BitVec.toNat_ushiftRight, Nat.shiftRight_eq_div_pow]
theorem rn_bit (r : BitVec 32) : bits .and .u32 (rn r : Int) 1 = if r.getLsbD 0 then 1 else 0 := by
  have h := and_rn r 1#32
  have e1 : (rn 1#32 : Int) = 1 := by decide
  rw [e1] at h
  rw [h]
  unfold rn
  rw [BitVec.toNat_and, ← BitVec.testBit_toNat, Nat.testBit_zero, show (1#32).toNat = 1 from rfl, Nat.and_one_is_mod]
  rcases Nat.mod_two_eq_zero_or_one r.toNat with e | e <;> rw [e] <;> simp
theorem st_yes (r : BitVec 32) (h : r.getLsbD 0 = true) : bits .xor .u32 ((rn r : Int) / 2) 3988292384 = (rn (Sm.st r) : Int) := by
  have := xor_rn (r >>> 1) Sm.pl
  rw [rn_shr, show (rn Sm.pl : Int) = 3988292384 from by decide] at this
  unfold Sm.st
  rw [h, cond_true, ← this]
  simp
theorem st_no (r : BitVec 32) (h : r.getLsbD 0 = false) : (rn r : Int) / 2 = (rn (Sm.st r) : Int) := by
  unfold Sm.st
  rw [h, cond_false, BitVec.xor_zero, rn_shr]
  simp

theorem step_any (r : BitVec 32) (w : World) :
    Calls Try.prog 29 #[.int .u32 (rn r : Nat)] w fun e w' => e = .returned (.int .u32 (rn (Sm.st r) : Nat)) ∧ w = w' := by
  have hlt := rn_lt r
  have hb := rn_bit r
  cases h : r.getLsbD 0 with
  | true =>
    have e := Lib.hid (st_yes r h)
    rw [h, if_pos rfl] at hb
    clear h
    go_enter Try.func29, Try.ntmps29
    go_wp2
    go_ret
    exact ⟨ret_int e.out, rfl⟩
  | false =>
    have e := Lib.hid (st_no r h)
    rw [h, if_neg (by simp)] at hb
    clear h
    go_enter Try.func29, Try.ntmps29
    go_wp2
    go_ret
    exact ⟨ret_int e.out, rfl⟩

/-- the table behind k rounds -/
def tabV (k i : Nat) : Value := .int .u32 ((if i < k then rn (Sm.stn 4 (BitVec.ofNat 32 i)) else 0 : Nat) : Int)
def tab (k : Nat) : Array Value := (Array.range 16).map (tabV k)
theorem tab_size (k : Nat) : (tab k).size = 16 := by simp [tab]
theorem tab_get (k i : Nat) (h : i < 16) : (tab k)[i]? = some (tabV k i) := by
  unfold tab
  rw [Array.getElem?_map, Array.getElem?_eq_getElem (by simpa using h)]
  simp
theorem tab_zero : tab 0 = #[.int .u32 0, .int .u32 0, .int .u32 0, .int .u32 0, .int .u32 0, .int .u32 0, .int .u32 0, .int .u32 0, .int .u32 0, .int .u32 0, .int .u32 0, .int .u32 0, .int .u32 0, .int .u32 0, .int .u32 0, .int .u32 0] := by kernel_rfl
theorem tab_set (k : Nat) (h : k < 16) : (tab k).setIfInBounds k (.int .u32 (rn (Sm.stn 4 (BitVec.ofNat 32 k)) : Nat)) = tab (k + 1) := by
  apply Array.ext_getElem?
  intro i
  rw [Array.getElem?_setIfInBounds, tab_size]
  by_cases hi : i < 16
  · rw [tab_get (k + 1) i hi, tab_get k i hi]
    unfold tabV
    by_cases e : k = i
    · subst e; rw [if_pos rfl, if_pos h, if_pos (Nat.lt_succ_self _)]
    · rw [if_neg e]
      by_cases q : i < k
      · rw [if_pos q, if_pos (by omega)]
      · rw [if_neg q, if_neg (by omega)]
  · rw [if_neg (by omega), Array.getElem?_eq_none (by rw [tab_size]; omega), Array.getElem?_eq_none (by rw [tab_size]; omega)]
theorem tab_one (k : Nat) : (tab k).all (·.oneCell') = true := by
  rw [Array.all_eq_true_iff_forall_mem]
  intro v hv
  unfold tab at hv
  obtain ⟨i, _, rfl⟩ := Array.mem_map.1 hv
  rfl
def HalfW (B k : Nat) (w wr : World) : Prop :=
  wr.heap[B]? = some (.cells (tab 0) 40 (0, 0)) ∧ wr.heap[B + 1]? = some (.cells (tab k) 40 (0, 0)) ∧ Below B w wr
theorem halfW_start (w : World) : HalfW w.heap.size 0 w ((w.alloc (.cells (tab 0) 40)).alloc (.cells (tab 0) 40)) :=
  ⟨heap_alloc2_old _ _ _, heap_alloc2_new _ _ _, ((Below.refl _ _).alloc (Nat.le_refl _) _).alloc (by simp) _⟩
theorem halfW_step {B k : Nat} {w wr : World} (h : HalfW B k w wr) (hk : k < 16) : HalfW B (k + 1) w (wr.setCell ⟨B + 1, k, none⟩ (.int .u32 (rn (Sm.stn 4 (BitVec.ofNat 32 k)) : Nat))) := by
  obtain ⟨h1, h2, h3⟩ := h
  refine ⟨(heap_setCell_other _ _ _ _ (by simp)).trans h1, ?_, h3.setCell (by simp) _⟩
  rw [heap_setCell_same _ _ _ _ _ _ h2, tab_set k hk]
theorem info_arr (k : Nat) : (Try.prog.info? 40).map (·.size) = some (tab k).size := by rw [tab_size]; kernel_rfl

theorem half_any (w : World) :
    Calls Try.prog 22 #[] w fun e w' => e = .returned (.agg (tab 16)) ∧ Below w.heap.size w w' := by
  go_enter Try.func22, Try.ntmps22
  go_wp2
  rw [← tab_zero]
  go_loopw [4] (fun i wr => ∃ k : Nat, k ≤ 16 ∧ i = .int .i64 k ∧ HalfW w.heap.size k w wr) (fun i _ => 16 - (intOf i).toNat)
  case atStart => exact ⟨0, by omega, rfl, halfW_start w⟩
  case round =>
    obtain ⟨k, hk, rfl, hW⟩ := hrel
    have HW := Lib.hid hW
    by_cases hlt : k < 16
    · have hc : wr.cell? ⟨w.heap.size + 1, k, none⟩ = some (.int .u32 0) := by
        rw [cell_of_row _ _ _ _ _ _ hW.2.1, tab_get k k hlt]; unfold tabV; rw [if_neg (by omega)]; rfl
      have hf : wr.frozen? ⟨w.heap.size + 1, k, none⟩ = false := frozen_of_row _ _ _ _ _ hW.2.1
      clear hW
      have e0 : IntKind.u32.wrap (k : Int) = (rn (Sm.stn 0 (BitVec.ofNat 32 k)) : Int) := by
        rw [IntKind.wrap_u32]; unfold Sm.stn; rw [rn_ofNat _ (by omega)]; omega
      have hd : decide ((k : Int) < 16) = true := by simp; omega
      go_wp2
      clear e0
      go_loop [3, 9] (fun r i => ∃ j : Nat, j ≤ 4 ∧ i = .int .i64 j ∧ r = .int .u32 (rn (Sm.stn j (BitVec.ofNat 32 k)) : Nat)) (fun _ i => 4 - (intOf i).toNat)
      case atStart => exact ⟨0, by omega, rfl, rfl⟩
      case round =>
        obtain ⟨j, hj, rfl, rfl⟩ := hrel
        by_cases hj4 : j < 4
        · go_wp2_with (go_at_call 29; refine (step_any _ _).mono ?_; rintro e w' ⟨rfl, rfl⟩)
          go_round
          case rel => exact ⟨j + 1, by omega, by go_num, by rw [Sm.stn_last]⟩
          case measure => simp [intOf]; omega
        · obtain rfl : j = 4 := by omega
          go_wp2
          go_roundw
          case rel => exact ⟨k + 1, by omega, by go_num, halfW_step HW.out hlt⟩
          case measure => simp [intOf]; omega
    · clear hW
      obtain rfl : k = 16 := by omega
      go_wp2_with (first
        | (refine wpList_load_row rfl 40 (.tmp 1) rfl (w.heap.size + 1) rfl 40 (tab 16) (0, 0) _ HW.out.2.1 Try.underlying40 rfl (info_arr _) ?_)
        | (refine wpList_store_row rfl 40 (.tmp 0) (.tmp 18) rfl w.heap.size (tab 16) rfl rfl 40 (tab 0) HW.out.1 (info_arr _) (by rw [tab_size, tab_size]) (tab_one _) ?_))
      have hg := setRow_heap wr w.heap.size (tab 0) (tab 16) 40 (0, 0) HW.out.1
      refine bodyPost_ret (v := .agg (tab 16)) ?_ rfl ⟨rfl, HW.out.2.2.trans ⟨rfl, rfl, rfl, by simp, fun k hk => setRow_other _ _ _ _ (by omega)⟩⟩
      exact results_cell_row (p := 0) (ty := 40) Try.results22 _ _ w.heap.size 40 (tab 16) (0, 0) _ rfl hg Try.underlying40 rfl (info_arr _)

theorem nib_lt (r : BitVec 32) : rn (r &&& 15#32) < 16 := by
  unfold rn
  rw [BitVec.toNat_and, show (15#32).toNat = 2 ^ 4 - 1 from rfl, Nat.and_two_pow_sub_one_eq_mod]
  omega
theorem nib_and (r : BitVec 32) : bits .and .u32 (rn r : Int) 15 = (rn (r &&& 15#32) : Int) := by
  have := and_rn r 15#32
  rwa [show (rn 15#32 : Int) = 15 from by decide] at this
theorem nib_get (r : BitVec 32) : (tab 16)[rn (r &&& 15#32)]? = some (.int .u32 (rn (Sm.stn 4 (r &&& 15#32)) : Nat)) := by
  have h := nib_lt r
  rw [tab_get 16 _ h]
  unfold tabV
  rw [if_pos h]
  unfold rn
  rw [BitVec.ofNat_toNat, BitVec.setWidth_eq]
theorem nib_code (r : BitVec 32) : bits .xor .u32 ((rn r : Int) / 16) (rn (Sm.stn 4 (r &&& 15#32)) : Int) = (rn (Sm.stn 4 r) : Int) := by
  have := xor_rn (r >>> 4) (Sm.stn 4 (r &&& 15#32))
  rw [← Sm.nib, rn_shr] at this
  rw [← this]
  simp
theorem byte_code (r : BitVec 32) (b : UInt8) : bits .xor .u32 (rn r : Int) ((b.toNat : Int) % 4294967296) = (rn (r ^^^ Sm.bb b) : Int) := by
  have hb := b.toNat_lt
  have := xor_rn r (Sm.bb b)
  rwa [show (rn (Sm.bb b) : Int) = (b.toNat : Int) % 4294967296 from by rw [show rn (Sm.bb b) = b.toNat from rn_ofNat _ (by omega)]; omega] at this
theorem not_code (r : BitVec 32) : bits .xor .u32 IntKind.u32.max (rn r : Int) = (rn (Sm.ones ^^^ r) : Int) := by
  have := xor_rn Sm.ones r
  rwa [show (rn Sm.ones : Int) = IntKind.u32.max from by decide] at this
theorem eight (r : BitVec 32) : Sm.stn 4 (Sm.stn 4 r) = Sm.stn 8 r := (Sm.stn_add 4 4 r).symm

theorem join_any (a : BitVec 32) (s : ByteArray) (w : World) (hs : s.size ≤ maxLen) :
    Calls Try.prog 14 #[.int .u32 (rn a : Nat), .string s] w fun e w' => e = .returned (.int .u32 (rn (Sm.join a s.data.toList) : Nat)) ∧ Below w.heap.size w w' := by
  unfold maxLen at hs
  have ha := rn_lt a
  have hna := not_code a
  go_enter Try.func14, Try.ntmps14
  go_wp2_with fail
  refine (half_any _).mono ?_
  rintro e w1 ⟨rfl, hb⟩
  have HB := Lib.hid hb
  have hsz := hb.size
  clear hb
  go_wp2_with (refine wpList_store_row rfl 40 (.tmp 5) (.tmp 8) rfl w1.heap.size (tab 16) rfl rfl 40 _ (heap_alloc_new _ _) (info_arr _) (by rw [tab_size]; rfl) (tab_one _) ?_)
  clear hna
  rw [World.setRow_alloc_new]
  have HW := Lib.hid (HB.out.alloc hsz (.cells (tab 16) 40))
  have HC : Hid (∀ j, (w1.alloc (.cells (tab 16) 40)).cell? ⟨w1.heap.size, j, none⟩ = (tab 16)[j]?) := fun j => cell_of_row _ _ _ _ _ _ (heap_alloc_new _ _)
  generalize w1.alloc (.cells (tab 16) 40) = W at HW HC ⊢
  go_loop [6, 13] (fun r i => ∃ k : Nat, k ≤ s.size ∧ i = .int .i64 k ∧ r = .int .u32 (rn (Sm.crc (Sm.ones ^^^ a) (s.data.toList.take k)) : Nat)) (fun _ i => s.size - (intOf i).toNat)
  case atStart => exact ⟨0, Nat.zero_le _, rfl, rfl⟩
  case round =>
    obtain ⟨k, hk, rfl, rfl⟩ := hrel
    by_cases hlt : k < s.size
    · obtain ⟨r, hr⟩ : ∃ r, r = Sm.crc (Sm.ones ^^^ a) (s.data.toList.take k) := ⟨_, rfl⟩
      obtain ⟨r0, hr0⟩ : ∃ r0, r0 = r ^^^ Sm.bb s[k] := ⟨_, rfl⟩
      obtain ⟨r1, hr1⟩ : ∃ r1, r1 = Sm.stn 4 r0 := ⟨_, rfl⟩
      obtain ⟨r2, hr2⟩ : ∃ r2, r2 = Sm.stn 4 r1 := ⟨_, rfl⟩
      obtain ⟨m0, hm0⟩ : ∃ m0, m0 = rn (r0 &&& 15#32) := ⟨_, rfl⟩
      obtain ⟨m1, hm1⟩ : ∃ m1, m1 = rn (r1 &&& 15#32) := ⟨_, rfl⟩
      obtain ⟨t0, ht0⟩ : ∃ t0, t0 = rn (Sm.stn 4 (r0 &&& 15#32)) := ⟨_, rfl⟩
      obtain ⟨t1, ht1⟩ : ∃ t1, t1 = rn (Sm.stn 4 (r1 &&& 15#32)) := ⟨_, rfl⟩
      have l0 : m0 < 16 := by rw [hm0]; exact nib_lt r0
      have l1 : m1 < 16 := by rw [hm1]; exact nib_lt r1
      have c0 := HC.out m0
      rw [hm0, nib_get r0, ← hm0, ← ht0] at c0
      have c1 := HC.out m1
      rw [hm1, nib_get r1, ← hm1, ← ht1] at c1
      have x0 := byte_code r s[k]
      rw [← hr0] at x0
      have n0 := nib_and r0
      rw [← hm0] at n0
      have n1 := nib_and r1
      rw [← hm1] at n1
      have y0 := nib_code r0
      rw [← hr1, ← ht0] at y0
      have y1 := nib_code r1
      rw [← hr2, ← ht1] at y1
      have HR : Hid (r2 = Sm.crc (Sm.ones ^^^ a) (s.data.toList.take (k + 1))) := by
        show r2 = _
        rw [hr2, hr1, eight, hr0, hr, List.take_succ_eq_append_getElem (by simpa using hlt), Sm.crc_snoc]
        rfl
      rw [← hr]
      clear hr hr0 hr1 hr2 hm0 hm1 ht0 ht1
      have b0 := rn_lt r
      have b1 := rn_lt r0
      have b2 := rn_lt r1
      go_wp2
      go_round
      case rel => exact ⟨k + 1, by omega, by go_num, by rw [HR.out]⟩
      case measure => simp [intOf]; omega
    · obtain rfl : k = s.size := by omega
      have hn := not_code (Sm.crc (Sm.ones ^^^ a) (s.data.toList.take s.size))
      have hb := rn_lt (Sm.crc (Sm.ones ^^^ a) (s.data.toList.take s.size))
      go_wp2
      go_ret
      exact ⟨ret_int (by rw [List.take_of_length_le (by simp)]; rfl), HW.out⟩

theorem sum_any (s : ByteArray) (w : World) (hs : s.size ≤ maxLen) :
    Calls Try.prog 12 #[.string s] w fun e w' => e = .returned (.int .u32 (rn (Sm.sum s.data.toList) : Nat)) ∧ Below w.heap.size w w' := by
  go_enter Try.func12, Try.ntmps12
  go_wp2_with fail
  refine (join_any 0#32 s _ hs).mono ?_
  rintro e w' ⟨rfl, hb⟩
  have HB := Lib.hid hb
  clear hb
  go_wp2
  go_ret
  exact ⟨rfl, HB.out⟩
end Go.Proofs.Ytabfjlokemkpjaa
