/-
  Layer 1 (field): Row of the program (a closure gathers the bytes) and Row of the document's own answer, by their contracts.
-/
import Derived.Test.YtkceagmgabjidaaFPut
import Derived.Test.YtkceagmgabjidaaFLst
namespace Go.Proofs.Ytkceagmgabjidaa
open Go.RowKit

set_option maxRecDepth 100000 in
theorem row1_any (B0 B : Nat) (l : List UInt8) (b : Int) (w : World) (b0 : 0 ≤ b) (b1 : b < 256) (h : Gathers B0 B l w) (hl : l.length ≤ 100000000) :
    Calls Try.prog 30 #[.int .u8 b, .pointer (some ⟨B, 0, none⟩)] w fun e w' => e = .returned (.tuple #[]) ∧ Gathers B0 B (l ++ [UInt8.ofNat b.toNat]) w' ∧ Below B0 w w' := by
  obtain ⟨c, rfl⟩ : ∃ c : UInt8, b = (c.toNat : Int) := ⟨UInt8.ofNat b.toNat, by simp; omega⟩
  have ec : UInt8.ofNat ((c.toNat : Int)).toNat = c := by simp
  rw [ec]
  clear ec
  obtain ⟨hB, v, hv, hown⟩ := h
  obtain ⟨i0, hi, hz0, hz1, hz2⟩ := info_parts Try.infoByte
  have cV := cell_of_one hv
  have fV := free_of_one hv
  have hsz := lt_of_block hv
  go_enter Try.func30, Try.ntmps30
  go_wp2_with (at_builtin; refine wpList_append_own _ rfl _ _ 48 rfl B0 5 i0 (.int .u8 0) 1 1 Try.underlying48 hi hz0 hz1 hz2 rfl (by decide) _ _ _ rfl (hown.alloc _) ⟨w.heap.size, 0, none⟩ 1 1 [.int .u8 (c.toNat : Int)] rfl rfl ?c1 ?c2 ?c3 ?c4 ?c5 ?_)
  case c1 => exact cell_one_new _ _ _
  case c2 => intro u hu; simp at hu; subst hu; rfl
  case c3 => unfold maxLen; omega
  case c4 => omega
  case c5 => simp; omega
  intro v' w1 hown' hgrow _
  obtain ⟨h1, hG, hbel⟩ := gathers_step hB hv hown hown' hgrow
  obtain ⟨g, cap, rfl⟩ := slice_of hown' (by omega)
  have cV1 := cell_of_one h1
  have fV1 := free_of_one h1
  have HG := Lib.hid hG
  have HB := Lib.hid hbel
  clear hG hbel hown hown' hgrow cV fV h1 hv
  go_wp2
  go_end0
  exact ⟨rfl, HG.out, HB.out⟩

/-- the program's own loop over the bytes of a field, with Row's closure -/
theorem rowField_any (B0 B : Nat) (n z : Nat) (w : World) (hn : n < 18446744073709551616) (hz : z ≤ 8) (l : List UInt8) (h : Gathers B0 B l w) (hl : l.length ≤ 1000000) :
    Calls Try.prog 27 #[.int .u64 n, .int .i64 z, .func (.func 30) #[] #[.pointer (some ⟨B, 0, none⟩)]] w fun e w' =>
      e = .returned (.tuple #[]) ∧ Gathers B0 B (l ++ Fm.fld n z) w' ∧ Below B0 w w' := by
  go_enter Try.func27, Try.ntmps27
  go_wp2
  go_loopw [8] (fun i wr => ∃ k : Nat, k ≤ z ∧ i = .int .i64 k ∧ Gathers B0 B (l ++ Fm.fld n k) wr ∧ Below B0 w wr) (fun i _ => z - (intOf i).toNat)
  case atStart => exact ⟨0, Nat.zero_le _, rfl, by simpa [Fm.fld] using h, Below.refl _ _⟩
  case round =>
    obtain ⟨k, hk, rfl, hG, hbel⟩ := hrel
    have HG := Lib.hid hG
    have HB := Lib.hid hbel
    clear hG hbel
    by_cases hlt : k < z
    · go_wp2_with fail
      refine (row1_any B0 B (l ++ Fm.fld n k) _ _ (byte_lo n k).1 (byte_lo n k).2 HG.out (by rw [List.length_append, Fm.fld_length]; omega)).mono ?_
      rintro e w' ⟨rfl, hG', hbel'⟩
      have HG' := Lib.hid hG'
      have HB' := Lib.hid hbel'
      clear hG' hbel'
      go_wp2
      go_roundw
      case rel => exact ⟨k + 1, by omega, by go_num, by have := HG'.out; rw [byte_of, List.append_assoc] at this; exact this, HB.out.trans HB'.out⟩
      case measure => simp [intOf]; omega
    · go_wp2
      go_end0
      exact ⟨rfl, by rw [← show k = z from by omega]; exact HG.out, HB.out⟩

/-- a number's 64 bits as a number from 0 on -/
def u64n (c : Int) : Nat := (c % 18446744073709551616).toNat
theorem u64n_lt (c : Int) : u64n c < 18446744073709551616 := by unfold u64n; omega
theorem wrap_u64n (c : Int) : IntKind.u64.wrap c = (u64n c : Int) := by rw [IntKind.wrap_u64]; unfold u64n; omega
/-- the signed fields of coordinates, one behind the other -/
def rowB (l : List Int) : List UInt8 := l.flatMap fun c => Fm.fld (u64n c) 4
theorem rowB_snoc (l : List Int) (c : Int) : rowB (l ++ [c]) = rowB l ++ Fm.fld (u64n c) 4 := by simp [rowB]
theorem rowB_append (l m : List Int) : rowB (l ++ m) = rowB l ++ rowB m := by simp [rowB]
theorem rowB_length (l : List Int) : (rowB l).length = 4 * l.length := by
  induction l with
  | nil => rfl
  | cons c r ih =>
    have e : rowB (c :: r) = Fm.fld (u64n c) 4 ++ rowB r := by simp [rowB]
    rw [e, List.length_append, Fm.fld_length, ih, List.length_cons]; omega
theorem take_step (l : List Int) (k : Nat) (h : k < l.length) : rowB (l.take (k + 1)) = rowB (l.take k) ++ Fm.fld (u64n l[k]) 4 := by
  rw [List.take_succ_eq_append_getElem h, rowB_snoc]

/-- what was gathered, as a text: none too -/
theorem gathers_text0 {B0 B : Nat} {l : List UInt8} {w : World} (h : Gathers B0 B l w) :
    ∃ A cap, w.cell? ⟨B, 0, none⟩ = some (.slice A l.length cap) ∧
      (convert 48 9 (.slice A l.length cap)).run Try.prog w = .ok (.string ⟨l.toArray⟩) w := by
  by_cases hl : 0 < l.length
  · obtain ⟨g, cap, h1, h2⟩ := gathers_text h hl
    exact ⟨_, cap, h1, h2⟩
  · obtain rfl : l = [] := List.length_eq_zero_iff.1 (by omega)
    obtain ⟨_, v, hv, hown⟩ := h
    rcases hown.2 with ⟨rfl, _⟩ | ⟨g, cap, cur, rfl, _⟩
    · exact ⟨none, 0, cell_of_one hv, run_convert_bytes_nil (P := Try.prog) w 48 5 Try.underlying48 Try.underlying5 0 0 9 Try.underlying9⟩
    · exact ⟨some ⟨g, 0, none⟩, cap, cell_of_one hv, run_convert_bytes_back (P := Try.prog) w 48 9 5 ⟨g, 0, none⟩ cap [] Try.underlying48 Try.underlying5 Try.underlying9 (fun j hj => absurd hj (by simp))⟩

theorem row_any (A : Option Addr) (n c : Nat) (l : List Int) (w : World) (h : Lst w w.heap.size A n (l.map (Value.int .i32))) (hn : n ≤ 10000) :
    Calls Try.prog 19 #[.slice A n c] w fun e w' => e = .returned (.string ⟨(rowB l).toArray⟩) ∧ Below w.heap.size w w' := by
  obtain ⟨i0, hi, hz0, hz1, hz2⟩ := info_parts Try.infoByte
  have hln : l.length = n := by have := h.1; simpa using this
  have H := Lib.hid h
  have HL := Lib.hid hln
  clear h hln
  go_enter Try.func19, Try.ntmps19
  go_wp2_with (at_make; refine wpList_make_own _ rfl _ _ 48 rfl w.heap.size 5 i0 (.int .u8 0) 1 Try.underlying48 hi hz0 hz1 .i64 .i64 _ (4 * n) rfl rfl (by omega) (by rw [hz2]; omega) (by unfold maxLen; omega) (Nat.le_refl _) ?_; intro w0 hown0 hgrow0)
  obtain ⟨hG0, hb0⟩ := gathers_start hown0 hgrow0
  have HG0 := Lib.hid hG0
  have HB0 := Lib.hid hb0
  clear hG0 hb0 hown0 hgrow0
  go_loopw [14] (fun i wr => ∃ k : Nat, k ≤ n ∧ i = .int .i64 k ∧ Gathers w.heap.size w0.heap.size (rowB (l.take k)) wr ∧ Below w.heap.size w wr) (fun i _ => n - (intOf i).toNat)
  case atStart => exact ⟨0, Nat.zero_le _, rfl, by simpa [rowB] using HG0.out, HB0.out⟩
  case round =>
    obtain ⟨k, hk, rfl, hG, hbel⟩ := hrel
    have HG := Lib.hid hG
    have HB := Lib.hid hbel
    clear hG hbel HG0 HB0
    by_cases hlt : k < n
    · have hkl : k < l.length := by rw [HL.out]; exact hlt
      obtain ⟨b, off, hA, hb, hc⟩ := (H.out.below HB.out).at_ hlt
      subst hA
      rw [List.getElem?_map, List.getElem?_eq_getElem hkl] at hc
      have HT := Lib.hid (take_step l k hkl)
      obtain ⟨x, hx⟩ : ∃ x, x = l[k] := ⟨_, rfl⟩
      rw [← hx] at hc HT
      simp only [Option.map_some] at hc
      clear hx
      go_wp2_with fail
      rw [wrap_u64n]
      refine (rowField_any w.heap.size w0.heap.size (u64n x) 4 _ (u64n_lt x) (by omega) (rowB (l.take k)) HG.out (by rw [rowB_length, List.length_take, HL.out]; omega)).mono ?_
      rintro e w1 ⟨rfl, hG', hbel'⟩
      rw [← HT.out] at hG'
      have HG' := Lib.hid hG'
      have HB' := Lib.hid (HB.out.trans hbel')
      clear hG' hbel'
      go_wp2
      go_roundw
      case rel => exact ⟨k + 1, by omega, by go_num, HG'.out, HB'.out⟩
      case measure => simp [intOf]; omega
    · have e : l.take k = l := List.take_of_length_le (by rw [HL.out]; omega)
      have hG := HG.out
      rw [e] at hG
      obtain ⟨A', cap, hcell, hcv⟩ := gathers_text0 hG
      clear hG e
      go_wp2
      go_ret
      exact ⟨rfl, HB.out⟩
end Go.Proofs.Ytkceagmgabjidaa
