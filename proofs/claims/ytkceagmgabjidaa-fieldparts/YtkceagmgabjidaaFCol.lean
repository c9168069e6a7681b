/-
  Layer 1 (field): Column of the program and Row of the document's own answer, by their contracts; what rows and columns are to each other.
-/
import Derived.Test.YtkceagmgabjidaaFRow
namespace Go.Proofs.Ytkceagmgabjidaa
open Go.RowKit

theorem Try.infoI32 : (Try.prog.info? 21).map (fun i => (i.zero, i.size, i.bytes)) = some (some (.int .i32 0), 1, 4) := by kernel_rfl

/-- the first k coordinates of a row's bytes -/
def colN (l : List UInt8) (k : Nat) : List Int := (List.range k).map fun i => Fm.sgn (Fm.val ((l.drop (4 * i)).take 4) : Nat) 4
theorem colN_succ (l : List UInt8) (k : Nat) : colN l (k + 1) = colN l k ++ [Fm.sgn (Fm.val ((l.drop (4 * k)).take 4) : Nat) 4] := by
  simp [colN, List.range_succ]
theorem colN_length (l : List UInt8) (k : Nat) : (colN l k).length = k := by simp [colN]
theorem pw4 : Fm.pw (4 : Int).toNat = 4294967296 := by decide
theorem sgn4_bounds (n : Int) : -2147483648 ≤ Fm.sgn n 4 ∧ Fm.sgn n 4 ≤ 2147483647 := by
  unfold Fm.sgn
  rw [if_pos (by omega), pw4]
  simp only []
  split <;> omega
/-- a coordinate's field tells it -/
theorem sgn4_back (c : Int) (h0 : -2147483648 ≤ c) (h1 : c ≤ 2147483647) : Fm.sgn (Fm.val (Fm.fld (u64n c) 4) : Nat) 4 = c := by
  rw [Fm.val_fld, show Fm.pw 4 = 4294967296 from by decide]
  unfold Fm.sgn u64n
  rw [if_pos (by omega), pw4]
  simp only []
  split <;> omega
/-- what four bytes tell has them as its field -/
theorem fld4_back (b : List UInt8) (h : b.length = 4) : Fm.fld (u64n (Fm.sgn (Fm.val b : Nat) 4)) 4 = b := by
  have hv := Fm.val_lt b
  rw [h, show Fm.pw 4 = 4294967296 from by decide] at hv
  have e : u64n (Fm.sgn (Fm.val b : Nat) 4) % Fm.pw 4 = Fm.val b % Fm.pw 4 := by
    rw [show Fm.pw 4 = 4294967296 from by decide]
    unfold Fm.sgn u64n
    rw [if_pos (by omega), pw4]
    simp only []
    split <;> omega
  rw [Fm.fld_low _ _ _ e, ← h, Fm.fld_val]
theorem col_row (l : List Int) (h : ∀ c ∈ l, -2147483648 ≤ c ∧ c ≤ 2147483647) : colN (rowB l) l.length = l := by
  have key : ∀ k, k ≤ l.length → colN (rowB l) k = l.take k := by
    intro k
    induction k with
    | zero => intro _; simp [colN]
    | succ k ih =>
      intro hk
      rw [colN_succ, ih (by omega), List.take_succ_eq_append_getElem (show k < l.length by omega)]
      congr 2
      have e : rowB l = rowB (l.take k) ++ (Fm.fld (u64n l[k]) 4 ++ rowB (l.drop (k + 1))) := by
        have e1 : rowB (l.drop k) = Fm.fld (u64n l[k]) 4 ++ rowB (l.drop (k + 1)) := by
          rw [List.drop_eq_getElem_cons (show k < l.length by omega)]; exact List.flatMap_cons
        rw [← e1, ← rowB_append, List.take_append_drop]
      rw [e, List.drop_left' (show (rowB (l.take k)).length = 4 * k by rw [rowB_length, List.length_take, Nat.min_eq_left (by omega)]), List.take_left' (Fm.fld_length _ 4)]
      exact sgn4_back _ (h _ (List.getElem_mem _)).1 (h _ (List.getElem_mem _)).2
  simpa using key l.length (Nat.le_refl _)
theorem row_col (s : List UInt8) (m : Nat) (h : s.length = 4 * m) : rowB (colN s m) = s := by
  have key : ∀ k, k ≤ m → rowB (colN s k) = s.take (4 * k) := by
    intro k
    induction k with
    | zero => intro _; simp [colN, rowB]
    | succ k ih =>
      intro hk
      rw [colN_succ, rowB_snoc, ih (by omega), fld4_back _ (by simp; omega), show 4 * (k + 1) = 4 * k + 4 from by omega, List.take_add]
  have := key m (Nat.le_refl _)
  rwa [← h, List.take_length] at this

theorem own_form {w : World} {base : Nat} {e : TypeId} {v : Value} {n : Nat} {xs : List Value} (h : w.ownsRow base e 1 v n xs) : ∃ A c, v = .slice A n c := by
  rcases h.2 with ⟨rfl, rfl⟩ | ⟨g, cap, cur, rfl, _⟩
  · exact ⟨none, 0, rfl⟩
  · exact ⟨_, cap, rfl⟩
theorem column_no (s : ByteArray) (w : World) (hs : s.size ≤ maxLen) (h : s.size % 4 ≠ 0) :
    Calls Try.prog 20 #[.string s] w fun e w' => e = .returned (.tuple #[.slice none 0 0, .bool false]) ∧ w = w' := by
  unfold maxLen at hs
  have hb : (((s.size : Int) % 4) != 0) = true := by simp; omega
  go_enter Try.func20, Try.ntmps20
  go_wp2
  go_ret2
  exact ⟨rfl, rfl⟩

set_option maxHeartbeats 800000 in
set_option maxRecDepth 100000 in
theorem column_yes (s : ByteArray) (m : Nat) (w : World) (h : s.size = 4 * m) (hm : m ≤ 100000) :
    Calls Try.prog 20 #[.string s] w fun e w' => ∃ A c, e = .returned (.tuple #[.slice A m c, .bool true]) ∧
      w'.ownsRow w.heap.size 21 1 (.slice A m c) m ((colN s.data.toList m).map (Value.int .i32)) ∧ Below w.heap.size w w' := by
  obtain ⟨i0, hi, hz0, hz1, hz2⟩ := info_parts Try.infoI32
  have hb : (((s.size : Int) % 4) != 0) = false := by simp; omega
  have hs1 : s.size ≤ 4 * m := by omega
  have hs2 : 4 * m ≤ s.size := by omega
  clear h
  go_enter Try.func20, Try.ntmps20
  go_wp2_with (at_make; refine wpList_make_own _ rfl _ _ 32 rfl w.heap.size 21 i0 (.int .i32 0) 1 Try.underlying32 hi hz0 hz1 .i64 .i64 _ m rfl rfl (by omega) (by rw [hz2]; omega) (by unfold maxLen; omega) (Nat.le_refl _) ?_; intro w0 hown0 hgrow0)
  have HO := Lib.hid hown0
  have HB0 := Lib.hid ((Below.refl _ w).grown hgrow0 (Nat.le_refl _) (fun k h => by cases h))
  clear hown0 hgrow0
  go_loopw [4, 5] (fun v i wr => ∃ k : Nat, k ≤ m ∧ i = .int .i64 (4 * k : Nat) ∧ wr.ownsRow w.heap.size 21 1 v k ((colN s.data.toList k).map (Value.int .i32)) ∧ Below w.heap.size w wr) (fun _ i _ => 4 * m - (intOf i).toNat)
  case atStart => exact ⟨0, Nat.zero_le _, rfl, by simpa [colN] using HO.out, HB0.out⟩
  case round =>
    obtain ⟨k, hk, rfl, hown, hbel⟩ := hrel
    have hsz := hbel.size
    have HB := Lib.hid hbel
    clear hbel HO HB0
    by_cases hlt : k < m
    · obtain ⟨x, hx⟩ : ∃ x : Nat, x = Fm.val ((s.data.toList.drop (4 * k)).take 4) := ⟨_, rfl⟩
      have HC := Lib.hid (colN_succ s.data.toList k)
      rw [← hx] at HC
      have x1 : x < 4294967296 := by
        have hv := Fm.val_lt ((s.data.toList.drop (4 * k)).take 4)
        rw [← hx] at hv
        have hl : ((s.data.toList.drop (4 * k)).take 4).length = 4 := by simp; omega
        rw [hl, show Fm.pw 4 = 4294967296 from by decide] at hv
        exact hv
      have HX := Lib.hid hx
      clear hx
      obtain ⟨sb0, sb1⟩ := sgn4_bounds (x : Int)
      go_wp2_with fail
      refine (get_yes s (4 * k) 4 _ (by unfold maxLen; omega) (by omega) (by omega) (by omega)).mono ?_
      rintro e w1 ⟨rfl, rfl⟩
      rw [← HX.out]
      go_wp2_with fail
      refine (signed_yes _ _ _ (by omega) (by omega) (by omega) (by omega)).mono ?_
      rintro e w1 ⟨rfl, rfl⟩
      go_wp2_with (at_builtin; refine wpList_append_own _ rfl _ _ 32 rfl w.heap.size 21 i0 (.int .i32 0) 1 4 Try.underlying32 hi hz0 hz1 hz2 rfl (by decide) _ _ _ rfl (hown.alloc _) ⟨wr.heap.size, 0, none⟩ 1 1 [.int .i32 (Fm.sgn x 4)] rfl rfl ?c1 ?c2 ?c3 ?c4 ?c5 ?_)
      case c1 => exact cell_one_new _ _ _
      case c2 => intro u hu; simp at hu; subst hu; rfl
      case c3 => unfold maxLen; omega
      case c4 => omega
      case c5 => simp; omega
      intro v' w1 hown' hgrow _
      have HO' : Hid (w1.ownsRow w.heap.size 21 1 v' (k + 1) ((colN s.data.toList (k + 1)).map (Value.int .i32))) := by
        show w1.ownsRow w.heap.size 21 1 v' (k + 1) ((colN s.data.toList (k + 1)).map (Value.int .i32))
        rw [HC.out, List.map_append]; exact hown'
      have HB' := Lib.hid ((HB.out.alloc hsz (.cells #[.int .i32 (Fm.sgn x 4)] 21)).grown hgrow (by simp; omega) (ownBlock_ge hown))
      clear hown' hgrow hown HB
      go_wp2
      go_roundw
      case rel => exact ⟨k + 1, by omega, by go_num, HO'.out, HB'.out⟩
      case measure => simp [intOf]; omega
    · obtain rfl : k = m := by omega
      obtain ⟨A, c, hv⟩ := own_form hown
      subst hv
      have HO := Lib.hid hown
      clear hown
      go_wp2
      go_ret2
      exact ⟨A, c, rfl, HO.out, HB.out⟩

theorem refRow_any (A : Option Addr) (n c : Nat) (l : List Int) (w : World) (h : Lst w w.heap.size A n (l.map (Value.int .i32))) (hn : n ≤ 10000)
    (hl : ∀ c ∈ l, -2147483648 ≤ c ∧ c ≤ 2147483647) :
    Calls Try.prog 21 #[.slice A n c] w fun e w' => e = .returned (.string ⟨(rowB l).toArray⟩) ∧ Below w.heap.size w w' := by
  have hln : l.length = n := by have := h.1; simpa using this
  have H := Lib.hid h
  have HL := Lib.hid hln
  have HI := Lib.hid hl
  clear h hln hl
  go_enter Try.func21, Try.ntmps21
  go_wp2
  go_loopw [3, 4] (fun s i wr => ∃ k : Nat, k ≤ n ∧ i = .int .i64 k ∧ s = .string ⟨(rowB (l.take k)).toArray⟩ ∧ Below w.heap.size w wr) (fun _ i _ => n - (intOf i).toNat)
  case atStart => exact ⟨0, Nat.zero_le _, rfl, by simp [rowB], Below.refl _ _⟩
  case round =>
    obtain ⟨k, hk, rfl, rfl, hbel⟩ := hrel
    have hsz := hbel.size
    have HB := Lib.hid hbel
    clear hbel
    by_cases hlt : k < n
    · have hkl : k < l.length := by rw [HL.out]; exact hlt
      obtain ⟨b, off, hA, hb, hc⟩ := (H.out.below HB.out).at_ hlt
      subst hA
      rw [List.getElem?_map, List.getElem?_eq_getElem hkl] at hc
      have HT := Lib.hid (take_step l k hkl)
      obtain ⟨x0, x1⟩ := HI.out l[k] (List.getElem_mem _)
      obtain ⟨x, hx⟩ : ∃ x, x = l[k] := ⟨_, rfl⟩
      rw [← hx] at hc HT x0 x1
      simp only [Option.map_some] at hc
      clear hx
      have hadd : ∀ W : World, (Op.stringOp .add ⟨(rowB (l.take k)).toArray⟩ ⟨(Fm.fld (u64n x) 4).toArray⟩).run Try.prog W = .ok (.string ⟨(rowB (l.take (k + 1))).toArray⟩) W := fun W => by
        rw [HT.out]
        exact run_string_add_lists (P := Try.prog) W (rowB (l.take k)) (Fm.fld (u64n x) 4) (by rw [rowB_length, List.length_take]; omega) (by rw [Fm.fld_length]; omega)
      go_wp2_with fail
      rw [wrap_u64n]
      refine (refPut_yes (u64n x) 4 _ (u64n_lt x) (by omega) (by omega)).mono ?_
      rintro e w1 ⟨rfl, hb1⟩
      have HB' := Lib.hid (HB.out.trans (hb1.mono hsz))
      clear hb1
      go_wp2
      go_roundw
      case rel => exact ⟨k + 1, by omega, by go_num, rfl, HB'.out⟩
      case measure => simp [intOf]; omega
    · have HT := Lib.hid (show l.take k = l from List.take_of_length_le (by rw [HL.out]; omega))
      go_wp2
      go_ret
      exact ⟨congrArg (fun q => Ending.returned (.string ⟨(rowB q).toArray⟩)) HT.out, HB.out⟩
end Go.Proofs.Ytkceagmgabjidaa
