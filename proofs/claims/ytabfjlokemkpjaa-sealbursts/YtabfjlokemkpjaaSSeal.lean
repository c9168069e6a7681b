/-
  Layer 2 (seal): Seal and Open, of the program and of the document's own answer, by their contracts.
-/
import Derived.Test.YtabfjlokemkpjaaSRef
import Derived.Test.YtabfjlokemkpjaaFPut
import Derived.Test.YtabfjlokemkpjaaFClone
namespace Go.Proofs.Ytabfjlokemkpjaa
open Go.RowKit

theorem text_eq {a b : ByteArray} (h : a.data.toList = b.data.toList) : a = b := by
  cases a; cases b; simp at h; simpa using h
theorem toList_inj {a b : ByteArray} (h : a.toList = b.toList) : a = b := text_eq (by rw [← ByteArray.toList_eq, ← ByteArray.toList_eq, h])
theorem size_list (s : ByteArray) : s.size = s.data.toList.length := by simp
theorem list_app (a b : ByteArray) : (a ++ b).data.toList = a.data.toList ++ b.data.toList := by simp
theorem put_four (n : Nat) (w : World) (hn : n < 4294967296) :
    Calls Try.prog 24 #[.int .u64 n, .int .i64 4] w fun e w' => ∃ S : ByteArray, e = .returned (.string S) ∧ S.data.toList = Fm.fld n 4 ∧ Below w.heap.size w w' :=
  (put_yes n 4 w (by omega) (by omega) (by omega)).mono fun _ _ h => ⟨_, h.1, rfl, h.2⟩
theorem refPut_four (n : Nat) (w : World) (hn : n < 4294967296) :
    Calls Try.prog 25 #[.int .u64 n, .int .i64 4] w fun e w' => ∃ S : ByteArray, e = .returned (.string S) ∧ S.data.toList = Fm.fld n 4 ∧ Below w.heap.size w w' :=
  (refPut_yes n 4 w (by omega) (by omega) (by omega)).mono fun _ _ h => ⟨_, h.1, rfl, h.2⟩

theorem seal_any (s : ByteArray) (w : World) (hs : s.size ≤ 100000) :
    Calls Try.prog 16 #[.string s] w fun e w' => ∃ S : ByteArray, e = .returned (.string S) ∧ S.data.toList = Sm.sealed s.data.toList ∧ Below w.heap.size w w' := by
  go_enter Try.func16, Try.ntmps16
  go_wp2_with fail
  refine (sum_any s _ (by unfold maxLen; omega)).mono ?_
  rintro e w1 ⟨rfl, hb1⟩
  have HB1 := Lib.hid hb1
  have hs1 := hb1.size
  clear hb1
  have hlt := rn_lt (Sm.sum s.data.toList)
  go_wp2_with fail
  refine (put_four _ _ hlt).mono ?_
  rintro e w2 ⟨S, rfl, hS, hb2⟩
  have HS := Lib.hid hS
  have HB2 := Lib.hid (HB1.out.trans (hb2.mono hs1))
  have hl : S.size ≤ 4 := by rw [size_list, hS, Fm.fld_length]; omega
  clear hb2 HB1 hS
  have HT : Hid ((s ++ S).data.toList = Sm.sealed s.data.toList) := by
    show (s ++ S).data.toList = Sm.sealed s.data.toList
    rw [list_app, HS.out]; rfl
  clear HS
  go_wp2
  go_ret
  exact ⟨s ++ S, rfl, HT.out, HB2.out⟩
theorem refSeal_any (s : ByteArray) (w : World) (hs : s.size ≤ 100000) :
    Calls Try.prog 17 #[.string s] w fun e w' => ∃ S : ByteArray, e = .returned (.string S) ∧ S.data.toList = Sm.sealed s.data.toList ∧ Below w.heap.size w w' := by
  go_enter Try.func17, Try.ntmps17
  go_wp2_with fail
  refine (refSum_any s _ hs).mono ?_
  rintro e w1 ⟨rfl, rfl⟩
  have hlt := rn_lt (Sm.sum s.data.toList)
  go_wp2_with fail
  refine (refPut_four _ _ hlt).mono ?_
  rintro e w2 ⟨S, rfl, hS, hb2⟩
  have HS := Lib.hid hS
  have HB2 := Lib.hid hb2
  have hl : S.size ≤ 4 := by rw [size_list, hS, Fm.fld_length]; omega
  clear hb2 hS
  have HT : Hid ((s ++ S).data.toList = Sm.sealed s.data.toList) := by
    show (s ++ S).data.toList = Sm.sealed s.data.toList
    rw [list_app, HS.out]; rfl
  clear HS
  go_wp2
  go_ret
  exact ⟨s ++ S, rfl, HT.out, HB2.out⟩

theorem take_list (s : ByteArray) (k : Nat) : (s.extract 0 k).data.toList = s.data.toList.take k := by
  simp [List.extract_eq_take_drop]
theorem drop_list (s : ByteArray) (k : Nat) : (s.extract k s.size).data.toList = s.data.toList.drop k := by
  simp [List.extract_eq_take_drop]
  exact List.take_of_length_le (by simp)
/-- a text is sealed or not, as the numbers tell -/
theorem ok_of (s : ByteArray) (h : 4 ≤ s.size) : Sm.okB s.data.toList = decide (Fm.val (s.data.toList.drop (s.size - 4)) = rn (Sm.sum (s.data.toList.take (s.size - 4)))) := by
  unfold Sm.okB rn
  rw [← size_list]
  simp only [h, decide_true, Bool.true_and]
theorem ok_short (s : ByteArray) (h : s.size < 4) : Sm.okB s.data.toList = false := by
  unfold Sm.okB
  rw [← size_list, decide_eq_false (by omega), Bool.false_and]

/-- what Open tells of a text -/
def Opened (s : ByteArray) (w : World) (e : Ending) (w' : World) : Prop :=
  ∃ T : ByteArray, e = .returned (.tuple #[.string T, .bool (Sm.okB s.data.toList)]) ∧ T.data.toList = (if Sm.okB s.data.toList then s.data.toList.take (s.size - 4) else []) ∧ Below w.heap.size w w'

theorem open_any (s : ByteArray) (w : World) (hs : s.size ≤ 100000) : Calls Try.prog 10 #[.string s] w (Opened s w) := by
  by_cases h4 : s.size < 4
  · have ho := ok_short s h4
    have hg : hasB s.size ((s.size : Int) - 4) 4 = false := by unfold hasB; simp; omega
    have HO := Lib.hid ho
    clear ho
    go_enter Try.func10, Try.ntmps10
    go_wp2_with fail
    refine (get_no s _ _ _ (by unfold maxLen; omega) hg).mono ?_
    rintro e w1 ⟨rfl, rfl⟩
    go_wp2
    go_ret2
    exact ⟨⟨#[]⟩, by rw [HO.out]; rfl, by rw [HO.out]; rfl, Below.refl _ _⟩
  · have h4' : 4 ≤ s.size := by omega
    obtain ⟨n, hn⟩ : ∃ n, n = s.size - 4 := ⟨_, rfl⟩
    have hn1 : s.size ≤ n + 4 := by omega
    have hn2 : n + 4 ≤ s.size := by omega
    have HN := Lib.hid hn
    have ho := ok_of s h4'
    rw [← hn] at ho
    have ev : Fm.val ((s.data.toList.drop n).take 4) = Fm.val (s.data.toList.drop n) := by
      rw [List.take_of_length_le (by rw [List.length_drop, ← size_list]; omega)]
    obtain ⟨v, hv⟩ : ∃ v, v = Fm.val (s.data.toList.drop n) := ⟨_, rfl⟩
    obtain ⟨x, hx⟩ : ∃ x, x = Sm.sum (s.data.toList.take n) := ⟨_, rfl⟩
    rw [← hv, ← hx] at ho
    rw [← hv] at ev
    have hvl : v < 4294967296 := by
      rw [hv]; exact Sm.val_four (by rw [List.length_drop, ← size_list]; omega)
    have hget := get_yes s n 4 w (by unfold maxLen; omega) (by omega) (by omega) (by omega)
    rw [ev] at hget
    have hsum := fun w => sum_any (s.extract 0 n) w (by unfold maxLen; rw [ByteArray.size_extract]; omega)
    rw [take_list, ← hx] at hsum
    have e4 : (s.size : Int) - 4 = (n : Int) := by omega
    have hle : (n : Int) ≤ (s.size : Int) := by omega
    have hxl := rn_lt x
    have HGET := Lib.hid hget
    have HSUM := Lib.hid hsum
    have HO := Lib.hid ho
    clear hget hsum ho hv hx ev hn h4
    go_enter Try.func10, Try.ntmps10
    go_wp2_with fail
    refine HGET.out.mono ?_
    rintro e w1 ⟨rfl, rfl⟩
    go_wp2_with fail
    refine (HSUM.out _).mono ?_
    rintro e w1 ⟨rfl, hb1⟩
    have HB1 := Lib.hid hb1
    have hs1 := hb1.size
    clear hb1
    by_cases hq : v = rn x
    · have q1 : ((v : Int) != (rn x : Int)) = false := by simp; omega
      have HO1 : Hid (Sm.okB s.data.toList = true) := by
        show Sm.okB s.data.toList = true
        rw [HO.out]; simpa using hq
      clear hq HO
      go_wp2_with fail
      refine (clone_any (s.extract 0 n) _ (by rw [ByteArray.size_extract]; omega)).mono ?_
      rintro e w2 ⟨rfl, hb2⟩
      have HB2 := Lib.hid (HB1.out.trans (hb2.mono hs1))
      clear hb2
      go_wp2
      go_ret2
      exact ⟨s.extract 0 n, by rw [HO1.out]; rfl, by rw [HO1.out, if_pos rfl, take_list, HN.out], HB2.out⟩
    · have q1 : ((v : Int) != (rn x : Int)) = true := by simp; omega
      have HO1 : Hid (Sm.okB s.data.toList = false) := by
        show Sm.okB s.data.toList = false
        rw [HO.out]; simpa using hq
      clear hq HO
      go_wp2
      go_ret2
      exact ⟨⟨#[]⟩, by rw [HO1.out]; rfl, by rw [HO1.out, if_neg (by simp)], HB1.out⟩

/-- what the document's Open tells of a text -/
def OpenedQ (s : ByteArray) (w : World) (e : Ending) (w' : World) : Prop :=
  ∃ T : ByteArray, e = .returned (.tuple #[.string T, .bool (Sm.okB s.data.toList)]) ∧ T.data.toList = (if Sm.okB s.data.toList then s.data.toList.take (s.size - 4) else []) ∧ ∃ n, w' = w.drewN n
theorem refOpen_any (s : ByteArray) (w : World) (hs : s.size ≤ 100000) : Calls Try.prog 11 #[.string s] w (OpenedQ s w) := by
  by_cases h4 : s.size < 4
  · have ho := ok_short s h4
    have HO := Lib.hid ho
    clear ho
    go_enter Try.func11, Try.ntmps11
    go_wp2
    go_ret2
    exact ⟨⟨#[]⟩, by rw [HO.out]; rfl, by rw [HO.out]; rfl, 0, rfl⟩
  · have h4' : 4 ≤ s.size := by omega
    obtain ⟨n, hn⟩ : ∃ n, n = s.size - 4 := ⟨_, rfl⟩
    have hn1 : s.size ≤ n + 4 := by omega
    have hn2 : n + 4 ≤ s.size := by omega
    have ho := ok_of s h4'
    rw [← hn] at ho
    obtain ⟨v, hv⟩ : ∃ v, v = Fm.val (s.data.toList.drop n) := ⟨_, rfl⟩
    obtain ⟨x, hx⟩ : ∃ x, x = Sm.sum (s.data.toList.take n) := ⟨_, rfl⟩
    rw [← hv, ← hx] at ho
    have hvl : v < 4294967296 := by
      rw [hv]; exact Sm.val_four (by rw [List.length_drop, ← size_list]; omega)
    have hval := fun w => value_any (s.extract n s.size) w (by rw [ByteArray.size_extract]; omega)
    rw [drop_list, ← hv] at hval
    have hsum := fun w => refSum_any (s.extract 0 n) w (by rw [ByteArray.size_extract]; omega)
    rw [take_list, ← hx] at hsum
    have e4 : (s.size : Int) - 4 = (n : Int) := by omega
    have hle : (n : Int) ≤ (s.size : Int) := by omega
    have hxl := rn_lt x
    have HN := Lib.hid hn
    have HVAL := Lib.hid hval
    have HSUM := Lib.hid hsum
    have HO := Lib.hid ho
    clear hval hsum ho hv hx hn
    go_enter Try.func11, Try.ntmps11
    go_wp2_with fail
    refine (HVAL.out _).mono ?_
    rintro e w1 ⟨rfl, hd⟩
    have HD := Lib.hid hd
    clear hd
    go_wp2_with fail
    refine (HSUM.out _).mono ?_
    rintro e w2 ⟨rfl, rfl⟩
    by_cases hq : v = rn x
    · have q1 : ((v : Int) != (rn x : Int)) = false := by simp; omega
      have HO1 : Hid (Sm.okB s.data.toList = true) := by
        show Sm.okB s.data.toList = true
        rw [HO.out]; simpa using hq
      clear hq HO
      go_wp2
      go_ret2
      exact ⟨s.extract 0 n, by rw [HO1.out]; rfl, by rw [HO1.out, if_pos rfl, take_list, HN.out], HD.out⟩
    · have q1 : ((v : Int) != (rn x : Int)) = true := by simp; omega
      have HO1 : Hid (Sm.okB s.data.toList = false) := by
        show Sm.okB s.data.toList = false
        rw [HO.out]; simpa using hq
      clear hq HO
      go_wp2
      go_ret2
      exact ⟨⟨#[]⟩, by rw [HO1.out]; rfl, by rw [HO1.out, if_neg (by simp)], HD.out⟩
end Go.Proofs.Ytabfjlokemkpjaa
