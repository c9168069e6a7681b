/-
  Layer 1 (field): Cut of the program, Cut and Texts of the document's own answer, by their contracts.
-/
import Derived.Test.YtkceagmgabjidaaFClone
import Derived.Test.YtkceagmgabjidaaFCol
namespace Go.Proofs.Ytkceagmgabjidaa
open Go.RowKit

theorem Try.infoStr : (Try.prog.info? 9).map (fun i => (i.zero, i.size, i.bytes)) = some (some (.string ⟨#[]⟩), 1, 16) := by kernel_rfl

/-- a text's value -/
def strV (b : List UInt8) : Value := .string ⟨b.toArray⟩
/-- a text in parts of just these sizes, or none -/
def cutL : List UInt8 → List Int → Option (List (List UInt8))
  | s, [] => if s = [] then some [] else none
  | s, z :: r => if z < 0 ∨ (s.length : Int) < z then none else (cutL (s.drop z.toNat) r).map fun m => s.take z.toNat :: m
theorem cutL_nil (s : List UInt8) : cutL s [] = if s = [] then some [] else none := rfl
theorem cutL_bad {s : List UInt8} {z : Int} {r : List Int} (h : z < 0 ∨ (s.length : Int) < z) : cutL s (z :: r) = none := by simp only [cutL]; rw [if_pos h]
theorem cutL_good {s : List UInt8} {n : Nat} {r : List Int} (h : n ≤ s.length) : cutL s ((n : Int) :: r) = (cutL (s.drop n) r).map fun m => s.take n :: m := by
  simp only [cutL]; rw [if_neg (by omega)]; simp
theorem cutL_join : ∀ (zs : List Int) (s : List UInt8) (m : List (List UInt8)), cutL s zs = some m → m.flatten = s ∧ m.length = zs.length
  | [], s, m, h => by
    rw [cutL_nil] at h
    split at h
    · rename_i e; injection h with h; subst h; simp [e]
    · cases h
  | z :: r, s, m, h => by
    by_cases hb : z < 0 ∨ (s.length : Int) < z
    · rw [cutL_bad hb] at h; cases h
    · obtain ⟨n, rfl⟩ := Int.eq_ofNat_of_zero_le (show 0 ≤ z by omega)
      rw [cutL_good (by omega)] at h
      cases hc : cutL (s.drop n) r with
      | none => rw [hc] at h; cases h
      | some m' =>
        rw [hc] at h
        simp at h
        subst h
        obtain ⟨h1, h2⟩ := cutL_join r _ m' hc
        simp [h1, h2]
/-- what a cut answers, in memory of the call's own from block B on -/
def CutsTo (B : Nat) (S : List UInt8) (zs : List Int) (w : World) (e : Ending) (w' : World) : Prop :=
  Below B w w' ∧
  ((cutL S zs = none ∧ e = .returned (.tuple #[.slice none 0 0, .bool false])) ∨
   ∃ m A c, cutL S zs = some m ∧ e = .returned (.tuple #[.slice A zs.length c, .bool true]) ∧ w'.ownsRow B 9 1 (.slice A zs.length c) zs.length (m.map strV))
/-- the cut so far: 'done' is cut off, t is left -/
def CutAt (S : List UInt8) (zs : List Int) (k : Nat) (t : List UInt8) (done : List (List UInt8)) : Prop :=
  done.length = k ∧ t.length ≤ S.length ∧ cutL S zs = (cutL t (zs.drop k)).map fun m => done ++ m
theorem CutAt.start (S : List UInt8) (zs : List Int) : CutAt S zs 0 S [] := ⟨rfl, Nat.le_refl _, by cases h : cutL S zs <;> simp [h]⟩
theorem CutAt.step {S : List UInt8} {zs : List Int} {k n : Nat} {t : List UInt8} {done : List (List UInt8)} (h : CutAt S zs k t done) (hk : k < zs.length) (hz : zs[k] = (n : Int)) (hn : n ≤ t.length) :
    CutAt S zs (k + 1) (t.drop n) (done ++ [t.take n]) := by
  obtain ⟨h1, h2, h3⟩ := h
  refine ⟨by simp [h1], by simp; omega, ?_⟩
  rw [List.drop_eq_getElem_cons hk, hz, cutL_good hn] at h3
  rw [h3]
  cases cutL (t.drop n) (zs.drop (k + 1)) <;> simp
theorem CutAt.bad {S : List UInt8} {zs : List Int} {k : Nat} {t : List UInt8} {done : List (List UInt8)} (h : CutAt S zs k t done) (hk : k < zs.length) (hz : zs[k] < 0 ∨ (t.length : Int) < zs[k]) :
    cutL S zs = none := by
  obtain ⟨_, _, h3⟩ := h
  rw [List.drop_eq_getElem_cons hk, cutL_bad hz] at h3
  exact h3
theorem CutAt.stop {S : List UInt8} {zs : List Int} {k : Nat} {t : List UInt8} {done : List (List UInt8)} (h : CutAt S zs k t done) (hk : zs.length ≤ k) :
    cutL S zs = if t = [] then some done else none := by
  obtain ⟨_, _, h3⟩ := h
  rw [List.drop_of_length_le hk, cutL_nil] at h3
  rw [h3]
  split <;> simp

theorem extract_strV (s : ByteArray) (a b : Nat) : (.string (s.extract a b) : Value) = strV ((s.data.toList.drop a).take (b - a)) := by
  unfold strV
  congr 1
  apply ByteArray.ext
  rw [← Lib.extract_data]

theorem own_below {w w' : World} {base : Nat} {e : TypeId} {v : Value} {n : Nat} {xs : List Value} (h : w.ownsRow base e 1 v n xs) (hb : Below w.heap.size w w') : w'.ownsRow base e 1 v n xs := by
  obtain ⟨h1, h2⟩ := h
  rcases h2 with h2 | ⟨g, cap, cur, hv, hg, hh, hr⟩
  · exact ⟨h1, .inl h2⟩
  · exact ⟨h1, .inr ⟨g, cap, cur, hv, hg, (hb.block g (lt_of_block hh)).trans hh, hr⟩⟩
theorem extract_rest (s : ByteArray) (a : Nat) : (s.extract a s.size).data.toList = s.data.toList.drop a := by
  rw [Lib.extract_data, List.take_of_length_le (by simp)]
theorem text_nil (T : ByteArray) : (T.data.toList = []) = (T.size = 0) := by
  simp [← Lib.size_eq, List.length_eq_zero_iff.symm]

set_option maxHeartbeats 1600000 in
set_option maxRecDepth 100000 in
theorem cut_any (s : ByteArray) (A : Option Addr) (c : Nat) (zs : List Int) (w : World) (hs : s.size ≤ 1000000) (h : Lst w w.heap.size A zs.length (zs.map (Value.int .i64))) (hn : zs.length ≤ 100000) :
    Calls Try.prog 22 #[.string s, .slice A zs.length c] w (CutsTo w.heap.size s.data.toList zs w) := by
  obtain ⟨i0, hi, hz0, hz1, hz2⟩ := info_parts Try.infoStr
  obtain ⟨n, hN⟩ : ∃ n, n = zs.length := ⟨_, rfl⟩
  rw [← hN] at h hn
  have HN := Lib.hid hN
  rw [← hN]
  have H := Lib.hid h
  clear h hN
  go_enter Try.func22, Try.ntmps22
  go_wp2_with (at_make; refine wpList_make_own _ rfl _ _ 39 rfl w.heap.size 9 i0 (.string ⟨#[]⟩) 1 Try.underlying39 hi hz0 hz1 .i64 .i64 _ n rfl rfl (by omega) (by rw [hz2]; omega) (by unfold maxLen; omega) (Nat.le_refl _) ?_; intro w0 hown0 hgrow0)
  have HO := Lib.hid hown0
  have HB0 := Lib.hid ((Below.refl _ w).grown hgrow0 (Nat.le_refl _) (fun k h => by cases h))
  clear hown0 hgrow0
  go_loopw [0, 6, 14] (fun t v i wr => ∃ (k : Nat) (T : ByteArray) (done : List (List UInt8)), k ≤ n ∧ i = .int .i64 k ∧ t = .string T ∧ CutAt s.data.toList zs k T.data.toList done ∧
      wr.ownsRow w.heap.size 9 1 v k (done.map strV) ∧ Below w.heap.size w wr) (fun _ _ i _ => n - (intOf i).toNat)
  case atStart => exact ⟨0, s, [], Nat.zero_le _, rfl, rfl, CutAt.start _ _, by simpa using HO.out, HB0.out⟩
  case round =>
    obtain ⟨k, T, done, hk, rfl, rfl, hcut, hown, hbel⟩ := hrel
    have hsz := hbel.size
    have HB := Lib.hid hbel
    have HC := Lib.hid hcut
    have hT : T.size ≤ 1000000 := by have := hcut.2.1; simp at this; omega
    clear hbel HO HB0 hcut
    by_cases hlt : k < n
    · have hkl : k < zs.length := by rw [← HN.out]; exact hlt
      obtain ⟨b, off, hA, hb, hc⟩ := (H.out.below HB.out).at_ hlt
      subst hA
      rw [List.getElem?_map, List.getElem?_eq_getElem hkl] at hc
      obtain ⟨z, hz⟩ : ∃ z, z = zs[k] := ⟨_, rfl⟩
      have HZ := Lib.hid hz
      rw [← hz] at hc
      simp only [Option.map_some] at hc
      clear hz
      by_cases hbad : z < 0 ∨ (T.size : Int) < z
      · have HE := Lib.hid (HC.out.bad hkl (by rw [← HZ.out]; simpa using hbad))
        rcases (show z < 0 ∨ (0 ≤ z ∧ (T.size : Int) < z) from by omega) with hz1' | ⟨hz1', hz2'⟩
        · clear hbad
          go_wp2
          go_ret2
          exact ⟨HB.out, .inl ⟨HE.out, rfl⟩⟩
        · clear hbad
          go_wp2
          go_ret2
          exact ⟨HB.out, .inl ⟨HE.out, rfl⟩⟩
      · obtain ⟨j, rfl⟩ := Int.eq_ofNat_of_zero_le (show 0 ≤ z by omega)
        have hj : j ≤ T.size := by omega
        have HS := Lib.hid (HC.out.step hkl HZ.out.symm (by simpa using hj))
        clear hbad HC
        go_wp2_with fail
        refine (clone_any (T.extract 0 j) _ (by rw [ByteArray.size_extract]; omega)).mono ?_
        rintro e w1 ⟨rfl, hb1⟩
        have hown1 := own_below hown hb1
        have hsz1 : w.heap.size ≤ w1.heap.size := Nat.le_trans hsz hb1.size
        have HB1 := Lib.hid (HB.out.trans (hb1.mono hsz))
        clear hown hb1 HB
        go_wp2_with (at_builtin; refine wpList_append_own _ rfl _ _ 39 rfl w.heap.size 9 i0 (.string ⟨#[]⟩) 1 16 Try.underlying39 hi hz0 hz1 hz2 rfl (by decide) _ _ _ rfl (hown1.alloc _) ⟨w1.heap.size, 0, none⟩ 1 1 [.string (T.extract 0 j)] rfl rfl ?c1 ?c2 ?c3 ?c4 ?c5 ?_)
        case c1 => exact cell_one_new _ _ _
        case c2 => intro u hu; simp at hu; subst hu; rfl
        case c3 => unfold maxLen; omega
        case c4 => omega
        case c5 => simp; omega
        intro v' w2 hown' hgrow _
        have HO' : Hid (w2.ownsRow w.heap.size 9 1 v' (k + 1) ((done ++ [T.data.toList.take j]).map strV)) := by
          show w2.ownsRow w.heap.size 9 1 v' (k + 1) ((done ++ [T.data.toList.take j]).map strV)
          rw [List.map_append]
          have e : (.string (T.extract 0 j) : Value) = strV (T.data.toList.take j) := by rw [extract_strV]; simp
          rw [e] at hown'
          exact hown'
        have HB' := Lib.hid ((HB1.out.alloc hsz1 (.cells #[.string (T.extract 0 j)] 9)).grown hgrow (by simp; omega) (ownBlock_ge hown1))
        clear hown' hgrow hown1 HB1
        go_wp2
        go_roundw
        case rel => exact ⟨k + 1, T.extract j T.size, _, by omega, by go_num, rfl, by rw [extract_rest]; exact HS.out, HO'.out, HB'.out⟩
        case measure => simp [intOf]; omega
    · obtain rfl : k = n := by omega
      have HE := Lib.hid (HC.out.stop (by rw [← HN.out]; exact Nat.le_refl _))
      obtain ⟨A', c', hv⟩ := own_form hown
      subst hv
      have HO := Lib.hid hown
      clear hown HC
      by_cases hT0 : T.size = 0
      · have ht : T.data.toList = [] := by rw [text_nil]; exact hT0
        have HE' : Hid (cutL s.data.toList zs = some done) := by
          show cutL s.data.toList zs = some done
          rw [HE.out, if_pos ht]
        have hq : (!T.toList.isEmpty) = false := by rw [ByteArray.toList_eq, ht]; rfl
        clear HE ht hT0
        go_wp2
        go_ret2
        exact ⟨HB.out, .inr ⟨done, A', c', HE'.out, by rw [← HN.out]; rfl, by rw [← HN.out]; exact HO.out⟩⟩
      · have ht : T.data.toList ≠ [] := by rw [ne_eq, text_nil]; exact hT0
        have HE' : Hid (cutL s.data.toList zs = none) := by
          show cutL s.data.toList zs = none
          rw [HE.out, if_neg ht]
        have hq : (!T.toList.isEmpty) = true := by rw [ByteArray.toList_eq]; simpa using ht
        clear HE ht hT0
        go_wp2
        go_ret2
        exact ⟨HB.out, .inl ⟨HE'.out, rfl⟩⟩

set_option maxHeartbeats 1600000 in
set_option maxRecDepth 100000 in
theorem refCut_any (s : ByteArray) (A : Option Addr) (c : Nat) (zs : List Int) (w : World) (hs : s.size ≤ 1000000) (h : Lst w w.heap.size A zs.length (zs.map (Value.int .i64))) (hn : zs.length ≤ 100000) :
    Calls Try.prog 23 #[.string s, .slice A zs.length c] w (CutsTo w.heap.size s.data.toList zs w) := by
  obtain ⟨i0, hi, hz0, hz1, hz2⟩ := info_parts Try.infoStr
  obtain ⟨n, hN⟩ : ∃ n, n = zs.length := ⟨_, rfl⟩
  rw [← hN] at h hn
  have HN := Lib.hid hN
  rw [← hN]
  have H := Lib.hid h
  clear h hN
  go_enter Try.func23, Try.ntmps23
  go_wp2
  go_loopw [6, 7, 8] (fun v a i wr => ∃ (k p : Nat) (done : List (List UInt8)), k ≤ n ∧ i = .int .i64 k ∧ a = .int .i64 p ∧ p ≤ s.size ∧ CutAt s.data.toList zs k (s.data.toList.drop p) done ∧
      wr.ownsRow w.heap.size 9 1 v k (done.map strV) ∧ Below w.heap.size w wr) (fun _ _ i _ => n - (intOf i).toNat)
  case atStart => exact ⟨0, 0, [], Nat.zero_le _, rfl, rfl, Nat.zero_le _, CutAt.start _ _, World.ownsRow_nil _ _ _ _, Below.refl _ _⟩
  case round =>
    obtain ⟨k, p, done, hk, rfl, rfl, hp, hcut, hown, hbel⟩ := hrel
    have hsz := hbel.size
    have HB := Lib.hid hbel
    have HC := Lib.hid hcut
    clear hbel hcut
    by_cases hlt : k < n
    · have hkl : k < zs.length := by rw [← HN.out]; exact hlt
      obtain ⟨b, off, hA, hb, hc⟩ := (H.out.below HB.out).at_ hlt
      subst hA
      rw [List.getElem?_map, List.getElem?_eq_getElem hkl] at hc
      obtain ⟨z, hz⟩ : ∃ z, z = zs[k] := ⟨_, rfl⟩
      have HZ := Lib.hid hz
      rw [← hz] at hc
      simp only [Option.map_some] at hc
      clear hz
      by_cases hbad : z < 0 ∨ (s.size : Int) - p < z
      · have HE := Lib.hid (HC.out.bad hkl (by rw [← HZ.out]; simp; omega))
        rcases (show z < 0 ∨ (0 ≤ z ∧ (s.size : Int) - p < z) from by omega) with hz1' | ⟨hz1', hz2'⟩
        · clear hbad
          go_wp2
          go_ret2
          exact ⟨HB.out, .inl ⟨HE.out, rfl⟩⟩
        · clear hbad
          go_wp2
          go_ret2
          exact ⟨HB.out, .inl ⟨HE.out, rfl⟩⟩
      · obtain ⟨j, rfl⟩ := Int.eq_ofNat_of_zero_le (show 0 ≤ z by omega)
        have hj : p + j ≤ s.size := by omega
        have HS := Lib.hid (HC.out.step hkl HZ.out.symm (by simp; omega))
        clear hbad HC
        have hcn : ∀ o : Obj, (wr.alloc o).cell? ⟨b, off + k, none⟩ = some (.int .i64 j) := fun o => (World.cell?_alloc_lt wr o _ (by show b < wr.heap.size; omega)).trans hc
        go_wp2_with (at_builtin; refine wpList_append_own _ rfl _ _ 39 rfl w.heap.size 9 i0 (.string ⟨#[]⟩) 1 16 Try.underlying39 hi hz0 hz1 hz2 rfl (by decide) _ _ _ rfl (hown.alloc _) ⟨wr.heap.size, 0, none⟩ 1 1 [.string (s.extract p (p + j))] rfl rfl ?c1 ?c2 ?c3 ?c4 ?c5 ?_)
        case c1 => exact cell_one_new _ _ _
        case c2 => intro u hu; simp at hu; subst hu; rfl
        case c3 => unfold maxLen; omega
        case c4 => omega
        case c5 => simp; omega
        intro v' w2 hown' hgrow _
        have HO' : Hid (w2.ownsRow w.heap.size 9 1 v' (k + 1) ((done ++ [(s.data.toList.drop p).take j]).map strV)) := by
          show w2.ownsRow w.heap.size 9 1 v' (k + 1) ((done ++ [(s.data.toList.drop p).take j]).map strV)
          rw [List.map_append]
          have e : (.string (s.extract p (p + j)) : Value) = strV ((s.data.toList.drop p).take j) := by rw [extract_strV, show p + j - p = j from by omega]
          rw [e] at hown'
          exact hown'
        have HB' := Lib.hid ((HB.out.alloc hsz (.cells #[.string (s.extract p (p + j))] 9)).grown hgrow (by simp; omega) (ownBlock_ge hown))
        have hc2 : w2.cell? ⟨b, off + k, none⟩ = some (.int .i64 j) := by
          have h1 := H.out.below HB'.out
          obtain ⟨b2, off2, hA2, _, hc2⟩ := h1.at_ hlt
          simp only [Option.some.injEq, Addr.mk.injEq, and_true] at hA2
          obtain ⟨rfl, rfl⟩ := hA2
          rw [hc2, List.getElem?_map, List.getElem?_eq_getElem hkl, ← HZ.out]; rfl
        clear hown' hgrow hown HB
        go_wp2
        go_roundw
        case rel => exact ⟨k + 1, p + j, _, by omega, by go_num, by go_num, hj, by have := HS.out; rw [List.drop_drop] at this; exact this, HO'.out, HB'.out⟩
        case measure => simp [intOf]; omega
    · obtain rfl : k = n := by omega
      have HE := Lib.hid (HC.out.stop (by rw [← HN.out]; exact Nat.le_refl _))
      obtain ⟨A', c', hv⟩ := own_form hown
      subst hv
      have HO := Lib.hid hown
      clear hown HC
      by_cases hT0 : p = s.size
      · have HE' : Hid (cutL s.data.toList zs = some done) := by
          show cutL s.data.toList zs = some done
          rw [HE.out, if_pos (by rw [List.drop_eq_nil_iff]; simp; omega)]
        have hq : ((p : Int) != (s.size : Int)) = false := by simp; omega
        clear HE hT0
        go_wp2
        go_ret2
        exact ⟨HB.out, .inr ⟨done, A', c', HE'.out, by rw [← HN.out]; rfl, by rw [← HN.out]; exact HO.out⟩⟩
      · have HE' : Hid (cutL s.data.toList zs = none) := by
          show cutL s.data.toList zs = none
          rw [HE.out, if_neg (by rw [List.drop_eq_nil_iff]; simp; omega)]
        have hq : ((p : Int) != (s.size : Int)) = true := by simp; omega
        clear HE hT0
        go_wp2
        go_ret2
        exact ⟨HB.out, .inl ⟨HE'.out, rfl⟩⟩

theorem texts_same (A A' : Option Addr) (n c c' B : Nat) (m : List (List UInt8)) (w : World) (h : Lst w B A n (m.map strV)) (h' : Lst w B A' n (m.map strV)) (hn : n ≤ 1000000) :
    Calls Try.prog 24 #[.slice A n c, .slice A' n c'] w fun e w' => e = .returned (.bool true) ∧ ∃ d, w' = w.drewN d := by
  have hln : m.length = n := by have := h.1; simpa using this
  have H := Lib.hid h
  have H' := Lib.hid h'
  have HN := Lib.hid hln
  clear h h' hln
  go_enter Try.func24, Try.ntmps24
  go_wp2
  go_loopw [5] (fun i wr => ∃ k : Nat, k ≤ n ∧ i = .int .i64 k ∧ ∃ d, wr = w.drewN d) (fun i _ => n - (intOf i).toNat)
  case atStart => exact ⟨0, Nat.zero_le _, rfl, 0, rfl⟩
  case round =>
    obtain ⟨k, hk, rfl, hd⟩ := hrel
    have HD := Lib.hid hd
    clear hd
    by_cases hlt : k < n
    · have hkl : k < m.length := by rw [HN.out]; exact hlt
      obtain ⟨b, off, hA, hb, hc⟩ := H.out.at_ hlt
      obtain ⟨b', off', hA', hb', hc'⟩ := H'.out.at_ hlt
      rw [List.getElem?_map, List.getElem?_eq_getElem hkl] at hc hc'
      obtain ⟨x, hx⟩ : ∃ x : ByteArray, strV m[k] = .string x := ⟨_, rfl⟩
      simp only [Option.map_some] at hc hc'
      rw [hx] at hc hc'
      have hc2 : wr.cell? ⟨b, off + k, none⟩ = some (.string x) := by obtain ⟨d, rfl⟩ := HD.out; exact hc
      have hc3 : wr.cell? ⟨b', off' + k, none⟩ = some (.string x) := by obtain ⟨d, rfl⟩ := HD.out; exact hc'
      subst hA hA'
      clear hx hc hc'
      go_wp2
      go_quiet (fail)
      go_wp2
      go_roundw
      case rel => exact ⟨k + 1, by omega, by go_num, by obtain ⟨d, hd⟩ := HD.out; exact ⟨d + nq, by rw [hd, World.drewN_drewN]⟩⟩
      case measure => simp [intOf]; omega
    · go_wp2
      go_ret
      exact ⟨rfl, HD.out⟩
end Go.Proofs.Ytkceagmgabjidaa
