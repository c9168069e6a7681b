/-
  Layer 4 (order): symMerge of the library's sort, at one type of elements.
-/
import Derived.Test.YtdpoieemadblnaaOInsR
namespace Go.Proofs.Ytdpoieemadblnaa
open Go.RowKit

set_option maxHeartbeats 800000 in
set_option maxRecDepth 100000 in
theorem symAR (B g n c a m b : Nat) (P Y S : List Om.E) (x : Om.E) (w : World) (h : BlkE 42 w g (P ++ ([x] ++ (Y ++ S)))) (hP : P.length = a) (hX : a + 1 = m) (hY : m + Y.length = b) (hS : b + S.length = n) (hn : n ≤ 100000) (hnc : n ≤ c) (hc : c ≤ 100000)
    (hs : Om.Srt Om.near Y) (hC : CmpR B w) (hg : B ≠ g) :
    Calls Try.prog 63 #[.slice (some ⟨g, 0, none⟩) n c, .int .i64 a, .int .i64 m, .int .i64 b, .func (.func 37) #[] #[.pointer (some ⟨B, 0, none⟩)]] w fun e w' =>
      e = .returned (.tuple #[]) ∧ BlkE 42 w' g (P ++ (Om.merge Om.near [x] Y ++ S)) ∧ But g w w' := by
  have H := Lib.hid h
  have HP := Lib.hid hP
  have HX := Lib.hid hX
  have HY := Lib.hid hY
  have HS := Lib.hid hS
  have HC := Lib.hid hC
  have Hg := Lib.hid hg
  have Hs := Lib.hid hs
  have am : a < m := by omega
  have mb : m ≤ b := by omega
  have bn : b ≤ n := by omega
  have q1 : ((m : Int) - (a : Int) == 1) = true := by simp; omega
  clear h hP hX hY hS hC hg hs
  go_enter Try.func63, Try.ntmps63
  go_wp2
  clear q1
  go_loopw [10, 11] (fun I J wr => ∃ i j i' j' : Nat, I = .int .i64 (i : Int) ∧ J = .int .i64 (j : Int) ∧ i = m + i' ∧ j = m + j' ∧ i ≤ j ∧ j ≤ b ∧ (0 < i' → Om.near (Y[i' - 1]?.getD (0, 0)) x = true) ∧ (j' < Y.length → Om.near (Y[j']?.getD (0, 0)) x = false) ∧ BlkE 42 wr g (P ++ ([x] ++ (Y ++ S))) ∧ But g w wr) (fun I J _ => (intOf J).toNat - (intOf I).toNat)
  case atStart => exact ⟨m, b, 0, Y.length, rfl, rfl, rfl, HY.out.symm, mb, Nat.le_refl _, fun h => absurd h (by omega), fun h => absurd h (by omega), H.out, But.refl _ _⟩
  case round =>
    obtain ⟨i, j, i', j', rfl, rfl, hi, hj, ij, jb, h1, h2, hB, hb⟩ := hrel
    have HI := Lib.hid hi
    have HJ := Lib.hid hj
    have H1 := Lib.hid h1
    have H2 := Lib.hid h2
    have HB := Lib.hid hB
    have Hb := Lib.hid hb
    have mi : m ≤ i := by omega
    clear hi hj h1 h2 hB hb H
    by_cases hlt : i < j
    · obtain ⟨h, hh⟩ : ∃ h : Nat, ((i : Int) + (j : Int)) / 2 = (h : Int) := ⟨(i + j) / 2, by omega⟩
      have hi : i ≤ h := by omega
      have hj : h < j := by omega
      have HH := Lib.hid hh
      obtain ⟨t, ht⟩ : ∃ t, h = m + t := ⟨h - m, by omega⟩
      have tY : t < Y.length := by have := HY.out; omega
      obtain ⟨y, hy⟩ : ∃ y, Y[t]? = some y := ⟨_, List.getElem?_eq_getElem tY⟩
      have hy1 := (Om.seg_at2 (P := P) (X := [x]) (Y := Y) (R := S) (k := h) HP.out (by have := HX.out; simp; omega) tY).trans hy
      have hx1 : (P ++ ([x] ++ (Y ++ S)))[a]? = some x := (Om.seg_at (P := P) (X := [x]) (t := 0) HP.out (by omega) (by simp)).trans rfl
      obtain ⟨x1, x2⟩ := x
      obtain ⟨y1, y2⟩ := y
      have cx1 := HB.out.fst hx1
      have cx2 := HB.out.snd hx1
      have cy1 := HB.out.fst hy1
      have cy2 := HB.out.snd hy1
      have HT := Lib.hid ht
      have HYY := Lib.hid hy
      have HC3 := Lib.hid (HC.out.but Hb.out Hg.out)
      have v1 : (a : Int) < (n : Int) := by omega
      have v2 : (h : Int) < (n : Int) := by omega
      clear hx1 hy1 hy ht
      cases hf : Om.near (y1, y2) (x1, x2) with
      | true =>
        have HF := Lib.hid hf
        clear hf hh
        go_wp2
        rw [HH.out]
        go_still_tail 9, (by kernel_rfl)
        change wpList _ _ _ _ _ wr.drew
        obtain ⟨W, hW⟩ : ∃ W, W = wr.drew := ⟨_, rfl⟩
        rw [← hW]
        have HCW : Hid (CmpR B W) := by rw [hW]; exact HC3.out.drew
        have HBW : Hid (BlkE 42 W g (P ++ ([(x1, x2)] ++ (Y ++ S)))) := by rw [hW]; exact HB.out.drew
        have HbW : Hid (But g w W) := by rw [hW]; exact Hb.out.drew
        clear hW HC3 HB Hb cx1 cx2 cy1 cy2
        go_wp2_with fail
        refine (closureR_yes _ HCW.out HF.out).mono ?_
        rintro _ w1 ⟨rfl, hb1⟩
        have HB4 := Lib.hid (HBW.out.below hb1)
        have Hb4 := Lib.hid (HbW.out.below hb1)
        clear hb1 HBW HbW HCW
        go_wp2
        go_roundw
        case rel => exact ⟨h + 1, j, t + 1, j', congrArg (Value.int .i64) (by omega), rfl, by have := HT.out; omega, HJ.out, by omega, jb, fun _ => by rw [Nat.add_sub_cancel, HYY.out]; exact HF.out, H2.out, HB4.out, Hb4.out⟩
        case measure => simp [intOf]; omega
      | false =>
        have HF := Lib.hid hf
        clear hf hh
        go_wp2
        rw [HH.out]
        go_still_tail 9, (by kernel_rfl)
        change wpList _ _ _ _ _ wr.drew
        obtain ⟨W, hW⟩ : ∃ W, W = wr.drew := ⟨_, rfl⟩
        rw [← hW]
        have HCW : Hid (CmpR B W) := by rw [hW]; exact HC3.out.drew
        have HBW : Hid (BlkE 42 W g (P ++ ([(x1, x2)] ++ (Y ++ S)))) := by rw [hW]; exact HB.out.drew
        have HbW : Hid (But g w W) := by rw [hW]; exact Hb.out.drew
        clear hW HC3 HB Hb cx1 cx2 cy1 cy2
        go_wp2_with fail
        refine (closureR_no _ HCW.out HF.out).mono ?_
        rintro _ w1 ⟨z, hz, rfl, hb1⟩
        have HB4 := Lib.hid (HBW.out.below hb1)
        have Hb4 := Lib.hid (HbW.out.below hb1)
        clear hb1 HBW HbW HCW
        go_wp2
        go_roundw
        case rel => exact ⟨i, h, i', t, rfl, rfl, HI.out, HT.out, by omega, by omega, H1.out, fun _ => by rw [HYY.out]; exact HF.out, HB4.out, Hb4.out⟩
        case measure => simp [intOf]; omega
    · obtain rfl : i = j := by omega
      obtain rfl : i' = j' := by have := HI.out; have := HJ.out; omega
      have iY : i' ≤ Y.length := by have := HI.out; have := HY.out; omega
      have HE := Lib.hid (Om.ins_merge Om.near_ord Hs.out iY H2.out H1.out)
      have HB0 : Hid (BlkE 42 wr g (P ++ (Om.ins Y 0 x ++ S))) := by have := HB.out; rw [Om.ins_zero]; exact this
      clear H1 H2 HB ij HJ
      obtain ⟨x1, x2⟩ := x
      go_wp2
      go_loopw [13] (fun K ws => ∃ k q : Nat, K = .int .i64 (k : Int) ∧ k = a + q ∧ q ≤ i' ∧ BlkE 42 ws g (P ++ (Om.ins Y q (x1, x2) ++ S)) ∧ But g w ws) (fun K _ => i - (intOf K).toNat)
      case atStart => exact ⟨a, 0, rfl, rfl, Nat.zero_le _, HB0.out, Hb.out⟩
      case round =>
        obtain ⟨k, q, rfl, hk, hq, hB3, hb3⟩ := hrel
        have HB3 := Lib.hid hB3
        have Hb3 := Lib.hid hb3
        have HK := Lib.hid hk
        have HQ := Lib.hid hq
        have ki : k < i := by have := HI.out; have := HX.out; omega
        clear hB3 hb3 hk hq HB0 Hb
        by_cases hlt2 : k + 1 < i
        · have qi : q < i' := by have := HI.out; have := HX.out; have := HK.out; omega
          obtain ⟨y, hy⟩ : ∃ y, Y[q]? = some y := ⟨_, List.getElem?_eq_getElem (by omega)⟩
          have hy1 := (Om.mid_next (Sd := Y) (R := S) (x := (x1, x2)) HP.out (by omega : q < Y.length)).trans hy
          have hx1 := Om.mid_at (Sd := Y) (R := S) (x := (x1, x2)) HP.out (by omega : q ≤ Y.length)
          have HD := Lib.hid (Om.mid_up (Sd := Y) (R := S) (x := (x1, x2)) HP.out (by omega : q < Y.length) hy)
          rw [← HK.out] at hx1 hy1 HD
          obtain ⟨y1, y2⟩ := y
          have cx1 := HB3.out.fst hx1
          have cx2 := HB3.out.snd hx1
          have cy1 := HB3.out.fst hy1
          have cy2 := HB3.out.snd hy1
          have fx1 := HB3.out.frozen (k * 2)
          have fx2 := HB3.out.frozen (k * 2 + 1)
          have fy1 := HB3.out.frozen ((k + 1) * 2)
          have fy2 := HB3.out.frozen ((k + 1) * 2 + 1)
          have g1 : (k : Int) < (i : Int) - 1 := by omega
          clear hx1 hy1 hy
          go_wp2
          go_region
          all_goals
            obtain ⟨S1, S2⟩ := HB3.out.swap Hb3.out k (k + 1) x1 x2 y1 y2
            rw [HD.out] at S1
            have HS1 := Lib.hid S1
            have HS2 := Lib.hid S2
            clear S1 S2 cx1 cx2 cy1 cy2 fx1 fx2 fy1 fy2 g1
            go_wp2
            go_roundw
            case rel => exact ⟨k + 1, q + 1, congrArg (Value.int .i64) (by omega), by have := HK.out; omega, by omega, HS1.out, HS2.out⟩
            case measure => simp [intOf]; omega
        · have g1 : ¬ ((k : Int) < (i : Int) - 1) := by omega
          have HB4 : Hid (BlkE 42 wr g (P ++ (Om.merge Om.near [(x1, x2)] Y ++ S))) := by
            have h := HB3.out
            rw [show q = i' from by have := HI.out; have := HX.out; have := HK.out; have := HQ.out; omega, ← HE.out] at h
            exact h
          go_wp2
          exact bodyPost_ret (results_none Try.results63 _ _ _) rfl ⟨rfl, HB4.out, Hb3.out⟩

set_option maxHeartbeats 800000 in
set_option maxRecDepth 100000 in
theorem symBR (B g n c a m b : Nat) (P X S : List Om.E) (y : Om.E) (w : World) (h : BlkE 42 w g (P ++ (X ++ ([y] ++ S)))) (hP : P.length = a) (hX : a + X.length = m) (hX1 : 1 < X.length) (hY : m + 1 = b) (hS : b + S.length = n) (hn : n ≤ 100000) (hnc : n ≤ c) (hc : c ≤ 100000)
    (hs : Om.Srt Om.near X) (hC : CmpR B w) (hg : B ≠ g) :
    Calls Try.prog 63 #[.slice (some ⟨g, 0, none⟩) n c, .int .i64 a, .int .i64 m, .int .i64 b, .func (.func 37) #[] #[.pointer (some ⟨B, 0, none⟩)]] w fun e w' =>
      e = .returned (.tuple #[]) ∧ BlkE 42 w' g (P ++ (Om.merge Om.near X [y] ++ S)) ∧ But g w w' := by
  have H := Lib.hid h
  have HP := Lib.hid hP
  have HX := Lib.hid hX
  have HY := Lib.hid hY
  have HS := Lib.hid hS
  have HC := Lib.hid hC
  have Hg := Lib.hid hg
  have Hs := Lib.hid hs
  have am : a < m := by omega
  have mb : m < b := by omega
  have bn : b ≤ n := by omega
  have q1 : ((m : Int) - (a : Int) == 1) = false := by simp; omega
  have q2 : ((b : Int) - (m : Int) == 1) = true := by simp; omega
  clear h hP hX hY hS hC hg hs hX1
  go_enter Try.func63, Try.ntmps63
  go_wp2
  clear q1 q2
  go_loopw [14, 15] (fun I J wr => ∃ i j i' j' : Nat, I = .int .i64 (i : Int) ∧ J = .int .i64 (j : Int) ∧ i = a + i' ∧ j = a + j' ∧ i ≤ j ∧ j ≤ m ∧ (0 < i' → Om.near y (X[i' - 1]?.getD (0, 0)) = false) ∧ (j' < X.length → Om.near y (X[j']?.getD (0, 0)) = true) ∧ BlkE 42 wr g (P ++ (X ++ ([y] ++ S))) ∧ But g w wr) (fun I J _ => (intOf J).toNat - (intOf I).toNat)
  case atStart => exact ⟨a, m, 0, X.length, rfl, rfl, rfl, HX.out.symm, by omega, Nat.le_refl _, fun h => absurd h (by omega), fun h => absurd h (by omega), H.out, But.refl _ _⟩
  case round =>
    obtain ⟨i, j, i', j', rfl, rfl, hi, hj, ij, jm, h1, h2, hB, hb⟩ := hrel
    have HI := Lib.hid hi
    have HJ := Lib.hid hj
    have H1 := Lib.hid h1
    have H2 := Lib.hid h2
    have HB := Lib.hid hB
    have Hb := Lib.hid hb
    have ai : a ≤ i := by omega
    clear hi hj h1 h2 hB hb H
    by_cases hlt : i < j
    · obtain ⟨h, hh⟩ : ∃ h : Nat, ((i : Int) + (j : Int)) / 2 = (h : Int) := ⟨(i + j) / 2, by omega⟩
      have hi : i ≤ h := by omega
      have hj : h < j := by omega
      have HH := Lib.hid hh
      obtain ⟨t, ht⟩ : ∃ t, h = a + t := ⟨h - a, by omega⟩
      have tX : t < X.length := by have := HX.out; omega
      obtain ⟨x, hx⟩ : ∃ x, X[t]? = some x := ⟨_, List.getElem?_eq_getElem tX⟩
      have hx1 := (Om.seg_at (P := P) (X := X) (R := [y] ++ S) (k := h) HP.out ht tX).trans hx
      have hy1 : (P ++ (X ++ ([y] ++ S)))[m]? = some y := (Om.seg_at2 (P := P) (X := X) (Y := [y]) (t := 0) HP.out (by have := HX.out; omega) (by simp)).trans rfl
      obtain ⟨x1, x2⟩ := x
      obtain ⟨y1, y2⟩ := y
      have cx1 := HB.out.fst hx1
      have cx2 := HB.out.snd hx1
      have cy1 := HB.out.fst hy1
      have cy2 := HB.out.snd hy1
      have HT := Lib.hid ht
      have HXX := Lib.hid hx
      have HC3 := Lib.hid (HC.out.but Hb.out Hg.out)
      have v1 : (m : Int) < (n : Int) := by omega
      have v2 : (h : Int) < (n : Int) := by omega
      clear hx1 hy1 hx ht
      cases hf : Om.near (y1, y2) (x1, x2) with
      | true =>
        have HF := Lib.hid hf
        clear hf hh
        go_wp2
        rw [HH.out]
        go_still_tail 9, (by kernel_rfl)
        change wpList _ _ _ _ _ wr.drew
        obtain ⟨W, hW⟩ : ∃ W, W = wr.drew := ⟨_, rfl⟩
        rw [← hW]
        have HCW : Hid (CmpR B W) := by rw [hW]; exact HC3.out.drew
        have HBW : Hid (BlkE 42 W g (P ++ (X ++ ([(y1, y2)] ++ S)))) := by rw [hW]; exact HB.out.drew
        have HbW : Hid (But g w W) := by rw [hW]; exact Hb.out.drew
        clear hW HC3 HB Hb cx1 cx2 cy1 cy2
        go_wp2_with fail
        refine (closureR_yes _ HCW.out HF.out).mono ?_
        rintro _ w1 ⟨rfl, hb1⟩
        have HB4 := Lib.hid (HBW.out.below hb1)
        have Hb4 := Lib.hid (HbW.out.below hb1)
        clear hb1 HBW HbW HCW
        go_wp2
        go_roundw
        case rel => exact ⟨i, h, i', t, rfl, rfl, HI.out, HT.out, by omega, by omega, H1.out, fun _ => by rw [HXX.out]; exact HF.out, HB4.out, Hb4.out⟩
        case measure => simp [intOf]; omega
      | false =>
        have HF := Lib.hid hf
        clear hf hh
        go_wp2
        rw [HH.out]
        go_still_tail 9, (by kernel_rfl)
        change wpList _ _ _ _ _ wr.drew
        obtain ⟨W, hW⟩ : ∃ W, W = wr.drew := ⟨_, rfl⟩
        rw [← hW]
        have HCW : Hid (CmpR B W) := by rw [hW]; exact HC3.out.drew
        have HBW : Hid (BlkE 42 W g (P ++ (X ++ ([(y1, y2)] ++ S)))) := by rw [hW]; exact HB.out.drew
        have HbW : Hid (But g w W) := by rw [hW]; exact Hb.out.drew
        clear hW HC3 HB Hb cx1 cx2 cy1 cy2
        go_wp2_with fail
        refine (closureR_no _ HCW.out HF.out).mono ?_
        rintro _ w1 ⟨z, hz, rfl, hb1⟩
        have hz' : decide (z < 0) = false := by simp; exact hz
        have hz2 : ¬ z < 0 := by omega
        have HB4 := Lib.hid (HBW.out.below hb1)
        have Hb4 := Lib.hid (HbW.out.below hb1)
        clear hb1 HBW HbW HCW
        go_wp2
        go_roundw
        case rel => exact ⟨h + 1, j, t + 1, j', congrArg (Value.int .i64) (by omega), rfl, by have := HT.out; omega, HJ.out, by omega, jm, fun _ => by rw [Nat.add_sub_cancel, HXX.out]; exact HF.out, H2.out, HB4.out, Hb4.out⟩
        case measure => simp [intOf]; omega
    · obtain rfl : i = j := by omega
      obtain rfl : i' = j' := by have := HI.out; have := HJ.out; omega
      have iX : i' ≤ X.length := by have := HI.out; have := HX.out; omega
      have HE := Lib.hid (Om.merge_ins Om.near_ord Hs.out iX H2.out H1.out)
      have HB0 : Hid (BlkE 42 wr g (P ++ (Om.ins X X.length y ++ S))) := by have := HB.out; rw [Om.ins_end, List.append_assoc X]; exact this
      clear H1 H2 HB ij HJ
      obtain ⟨y1, y2⟩ := y
      go_wp2
      go_loopw [17] (fun K ws => ∃ k q : Nat, K = .int .i64 (k : Int) ∧ k = a + q ∧ i' ≤ q ∧ q ≤ X.length ∧ BlkE 42 ws g (P ++ (Om.ins X q (y1, y2) ++ S)) ∧ But g w ws) (fun K _ => (intOf K).toNat)
      case atStart => exact ⟨m, X.length, rfl, HX.out.symm, iX, Nat.le_refl _, HB0.out, Hb.out⟩
      case round =>
        obtain ⟨k, q, rfl, hk, hq, hq2, hB3, hb3⟩ := hrel
        have HB3 := Lib.hid hB3
        have Hb3 := Lib.hid hb3
        have HK := Lib.hid hk
        have HQ := Lib.hid hq
        have HQ2 := Lib.hid hq2
        have ki : i ≤ k := by have := HI.out; omega
        have km : k ≤ m := by have := HX.out; omega
        clear hB3 hb3 hk hq hq2 HB0 Hb
        by_cases hlt2 : i < k
        · have q0 : 0 < q := by have := HI.out; have := HK.out; omega
          obtain ⟨x, hx⟩ : ∃ x, X[q - 1]? = some x := ⟨_, List.getElem?_eq_getElem (by have := HQ2.out; omega)⟩
          have hx1 := (Om.mid_prev (Sd := X) (R := S) (x := (y1, y2)) HP.out HQ2.out q0).trans hx
          have hy1 := Om.mid_at (Sd := X) (R := S) (x := (y1, y2)) HP.out HQ2.out
          have HD := Lib.hid (Om.mid_down (Sd := X) (R := S) (x := (y1, y2)) HP.out HQ2.out q0 hx)
          rw [← HK.out] at hx1 hy1 HD
          obtain ⟨x1, x2⟩ := x
          have cx1 := HB3.out.fst hx1
          have cx2 := HB3.out.snd hx1
          have cy1 := HB3.out.fst hy1
          have cy2 := HB3.out.snd hy1
          have fx1 := HB3.out.frozen (k * 2)
          have fx2 := HB3.out.frozen (k * 2 + 1)
          have fy1 := HB3.out.frozen ((k - 1) * 2)
          have fy2 := HB3.out.frozen ((k - 1) * 2 + 1)
          have g1 : (i : Int) < (k : Int) := by omega
          clear hx1 hy1 hx
          go_wp2
          go_region
          all_goals
            obtain ⟨S1, S2⟩ := HB3.out.swap Hb3.out k (k - 1) y1 y2 x1 x2
            rw [HD.out] at S1
            have HS1 := Lib.hid S1
            have HS2 := Lib.hid S2
            clear S1 S2 cx1 cx2 cy1 cy2 fx1 fx2 fy1 fy2 g1
            go_wp2
            go_roundw
            case rel => exact ⟨k - 1, q - 1, congrArg (Value.int .i64) (by omega), by have := HK.out; omega, by have := HK.out; have := HI.out; omega, by have := HQ2.out; omega, HS1.out, HS2.out⟩
            case measure => simp [intOf]; omega
        · have g1 : ¬ ((i : Int) < (k : Int)) := by omega
          have HB4 : Hid (BlkE 42 wr g (P ++ (Om.merge Om.near X [(y1, y2)] ++ S))) := by
            have h := HB3.out
            rw [show q = i' from by have := HI.out; have := HK.out; omega, ← HE.out] at h
            exact h
          go_wp2
          exact bodyPost_ret (results_none Try.results63 _ _ _) rfl ⟨rfl, HB4.out, Hb3.out⟩
end Go.Proofs.Ytdpoieemadblnaa
