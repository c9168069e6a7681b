/-
  Layer 4 (order): swapRange and rotate of the library's sort, at one type of elements.
-/
import Derived.Test.YtdpoieemadblnaaOCmpR
import Derived.Test.YtdpoieemadblnaaOMem
import Derived.BigRegion
namespace Go.Proofs.Ytdpoieemadblnaa
open Go.RowKit

theorem swapRangeR (g n c a b k : Nat) (F : Value) (D : List Om.E) (w : World) (h : BlkE 42 w g D) (hD : D.length = n) (hab : a + k ≤ b) (hbn : b + k ≤ n) (hn : n ≤ 100000) (hnc : n ≤ c) (hc : c ≤ 100000) :
    Calls Try.prog 67 #[.slice (some ⟨g, 0, none⟩) n c, .int .i64 a, .int .i64 b, .int .i64 k, F] w fun e w' => e = .returned (.tuple #[]) ∧ BlkE 42 w' g (Om.swp D a b k) ∧ But g w w' := by
  have H := Lib.hid h
  clear h
  go_enter Try.func67, Try.ntmps67
  go_wp2
  go_loopw [10] (fun i wr => ∃ j : Nat, j ≤ k ∧ i = .int .i64 j ∧ BlkE 42 wr g (Om.swp D a b j) ∧ But g w wr) (fun i _ => k - (intOf i).toNat)
  case atStart => exact ⟨0, Nat.zero_le _, rfl, H.out, But.refl _ _⟩
  case round =>
    obtain ⟨j, hj, rfl, hB, hb⟩ := hrel
    have HB := Lib.hid hB
    have Hb := Lib.hid hb
    clear hB hb
    by_cases hlt : j < k
    · have HL := Lib.hid (Om.swp_length D a b j)
      obtain ⟨x, hx⟩ : ∃ x, (Om.swp D a b j)[a + j]? = some x := ⟨_, List.getElem?_eq_getElem (by rw [HL.out]; omega)⟩
      obtain ⟨y, hy⟩ : ∃ y, (Om.swp D a b j)[b + j]? = some y := ⟨_, List.getElem?_eq_getElem (by rw [HL.out]; omega)⟩
      obtain ⟨x1, x2⟩ := x
      obtain ⟨y1, y2⟩ := y
      have cx1 := HB.out.fst hx
      have cx2 := HB.out.snd hx
      have cy1 := HB.out.fst hy
      have cy2 := HB.out.snd hy
      have fx1 := HB.out.frozen ((a + j) * 2)
      have fx2 := HB.out.frozen ((a + j) * 2 + 1)
      have fy1 := HB.out.frozen ((b + j) * 2)
      have fy2 := HB.out.frozen ((b + j) * 2 + 1)
      have HS := Lib.hid (Om.swp_succ hx hy)
      clear hx hy
      go_wp2
      go_region
      all_goals
        obtain ⟨S1, S2⟩ := HB.out.swap Hb.out (a + j) (b + j) x1 x2 y1 y2
        rw [← HS.out] at S1
        have HS1 := Lib.hid S1
        have HS2 := Lib.hid S2
        clear S1 S2 cx1 cx2 cy1 cy2 fx1 fx2 fy1 fy2
        go_wp2
        go_roundw
        case rel => exact ⟨j + 1, by omega, by go_num, HS1.out, HS2.out⟩
        case measure => simp [intOf]; omega
    · obtain rfl : j = k := by omega
      go_wp2
      exact bodyPost_end (results_none Try.results67 _ _ _) rfl ⟨rfl, HB.out, Hb.out⟩

theorem rotateR (g n c a m b : Nat) (F : Value) (D T : List Om.E) (w : World) (h : BlkE 42 w g D) (hD : D.length = n) (hr : Om.Rot D T a (m - a) (b - m) (n - b)) (ham : a < m) (hmb : m < b) (hbn : b ≤ n) (hn : n ≤ 100000) (hnc : n ≤ c) (hc : c ≤ 100000) :
    Calls Try.prog 66 #[.slice (some ⟨g, 0, none⟩) n c, .int .i64 a, .int .i64 m, .int .i64 b, F] w fun e w' => e = .returned (.tuple #[]) ∧ BlkE 42 w' g T ∧ But g w w' := by
  have H := Lib.hid h
  have HR := Lib.hid hr
  clear h hr hD
  go_enter Try.func66, Try.ntmps66
  go_wp2
  go_loopw [10, 11] (fun I J wr => ∃ (i j p s : Nat) (L : List Om.E), I = .int .i64 (i : Int) ∧ J = .int .i64 (j : Int) ∧ 0 < i ∧ 0 < j ∧ p + i = m ∧ m + j + s = n ∧ BlkE 42 wr g L ∧ Om.Rot L T p i j s ∧ But g w wr) (fun I J _ => (intOf I).toNat + (intOf J).toNat)
  case atStart => exact ⟨m - a, b - m, a, n - b, D, congrArg (Value.int .i64) (by omega), congrArg (Value.int .i64) (by omega), by omega, by omega, by omega, by omega, H.out, HR.out, But.refl _ _⟩
  case round =>
    obtain ⟨i, j, p, s, L, rfl, rfl, i0, j0, hp, hs, hB, hR, hb⟩ := hrel
    have HB := Lib.hid hB
    have HR' := Lib.hid hR
    have Hb := Lib.hid hb
    have HL := Lib.hid hR.length
    have HP := Lib.hid hp
    have HS := Lib.hid hs
    have im : i ≤ m := by omega
    have mj : m + j ≤ n := by omega
    clear hB hR hb HR H hp hs
    rcases Nat.lt_trichotomy i j with q | q | q
    · have g1 : ((i : Int) != (j : Int)) = true := by simp; omega
      have g2 : ¬ ((j : Int) < (i : Int)) := by omega
      go_wp2_with fail
      rw [show (m : Int) - (i : Int) = ((p : Nat) : Int) from by have := HP.out; omega, show (m : Int) + (j : Int) - (i : Int) = ((p + i + j - i : Nat) : Int) from by have := HP.out; omega]
      refine (swapRangeR g n c p (p + i + j - i) i F L _ HB.out (by have := HL.out; have := HP.out; have := HS.out; omega) (by omega) (by have := HP.out; omega) hn hnc hc).mono ?_
      rintro _ w1 ⟨rfl, hB1, hb1⟩
      have HB1 := Lib.hid hB1
      have Hb1 := Lib.hid (Hb.out.trans hb1)
      clear hB1 hb1
      go_wp2
      go_roundw
      case rel => exact ⟨i, j - i, p, s + i, _, rfl, congrArg (Value.int .i64) (by omega), i0, by omega, HP.out, by have := HS.out; omega, HB1.out, HR'.out.right q, Hb1.out⟩
      case measure => simp [intOf]; omega
    · subst q
      go_wp2_with fail
      rw [show (m : Int) - (i : Int) = ((p : Nat) : Int) from by have := HP.out; omega, show (m : Int) = ((p + i : Nat) : Int) from by have := HP.out; omega]
      refine (swapRangeR g n c p (p + i) i F L _ HB.out (by have := HL.out; have := HP.out; have := HS.out; omega) (by omega) (by have := HP.out; omega) hn hnc hc).mono ?_
      rintro _ w1 ⟨rfl, hB1, hb1⟩
      rw [HR'.out.last] at hB1
      have HB1 := Lib.hid hB1
      have Hb1 := Lib.hid (Hb.out.trans hb1)
      clear hB1 hb1
      go_wp2
      exact bodyPost_end (results_none Try.results66 _ _ _) rfl ⟨rfl, HB1.out, Hb1.out⟩
    · have g1 : ((i : Int) != (j : Int)) = true := by simp; omega
      have g2 : (j : Int) < (i : Int) := by omega
      go_wp2_with fail
      rw [show (m : Int) - (i : Int) = ((p : Nat) : Int) from by have := HP.out; omega]
      have em : m = p + i := HP.out.symm
      have HM := Lib.hid em
      refine (show Calls Try.prog 67 #[.slice (some ⟨g, 0, none⟩) n c, .int .i64 p, .int .i64 m, .int .i64 j, F] _ _ from (swapRangeR g n c p m j F L _ HB.out (by have := HL.out; have := HP.out; have := HS.out; omega) (by omega) (by omega) hn hnc hc)).mono ?_
      clear em
      rintro _ w1 ⟨rfl, hB1, hb1⟩
      have HB1 := Lib.hid hB1
      have Hb1 := Lib.hid (Hb.out.trans hb1)
      clear hB1 hb1
      go_wp2
      go_roundw
      case rel => exact ⟨i - j, j, p + j, s, _, congrArg (Value.int .i64) (by omega), rfl, by omega, j0, by have := HP.out; omega, HS.out, HB1.out, (by have := HR'.out.left q; rw [HP.out] at this; exact this), Hb1.out⟩
      case measure => simp [intOf]; omega
end Go.Proofs.Ytdpoieemadblnaa
