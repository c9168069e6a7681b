/-
  Layer 4 (order): the library's stable sort, at one type of elements.
-/
import Derived.Test.YtdpoieemadblnaaOSymCR
import Derived.Test.YtdpoieemadblnaaOChnk
namespace Go.Proofs.Ytdpoieemadblnaa
open Go.RowKit

set_option maxHeartbeats 1600000 in
theorem stableR (B g n c : Nat) (D : List Om.E) (w : World) (h : BlkE 42 w g D) (hD : D.length = n) (hn : n ≤ 50000) (hnc : n ≤ c) (hc : c ≤ 100000) (hC : CmpR B w) (hg : B ≠ g) :
    Calls Try.prog 53 #[.slice (some ⟨g, 0, none⟩) n c, .int .i64 n, .func (.func 37) #[] #[.pointer (some ⟨B, 0, none⟩)]] w fun e w' =>
      e = .returned (.tuple #[]) ∧ BlkE 42 w' g (Om.isort Om.near D) ∧ But g w w' := by
  have H := Lib.hid h
  have HD := Lib.hid hD
  have HC := Lib.hid hC
  have Hg := Lib.hid hg
  clear h hD hC hg
  go_enter Try.func53, Try.ntmps53
  go_wp2
  go_loopw [7, 8] (fun I J wr => ∃ (a b : Nat) (A : List Om.E), I = .int .i64 (a : Int) ∧ J = .int .i64 (b : Int) ∧ b = a + 20 ∧ A.length = a ∧ a ≤ n ∧ BlkE 42 wr g (A ++ D.drop a) ∧ A ++ Om.ck Om.near 20 (D.drop a) = Om.ck Om.near 20 D ∧ But g w wr) (fun I _ _ => n - (intOf I).toNat)
  case atStart => exact ⟨0, 20, [], rfl, rfl, rfl, rfl, by omega, H.out, rfl, But.refl _ _⟩
  case round =>
    obtain ⟨a, b, A, rfl, rfl, hab, hA, an, hB, hT, hb⟩ := hrel
    have HAB := Lib.hid hab
    have HA := Lib.hid hA
    have HB := Lib.hid hB
    have HT := Lib.hid hT
    have Hb := Lib.hid hb
    have bN : b ≤ 50020 := by omega
    clear hab hA hB hT hb H
    by_cases hlt : b ≤ n
    · have hB := HB.out
      rw [Om.cut_one (s := 20) HAB.out] at hB
      have HB0 := Lib.hid hB
      clear hB HB
      go_wp2_with fail
      refine (insertionR B g n c a b A ((D.drop a).take 20) (D.drop b) _ HB0.out HA.out (by simp; have := HD.out; have := HAB.out; omega) (by simp; have := HD.out; omega) (by omega) hnc hc (HC.out.but Hb.out Hg.out) Hg.out).mono ?_
      rintro _ w1 ⟨rfl, hB1, hb1⟩
      rw [← List.append_assoc] at hB1
      have HB1 := Lib.hid hB1
      have Hb1 := Lib.hid (Hb.out.trans hb1)
      clear hB1 hb1 HB0 Hb
      go_wp2
      go_roundw
      case rel => exact ⟨b, b + 20, A ++ Om.isort Om.near ((D.drop a).take 20), rfl, congrArg (Value.int .i64) (by omega), rfl, by simp [Om.isort_length]; have := HD.out; have := HA.out; have := HAB.out; omega, hlt, HB1.out, by rw [Om.ck_one (by omega) HAB.out]; exact HT.out, Hb1.out⟩
      case measure => simp [intOf]; have := HAB.out; omega
    · have hB : BlkE 42 wr g (A ++ (D.drop a ++ [])) := by rw [List.append_nil]; exact HB.out
      have HB0 := Lib.hid hB
      clear hB HB
      go_wp2_with fail
      refine (insertionR B g n c a n A (D.drop a) [] _ HB0.out HA.out (by simp; have := HD.out; omega) (by simp) (by omega) hnc hc (HC.out.but Hb.out Hg.out) Hg.out).mono ?_
      rintro _ w1 ⟨rfl, hB1, hb1⟩
      rw [Om.ck_last (s := 20) (by omega) (by simp; have := HD.out; have := HAB.out; omega), HT.out] at hB1
      have HB1 := Lib.hid hB1
      have Hb1 := Lib.hid (Hb.out.trans hb1)
      clear hB1 hb1 HB0 Hb HT HA HAB
      go_wp2
      go_loopw [6] (fun I wr => ∃ s : Nat, I = .int .i64 (s : Int) ∧ 0 < s ∧ s ≤ 100020 ∧ BlkE 42 wr g (Om.ck Om.near s D) ∧ But g w wr) (fun I _ => n - (intOf I).toNat)
      case atStart => exact ⟨20, rfl, by omega, by omega, HB1.out, Hb1.out⟩
      case round =>
        obtain ⟨s, rfl, s0, sN, hB, hb⟩ := hrel
        have HB := Lib.hid hB
        have Hb := Lib.hid hb
        clear hB hb HB1 Hb1
        by_cases hlt2 : s < n
        · go_wp2
          go_loopw [7, 8] (fun I J ws => ∃ (a b : Nat) (A : List Om.E), I = .int .i64 (a : Int) ∧ J = .int .i64 (b : Int) ∧ b = a + 2 * s ∧ A.length = a ∧ a ≤ n ∧ BlkE 42 ws g (A ++ Om.ck Om.near s (D.drop a)) ∧ A ++ Om.ck Om.near (2 * s) (D.drop a) = Om.ck Om.near (2 * s) D ∧ But g w ws) (fun I _ _ => n - (intOf I).toNat)
          case atStart => exact ⟨0, 2 * s, [], rfl, congrArg (Value.int .i64) (by omega), by omega, rfl, by omega, HB.out, rfl, Hb.out⟩
          case round =>
            obtain ⟨a, b, A, rfl, rfl, hab, hA, an, hB, hT, hb⟩ := hrel
            have HAB := Lib.hid hab
            have HA := Lib.hid hA
            have HB2 := Lib.hid hB
            have HT := Lib.hid hT
            have Hb2 := Lib.hid hb
            have bN : b ≤ 200000 := by omega
            clear hab hA hB hT hb
            by_cases hlt3 : b ≤ n
            · have hB := HB2.out
              rw [Om.two_cut s0 HAB.out] at hB
              have HB0 := Lib.hid hB
              obtain ⟨m, hm⟩ : ∃ m : Nat, (a : Int) + (s : Int) = (m : Int) := ⟨a + s, by omega⟩
              have HM := Lib.hid hm
              clear hB hm
              go_wp2_with fail
              rw [HM.out]
              refine (symR_all _ B g n c a m b A (Om.isort Om.near ((D.drop a).take s)) (Om.isort Om.near (((D.drop a).drop s).take s)) (Om.ck Om.near s (D.drop b)) _ (Nat.le_refl _) HB0.out HA.out
                (by rw [Om.isort_length]; simp; have := HD.out; have := HAB.out; have := HM.out; omega) (by rw [Om.isort_length]; simp; have := HD.out; have := HAB.out; have := HM.out; omega) (by rw [Om.ck_length s s0 _ _ (Nat.le_refl _)]; simp; have := HD.out; omega)
                (by omega) hnc hc (by rw [Om.isort_length]; simp; have := HD.out; have := HAB.out; omega) (by rw [Om.isort_length]; simp; have := HD.out; have := HAB.out; omega) (Om.isort_srt Om.near_ord _) (Om.isort_srt Om.near_ord _) (HC.out.but Hb2.out Hg.out) Hg.out).mono ?_
              rintro _ w2 ⟨rfl, hB3, hb3⟩
              rw [← List.append_assoc] at hB3
              have HB3 := Lib.hid hB3
              have Hb3 := Lib.hid (Hb2.out.trans hb3)
              clear hB3 hb3 HB0
              go_wp2
              go_roundw
              case rel => exact ⟨b, b + 2 * s, A ++ Om.merge Om.near (Om.isort Om.near ((D.drop a).take s)) (Om.isort Om.near (((D.drop a).drop s).take s)), rfl, congrArg (Value.int .i64) (by omega), rfl, by simp [Om.isort_length, Om.merge_length]; have := HD.out; have := HA.out; have := HAB.out; omega, hlt3, HB3.out, by rw [Om.two_put Om.near_ord s0 HAB.out]; exact HT.out, Hb3.out⟩
              case measure => simp [intOf]; have := HAB.out; omega
            · obtain ⟨m, hm⟩ : ∃ m : Nat, (a : Int) + (s : Int) = (m : Int) := ⟨a + s, by omega⟩
              have HM := Lib.hid hm
              by_cases hlt4 : a + s < n
              · have hB := HB2.out
                rw [Om.end_cut s0 (by simp; have := HD.out; have := HAB.out; omega)] at hB
                have HB0 := Lib.hid hB
                clear hB hm
                go_wp2_with fail
                rw [HM.out]
                refine (symR_all _ B g n c a m n A (Om.isort Om.near ((D.drop a).take s)) (Om.isort Om.near ((D.drop a).drop s)) [] _ (Nat.le_refl _) HB0.out HA.out
                  (by rw [Om.isort_length]; simp; have := HD.out; have := HM.out; omega) (by rw [Om.isort_length]; simp; have := HD.out; have := HM.out; omega) (by simp)
                  (by omega) hnc hc (by rw [Om.isort_length]; simp; have := HD.out; omega) (by rw [Om.isort_length]; simp; have := HD.out; omega) (Om.isort_srt Om.near_ord _) (Om.isort_srt Om.near_ord _) (HC.out.but Hb2.out Hg.out) Hg.out).mono ?_
                rintro _ w2 ⟨rfl, hB3, hb3⟩
                rw [Om.end_put Om.near_ord s0 (by simp; have := HD.out; have := HAB.out; omega), HT.out] at hB3
                have HB3 := Lib.hid hB3
                have Hb3 := Lib.hid (Hb2.out.trans hb3)
                clear hB3 hb3 HB0
                go_wp2
                go_roundw
                case rel => exact ⟨2 * s, congrArg (Value.int .i64) (by omega), by omega, by omega, HB3.out, Hb3.out⟩
                case measure => simp [intOf]; omega
              · have hB := HB2.out
                rw [Om.end_none s0 (by simp; have := HD.out; omega), HT.out] at hB
                have HB3 := Lib.hid hB
                clear hB hm
                go_wp2
                go_roundw
                case rel => exact ⟨2 * s, congrArg (Value.int .i64) (by omega), by omega, by omega, HB3.out, Hb2.out⟩
                case measure => simp [intOf]; omega
        · have hB := HB.out
          rw [Om.ck_whole s s0 D (by have := HD.out; omega)] at hB
          have HB3 := Lib.hid hB
          clear hB
          go_wp2
          exact bodyPost_end (results_none Try.results53 _ _ _) rfl ⟨rfl, HB3.out, Hb.out⟩

theorem sortStableR (B g n c : Nat) (D : List Om.E) (w : World) (h : BlkE 42 w g D) (hD : D.length = n) (hn : n ≤ 50000) (hnc : n ≤ c) (hc : c ≤ 100000) (hC : CmpR B w) (hg : B ≠ g) :
    Calls Try.prog 36 #[.slice (some ⟨g, 0, none⟩) n c, .func (.func 37) #[] #[.pointer (some ⟨B, 0, none⟩)]] w fun e w' =>
      e = .returned (.tuple #[]) ∧ BlkE 42 w' g (Om.isort Om.near D) ∧ But g w w' := by
  have HH := Lib.hid (stableR B g n c D w h hD hn hnc hc hC hg)
  clear h hD hC hg
  go_enter Try.func36, Try.ntmps36
  go_wp2_with fail
  refine HH.out.mono ?_
  rintro _ w1 ⟨rfl, hB1, hb1⟩
  have HB1 := Lib.hid hB1
  have Hb1 := Lib.hid hb1
  clear hB1 hb1 HH
  go_wp2
  exact bodyPost_end (results_none Try.results36 _ _ _) rfl ⟨rfl, HB1.out, Hb1.out⟩
end Go.Proofs.Ytdpoieemadblnaa
