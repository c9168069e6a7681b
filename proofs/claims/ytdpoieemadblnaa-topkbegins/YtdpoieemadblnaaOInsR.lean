/-
  Layer 4 (order): insertionSort of the library's sort, at one type of elements.
-/
import Derived.Test.YtdpoieemadblnaaOSwapR
import Derived.Test.YtdpoieemadblnaaOMidd
import Derived.StillTailTactics
namespace Go.Proofs.Ytdpoieemadblnaa
open Go.RowKit

theorem CmpR.but {B g : Nat} {w w' : World} (h : CmpR B w) (hb : But g w w') (hg : B ≠ g) : CmpR B w' := ⟨Nat.lt_of_lt_of_le h.1 hb.size, (hb.cell (p := ⟨B, 0, none⟩) h.1 hg).trans h.2⟩
theorem CmpR.drew {B : Nat} {w : World} (h : CmpR B w) : CmpR B w.drew := h

set_option maxRecDepth 100000 in
set_option maxHeartbeats 800000 in
theorem insertionR (B g n c a b : Nat) (P X S : List Om.E) (w : World) (h : BlkE 42 w g (P ++ (X ++ S))) (hP : P.length = a) (hX : a + X.length = b) (hS : b + S.length = n) (hn : n ≤ 100000) (hnc : n ≤ c) (hc : c ≤ 100000)
    (hC : CmpR B w) (hg : B ≠ g) :
    Calls Try.prog 62 #[.slice (some ⟨g, 0, none⟩) n c, .int .i64 a, .int .i64 b, .func (.func 37) #[] #[.pointer (some ⟨B, 0, none⟩)]] w fun e w' =>
      e = .returned (.tuple #[]) ∧ BlkE 42 w' g (P ++ (Om.isort Om.near X ++ S)) ∧ But g w w' := by
  have H := Lib.hid h
  have HP := Lib.hid hP
  have HX := Lib.hid hX
  have HS := Lib.hid hS
  have HC := Lib.hid hC
  have Hg := Lib.hid hg
  have ab : a ≤ b := by omega
  have bn : b ≤ n := by omega
  clear h hP hX hS hC hg
  go_enter Try.func62, Try.ntmps62
  go_wp2
  go_loopw [8] (fun I wr => ∃ i k : Nat, I = .int .i64 (i : Int) ∧ i = a + k ∧ (k = 1 ∨ a + k ≤ b) ∧ 1 ≤ k ∧ BlkE 42 wr g (P ++ (Om.isort Om.near (X.take k) ++ (X.drop k ++ S))) ∧ But g w wr) (fun i _ => b - (intOf i).toNat)
  case atStart => exact ⟨a + 1, 1, congrArg (Value.int .i64) (by omega), rfl, .inl rfl, by omega, by rw [← List.append_assoc (Om.isort _ _), Om.isort_take_one]; exact H.out, But.refl _ _⟩
  case round =>
    obtain ⟨i, k, rfl, hi, hk, k1, hB, hb⟩ := hrel
    have HB := Lib.hid hB
    have Hb := Lib.hid hb
    have HI := Lib.hid hi
    have HK := Lib.hid hk
    have iN : i ≤ 100001 := by omega
    have ai : a < i := by omega
    clear hB hb hk hi
    by_cases hlt : i < b
    · have hkx : k < X.length := by have := HX.out; have := HI.out; omega
      obtain ⟨x, hx⟩ : ∃ x, X[k]? = some x := ⟨_, List.getElem?_eq_getElem hkx⟩
      have HXX := Lib.hid hx
      have hB2 := HB.out
      rw [Om.put_start hx] at hB2
      have HB2 := Lib.hid hB2
      obtain ⟨x1, x2⟩ := x
      have hl : (Om.isort Om.near (X.take k)).length = k := by rw [Om.isort_length]; simp; omega
      have HE := Lib.hid (fun q (hq : q ≤ k) (h1 : q < k → Om.near (x1, x2) ((Om.isort Om.near (X.take k))[q]?.getD (0, 0)) = true) (h2 : 0 < q → Om.near (x1, x2) ((Om.isort Om.near (X.take k))[q - 1]?.getD (0, 0)) = false) => Om.put_end Om.near_ord hx hq h1 h2)
      obtain ⟨Sd, hSd⟩ : ∃ Sd, Sd = Om.isort Om.near (X.take k) := ⟨_, rfl⟩
      rw [← hSd] at HB2 hl HE
      obtain ⟨R, hR⟩ : ∃ R, R = X.drop (k + 1) ++ S := ⟨_, rfl⟩
      rw [← hR] at HB2
      have Hl := Lib.hid hl
      have HR := Lib.hid hR
      clear hx hB2 hSd hl hkx hR
      go_wp2
      go_loopw [9] (fun J ws => ∃ j q : Nat, J = .int .i64 (j : Int) ∧ j = a + q ∧ q ≤ k ∧ BlkE 42 ws g (P ++ (Om.ins Sd q (x1, x2) ++ R)) ∧ (q < k → Om.near (x1, x2) (Sd[q]?.getD (0, 0)) = true) ∧ But g w ws) (fun j _ => (intOf j).toNat)
      case atStart => exact ⟨i, k, rfl, HI.out, Nat.le_refl _, HB2.out, fun h => absurd h (by omega), Hb.out⟩
      case round =>
        obtain ⟨j, q, rfl, hj, hq, hB3, h3, hb3⟩ := hrel
        have HB3 := Lib.hid hB3
        have Hb3 := Lib.hid hb3
        have H3 := Lib.hid h3
        have HJ := Lib.hid hj
        have HQ := Lib.hid hq
        have jn : j < n := by have := HI.out; omega
        have aj : a ≤ j := by omega
        clear hB3 hb3 h3 hj hq
        by_cases q0 : j = a
        · subst q0
          have g1 : decide ((j : Int) < (j : Int)) = false := by simp
          go_wp2
          go_quiet (fail)
          have e := HE.out q (by have := HQ.out; omega) H3.out (fun h => absurd h (by have := HJ.out; omega))
          have HB4 : Hid (BlkE 42 (wr.drewN nq) g (P ++ (Om.isort Om.near (X.take (k + 1)) ++ (X.drop (k + 1) ++ S)))) := by
            have := HB3.out.drewN nq
            rw [e, HR.out] at this
            exact this
          have Hb4 := Lib.hid (Hb3.out.drewN nq)
          clear e g1
          go_wp2
          go_roundw
          case rel => exact ⟨i + 1, k + 1, congrArg (Value.int .i64) (by omega), by have := HI.out; omega, .inr (by have := HI.out; omega), by omega, HB4.out, Hb4.out⟩
          case measure => simp [intOf]; omega
        · have ja : a < j := by omega
          clear q0
          obtain ⟨y, hy⟩ : ∃ y, Sd[q - 1]? = some y := ⟨_, List.getElem?_eq_getElem (by have := Hl.out; have := HJ.out; have := HQ.out; omega)⟩
          have hy1 := Om.mid_prev (Sd := Sd) (R := R) (x := (x1, x2)) HP.out (by have := Hl.out; have := HQ.out; omega) (by have := HJ.out; omega : 0 < q)
          have hx1 := Om.mid_at (R := R) (x := (x1, x2)) HP.out (by have := Hl.out; have := HQ.out; omega : q ≤ Sd.length)
          have HD := Lib.hid (Om.mid_down (R := R) (x := (x1, x2)) HP.out (by have := Hl.out; have := HQ.out; omega) (by have := HJ.out; omega : 0 < q) hy)
          rw [hy, ← HJ.out] at hy1
          rw [← HJ.out] at hx1 HD
          obtain ⟨y1, y2⟩ := y
          have cx1 := HB3.out.fst hx1
          have cx2 := HB3.out.snd hx1
          have cy1 := HB3.out.fst hy1
          have cy2 := HB3.out.snd hy1
          have HY := Lib.hid hy
          have HX1 := Lib.hid hx1
          have HY1 := Lib.hid hy1
          have HC3 := Lib.hid (HC.out.but Hb3.out Hg.out)
          clear hx1 hy1 hy
          have g1 : decide ((a : Int) < (j : Int)) = true := by simpa using ja
          have v2 : (1 : Int) ≤ (j : Int) := by omega
          have v4 : (j : Int) - 1 < (n : Int) := by omega
          have v3 : ((j : Int) - 1).toNat = j - 1 := by omega
          have v1 : IntKind.i64.wrap ((j : Int) - 1) = (j : Int) - 1 := IntWalk.i64_in _ (by omega)
          cases hf : Om.near (x1, x2) (y1, y2) with
          | true =>
            have HF := Lib.hid hf
            clear hf
            go_wp2
            go_still_tail 14, (by kernel_rfl)
            change wpList _ _ _ _ _ wr.drew
            obtain ⟨W, hW⟩ : ∃ W, W = wr.drew := ⟨_, rfl⟩
            rw [← hW]
            have HCW : Hid (CmpR B W) := by rw [hW]; exact HC3.out.drew
            have HBW : Hid (BlkE 42 W g (P ++ (Om.ins Sd q (x1, x2) ++ R))) := by rw [hW]; exact HB3.out.drew
            have HbW : Hid (But g w W) := by rw [hW]; exact Hb3.out.drew
            clear hW HC3 HB3 Hb3 cx1 cx2 cy1 cy2
            go_wp2_with fail
            refine (closureR_yes _ HCW.out HF.out).mono ?_
            rintro _ w1 ⟨rfl, hb1⟩
            all_goals
              have HB4 := Lib.hid (HBW.out.below hb1)
              have Hb4 := Lib.hid (HbW.out.below hb1)
              clear hb1 HBW HbW HCW g1 v1 v2 v3 v4
              have cx1 := HB4.out.fst HX1.out
              have cx2 := HB4.out.snd HX1.out
              have cy1 := HB4.out.fst HY1.out
              have cy2 := HB4.out.snd HY1.out
              have fx1 := HB4.out.frozen (j * 2)
              have fx2 := HB4.out.frozen (j * 2 + 1)
              have fy1 := HB4.out.frozen ((j - 1) * 2)
              have fy2 := HB4.out.frozen ((j - 1) * 2 + 1)
              go_wp2
              go_region
              all_goals
                obtain ⟨S1, S2⟩ := HB4.out.swap Hb4.out j (j - 1) x1 x2 y1 y2
                rw [HD.out] at S1
                have HS1 := Lib.hid S1
                have HS2 := Lib.hid S2
                clear S1 S2 cx1 cx2 cy1 cy2 fx1 fx2 fy1 fy2
                go_wp2
                go_roundw
                case rel => exact ⟨j - 1, q - 1, congrArg (Value.int .i64) (by omega), by have := HJ.out; omega, by have := HQ.out; omega, HS1.out, fun _ => by rw [HY.out]; exact HF.out, HS2.out⟩
                case measure => simp [intOf]; omega
          | false =>
            have HF := Lib.hid hf
            clear hf
            go_wp2
            go_still_tail 14, (by kernel_rfl)
            change wpList _ _ _ _ _ wr.drew
            obtain ⟨W, hW⟩ : ∃ W, W = wr.drew := ⟨_, rfl⟩
            rw [← hW]
            have HCW : Hid (CmpR B W) := by rw [hW]; exact HC3.out.drew
            have HBW : Hid (BlkE 42 W g (P ++ (Om.ins Sd q (x1, x2) ++ R))) := by rw [hW]; exact HB3.out.drew
            have HbW : Hid (But g w W) := by rw [hW]; exact Hb3.out.drew
            clear hW HC3 HB3 Hb3 cx1 cx2 cy1 cy2
            go_wp2_with fail
            refine (closureR_no _ HCW.out HF.out).mono ?_
            rintro _ w1 ⟨z, hz, rfl, hb1⟩
            all_goals
              have e := HE.out q (by have := HQ.out; omega) H3.out (fun _ => by rw [HY.out]; exact HF.out)
              have HB4 : Hid (BlkE 42 w1 g (P ++ (Om.isort Om.near (X.take (k + 1)) ++ (X.drop (k + 1) ++ S)))) := by
                have := HBW.out.below hb1
                rw [e, HR.out] at this
                exact this
              have Hb4 := Lib.hid (HbW.out.below hb1)
              clear e hb1 HBW HbW HCW g1 v1 v2 v3 v4
              go_wp2
              go_roundw
              case rel => exact ⟨i + 1, k + 1, congrArg (Value.int .i64) (by omega), by have := HI.out; omega, .inr (by have := HI.out; omega), by omega, HB4.out, Hb4.out⟩
              case measure => simp [intOf]; omega
    · have HB4 : Hid (BlkE 42 wr g (P ++ (Om.isort Om.near X ++ S))) := by
        have := HB.out
        rw [List.take_of_length_le (by have := HX.out; have := HI.out; omega), List.drop_of_length_le (by have := HX.out; have := HI.out; omega)] at this
        exact this
      go_wp2
      exact bodyPost_end (results_none Try.results62 _ _ _) rfl ⟨rfl, HB4.out, Hb.out⟩
end Go.Proofs.Ytdpoieemadblnaa
