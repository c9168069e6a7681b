/-
  Layer 4 (order): symMerge of the library's sort, at one type of elements: the general part, and the whole.
-/
import Derived.Test.YtdpoieemadblnaaOSymR
namespace Go.Proofs.Ytdpoieemadblnaa
open Go.RowKit

/-- what symMerge is of lists that are together no longer than N -/
def SymR (N : Nat) : Prop := ∀ (B g n c a m b : Nat) (P X Y S : List Om.E) (w : World), X.length + Y.length ≤ N → BlkE 42 w g (P ++ (X ++ (Y ++ S))) → P.length = a → a + X.length = m → m + Y.length = b → b + S.length = n → n ≤ 100000 → n ≤ c → c ≤ 100000 → 0 < X.length → 0 < Y.length →
    Om.Srt Om.near X → Om.Srt Om.near Y → CmpR B w → B ≠ g →
    Calls Try.prog 63 #[.slice (some ⟨g, 0, none⟩) n c, .int .i64 a, .int .i64 m, .int .i64 b, .func (.func 37) #[] #[.pointer (some ⟨B, 0, none⟩)]] w fun e w' =>
      e = .returned (.tuple #[]) ∧ BlkE 42 w' g (P ++ (Om.merge Om.near X Y ++ S)) ∧ But g w w'

set_option maxHeartbeats 3200000 in
set_option maxRecDepth 100000 in
theorem symCR (N B g n c a m b mid lo hi : Nat) (P X Y S : List Om.E) (w : World) (ih : SymR N) (hN : X.length + Y.length ≤ N + 1) (h : BlkE 42 w g (P ++ (X ++ (Y ++ S)))) (hP : P.length = a) (hX : a + X.length = m) (hY : m + Y.length = b) (hS : b + S.length = n) (hn : n ≤ 100000) (hnc : n ≤ c) (hc : c ≤ 100000)
    (hX1 : 1 < X.length) (hY1 : 1 < Y.length) (hsX : Om.Srt Om.near X) (hsY : Om.Srt Om.near Y) (hC : CmpR B w) (hg : B ≠ g) (hmid : ((a : Int) + (b : Int)) / 2 = (mid : Int)) (hcase : (mid < m ∧ lo + b = mid + m ∧ hi = mid) ∨ (m ≤ mid ∧ lo = a ∧ hi = m)) :
    Calls Try.prog 63 #[.slice (some ⟨g, 0, none⟩) n c, .int .i64 a, .int .i64 m, .int .i64 b, .func (.func 37) #[] #[.pointer (some ⟨B, 0, none⟩)]] w fun e w' =>
      e = .returned (.tuple #[]) ∧ BlkE 42 w' g (P ++ (Om.merge Om.near X Y ++ S)) ∧ But g w w' := by
  have H := Lib.hid h
  have HIH := Lib.hid ih
  have HN := Lib.hid hN
  have HP := Lib.hid hP
  have HX := Lib.hid hX
  have HY := Lib.hid hY
  have HS := Lib.hid hS
  have HC := Lib.hid hC
  have Hg := Lib.hid hg
  have HsX := Lib.hid hsX
  have HsY := Lib.hid hsY
  have am : a + 1 < m := by omega
  have mb : m + 1 < b := by omega
  have bn : b ≤ n := by omega
  have a0 : a < mid := by omega
  have b0 : mid < b := by omega
  have lo0 : a ≤ lo := by omega
  have lo1 : mid + m ≤ lo + b := by omega
  have hi0 : hi ≤ m := by omega
  have hi1 : hi ≤ mid := by omega
  have lohi : lo ≤ hi := by omega
  have HLO : Hid (lo = a ∨ lo + b = mid + m) := by show lo = a ∨ lo + b = mid + m; omega
  have HHI : Hid (hi = m ∨ hi = mid) := by show hi = m ∨ hi = mid; omega
  have HMID := Lib.hid hmid
  obtain ⟨pp, hpp⟩ : ∃ pp : Nat, (mid : Int) + (m : Int) - 1 = (pp : Int) := ⟨mid + m - 1, by omega⟩
  have hpp' : pp + 1 = mid + m := by omega
  have HPP := Lib.hid hpp
  have HPP' := Lib.hid hpp'
  have q1 : ((m : Int) - (a : Int) == 1) = false := by simp; omega
  have q2 : ((b : Int) - (m : Int) == 1) = false := by simp; omega
  clear h ih hN hP hX hY hS hC hg hsX hsY hX1 hY1 hpp hpp'
  obtain ⟨kb, hkb, hk2⟩ : ∃ kb : Bool, decide ((mid : Int) < (m : Int)) = kb ∧ ((mid < m ∧ kb = true ∧ lo + b = mid + m ∧ hi = mid) ∨ (¬ mid < m ∧ kb = false ∧ lo = a ∧ hi = m)) := by
    rcases hcase with ⟨k1, k2, k3⟩ | ⟨k1, k2, k3⟩
    · exact ⟨true, by simp; exact k1, .inl ⟨k1, rfl, k2, k3⟩⟩
    · exact ⟨false, by simp; exact k1, .inr ⟨by omega, rfl, k2, k3⟩⟩
  clear hcase
  rcases hk2 with ⟨k0, k1, k2, k3⟩ | ⟨k0, k1, k2, k3⟩
  all_goals
    subst k1
    have HLO2 := Lib.hid k2
    have HHI2 := Lib.hid k3
    clear k2 k3
    go_enter Try.func63, Try.ntmps63
    go_wp2
    rw [HPP.out]
    clear q1 q2 hmid
    go_loopw [20, 21] (fun I J wr => ∃ s r : Nat, I = .int .i64 (s : Int) ∧ J = .int .i64 (r : Int) ∧ lo ≤ s ∧ s ≤ r ∧ r ≤ hi ∧ (lo < s → Om.near (Y[mid - s]?.getD (0, 0)) (X[s - 1 - a]?.getD (0, 0)) = false) ∧ (r < hi → Om.near (Y[mid - 1 - r]?.getD (0, 0)) (X[r - a]?.getD (0, 0)) = true) ∧ BlkE 42 wr g (P ++ (X ++ (Y ++ S))) ∧ But g w wr) (fun I J _ => (intOf J).toNat - (intOf I).toNat)
    case atStart => exact ⟨lo, hi, congrArg (Value.int .i64) (by have := HLO2.out; omega), congrArg (Value.int .i64) (by have := HHI2.out; omega), Nat.le_refl _, lohi, Nat.le_refl _, fun h => absurd h (by omega), fun h => absurd h (by omega), H.out, But.refl _ _⟩
    case round =>
      obtain ⟨s, r, rfl, rfl, los, sr, rhi, h1, h2, hB, hb⟩ := hrel
      have H1 := Lib.hid h1
      have H2 := Lib.hid h2
      have HB := Lib.hid hB
      have Hb := Lib.hid hb
      clear h1 h2 hB hb H HLO2 HHI2
      by_cases hlt : s < r
      · obtain ⟨h, hh⟩ : ∃ h : Nat, ((s : Int) + (r : Int)) / 2 = (h : Int) := ⟨(s + r) / 2, by omega⟩
        have hs : s ≤ h := by omega
        have hr : h < r := by omega
        have HH := Lib.hid hh
        obtain ⟨d, hd⟩ : ∃ d, d + h = pp := ⟨pp - h, by have := HPP'.out; omega⟩
        obtain ⟨x, hx⟩ : ∃ x, X[h - a]? = some x := ⟨_, List.getElem?_eq_getElem (by have := HX.out; omega)⟩
        obtain ⟨y, hy⟩ : ∃ y, Y[mid - 1 - h]? = some y := ⟨_, List.getElem?_eq_getElem (by have := HY.out; omega)⟩
        have hx1 := (Om.seg_at (P := P) (X := X) (R := Y ++ S) (k := h) HP.out (by omega) (by have := HX.out; omega)).trans hx
        have hy1 := (Om.seg_at2 (P := P) (X := X) (Y := Y) (R := S) (k := d) HP.out (by have := HX.out; have := HPP'.out; omega) (by have := HY.out; omega)).trans hy
        obtain ⟨x1, x2⟩ := x
        obtain ⟨y1, y2⟩ := y
        have cx1 := HB.out.fst hx1
        have cx2 := HB.out.snd hx1
        have cy1 := HB.out.fst hy1
        have cy2 := HB.out.snd hy1
        have HXX := Lib.hid hx
        have HYY := Lib.hid hy
        have HC3 := Lib.hid (HC.out.but Hb.out Hg.out)
        have v1 : (h : Int) < (n : Int) := by omega
        have v2 : (d : Int) < (n : Int) := by have := HPP'.out; omega
        have v3 : IntKind.i64.wrap ((pp : Int) - (h : Int)) = (d : Int) := by rw [show (pp : Int) - (h : Int) = (d : Int) from by omega]; exact IntWalk.i64_in _ (by have := HPP'.out; omega)
        clear hx1 hy1 hx hy hd
        cases hf : Om.near (y1, y2) (x1, x2) with
        | true =>
          have HF := Lib.hid hf
          clear hf hh
          go_wp2
          rw [HH.out]
          go_still_tail 11, (by kernel_rfl)
          change wpList _ _ _ _ _ wr.drew
          obtain ⟨W, hW⟩ : ∃ W, W = wr.drew := ⟨_, rfl⟩
          rw [← hW]
          have HCW : Hid (CmpR B W) := by rw [hW]; exact HC3.out.drew
          have HBW : Hid (BlkE 42 W g (P ++ (X ++ (Y ++ S)))) := by rw [hW]; exact HB.out.drew
          have HbW : Hid (But g w W) := by rw [hW]; exact Hb.out.drew
          clear hW HC3 HB Hb cx1 cx2 cy1 cy2
          go_wp2_with fail
          refine (closureR_yes _ HCW.out HF.out).mono ?_
          rintro _ w1 ⟨rfl, hb1⟩
          have HB4 := Lib.hid (HBW.out.below hb1)
          have Hb4 := Lib.hid (HbW.out.below hb1)
          clear hb1 HBW HbW HCW v3
          go_wp2
          go_roundw
          case rel => exact ⟨s, h, rfl, rfl, los, by omega, by omega, H1.out, fun _ => by rw [HXX.out, HYY.out]; exact HF.out, HB4.out, Hb4.out⟩
          case measure => simp [intOf]; omega
        | false =>
          have HF := Lib.hid hf
          clear hf hh
          go_wp2
          rw [HH.out]
          go_still_tail 11, (by kernel_rfl)
          change wpList _ _ _ _ _ wr.drew
          obtain ⟨W, hW⟩ : ∃ W, W = wr.drew := ⟨_, rfl⟩
          rw [← hW]
          have HCW : Hid (CmpR B W) := by rw [hW]; exact HC3.out.drew
          have HBW : Hid (BlkE 42 W g (P ++ (X ++ (Y ++ S)))) := by rw [hW]; exact HB.out.drew
          have HbW : Hid (But g w W) := by rw [hW]; exact Hb.out.drew
          clear hW HC3 HB Hb cx1 cx2 cy1 cy2
          go_wp2_with fail
          refine (closureR_no _ HCW.out HF.out).mono ?_
          rintro _ w1 ⟨z, hz, rfl, hb1⟩
          have hz' : decide (z < 0) = false := by simp; exact hz
          have hz2 : ¬ z < 0 := by omega
          have HB4 := Lib.hid (HBW.out.below hb1)
          have Hb4 := Lib.hid (HbW.out.below hb1)
          clear hb1 HBW HbW HCW v3
          go_wp2
          go_roundw
          case rel => exact ⟨h + 1, r, congrArg (Value.int .i64) (by omega), rfl, by omega, by omega, rhi, fun _ => by rw [show mid - (h + 1) = mid - 1 - h from by omega, show h + 1 - 1 - a = h - a from by omega, HXX.out, HYY.out]; exact HF.out, H2.out, HB4.out, Hb4.out⟩
          case measure => simp [intOf]; omega
      · obtain rfl : s = r := by omega
        obtain ⟨e, he⟩ : ∃ e : Nat, (mid : Int) + (m : Int) - (s : Int) = (e : Int) := ⟨mid + m - s, by omega⟩
        have he' : e + s = mid + m := by omega
        have HEE := Lib.hid he
        obtain ⟨u, hu⟩ : ∃ u, s = a + u := ⟨s - a, by omega⟩
        obtain ⟨v, hv⟩ : ∃ v, mid = s + v := ⟨mid - s, by omega⟩
        have ev : e = m + v := by omega
        have eb : e ≤ b := by omega
        have HU := Lib.hid hu
        have HV := Lib.hid hv
        have HEV := Lib.hid ev
        have uX : u ≤ X.length := by have := HX.out; omega
        have vY : v ≤ Y.length := by have := HY.out; omega
        have HM : Hid (Om.merge Om.near (X.take u) (Y.take v) ++ Om.merge Om.near (X.drop u) (Y.drop v) = Om.merge Om.near X Y) := by
          refine Om.sym Om.near_ord HsX.out HsY.out uX vY (fun u0 v0 => ?_) (fun u0 v0 => ?_)
          · have := H1.out (by have := HLO.out; have := HY.out; omega)
            rw [show mid - s = v from by omega, show s - 1 - a = u - 1 from by omega] at this
            exact this
          · have := H2.out (by have := HHI.out; have := HX.out; omega)
            rw [show mid - 1 - s = v - 1 from by omega, show s - a = u from by omega] at this
            exact this
        have Hc := Lib.hid (HC.out.but Hb.out Hg.out)
        clear he he' hu hv ev H1 H2 sr
        rcases (show (s = m ∧ s < mid) ∨ (s = m ∧ ¬ s < mid) ∨ (s < m ∧ ¬ s < mid) ∨ (s < m ∧ s < mid ∧ a < s ∧ e < b) ∨ (s < m ∧ s < mid ∧ a < s ∧ ¬ e < b) ∨ (s < m ∧ s < mid ∧ ¬ a < s ∧ e < b) ∨ (s < m ∧ s < mid ∧ ¬ a < s ∧ ¬ e < b) from by omega) with ⟨z1, z2⟩ | ⟨z1, z2⟩ | ⟨z1, z2⟩ | ⟨z1, z2, z4, z7⟩ | ⟨z1, z2, z4, z7⟩ | ⟨z1, z2, z4, z7⟩ | ⟨z1, z2, z4, z7⟩
        · have z3 : ¬ s < m := by omega
          have z4 : a < s := by omega
          have z5 : ¬ mid < e := by have := HV.out; have := HEV.out; omega
          have ZM := Lib.hid z1
          clear z1
          have HB1 : Hid (BlkE 42 wr g (Om.T1 P X Y S u v)) := by have h := HB.out; rw [Om.t1_x (u := u) (v := v) (by have := ZM.out; have := HX.out; have := HY.out; have := HS.out; have := HU.out; have := HV.out; have := HEV.out; have := HP.out; omega)] at h; exact h
          have Hb1 := Lib.hid Hb.out
          clear HB Hb
          go_wp2_with fail
          rw [HEE.out]
          refine (HIH.out B g n c a s mid P (X.take u) (Y.take v) (X.drop u ++ (Y.drop v ++ S)) _ (by have := HN.out; simp; have := HX.out; have := HY.out; have := HS.out; have := HU.out; have := HV.out; have := HEV.out; have := HP.out; omega) HB1.out HP.out (by simp; have := HX.out; have := HY.out; have := HS.out; have := HU.out; have := HV.out; have := HEV.out; have := HP.out; omega) (by simp; have := HX.out; have := HY.out; have := HS.out; have := HU.out; have := HV.out; have := HEV.out; have := HP.out; omega) (by simp; have := HX.out; have := HY.out; have := HS.out; have := HU.out; have := HV.out; have := HEV.out; have := HP.out; omega) hn hnc hc (by simp; have := HX.out; have := HY.out; have := HS.out; have := HU.out; have := HV.out; have := HEV.out; have := HP.out; omega) (by simp; have := HX.out; have := HY.out; have := HS.out; have := HU.out; have := HV.out; have := HEV.out; have := HP.out; omega) (HsX.out.take _) (HsY.out.take _) (HC.out.but Hb1.out Hg.out) Hg.out).mono ?_
          rintro _ w2 ⟨rfl, hB2, hb2⟩
          have HB2 : Hid (BlkE 42 w2 g (Om.T2 Om.near P X Y S u v)) := hB2
          have Hb2 := Lib.hid (Hb1.out.trans hb2)
          clear hB2 hb2
          clear HB1 Hb1
          have HB3 : Hid (BlkE 42 w2 g (Om.T3 Om.near P X Y S u v)) := by have h := HB2.out; rw [Om.t3_u (f := Om.near) (by have := ZM.out; have := HX.out; have := HY.out; have := HS.out; have := HU.out; have := HV.out; have := HEV.out; have := HP.out; omega)] at h; exact h
          have Hb3 := Lib.hid Hb2.out
          have HB4 : Hid (BlkE 42 w2 g (P ++ (Om.merge Om.near X Y ++ S))) := by have h := HB3.out; rw [Om.t3_all HM.out] at h; exact h
          clear HB2 Hb2 HB3 Hc
          go_wp2
          exact bodyPost_end (results_none Try.results63 _ _ _) rfl ⟨rfl, HB4.out, Hb3.out⟩
        · try (exfalso; omega)
          all_goals
            have z3 : ¬ s < m := by omega
            have z4 : a < s := by omega
            have z5 : ¬ mid < e := by have := HV.out; have := HEV.out; omega
            have ZM := Lib.hid z1
            clear z1
            have HB1 : Hid (BlkE 42 wr g (Om.T1 P X Y S u v)) := by have h := HB.out; rw [Om.t1_x (u := u) (v := v) (by have := ZM.out; have := HX.out; have := HY.out; have := HS.out; have := HU.out; have := HV.out; have := HEV.out; have := HP.out; omega)] at h; exact h
            have Hb1 := Lib.hid Hb.out
            clear HB Hb
            have HB2 : Hid (BlkE 42 wr g (Om.T2 Om.near P X Y S u v)) := by have h := HB1.out; rw [Om.t2_v (f := Om.near) (by have := HX.out; have := HY.out; have := HS.out; have := HU.out; have := HV.out; have := HEV.out; have := HP.out; omega)] at h; exact h
            have Hb2 := Lib.hid Hb1.out
            clear HB1 Hb1
            have HB3 : Hid (BlkE 42 wr g (Om.T3 Om.near P X Y S u v)) := by have h := HB2.out; rw [Om.t3_u (f := Om.near) (by have := ZM.out; have := HX.out; have := HY.out; have := HS.out; have := HU.out; have := HV.out; have := HEV.out; have := HP.out; omega)] at h; exact h
            have Hb3 := Lib.hid Hb2.out
            have HB4 : Hid (BlkE 42 wr g (P ++ (Om.merge Om.near X Y ++ S))) := by have h := HB3.out; rw [Om.t3_all HM.out] at h; exact h
            clear HB2 Hb2 HB3 Hc
            go_wp2
            exact bodyPost_end (results_none Try.results63 _ _ _) rfl ⟨rfl, HB4.out, Hb3.out⟩
        · try (exfalso; omega)
          all_goals
            have z4 : a < s := by omega
            have z5 : mid < e := by have := HV.out; have := HEV.out; omega
            have z6 : ¬ m < e := by have := HV.out; have := HEV.out; omega
            have z7 : e < b := by have := HV.out; have := HEV.out; omega
            have HB1 : Hid (BlkE 42 wr g (Om.T1 P X Y S u v)) := by have h := HB.out; rw [Om.t1_v (u := u) (v := v) (by have := HX.out; have := HY.out; have := HS.out; have := HU.out; have := HV.out; have := HEV.out; have := HP.out; omega)] at h; exact h
            have Hb1 := Lib.hid Hb.out
            clear HB Hb
            have HB2 : Hid (BlkE 42 wr g (Om.T2 Om.near P X Y S u v)) := by have h := HB1.out; rw [Om.t2_v (f := Om.near) (by have := HX.out; have := HY.out; have := HS.out; have := HU.out; have := HV.out; have := HEV.out; have := HP.out; omega)] at h; exact h
            have Hb2 := Lib.hid Hb1.out
            clear HB1 Hb1
            go_wp2_with fail
            rw [HEE.out]
            have hB2 := HB2.out
            rw [Om.t2_as] at hB2
            refine (HIH.out B g n c mid e b (P ++ Om.merge Om.near (X.take u) (Y.take v)) (X.drop u) (Y.drop v) S _ (by have := HN.out; simp; have := HX.out; have := HY.out; have := HS.out; have := HU.out; have := HV.out; have := HEV.out; have := HP.out; omega) hB2 (by simp [Om.merge_length]; have := HX.out; have := HY.out; have := HS.out; have := HU.out; have := HV.out; have := HEV.out; have := HP.out; omega) (by simp; have := HX.out; have := HY.out; have := HS.out; have := HU.out; have := HV.out; have := HEV.out; have := HP.out; omega) (by simp; have := HX.out; have := HY.out; have := HS.out; have := HU.out; have := HV.out; have := HEV.out; have := HP.out; omega) HS.out hn hnc hc (by simp; have := HX.out; have := HY.out; have := HS.out; have := HU.out; have := HV.out; have := HEV.out; have := HP.out; omega) (by simp; have := HX.out; have := HY.out; have := HS.out; have := HU.out; have := HV.out; have := HEV.out; have := HP.out; omega) (HsX.out.drop _) (HsY.out.drop _) (HC.out.but Hb2.out Hg.out) Hg.out).mono ?_
            clear hB2
            rintro _ w3 ⟨rfl, hB3, hb3⟩
            rw [← Om.t3_as] at hB3
            have HB3 := Lib.hid hB3
            have Hb3 := Lib.hid (Hb2.out.trans hb3)
            clear hB3 hb3
            have HB4 : Hid (BlkE 42 w3 g (P ++ (Om.merge Om.near X Y ++ S))) := by have h := HB3.out; rw [Om.t3_all HM.out] at h; exact h
            clear HB2 Hb2 HB3 Hc
            go_wp2
            exact bodyPost_end (results_none Try.results63 _ _ _) rfl ⟨rfl, HB4.out, Hb3.out⟩
        · have z5 : mid < e := by have := HV.out; have := HEV.out; omega
          have z6 : m < e := by have := HV.out; have := HEV.out; omega
          go_wp2_with fail
          rw [HEE.out]
          refine (rotateR g n c s m e _ (P ++ (X ++ (Y ++ S))) (Om.T1 P X Y S u v) _ HB.out (by simp; have := HX.out; have := HY.out; have := HS.out; have := HU.out; have := HV.out; have := HEV.out; have := HP.out; omega) (Om.t1_rot (by have := HX.out; have := HY.out; have := HS.out; have := HU.out; have := HV.out; have := HEV.out; have := HP.out; omega) (by have := HX.out; have := HY.out; have := HS.out; have := HU.out; have := HV.out; have := HEV.out; have := HP.out; omega) (by have := HX.out; have := HY.out; have := HS.out; have := HU.out; have := HV.out; have := HEV.out; have := HP.out; omega) (by have := HX.out; have := HY.out; have := HS.out; have := HU.out; have := HV.out; have := HEV.out; have := HP.out; omega) uX vY) z1 z6 (by omega) hn hnc hc).mono ?_
          rintro _ w1 ⟨rfl, hB1, hb1⟩
          have HB1 := Lib.hid hB1
          have Hb1 := Lib.hid (Hb.out.trans hb1)
          clear hB1 hb1
          clear HB Hb
          go_wp2_with fail
          refine (HIH.out B g n c a s mid P (X.take u) (Y.take v) (X.drop u ++ (Y.drop v ++ S)) _ (by have := HN.out; simp; have := HX.out; have := HY.out; have := HS.out; have := HU.out; have := HV.out; have := HEV.out; have := HP.out; omega) HB1.out HP.out (by simp; have := HX.out; have := HY.out; have := HS.out; have := HU.out; have := HV.out; have := HEV.out; have := HP.out; omega) (by simp; have := HX.out; have := HY.out; have := HS.out; have := HU.out; have := HV.out; have := HEV.out; have := HP.out; omega) (by simp; have := HX.out; have := HY.out; have := HS.out; have := HU.out; have := HV.out; have := HEV.out; have := HP.out; omega) hn hnc hc (by simp; have := HX.out; have := HY.out; have := HS.out; have := HU.out; have := HV.out; have := HEV.out; have := HP.out; omega) (by simp; have := HX.out; have := HY.out; have := HS.out; have := HU.out; have := HV.out; have := HEV.out; have := HP.out; omega) (HsX.out.take _) (HsY.out.take _) (HC.out.but Hb1.out Hg.out) Hg.out).mono ?_
          rintro _ w2 ⟨rfl, hB2, hb2⟩
          have HB2 : Hid (BlkE 42 w2 g (Om.T2 Om.near P X Y S u v)) := hB2
          have Hb2 := Lib.hid (Hb1.out.trans hb2)
          clear hB2 hb2
          clear HB1 Hb1
          go_wp2_with fail
          have hB2 := HB2.out
          rw [Om.t2_as] at hB2
          refine (HIH.out B g n c mid e b (P ++ Om.merge Om.near (X.take u) (Y.take v)) (X.drop u) (Y.drop v) S _ (by have := HN.out; simp; have := HX.out; have := HY.out; have := HS.out; have := HU.out; have := HV.out; have := HEV.out; have := HP.out; omega) hB2 (by simp [Om.merge_length]; have := HX.out; have := HY.out; have := HS.out; have := HU.out; have := HV.out; have := HEV.out; have := HP.out; omega) (by simp; have := HX.out; have := HY.out; have := HS.out; have := HU.out; have := HV.out; have := HEV.out; have := HP.out; omega) (by simp; have := HX.out; have := HY.out; have := HS.out; have := HU.out; have := HV.out; have := HEV.out; have := HP.out; omega) HS.out hn hnc hc (by simp; have := HX.out; have := HY.out; have := HS.out; have := HU.out; have := HV.out; have := HEV.out; have := HP.out; omega) (by simp; have := HX.out; have := HY.out; have := HS.out; have := HU.out; have := HV.out; have := HEV.out; have := HP.out; omega) (HsX.out.drop _) (HsY.out.drop _) (HC.out.but Hb2.out Hg.out) Hg.out).mono ?_
          clear hB2
          rintro _ w3 ⟨rfl, hB3, hb3⟩
          rw [← Om.t3_as] at hB3
          have HB3 := Lib.hid hB3
          have Hb3 := Lib.hid (Hb2.out.trans hb3)
          clear hB3 hb3
          have HB4 : Hid (BlkE 42 w3 g (P ++ (Om.merge Om.near X Y ++ S))) := by have h := HB3.out; rw [Om.t3_all HM.out] at h; exact h
          clear HB2 Hb2 HB3 Hc
          go_wp2
          exact bodyPost_end (results_none Try.results63 _ _ _) rfl ⟨rfl, HB4.out, Hb3.out⟩
        · have z5 : mid < e := by have := HV.out; have := HEV.out; omega
          have z6 : m < e := by have := HV.out; have := HEV.out; omega
          go_wp2_with fail
          rw [HEE.out]
          refine (rotateR g n c s m e _ (P ++ (X ++ (Y ++ S))) (Om.T1 P X Y S u v) _ HB.out (by simp; have := HX.out; have := HY.out; have := HS.out; have := HU.out; have := HV.out; have := HEV.out; have := HP.out; omega) (Om.t1_rot (by have := HX.out; have := HY.out; have := HS.out; have := HU.out; have := HV.out; have := HEV.out; have := HP.out; omega) (by have := HX.out; have := HY.out; have := HS.out; have := HU.out; have := HV.out; have := HEV.out; have := HP.out; omega) (by have := HX.out; have := HY.out; have := HS.out; have := HU.out; have := HV.out; have := HEV.out; have := HP.out; omega) (by have := HX.out; have := HY.out; have := HS.out; have := HU.out; have := HV.out; have := HEV.out; have := HP.out; omega) uX vY) z1 z6 (by omega) hn hnc hc).mono ?_
          rintro _ w1 ⟨rfl, hB1, hb1⟩
          have HB1 := Lib.hid hB1
          have Hb1 := Lib.hid (Hb.out.trans hb1)
          clear hB1 hb1
          clear HB Hb
          go_wp2_with fail
          refine (HIH.out B g n c a s mid P (X.take u) (Y.take v) (X.drop u ++ (Y.drop v ++ S)) _ (by have := HN.out; simp; have := HX.out; have := HY.out; have := HS.out; have := HU.out; have := HV.out; have := HEV.out; have := HP.out; omega) HB1.out HP.out (by simp; have := HX.out; have := HY.out; have := HS.out; have := HU.out; have := HV.out; have := HEV.out; have := HP.out; omega) (by simp; have := HX.out; have := HY.out; have := HS.out; have := HU.out; have := HV.out; have := HEV.out; have := HP.out; omega) (by simp; have := HX.out; have := HY.out; have := HS.out; have := HU.out; have := HV.out; have := HEV.out; have := HP.out; omega) hn hnc hc (by simp; have := HX.out; have := HY.out; have := HS.out; have := HU.out; have := HV.out; have := HEV.out; have := HP.out; omega) (by simp; have := HX.out; have := HY.out; have := HS.out; have := HU.out; have := HV.out; have := HEV.out; have := HP.out; omega) (HsX.out.take _) (HsY.out.take _) (HC.out.but Hb1.out Hg.out) Hg.out).mono ?_
          rintro _ w2 ⟨rfl, hB2, hb2⟩
          have HB2 : Hid (BlkE 42 w2 g (Om.T2 Om.near P X Y S u v)) := hB2
          have Hb2 := Lib.hid (Hb1.out.trans hb2)
          clear hB2 hb2
          clear HB1 Hb1
          have HB3 : Hid (BlkE 42 w2 g (Om.T3 Om.near P X Y S u v)) := by have h := HB2.out; rw [Om.t3_v (f := Om.near) (by have := HX.out; have := HY.out; have := HS.out; have := HU.out; have := HV.out; have := HEV.out; have := HP.out; omega)] at h; exact h
          have Hb3 := Lib.hid Hb2.out
          have HB4 : Hid (BlkE 42 w2 g (P ++ (Om.merge Om.near X Y ++ S))) := by have h := HB3.out; rw [Om.t3_all HM.out] at h; exact h
          clear HB2 Hb2 HB3 Hc
          go_wp2
          exact bodyPost_end (results_none Try.results63 _ _ _) rfl ⟨rfl, HB4.out, Hb3.out⟩
        · have z5 : mid < e := by have := HV.out; have := HEV.out; omega
          have z6 : m < e := by have := HV.out; have := HEV.out; omega
          go_wp2_with fail
          rw [HEE.out]
          refine (rotateR g n c s m e _ (P ++ (X ++ (Y ++ S))) (Om.T1 P X Y S u v) _ HB.out (by simp; have := HX.out; have := HY.out; have := HS.out; have := HU.out; have := HV.out; have := HEV.out; have := HP.out; omega) (Om.t1_rot (by have := HX.out; have := HY.out; have := HS.out; have := HU.out; have := HV.out; have := HEV.out; have := HP.out; omega) (by have := HX.out; have := HY.out; have := HS.out; have := HU.out; have := HV.out; have := HEV.out; have := HP.out; omega) (by have := HX.out; have := HY.out; have := HS.out; have := HU.out; have := HV.out; have := HEV.out; have := HP.out; omega) (by have := HX.out; have := HY.out; have := HS.out; have := HU.out; have := HV.out; have := HEV.out; have := HP.out; omega) uX vY) z1 z6 (by omega) hn hnc hc).mono ?_
          rintro _ w1 ⟨rfl, hB1, hb1⟩
          have HB1 := Lib.hid hB1
          have Hb1 := Lib.hid (Hb.out.trans hb1)
          clear hB1 hb1
          clear HB Hb
          have HB2 : Hid (BlkE 42 w1 g (Om.T2 Om.near P X Y S u v)) := by have h := HB1.out; rw [Om.t2_u (f := Om.near) (by have := HX.out; have := HY.out; have := HS.out; have := HU.out; have := HV.out; have := HEV.out; have := HP.out; omega)] at h; exact h
          have Hb2 := Lib.hid Hb1.out
          clear HB1 Hb1
          go_wp2_with fail
          have hB2 := HB2.out
          rw [Om.t2_as] at hB2
          refine (HIH.out B g n c mid e b (P ++ Om.merge Om.near (X.take u) (Y.take v)) (X.drop u) (Y.drop v) S _ (by have := HN.out; simp; have := HX.out; have := HY.out; have := HS.out; have := HU.out; have := HV.out; have := HEV.out; have := HP.out; omega) hB2 (by simp [Om.merge_length]; have := HX.out; have := HY.out; have := HS.out; have := HU.out; have := HV.out; have := HEV.out; have := HP.out; omega) (by simp; have := HX.out; have := HY.out; have := HS.out; have := HU.out; have := HV.out; have := HEV.out; have := HP.out; omega) (by simp; have := HX.out; have := HY.out; have := HS.out; have := HU.out; have := HV.out; have := HEV.out; have := HP.out; omega) HS.out hn hnc hc (by simp; have := HX.out; have := HY.out; have := HS.out; have := HU.out; have := HV.out; have := HEV.out; have := HP.out; omega) (by simp; have := HX.out; have := HY.out; have := HS.out; have := HU.out; have := HV.out; have := HEV.out; have := HP.out; omega) (HsX.out.drop _) (HsY.out.drop _) (HC.out.but Hb2.out Hg.out) Hg.out).mono ?_
          clear hB2
          rintro _ w3 ⟨rfl, hB3, hb3⟩
          rw [← Om.t3_as] at hB3
          have HB3 := Lib.hid hB3
          have Hb3 := Lib.hid (Hb2.out.trans hb3)
          clear hB3 hb3
          have HB4 : Hid (BlkE 42 w3 g (P ++ (Om.merge Om.near X Y ++ S))) := by have h := HB3.out; rw [Om.t3_all HM.out] at h; exact h
          clear HB2 Hb2 HB3 Hc
          go_wp2
          exact bodyPost_end (results_none Try.results63 _ _ _) rfl ⟨rfl, HB4.out, Hb3.out⟩
        · have z5 : mid < e := by have := HV.out; have := HEV.out; omega
          have z6 : m < e := by have := HV.out; have := HEV.out; omega
          go_wp2_with fail
          rw [HEE.out]
          refine (rotateR g n c s m e _ (P ++ (X ++ (Y ++ S))) (Om.T1 P X Y S u v) _ HB.out (by simp; have := HX.out; have := HY.out; have := HS.out; have := HU.out; have := HV.out; have := HEV.out; have := HP.out; omega) (Om.t1_rot (by have := HX.out; have := HY.out; have := HS.out; have := HU.out; have := HV.out; have := HEV.out; have := HP.out; omega) (by have := HX.out; have := HY.out; have := HS.out; have := HU.out; have := HV.out; have := HEV.out; have := HP.out; omega) (by have := HX.out; have := HY.out; have := HS.out; have := HU.out; have := HV.out; have := HEV.out; have := HP.out; omega) (by have := HX.out; have := HY.out; have := HS.out; have := HU.out; have := HV.out; have := HEV.out; have := HP.out; omega) uX vY) z1 z6 (by omega) hn hnc hc).mono ?_
          rintro _ w1 ⟨rfl, hB1, hb1⟩
          have HB1 := Lib.hid hB1
          have Hb1 := Lib.hid (Hb.out.trans hb1)
          clear hB1 hb1
          clear HB Hb
          have HB2 : Hid (BlkE 42 w1 g (Om.T2 Om.near P X Y S u v)) := by have h := HB1.out; rw [Om.t2_u (f := Om.near) (by have := HX.out; have := HY.out; have := HS.out; have := HU.out; have := HV.out; have := HEV.out; have := HP.out; omega)] at h; exact h
          have Hb2 := Lib.hid Hb1.out
          clear HB1 Hb1
          have HB3 : Hid (BlkE 42 w1 g (Om.T3 Om.near P X Y S u v)) := by have h := HB2.out; rw [Om.t3_v (f := Om.near) (by have := HX.out; have := HY.out; have := HS.out; have := HU.out; have := HV.out; have := HEV.out; have := HP.out; omega)] at h; exact h
          have Hb3 := Lib.hid Hb2.out
          have HB4 : Hid (BlkE 42 w1 g (P ++ (Om.merge Om.near X Y ++ S))) := by have h := HB3.out; rw [Om.t3_all HM.out] at h; exact h
          clear HB2 Hb2 HB3 Hc
          go_wp2
          exact bodyPost_end (results_none Try.results63 _ _ _) rfl ⟨rfl, HB4.out, Hb3.out⟩

theorem symR_all : ∀ N, SymR N := by
  intro N
  induction N with
  | zero =>
    intro B g n c a m b P X Y S w hN _ _ _ _ _ _ _ _ hX _ _ _ _ _
    exact absurd hX (by omega)
  | succ N ih =>
    intro B g n c a m b P X Y S w hN h hP hX hY hS hn hnc hc hX0 hY0 hsX hsY hC hg
    by_cases c1 : X.length = 1
    · obtain ⟨x, rfl⟩ := List.length_eq_one_iff.1 c1
      exact symAR B g n c a m b P Y S x w h hP hX hY hS hn hnc hc hsY hC hg
    by_cases c2 : Y.length = 1
    · obtain ⟨y, rfl⟩ := List.length_eq_one_iff.1 c2
      exact symBR B g n c a m b P X S y w h hP hX (by omega) hY hS hn hnc hc hsX hC hg
    obtain ⟨mid, hmid⟩ : ∃ mid : Nat, ((a : Int) + (b : Int)) / 2 = (mid : Int) := ⟨(a + b) / 2, by omega⟩
    by_cases c3 : mid < m
    · exact symCR N B g n c a m b mid (mid + m - b) mid P X Y S w ih hN h hP hX hY hS hn hnc hc (by omega) (by omega) hsX hsY hC hg hmid (.inl ⟨c3, by omega, rfl⟩)
    · exact symCR N B g n c a m b mid a m P X Y S w ih hN h hP hX hY hS hn hnc hc (by omega) (by omega) hsX hsY hC hg hmid (.inr ⟨by omega, rfl, rfl⟩)
end Go.Proofs.Ytdpoieemadblnaa
