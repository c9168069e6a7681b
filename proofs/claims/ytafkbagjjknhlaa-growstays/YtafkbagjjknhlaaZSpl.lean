/-
  Layer 12 (split): Part, Halves, Good and Choose of the program, by contracts.
-/
import Derived.Test.YtafkbagjjknhlaaMC
import Derived.Test.YtafkbagjjknhlaaZChs
namespace Go.Proofs.Ytafkbagjjknhlaa
open Go.RowKit

theorem Try.sizeSplit : (Try.prog.info? 97).map (·.size) = some 5 := by kernel_rfl
section
variable {w : World} {S : Nat → Prop} {s m c : Nat} {d : Int} {L : List (List Int)} {A Ap : Option Addr} {ids lp : List Int} {np cp : Nat} {o : Int}
theorem partZ (x : It w S s d L) (hs : Sl w A m c ids) (hm : m ≤ 100000) (hv : Vec w Ap np lp) (hnp : np ≤ 10000) :
    Calls Try.prog 42 #[.pointer (some ⟨s, 0, none⟩), .slice A m c, .agg #[.slice Ap np cp, .int .i64 o]] w fun e w' => ∃ A1 c1 A2 c2,
      e = .returned (.tuple #[.slice A1 (Zm.side L lp o false ids).length c1, .slice A2 (Zm.side L lp o true ids).length c2]) ∧ Sl w' A1 (Zm.side L lp o false ids).length c1 (Zm.side L lp o false ids) ∧ Sl w' A2 (Zm.side L lp o true ids).length c2 (Zm.side L lp o true ids) ∧ Below w.heap.size w w' :=
  (partN x hs hm hv hnp).mono fun _ _ ⟨A1, c1, A2, c2, h1, h2, h3, _, _, h6⟩ => ⟨A1, c1, A2, c2, h1, h2, h3, h6⟩
theorem halvesZ (hs : Sl w A m c ids) (hm : m ≤ 100000) :
    Calls Try.prog 44 #[.slice A m c] w fun e w' => ∃ A1 c1 A2 c2, e = .returned (.tuple #[.slice A1 (Zm.half ids) c1, .slice A2 (m - Zm.half ids) c2]) ∧ Sl w' A1 (Zm.half ids) c1 (ids.take (Zm.half ids)) ∧ Sl w' A2 (m - Zm.half ids) c2 (ids.drop (Zm.half ids)) ∧ Below w.heap.size w w' :=
  (halvesN hs hm).mono fun _ _ ⟨A1, c1, A2, c2, h1, h2, h3, _, _, h6⟩ => ⟨A1, c1, A2, c2, h1, h2, h3, h6⟩
set_option maxHeartbeats 3200000 in
set_option maxRecDepth 100000 in
theorem chooseZ {T lo hi b N : Nat} {f : Nat → Int} (x : It w S s d L) (hs : Sl w A m c ids) (hS : ∀ k, S k → k < lo ∨ hi ≤ k) (ho : Out lo hi m A) (hr : Src T w lo hi b f N) (hm : m ≤ 100000) (hN : N < 900000) :
    Calls Try.prog 38 #[.pointer (some ⟨s, 0, none⟩), .slice A m c, .iface T (.pointer (some ⟨b, 0, none⟩))] w fun e w' => ∃ Ap np cp A1 c1 A3 c3,
      e = .returned (.agg #[.slice Ap np cp, .int .i64 (Zm.poOf L ids (refP f m) (refQ f m)), .slice A1 (Zm.lfOf L ids (refP f m) (refQ f m)).length c1, .slice A3 (Zm.rgOf L ids (refP f m) (refQ f m)).length c3, .int .i64 (Zm.tries L ids (refP f m) (refQ f m) : Nat)]) ∧
      Vec w' Ap np (Zm.pnOf L ids (refP f m) (refQ f m) d.toNat) ∧ np ≤ 10000 ∧ Sl w' A1 (Zm.lfOf L ids (refP f m) (refQ f m)).length c1 (Zm.lfOf L ids (refP f m) (refQ f m)) ∧ Sl w' A3 (Zm.rgOf L ids (refP f m) (refQ f m)).length c3 (Zm.rgOf L ids (refP f m) (refQ f m)) ∧
      Src T w' lo hi b (Rm.dr f (2 * Zm.tries L ids (refP f m) (refQ f m))) (N + 2 * Zm.tries L ids (refP f m) (refQ f m)) ∧ Btw lo hi w w' ∧ New w.heap.size Ap ∧ Oft w.heap.size m A (Zm.lfOf L ids (refP f m) (refQ f m)).length A1 ∧ Oft w.heap.size m A (Zm.rgOf L ids (refP f m) (refQ f m)).length A3 := by
  obtain ⟨P, hP⟩ : ∃ P, P = refP f m := ⟨_, rfl⟩
  obtain ⟨Q, hQ⟩ : ∃ Q, Q = refQ f m := ⟨_, rfl⟩
  rw [← hP, ← hQ]
  obtain ⟨W, hW⟩ : ∃ W, W = w.alloc (.cells zero5 97) := ⟨_, rfl⟩
  have hb : Below w.heap.size w W := by rw [hW]; exact (Below.refl _ w).alloc (Nat.le_refl _) _
  have hws : w.heap.size < W.heap.size := by rw [hW]; simp
  have hhi := hr.size
  have ZR : Hid (W.heap[w.heap.size]? = some (.cells zero5 97 (0, 0))) := by rw [hW]; exact heap_new _ _ _
  have HI := Lib.hid (x.below hb)
  have HS := Lib.hid (hs.below hb)
  have HR := Lib.hid (hr.below hb)
  have HSS := Lib.hid hS
  have HO := Lib.hid ho
  have HB := Lib.hid hb
  have HW := Lib.hid hW
  have HLEN := Lib.hid hs.length
  have HPP := Lib.hid hP
  have HQQ := Lib.hid hQ
  have HDIM := Lib.hid x.dim
  clear x hs hr hb hW hP hQ hS ho
  go_enter Try.func38, Try.ntmps38
  go_wp2
  rw [← HW.out]
  clear HW
  go_loopw [7] (fun V7 wr => ∃ t : Nat, t ≤ 4 ∧ V7 = .int .i64 t ∧ (m < 2 → t = 0) ∧ (∀ s, s < t → Zm.ok L ids P Q s = false) ∧ Src T wr lo hi b (Rm.dr f (2 * t)) (N + 2 * t) ∧ Btw lo hi W wr) (fun V7 _ => 4 - (intOf V7).toNat)
  case atStart => exact ⟨0, by omega, rfl, fun _ => rfl, fun s hs => absurd hs (by omega), HR.out, Btw.refl _ _ _⟩
  case round =>
    obtain ⟨t, ht, rfl, hz, hbad, hr, hbt⟩ := hrel
    have HZ := Lib.hid hz
    have HBAD := Lib.hid hbad
    have HRR := Lib.hid hr
    have HBT := Lib.hid hbt
    have hsz := hbt.size
    have IR := Lib.hid (HI.out.btw HSS.out hbt)
    have SR := Lib.hid (HS.out.btw HO.out hbt)
    clear hz hbad hr hbt
    by_cases hgo : 2 ≤ m ∧ t < 4
    · obtain ⟨h2, ht4⟩ := hgo
      obtain ⟨p0, p1, q0, q1, -⟩ := Rm.pair_ok (Rm.dr f (2 * t)) (m : Int) (by omega)
      obtain ⟨i, hi'⟩ : ∃ i : Nat, Rm.fst (Rm.dr f (2 * t)) (m : Int) = (i : Int) := ⟨(Rm.fst (Rm.dr f (2 * t)) (m : Int)).toNat, by omega⟩
      obtain ⟨k, hk'⟩ : ∃ k : Nat, Rm.snd (Rm.dr f (2 * t)) (m : Int) = (k : Int) := ⟨(Rm.snd (Rm.dr f (2 * t)) (m : Int)).toNat, by omega⟩
      have FB0 := betweenZ IR.out SR.out HSS.out HO.out HRR.out h2 hm (by omega) hi' hk' (by omega) (by omega)
      have HPN : Hid (Vm.less (Zm.item L (ids.getD i 0)) (Zm.item L (ids.getD k 0)) = Zm.pn L ids P Q t) := Lib.hid (by
        unfold Zm.pn Zm.at_; rw [HPP.out, HQQ.out]; unfold refP refQ; rw [hi', hk', Int.toNat_natCast, Int.toNat_natCast])
      have HPO : Hid (Pm.off (Zm.item L (ids.getD i 0)) (Zm.item L (ids.getD k 0)) = Zm.po L ids P Q t) := Lib.hid (by
        unfold Zm.po Zm.at_; rw [HPP.out, HQQ.out]; unfold refP refQ; rw [hi', hk', Int.toNat_natCast, Int.toNat_natCast])
      obtain ⟨PN, hPN⟩ : ∃ PN, PN = Zm.pn L ids P Q t := ⟨_, rfl⟩
      obtain ⟨PO, hPO⟩ : ∃ PO, PO = Zm.po L ids P Q t := ⟨_, rfl⟩
      rw [HPN.out, HPO.out, Rm.dr_dr, ← hPN, ← hPO] at FB0
      have FB := Lib.hid FB0
      have HPNv := Lib.hid hPN
      have HPOv := Lib.hid hPO
      clear FB0 hi' hk' p0 p1 q0 q1 hPN hPO HPN HPO
      go_wp2_with fail
      refine FB.out.mono ?_
      rintro _ w1 ⟨g, n, rfl, hv, hn, hg, hr1, hb1⟩
      have s1 := hb1.size
      obtain ⟨W1, hW1⟩ : ∃ W1, W1 = w1.alloc (.cells #[.slice (some ⟨g, 0, none⟩) n n, .int .i64 PO] 57) := ⟨_, rfl⟩
      have hbw : Below w1.heap.size w1 W1 := by rw [hW1]; exact (Below.refl _ w1).alloc (Nat.le_refl _) _
      have hp : Pbx W1 w1.heap.size (some ⟨g, 0, none⟩) n n PO := by rw [hW1]; exact Pbx.new w1 _ _ _ _
      have HR1 := Lib.hid (hr1.below hbw)
      have HB1 := Lib.hid ((HBT.out.trans hb1).trans (Btw.of_below hbw))
      have V1 := Lib.hid (hv.below hbw)
      have I1 := Lib.hid ((IR.out.btw HSS.out hb1).below hbw)
      have S1 := Lib.hid ((SR.out.btw HO.out hb1).below hbw)
      have sw := hbw.size
      have k0 := hp.c0
      have k1 := hp.c1
      have HP1 := Lib.hid hp
      have HW1 := Lib.hid hW1
      clear hv hr1 hb1 hbw hp hW1 FB IR SR
      obtain ⟨LF, hLF⟩ : ∃ LF, LF = Zm.lf L ids P Q t := ⟨_, rfl⟩
      obtain ⟨RG, hRG⟩ : ∃ RG, RG = Zm.rg L ids P Q t := ⟨_, rfl⟩
      have hboth : LF.length + RG.length = m := by rw [hLF, hRG, ← HLEN.out]; exact Zm.side_both _ _ _ _
      have FT0 := partN (cp := n) (o := PO) I1.out S1.out hm V1.out hn
      rw [show Zm.side L PN PO false ids = LF from by rw [hLF]; unfold Zm.lf; rw [HPNv.out, HPOv.out], show Zm.side L PN PO true ids = RG from by rw [hRG]; unfold Zm.rg; rw [HPNv.out, HPOv.out]] at FT0
      have FT := Lib.hid FT0
      have FG0 := Zm.good LF.length RG.length
      have HOK : Hid (Zm.good LF.length RG.length = Zm.ok L ids P Q t) := Lib.hid (by unfold Zm.ok; rw [← hLF, ← hRG])
      have HLF := Lib.hid hLF
      have HRG := Lib.hid hRG
      clear FT0 FG0 hLF hRG k0 k1
      go_wp2_with fail
      rw [← HW1.out]
      clear HW1
      refine FT.out.mono ?_
      rintro _ w2 ⟨A1, c1, A3, c3, rfl, hs1, hs3, hn1, hn3, hb2⟩
      have B2 := Lib.hid hb2
      have SL2 := Lib.hid hs1
      have SR2 := Lib.hid hs3
      have N1 := Lib.hid hn1
      have N3 := Lib.hid hn3
      have s2 := hb2.size
      clear hs1 hs3 hn1 hn3 hb2 FT
      go_wp2_with fail
      refine (goodZ (by omega) (by omega)).mono ?_
      rintro _ w3 ⟨rfl, rfl⟩
      rw [HOK.out]
      by_cases hok : Zm.ok L ids P Q t = true
      · rw [hok]
        have HPK := Lib.hid (Zm.of_some (Zm.pick_some (L := L) (p := P) (q := Q) (by rw [HLEN.out]; exact h2) ht4 hok HBAD.out) d.toNat)
        have hP2 := HP1.out.below B2.out
        have k0 := hP2.c0
        have k1 := hP2.c1
        have Z4 : w2.heap[w.heap.size]? = some (.cells zero5 97 (0, 0)) := (B2.out.block w.heap.size (by omega)).trans ((HB1.out.block w.heap.size hws (.inr hhi)).trans ZR.out)
        have z0 : w2.cell? ⟨w.heap.size, 0, none⟩ = some (.slice none 0 0) := by rw [cell_of_row _ _ _ _ _ _ Z4]; rfl
        have z1 : w2.cell? ⟨w.heap.size, 1, none⟩ = some (.int .i64 0) := by rw [cell_of_row _ _ _ _ _ _ Z4]; rfl
        have z2 : w2.cell? ⟨w.heap.size, 2, none⟩ = some (.slice none 0 0) := by rw [cell_of_row _ _ _ _ _ _ Z4]; rfl
        have z3 : w2.cell? ⟨w.heap.size, 3, none⟩ = some (.slice none 0 0) := by rw [cell_of_row _ _ _ _ _ _ Z4]; rfl
        have z4 : w2.cell? ⟨w.heap.size, 4, none⟩ = some (.int .i64 0) := by rw [cell_of_row _ _ _ _ _ _ Z4]; rfl
        have f0 := frozen_of_row w2 w.heap.size 0 _ _ Z4
        have f1 := frozen_of_row w2 w.heap.size 1 _ _ Z4
        have f2 := frozen_of_row w2 w.heap.size 2 _ _ Z4
        have f3 := frozen_of_row w2 w.heap.size 3 _ _ Z4
        have f4 := frozen_of_row w2 w.heap.size 4 _ _ Z4
        have HZ4 := Lib.hid Z4
        have HV2 := Lib.hid (V1.out.below B2.out)
        clear Z4 hP2 hok
        go_wp2
        obtain ⟨W5, hW5⟩ : ∃ W5, W5 = ((((w2.setCell ⟨w.heap.size, 0, none⟩ (.slice (some ⟨g, 0, none⟩) n n)).setCell ⟨w.heap.size, 1, none⟩ (.int .i64 PO)).setCell ⟨w.heap.size, 2, none⟩ (.slice A1 LF.length c1)).setCell ⟨w.heap.size, 3, none⟩ (.slice A3 RG.length c3)).setCell ⟨w.heap.size, 4, none⟩ (.int .i64 ((t : Int) + 1)) := ⟨_, rfl⟩
        rw [← hW5]
        have hrow : W5.heap[w.heap.size]? = some (.cells #[.slice (some ⟨g, 0, none⟩) n n, .int .i64 PO, .slice A1 LF.length c1, .slice A3 RG.length c3, .int .i64 ((t : Int) + 1)] 97 (0, 0)) := by rw [hW5]; exact put5 HZ4.out _ _ _ _ _
        have hk5 : ∀ k, k ≠ w.heap.size → W5.heap[k]? = w2.heap[k]? := fun k hk => by rw [hW5]; exact keep5 _ _ _ _ _ k hk
        have hs5 : W5.heap.size = w2.heap.size := by rw [hW5, size5]
        have hv5 : Vec W5 (some ⟨g, 0, none⟩) n PN := by rw [hW5]; exact HV2.out.off5 HZ4.out _ _ _ _ _
        have bt5 : Btw lo hi w W5 := by
          have h1 : Btw lo hi w w2 := (Btw.of_below HB.out).trans (HB1.out.trans (Btw.of_below B2.out))
          exact ⟨by rw [hW5]; exact h1.os, by rw [hW5]; exact h1.tape, by rw [hW5]; exact h1.output, by rw [hs5]; exact h1.size, fun k hk hg => (hk5 k (by omega)).trans (h1.block k hk hg)⟩
        have rf5 : Src T W5 lo hi b (Rm.dr f (2 * t + 2)) (N + 2 * t + 2) := (HR1.out.below B2.out).keep (by rw [hs5]; exact Nat.le_refl _) fun k _ hk => hk5 k (by omega)
        have sl5 : Sl W5 A1 LF.length c1 LF := SL2.out.off (q := w.heap.size) (N1.out.ne (by omega)) hs5 hk5
        have sr5 : Sl W5 A3 RG.length c3 RG := SR2.out.off (q := w.heap.size) (N3.out.ne (by omega)) hs5 hk5
        have hnp : New w.heap.size (some ⟨g, 0, none⟩) := fun b off s e => by injection e with e; injection e with e1; omega
        have hn1 : Oft w.heap.size m A LF.length A1 := (N1.out.mono (by omega)).off
        have hn3 : Oft w.heap.size m A RG.length A3 := (N3.out.mono (by omega)).off
        refine bodyPost_ret (v := .agg #[.slice (some ⟨g, 0, none⟩) n n, .int .i64 PO, .slice A1 LF.length c1, .slice A3 RG.length c3, .int .i64 ((t : Int) + 1)]) (results_cell_row (p := 6) Try.results38 _ _ w.heap.size 97 _ (0, 0) _ rfl hrow Try.underlying97 rfl Try.sizeSplit) rfl ?_
        obtain ⟨o1, o2, o3, o4, o5⟩ := HPK.out
        rw [o1, o2, o3, o4, o5, ← HPNv.out, ← HPOv.out, ← HLF.out, ← HRG.out]
        exact ⟨_, n, n, A1, c1, A3, c3, rfl, hv5, hn, sl5, sr5, rf5, bt5, hnp, hn1, hn3⟩
      · have hok2 : Zm.ok L ids P Q t = false := by simpa using hok
        rw [hok2]
        have HBAD2 : Hid (∀ s, s < t + 1 → Zm.ok L ids P Q s = false) := Lib.hid fun s hs => by
          rcases (show s < t ∨ s = t from by omega) with h | rfl
          · exact HBAD.out s h
          · exact hok2
        have BT3 := Lib.hid (HB1.out.trans (Btw.of_below B2.out))
        have RF3 := Lib.hid (HR1.out.below B2.out)
        clear hok hok2 HBAD
        go_wp2
        exact ⟨⟨t + 1, by omega, by go_num, by omega, HBAD2.out, RF3.out, BT3.out⟩, by simp [intOf]; omega⟩
    · have HHF : Hid (Zm.half ids ≤ m) := Lib.hid (by unfold Zm.half; rw [HLEN.out]; omega)
      have hcase : (m < 2 ∧ t = 0) ∨ (2 ≤ m ∧ t = 4) := by have := HZ.out; omega
      have HPK : Hid (Zm.pick L ids P Q = none) := Lib.hid (Zm.pick_none (by
        rcases hcase with ⟨g, rfl⟩ | ⟨g, rfl⟩
        · left; rw [HLEN.out]; exact g
        · right; exact HBAD.out))
      have hbit : Hid (Zm.tries L ids P Q = t) := Lib.hid (by
        obtain ⟨-, -, -, -, o5⟩ := Zm.of_none HPK.out 0
        rw [o5, HLEN.out]
        rcases hcase with ⟨g, rfl⟩ | ⟨g, rfl⟩
        · rw [if_pos g]
        · rw [if_neg (by omega)])
      obtain ⟨H, hH⟩ : ∃ H, H = Zm.half ids := ⟨_, rfl⟩
      have FH0 := halvesN SR.out hm
      rw [← hH] at FH0
      have FH := Lib.hid FH0
      have HH := Lib.hid hH
      clear FH0 hH
      have hgo2 : decide ((1 : Int) < (m : Int)) = true → decide ((t : Int) < 4) = false := by simp; omega
      go_wp2_with fail
      all_goals
        refine FH.out.mono ?_
        rintro _ w2 ⟨A1, c1, A3, c3, rfl, hs1, hs3, hn1, hn3, hb2⟩
        have B2 := Lib.hid hb2
        have SL2 := Lib.hid hs1
        have SR2 := Lib.hid hs3
        have N1 := Lib.hid hn1
        have N3 := Lib.hid hn3
        have s2 := hb2.size
        have FD := Lib.hid (dimD (IR.out.below hb2))
        clear hs1 hs3 hn1 hn3 hb2 FH hcase hgo2 hgo
        go_wp2_with fail
        refine FD.out.mono ?_
        rintro _ _ ⟨rfl, rfl⟩
        clear FD
        go_wp2_with fail
        refine (flat_any d.toNat d w2 (by have := HDIM.out; omega) (by have := HDIM.out; rw [if_neg (by omega)]; omega)).mono ?_
        rintro _ w3 ⟨g, rfl, hg, hk, hb3⟩
        have HV := Lib.hid (hk.vec (Pm.flat_length d.toNat) (Pm.flat_in d.toNat))
        have B3 := Lib.hid (B2.out.trans (hb3.mono B2.out.size))
        have SL3 := Lib.hid (SL2.out.below hb3)
        have SR3 := Lib.hid (SR2.out.below hb3)
        have s3 := hb3.size
        have Z4 : w3.heap[w.heap.size]? = some (.cells zero5 97 (0, 0)) := (B3.out.block w.heap.size (by omega)).trans ((HBT.out.block w.heap.size hws (.inr hhi)).trans ZR.out)
        have z0 : w3.cell? ⟨w.heap.size, 0, none⟩ = some (.slice none 0 0) := by rw [cell_of_row _ _ _ _ _ _ Z4]; rfl
        have z1 : w3.cell? ⟨w.heap.size, 1, none⟩ = some (.int .i64 0) := by rw [cell_of_row _ _ _ _ _ _ Z4]; rfl
        have z2 : w3.cell? ⟨w.heap.size, 2, none⟩ = some (.slice none 0 0) := by rw [cell_of_row _ _ _ _ _ _ Z4]; rfl
        have z3 : w3.cell? ⟨w.heap.size, 3, none⟩ = some (.slice none 0 0) := by rw [cell_of_row _ _ _ _ _ _ Z4]; rfl
        have z4 : w3.cell? ⟨w.heap.size, 4, none⟩ = some (.int .i64 0) := by rw [cell_of_row _ _ _ _ _ _ Z4]; rfl
        have f0 := frozen_of_row w3 w.heap.size 0 _ _ Z4
        have f1 := frozen_of_row w3 w.heap.size 1 _ _ Z4
        have f2 := frozen_of_row w3 w.heap.size 2 _ _ Z4
        have f3 := frozen_of_row w3 w.heap.size 3 _ _ Z4
        have f4 := frozen_of_row w3 w.heap.size 4 _ _ Z4
        have HZ4 := Lib.hid Z4
        obtain ⟨D, hD⟩ : ∃ D, D = d.toNat := ⟨_, rfl⟩
        have hDl : D ≤ 1024 := by have := HDIM.out; omega
        rw [← hD] at HV
        rw [← hD]
        have HDD := Lib.hid hD
        clear Z4 hk hb3 hD
        go_wp2
        obtain ⟨W5, hW5⟩ : ∃ W5, W5 = ((((w3.setCell ⟨w.heap.size, 0, none⟩ (.slice (some ⟨g, 0, none⟩) D D)).setCell ⟨w.heap.size, 1, none⟩ (.int .i64 0)).setCell ⟨w.heap.size, 2, none⟩ (.slice A1 H c1)).setCell ⟨w.heap.size, 3, none⟩ (.slice A3 (m - H) c3)).setCell ⟨w.heap.size, 4, none⟩ (.int .i64 (t : Int)) := ⟨_, rfl⟩
        rw [← hW5]
        have hrow : W5.heap[w.heap.size]? = some (.cells #[.slice (some ⟨g, 0, none⟩) D D, .int .i64 0, .slice A1 H c1, .slice A3 (m - H) c3, .int .i64 (t : Int)] 97 (0, 0)) := by rw [hW5]; exact put5 HZ4.out _ _ _ _ _
        have hk5 : ∀ k, k ≠ w.heap.size → W5.heap[k]? = w3.heap[k]? := fun k hk => by rw [hW5]; exact keep5 _ _ _ _ _ k hk
        have hs5 : W5.heap.size = w3.heap.size := by rw [hW5, size5]
        have hv5 : Vec W5 (some ⟨g, 0, none⟩) D (Pm.flat D) := by rw [hW5]; exact HV.out.off5 HZ4.out _ _ _ _ _
        have bt5 : Btw lo hi w W5 := by
          have h1 : Btw lo hi w w3 := (Btw.of_below HB.out).trans (HBT.out.trans (Btw.of_below B3.out))
          exact ⟨by rw [hW5]; exact h1.os, by rw [hW5]; exact h1.tape, by rw [hW5]; exact h1.output, by rw [hs5]; exact h1.size, fun k hk hg => (hk5 k (by omega)).trans (h1.block k hk hg)⟩
        have rf5 : Src T W5 lo hi b (Rm.dr f (2 * t)) (N + 2 * t) := (HRR.out.below B3.out).keep (by rw [hs5]; exact Nat.le_refl _) fun k _ hk => hk5 k (by omega)
        have sl5 : Sl W5 A1 H c1 (ids.take H) := SL3.out.off (q := w.heap.size) (N1.out.ne (by omega)) hs5 hk5
        have sr5 : Sl W5 A3 (m - H) c3 (ids.drop H) := SR3.out.off (q := w.heap.size) (N3.out.ne (by omega)) hs5 hk5
        have hnp : New w.heap.size (some ⟨g, 0, none⟩) := fun b off s e => by injection e with e; injection e with e1; omega
        have hn1 : Oft w.heap.size m A H A1 := (N1.out.mono (by omega)).off
        have hn3 : Oft w.heap.size m A (m - H) A3 := (N3.out.mono (by omega)).off
        refine bodyPost_ret (v := .agg #[.slice (some ⟨g, 0, none⟩) D D, .int .i64 0, .slice A1 H c1, .slice A3 (m - H) c3, .int .i64 (t : Int)]) (results_cell_row (p := 6) Try.results38 _ _ w.heap.size 97 _ (0, 0) _ rfl hrow Try.underlying97 rfl Try.sizeSplit) rfl ?_
        obtain ⟨o1, o2, o3, o4, -⟩ := Zm.of_none HPK.out d.toNat
        have hla : (ids.take H).length = H := sl5.length
        have hlb : (ids.drop H).length = m - H := sr5.length
        rw [o1, o2, o3, o4, hbit.out, ← HH.out, hla, hlb, ← HDD.out]
        exact ⟨_, D, D, A1, c1, A3, c3, rfl, hv5, by omega, sl5, sr5, rf5, bt5, hnp, hn1, hn3⟩
end
end Go.Proofs.Ytafkbagjjknhlaa
