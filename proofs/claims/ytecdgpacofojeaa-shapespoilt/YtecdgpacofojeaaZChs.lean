/-
  Layer 12 (split): the document's own choice, by a contract.
-/
import Derived.Test.YtecdgpacofojeaaZRef
import Derived.Deep.DeepCutAuto
namespace Go.Proofs.Ytecdgpacofojeaa
open Go.RowKit

theorem lst_from {W : World} {A AS : Option Addr} {n c t : Nat} {l : List Int} (h : Sl W A n c l) (ht : t ≤ n) (hA : (if c = t then A else Option.map (fun x => x.add t) A) = AS) : Sl W AS (n - t) (c - t) (l.drop t) := by
  have hl := h.length
  have hc := h.cap
  subst hA
  refine ⟨?_, by omega, ?_⟩
  · rcases Nat.eq_zero_or_pos (n - t) with h0 | h0
    · rw [h0, List.drop_eq_nil_of_le (by omega)]
      exact Lst.nil _ _ _
    · obtain ⟨b, off, e, hb, hcell⟩ := h.lst.2 (by omega)
      subst e
      have := lst_cut h.lst (k := t) (c := c) (by omega) hc
      rw [if_neg (by omega)] at this ⊢
      simpa [Addr.add_lit] using this
  · intro e
    cases hA : A with
    | none => have := h.nil hA; omega
    | some x =>
      rw [hA] at e
      split at e <;> simp at e
theorem sl_to {W : World} {A : Option Addr} {n c t : Nat} {l : List Int} (h : Sl W A n c l) (ht : t ≤ n) : Sl W A t c (l.take t) := ⟨lst_take h.lst ht, Nat.le_trans ht h.cap, h.nil⟩
/-- a split's cells in a block -/
def Spx (w : World) (g : Nat) (v : Array Value) : Prop := w.heap[g]? = some (.cells v 93 (0, 0)) ∧ v.size = 5
theorem cell_put5 (W : World) {g q : Nat} (hg : g ≠ q) (j : Nat) (u0 u1 u2 u3 u4 : Value) : (((((W.setCell ⟨q, 0, none⟩ u0).setCell ⟨q, 1, none⟩ u1).setCell ⟨q, 2, none⟩ u2).setCell ⟨q, 3, none⟩ u3).setCell ⟨q, 4, none⟩ u4).cell? ⟨g, j, none⟩ = W.cell? ⟨g, j, none⟩ :=
  World.cell?_of_block (by show _ = W.heap[g]?; rw [heap_setCell_other _ _ _ _ (by show g ≠ q; exact hg), heap_setCell_other _ _ _ _ (by show g ≠ q; exact hg), heap_setCell_other _ _ _ _ (by show g ≠ q; exact hg), heap_setCell_other _ _ _ _ (by show g ≠ q; exact hg), heap_setCell_other _ _ _ _ (by show g ≠ q; exact hg)])
/-- five cells stored into a block of five -/
theorem put5 {W : World} {q : Nat} {t : TypeId} {a b c d e : Value} (h : W.heap[q]? = some (.cells #[a, b, c, d, e] t (0, 0))) (u0 u1 u2 u3 u4 : Value) :
    (((((W.setCell ⟨q, 0, none⟩ u0).setCell ⟨q, 1, none⟩ u1).setCell ⟨q, 2, none⟩ u2).setCell ⟨q, 3, none⟩ u3).setCell ⟨q, 4, none⟩ u4).heap[q]? = some (.cells #[u0, u1, u2, u3, u4] t (0, 0)) := by
  rw [heap_setCell_same _ _ _ _ _ _ (heap_setCell_same _ _ _ _ _ _ (heap_setCell_same _ _ _ _ _ _ (heap_setCell_same _ _ _ _ _ _ (heap_setCell_same _ _ _ _ _ _ h))))]; rfl
theorem keep5 {W : World} {q : Nat} (u0 u1 u2 u3 u4 : Value) (k : Nat) (hk : k ≠ q) : (((((W.setCell ⟨q, 0, none⟩ u0).setCell ⟨q, 1, none⟩ u1).setCell ⟨q, 2, none⟩ u2).setCell ⟨q, 3, none⟩ u3).setCell ⟨q, 4, none⟩ u4).heap[k]? = W.heap[k]? := by
  rw [heap_setCell_other _ _ _ _ (by show k ≠ q; exact hk), heap_setCell_other _ _ _ _ (by show k ≠ q; exact hk), heap_setCell_other _ _ _ _ (by show k ≠ q; exact hk), heap_setCell_other _ _ _ _ (by show k ≠ q; exact hk), heap_setCell_other _ _ _ _ (by show k ≠ q; exact hk)]
theorem size5 {W : World} {q : Nat} (u0 u1 u2 u3 u4 : Value) : (((((W.setCell ⟨q, 0, none⟩ u0).setCell ⟨q, 1, none⟩ u1).setCell ⟨q, 2, none⟩ u2).setCell ⟨q, 3, none⟩ u3).setCell ⟨q, 4, none⟩ u4).heap.size = W.heap.size := by simp [World.setCell]
/-- what stands elsewhere stays: a vector and a list of numbers are never where cells of five kinds are -/
theorem Vec.off5 {W : World} {q n' : Nat} {A' : Option Addr} {l : List Int} {t : TypeId} {s0 s2 s3 : Option Addr} {n0 c0 n2 c2 n3 c3 : Nat} {i1 i4 : Int} (h : Vec W A' n' l)
    (p : W.heap[q]? = some (.cells #[.slice s0 n0 c0, .int .i64 i1, .slice s2 n2 c2, .slice s3 n3 c3, .int .i64 i4] t (0, 0))) (u0 u1 u2 u3 u4 : Value) :
    Vec (((((W.setCell ⟨q, 0, none⟩ u0).setCell ⟨q, 1, none⟩ u1).setCell ⟨q, 2, none⟩ u2).setCell ⟨q, 3, none⟩ u3).setCell ⟨q, 4, none⟩ u4) A' n' l := by
  refine ⟨⟨h.1.1, fun hn => ?_⟩, h.2⟩
  obtain ⟨b, off, e, hb, hc⟩ := h.1.2 hn
  have hlen := h.1.1
  have hne : b ≠ q := by
    rintro rfl
    have hl0 : 0 < l.length := by rw [List.length_map] at hlen; omega
    have h0 := hc 0 (.int .i32 l[0]) (by rw [List.getElem?_map, List.getElem?_eq_getElem hl0]; rfl)
    rw [cell_of_row _ _ _ _ _ _ p] at h0
    rcases (show off + 0 = 0 ∨ off + 0 = 1 ∨ off + 0 = 2 ∨ off + 0 = 3 ∨ off + 0 = 4 ∨ 5 ≤ off + 0 from by omega) with g | g | g | g | g | g
    · rw [g] at h0; cases h0
    · rw [g] at h0; simp at h0
    · rw [g] at h0; simp at h0
    · rw [g] at h0; simp at h0
    · rw [g] at h0; simp at h0
    · rw [Array.getElem?_eq_none (by simpa using g)] at h0; cases h0
  refine ⟨b, off, e, by rw [size5]; exact hb, fun j u hu => ?_⟩
  rw [cell_put5 W hne]
  exact hc j u hu
theorem Try.sizeRefSplit : (Try.prog.info? 93).map (·.size) = some 5 := by kernel_rfl
abbrev zero5 : Array Value := #[.slice none 0 0, .int .i64 0, .slice none 0 0, .slice none 0 0, .int .i64 0]
def refP (f : Nat → Int) (m : Nat) : Nat → Int := fun t => Rm.fst (Rm.dr f (2 * t)) (m : Int)
def refQ (f : Nat → Int) (m : Nat) : Nat → Int := fun t => Rm.snd (Rm.dr f (2 * t)) (m : Int)

theorem addr_block (a : Addr) (t : Nat) : (a.add t).block = a.block := by unfold Addr.add; split <;> rfl
theorem out_from {lo hi n t c : Nat} {A AS : Option Addr} (h : Out lo hi n A) (hA : (if c = t then A else Option.map (fun x => x.add t) A) = AS) : Out lo hi (n - t) AS := by
  intro hn b off s e
  subst hA
  cases A with
  | none => split at e <;> simp at e
  | some a =>
    split at e
    · exact h (by omega) b off s e
    · rw [Option.map_some] at e
      injection e with e
      have hb : a.block = b := by rw [← addr_block a t, e]
      rw [← hb]
      exact h (by omega) a.block a.off a.spot rfl

set_option maxHeartbeats 3200000 in
set_option maxRecDepth 100000 in
theorem refChoose_at (A A2 : Option Addr) (n c m c2 mm N B dd : Nat) (L : List (List Int)) (ids : List Int) (f : Nat → Int) (w0 w : World) (h : Lv w0 A n c L) (hb0 : Below w0.heap.size w0 w) (hm0 : w0.heap.size ≤ mm) (hn : n ≤ maxLen) (hL : ∀ l ∈ L, l.length ≤ 10000)
    (hs : Sl w A2 m c2 ids) (ho : Out mm (mm + 1) m A2) (hm : m ≤ 100000) (hr : Rfs w B mm f N) (hN : N < 900000) (hd : dd ≤ 1024) :
    Calls Try.prog 44 #[.slice A n c, .int .i64 (dd : Int), .slice A2 m c2, .pointer (some ⟨mm, 0, none⟩)] w fun e w' => ∃ Ap np cp A1 c1 A3 c3,
      e = .returned (.agg #[.slice Ap np cp, .int .i64 (Zm.poOf L ids (refP f m) (refQ f m)), .slice A1 (Zm.lfOf L ids (refP f m) (refQ f m)).length c1, .slice A3 (Zm.rgOf L ids (refP f m) (refQ f m)).length c3, .int .i64 (Zm.tries L ids (refP f m) (refQ f m) : Nat)]) ∧
      Vec w' Ap np (Zm.pnOf L ids (refP f m) (refQ f m) dd) ∧ np ≤ 10000 ∧ Sl w' A1 (Zm.lfOf L ids (refP f m) (refQ f m)).length c1 (Zm.lfOf L ids (refP f m) (refQ f m)) ∧ Sl w' A3 (Zm.rgOf L ids (refP f m) (refQ f m)).length c3 (Zm.rgOf L ids (refP f m) (refQ f m)) ∧
      Rfs w' B mm (Rm.dr f (2 * Zm.tries L ids (refP f m) (refQ f m))) (N + 2 * Zm.tries L ids (refP f m) (refQ f m)) ∧ Btw mm (mm + 1) w w' ∧ Out mm (mm + 1) (Zm.lfOf L ids (refP f m) (refQ f m)).length A1 ∧ Out mm (mm + 1) (Zm.rgOf L ids (refP f m) (refQ f m)).length A3 := by
  obtain ⟨P, hP⟩ : ∃ P, P = refP f m := ⟨_, rfl⟩
  obtain ⟨Q, hQ⟩ : ∃ Q, Q = refQ f m := ⟨_, rfl⟩
  rw [← hP, ← hQ]
  obtain ⟨W, hW⟩ : ∃ W, W = w.alloc (.cells zero5 93) := ⟨_, rfl⟩
  have hb : Below w.heap.size w W := by rw [hW]; exact (Below.refl _ w).alloc (Nat.le_refl _) _
  have hws : w.heap.size < W.heap.size := by rw [hW]; simp
  have hmm := hr.lt
  have ZR : Hid (W.heap[w.heap.size]? = some (.cells zero5 93 (0, 0))) := by rw [hW]; exact heap_new _ _ _
  have hsz0 := hb0.size
  have HLV := Lib.hid h
  have HB0 := Lib.hid (hb0.trans (hb.mono hb0.size))
  have HS := Lib.hid (hs.below hb)
  have HS0 := Lib.hid hs
  have hBm : B ≤ mm := by obtain ⟨_, _, _, _, _, _, _, _, _, hB, _⟩ := hr; exact hB
  have HR := Lib.hid (hr.keep (w' := W) fun k hk => hb.block k (by omega))
  have HOUT := Lib.hid ho
  have HB := Lib.hid hb
  have HW := Lib.hid hW
  have HLEN := Lib.hid hs.length
  have HLL := Lib.hid hL
  have HPP := Lib.hid hP
  have HQQ := Lib.hid hQ
  clear h hs hr hb hW hL hP hQ hb0 ho
  go_enter Try.func44, Try.ntmps44
  go_wp2
  rw [← HW.out]
  clear HW
  go_loopw [9] (fun T wr => ∃ t : Nat, t ≤ 4 ∧ T = .int .i64 t ∧ (m < 2 → t = 0) ∧ (∀ s, s < t → Zm.ok L ids P Q s = false) ∧ Rfs wr B mm (Rm.dr f (2 * t)) (N + 2 * t) ∧ Btw mm (mm + 1) W wr) (fun T _ => 4 - (intOf T).toNat)
  case atStart => exact ⟨0, by omega, rfl, fun _ => rfl, fun s hs => absurd hs (by omega), HR.out, Btw.refl _ _ _⟩
  case round =>
    obtain ⟨t, ht, rfl, hz, hbad, hr, hbt⟩ := hrel
    have HZ := Lib.hid hz
    have HBAD := Lib.hid hbad
    have HRR := Lib.hid hr
    have HBT := Lib.hid hbt
    have hsz := hbt.size
    have BL := Lib.hid (HB0.out.trans (hbt.old HB0.out.size hm0))
    have SR := Lib.hid (HS.out.btw HOUT.out hbt)
    clear hz hbad hr hbt
    by_cases hgo : 2 ≤ m ∧ t < 4
    · obtain ⟨h2, ht4⟩ := hgo
      have e2 : Rm.np (m : Int) = 2 := by unfold Rm.np; rw [if_neg (by omega)]
      obtain ⟨p0, p1, q0, q1, -⟩ := Rm.pair_ok (Rm.dr f (2 * t)) (m : Int) (by omega)
      obtain ⟨i, hi⟩ : ∃ i : Nat, Rm.fst (Rm.dr f (2 * t)) (m : Int) = (i : Int) := ⟨(Rm.fst (Rm.dr f (2 * t)) (m : Int)).toNat, by omega⟩
      obtain ⟨k, hk⟩ : ∃ k : Nat, Rm.snd (Rm.dr f (2 * t)) (m : Int) = (k : Int) := ⟨(Rm.snd (Rm.dr f (2 * t)) (m : Int)).toNat, by omega⟩
      have hpi := refPair_any HRR.out (m : Int) (by omega) (by omega)
      rw [e2, hi, hk, Rm.dr_dr] at hpi
      have FP := Lib.hid hpi
      have HI : Hid (P t = (i : Int)) := Lib.hid (by rw [HPP.out]; exact hi)
      have HK : Hid (Q t = (k : Int)) := Lib.hid (by rw [HQQ.out]; exact hk)
      have him : i < m := by omega
      have hkm : k < m := by omega
      clear hi hk hpi p0 p1 q0 q1 e2
      go_wp2_with fail
      refine FP.out.mono ?_
      rintro _ w1 ⟨rfl, hr1, hb1⟩
      have HR1 := Lib.hid hr1
      have HBT1 := Lib.hid (HBT.out.trans hb1)
      have SR1 := Lib.hid (SR.out.btw HOUT.out hb1)
      have BL1 := Lib.hid (BL.out.trans (hb1.old BL.out.size hm0))
      have LV1 := Lib.hid (HLV.out.below BL1.out)
      have hik : i < ids.length := by rw [HLEN.out]; exact him
      have hkk : k < ids.length := by rw [HLEN.out]; exact hkm
      obtain ⟨b2, off2, hA2, hb2, hc2⟩ := SR1.out.at_ (List.getElem?_eq_getElem hik)
      obtain ⟨b3, off3, hA3, hb3, hc3⟩ := SR1.out.at_ (List.getElem?_eq_getElem hkk)
      have hbb : b3 = b2 ∧ off3 = off2 := by rw [hA2] at hA3; injection hA3 with e; injection e with e1 e3; exact ⟨e1.symm, e3.symm⟩
      obtain ⟨rfl, rfl⟩ := hbb
      clear hA3 hb3
      subst hA2
      obtain ⟨x1, hx1⟩ : ∃ x, x = ids[i] := ⟨_, rfl⟩
      obtain ⟨x2, hx2⟩ : ∃ x, x = ids[k] := ⟨_, rfl⟩
      rw [← hx1] at hc2
      rw [← hx2] at hc3
      obtain ⟨Ai, ni, ci', hvi, hni, hci⟩ := item_lv LV1.out HLL.out hn x1
      obtain ⟨Ak, nk, ck', hvk, hnk, hck⟩ := item_lv LV1.out HLL.out hn x2
      have HVI := Lib.hid hvi
      have HVK := Lib.hid hvk
      have FI := Lib.hid hci
      have FK := Lib.hid hck
      have HX1 := Lib.hid hx1
      have HX2 := Lib.hid hx2
      obtain ⟨Nm, hNm⟩ : ∃ Nm, Nm = min ni nk := ⟨_, rfl⟩
      have hNl : Nm ≤ 10000 := by omega
      have HNm := Lib.hid hNm
      have HPN : Hid (Vm.less (Zm.item L x1) (Zm.item L x2) = Zm.pn L ids P Q t) := Lib.hid (by
        unfold Zm.pn Zm.at_; rw [HI.out, HK.out, List.getD_eq_getElem?_getD, List.getD_eq_getElem?_getD, Int.toNat_natCast, Int.toNat_natCast, List.getElem?_eq_getElem hik, List.getElem?_eq_getElem hkk, hx1, hx2]; rfl)
      have HPO : Hid (Pm.off (Zm.item L x1) (Zm.item L x2) = Zm.po L ids P Q t) := Lib.hid (by
        unfold Zm.po Zm.at_; rw [HI.out, HK.out, List.getD_eq_getElem?_getD, List.getD_eq_getElem?_getD, Int.toNat_natCast, Int.toNat_natCast, List.getElem?_eq_getElem hik, List.getElem?_eq_getElem hkk, hx1, hx2]; rfl)
      clear hx1 hx2 hvi hvk hci hck hr1 hNm hb1
      obtain ⟨PN, hPN⟩ : ∃ PN, PN = Zm.pn L ids P Q t := ⟨_, rfl⟩
      obtain ⟨PO, hPO⟩ : ∃ PO, PO = Zm.po L ids P Q t := ⟨_, rfl⟩
      have FB : Hid (∀ V, Below w1.heap.size w1 V → Calls Try.prog 50 #[.slice Ai ni ci', .slice Ak nk ck'] V fun e w' => ∃ Ap cp, e = .returned (.agg #[.slice Ap Nm cp, .int .i64 PO]) ∧ Vec w' Ap Nm PN ∧ Below w1.heap.size w1 w' ∧ Below V.heap.size V w') := Lib.hid fun V hb =>
        (refBetw_any Ai Ak ni nk ci' ck' _ _ V (HVI.out.below hb) (HVK.out.below hb) hni hnk).mono fun _ _ ⟨Ap, cp, h1, h2, h3⟩ => ⟨Ap, cp, by rw [h1, HNm.out, hPO, HPO.out], by rw [HNm.out, hPN, ← HPN.out]; exact h2, hb.trans (h3.mono hb.size), h3⟩
      have CL : Hid (∀ V, Below w1.heap.size w1 V → V.cell? ⟨b3, off3 + i, none⟩ = some (.int .i64 x1) ∧ V.cell? ⟨b3, off3 + k, none⟩ = some (.int .i64 x2)) := Lib.hid fun V hb =>
        ⟨(hb.cell (p := ⟨b3, off3 + i, none⟩) hb2).trans hc2, (hb.cell (p := ⟨b3, off3 + k, none⟩) hb2).trans hc3⟩
      have FI' := Lib.hid (fun V hb => (FI.out V hb))
      have G0 := Lib.hid (Below.refl w1.heap.size w1).drew
      have GA0 := Lib.hid (show Below w1.heap.size w1 (w1.alloc (.cells #[.slice none 0 0, .int .i64 0] 66)).drew from ((Below.refl w1.heap.size w1).alloc (Nat.le_refl _) _).drew)
      have b3s := hb2
      clear hb2
      have HPNv := Lib.hid hPN
      have HPOv := Lib.hid hPO
      clear hPN hPO
      go_upto_region 5 with fail
      go_cut [12] from 15 to 63 (fun x wx => ∃ Ap cp q, x = .pointer (some ⟨q, 0, none⟩) ∧ w1.heap.size ≤ q ∧ Below w1.heap.size w1 wx ∧ Pbx wx q Ap Nm cp PO ∧ Vec wx Ap Nm PN)
      case first =>
        go_region_held3 (fun V => V.cell? ⟨b3, off3 + i, none⟩ = some (.int .i64 x1) ∧ V.cell? ⟨b3, off3 + k, none⟩ = some (.int .i64 x2)) (first | go_keep | exact HSN.out _ _) (first
          | (go_at_call 51; (with_reducible refine (FI.out _ (by first | exact G0.out | exact GA0.out)).mono ?_); rintro _ Y1 ⟨rfl, rfl⟩)
          | (go_at_call 51; (with_reducible refine (FK.out _ (by first | exact G0.out | exact GA0.out)).mono ?_); rintro _ Y1 ⟨rfl, rfl⟩)
          | (go_at_call 50; (with_reducible refine (FB.out _ (by first | exact G0.out | exact GA0.out)).mono ?_); rintro _ Y2 ⟨Ap, cp, rfl, hv, hb, hb0⟩; obtain ⟨ua0, ua1⟩ := CL.out Y2 hb; have G2 := Lib.hid hb; have HV2 := Lib.hid hv; (first | (have hq0 : Pbx Y2 w1.heap.size none 0 0 0 := (show Pbx (w1.alloc (.cells #[.slice none 0 0, .int .i64 0] 66)).drew w1.heap.size none 0 0 0 from Pbx.new w1 none 0 0 0).below hb0; have q0 := hq0.c0; have q1 := hq0.c1; have f0 := frozen_of_row Y2 w1.heap.size 0 _ _ hq0; have f1 := frozen_of_row Y2 w1.heap.size 1 _ _ hq0; have HSN : Hid (∀ u0 u1, ((Y2.setCell ⟨w1.heap.size, 0, none⟩ u0).setCell ⟨w1.heap.size, 1, none⟩ u1).cell? ⟨b3, off3 + i, none⟩ = some (.int .i64 x1) ∧ ((Y2.setCell ⟨w1.heap.size, 0, none⟩ u0).setCell ⟨w1.heap.size, 1, none⟩ u1).cell? ⟨b3, off3 + k, none⟩ = some (.int .i64 x2)) := Lib.hid (fun u0 u1 => ⟨(cell_put2 Y2 (Nat.ne_of_lt b3s) _ u0 u1).trans ua0, (cell_put2 Y2 (Nat.ne_of_lt b3s) _ u0 u1).trans ua1⟩); have PQ2 := Lib.hid hq0; clear hq0) | skip); clear hv hb hb0))
        all_goals
          go_wp2_with fail
          go_meet
          first
            | exact ⟨_, _, _, rfl, G2.out.size, plane_new HV2.out G2.out G2.out.size⟩
            | exact ⟨_, _, _, rfl, Nat.le_refl _, plane_put PQ2.out HV2.out G2.out (Nat.le_refl _)⟩
      case rest =>
        obtain ⟨Ap, cp, q, rfl, hwq, hwb, hwp, hwv⟩ := hcut
        clear FB FI FK FI' G0 GA0 HVI HVK HNm HPN HPO HX1 HX2 FP
        have HSD : Hid (Zm.side L PN PO false ids = Zm.lf L ids P Q t) := Lib.hid (by unfold Zm.lf; rw [HPNv.out, HPOv.out])
        have HSE : Hid (Zm.side L PN PO true ids = Zm.rg L ids P Q t) := Lib.hid (by unfold Zm.rg; rw [HPNv.out, HPOv.out])
        have hboth : (Zm.lf L ids P Q t).length + (Zm.rg L ids P Q t).length = m := by rw [← HLEN.out]; exact Zm.side_both _ _ _ _
        obtain ⟨LF, hLF⟩ : ∃ LF, LF = Zm.lf L ids P Q t := ⟨_, rfl⟩
        obtain ⟨RG, hRG⟩ : ∃ RG, RG = Zm.rg L ids P Q t := ⟨_, rfl⟩
        rw [← hLF] at HSD
        rw [← hRG] at HSE
        rw [← hLF, ← hRG] at hboth
        have FS0 := refSide_any A (some ⟨b3, off3, none⟩) Ap n c m c2 Nm cp PO L ids PN false wc (LV1.out.below hwb) hn HLL.out (SR1.out.below hwb) hm hwv hNl
        rw [HSD.out] at FS0
        have FS := Lib.hid FS0
        have k0 := hwp.c0
        have k1 := hwp.c1
        have WB := Lib.hid hwb
        have WP := Lib.hid hwp
        have WV := Lib.hid hwv
        have HLF := Lib.hid hLF
        have HRG := Lib.hid hRG
        clear FS0 hwb hwp hwv hLF hRG hc2 hc3
        go_wp2_with fail
        refine FS.out.mono ?_
        rintro _ w3 ⟨AL, cL, rfl, hsl, hb3, hnl⟩
        have NL := Lib.hid (hnl.mono (Nat.le_trans HBT1.out.size WB.out.size))
        have SL3 := Lib.hid hsl
        have B3 := Lib.hid hb3
        have FG : Hid (∀ V, Calls Try.prog 53 #[.int .i64 (LF.length : Int), .int .i64 ((m : Int) - (LF.length : Int))] V fun e w' => e = .returned (.bool (Zm.ok L ids P Q t)) ∧ V = w') := Lib.hid fun V => by
          have := refGood_any LF.length RG.length V (by omega) (by omega)
          rw [show ((RG.length : Nat) : Int) = (m : Int) - (LF.length : Int) from by omega] at this
          rw [show Zm.ok L ids P Q t = Zm.good LF.length RG.length from by unfold Zm.ok; rw [HLF.out, HRG.out]]
          exact this
        have l0 : LF.length ≤ m := by omega
        clear k0 k1 hsl hb3 hnl FS hboth
        go_wp2_with fail
        refine (FG.out _).mono ?_
        rintro _ w4 ⟨rfl, rfl⟩
        clear FG
        by_cases hok : Zm.ok L ids P Q t = true
        · rw [hok]
          have HPK := Lib.hid (Zm.of_some (Zm.pick_some (L := L) (p := P) (q := Q) (by rw [HLEN.out]; exact h2) ht4 hok HBAD.out) dd)
          have hz : w3.heap[w.heap.size]? = some (.cells zero5 93 (0, 0)) := ((HBT1.out.trans (Btw.of_below (WB.out.trans (B3.out.mono WB.out.size)))).block w.heap.size hws (by omega)).trans ZR.out
          have FSE := refSide_any A (some ⟨b3, off3, none⟩) Ap n c m c2 Nm cp PO L ids PN true
          rw [HSE.out] at FSE
          have WV3 := Lib.hid (WV.out.below B3.out)
          have WP3 := Lib.hid (WP.out.below B3.out)
          have SR3 := Lib.hid ((SR1.out.below WB.out).below B3.out)
          have LV3 := Lib.hid ((LV1.out.below WB.out).below B3.out)
          have FS : Hid (∀ V, Below w3.heap.size w3 V → Calls Try.prog 52 #[.slice A n c, .slice (some ⟨b3, off3, none⟩) m c2, .agg #[.slice Ap Nm cp, .int .i64 PO], .bool true] V fun e w' => ∃ A' c', e = .returned (.slice A' RG.length c') ∧ Sl w' A' RG.length c' RG ∧ Below w3.heap.size w3 w' ∧ New w3.heap.size A') := Lib.hid fun V hb =>
            (FSE V (LV3.out.below hb) hn HLL.out (SR3.out.below hb) hm (WV3.out.below hb) hNl).mono fun _ _ ⟨A', c', h1, h2, h3, h4⟩ => ⟨A', c', h1, h2, hb.trans (h3.mono hb.size), h4.mono hb.size⟩
          have hqne : q ≠ w.heap.size := by have := HBT1.out.size; omega
          have CQ : Hid (∀ V, Below w3.heap.size w3 V → V.cell? ⟨q, 0, none⟩ = some (.slice Ap Nm cp) ∧ V.cell? ⟨q, 1, none⟩ = some (.int .i64 PO)) := Lib.hid fun V hb => ⟨(WP3.out.below hb).c0, (WP3.out.below hb).c1⟩
          have HZ3 := Lib.hid hz
          have hw3s : w.heap.size < w3.heap.size := lt_of_block hz
          have G0 := Lib.hid (Below.refl w3.heap.size w3).drew
          obtain ⟨k0, k1⟩ := CQ.out w3 (Below.refl _ _)
          clear FSE hz hok
          go_wp2
          go_region_held3 (fun V => V.cell? ⟨q, 0, none⟩ = some (.slice Ap Nm cp) ∧ V.cell? ⟨q, 1, none⟩ = some (.int .i64 PO)) (first | go_keep | exact HSN.out _ _ _ _ _) (first
            | (go_at_call 52; (with_reducible refine (FS.out _ G0.out).mono ?_); rintro _ Y4 ⟨AR, cR, rfl, hsr, hb4, hnr⟩; obtain ⟨ua0, ua1⟩ := CQ.out Y4 hb4; have Z4 : Y4.heap[w.heap.size]? = some (.cells zero5 93 (0, 0)) := (hb4.block w.heap.size hw3s).trans HZ3.out; have z0 : Y4.cell? ⟨w.heap.size, 0, none⟩ = some (.slice none 0 0) := by { rw [cell_of_row _ _ _ _ _ _ Z4]; rfl }; have z1 : Y4.cell? ⟨w.heap.size, 1, none⟩ = some (.int .i64 0) := by { rw [cell_of_row _ _ _ _ _ _ Z4]; rfl }; have z2 : Y4.cell? ⟨w.heap.size, 2, none⟩ = some (.slice none 0 0) := by { rw [cell_of_row _ _ _ _ _ _ Z4]; rfl }; have z3 : Y4.cell? ⟨w.heap.size, 3, none⟩ = some (.slice none 0 0) := by { rw [cell_of_row _ _ _ _ _ _ Z4]; rfl }; have z4 : Y4.cell? ⟨w.heap.size, 4, none⟩ = some (.int .i64 0) := by { rw [cell_of_row _ _ _ _ _ _ Z4]; rfl }; have f0 := frozen_of_row Y4 w.heap.size 0 _ _ Z4; have f1 := frozen_of_row Y4 w.heap.size 1 _ _ Z4; have f2 := frozen_of_row Y4 w.heap.size 2 _ _ Z4; have f3 := frozen_of_row Y4 w.heap.size 3 _ _ Z4; have f4 := frozen_of_row Y4 w.heap.size 4 _ _ Z4; have HZ4 := Lib.hid Z4; have HSN := Lib.hid (fun u0 u1 u2 u3 u4 => And.intro ((cell_put5 Y4 hqne 0 u0 u1 u2 u3 u4).trans ua0) ((cell_put5 Y4 hqne 1 u0 u1 u2 u3 u4).trans ua1)); have SR4 := Lib.hid hsr; have B4 := Lib.hid hb4; have NR := Lib.hid hnr; clear Z4 hsr hb4 hnr))
          obtain ⟨W5, hW5⟩ : ∃ W5, W5 = ((((Y4.setCell ⟨w.heap.size, 0, none⟩ (.slice Ap Nm cp)).setCell ⟨w.heap.size, 1, none⟩ (.int .i64 PO)).setCell ⟨w.heap.size, 2, none⟩ (.slice AL LF.length cL)).setCell ⟨w.heap.size, 3, none⟩ (.slice AR RG.length cR)).setCell ⟨w.heap.size, 4, none⟩ (.int .i64 ((t : Int) + 1)) := ⟨_, rfl⟩
          rw [← hW5]
          have hrow : W5.heap[w.heap.size]? = some (.cells #[.slice Ap Nm cp, .int .i64 PO, .slice AL LF.length cL, .slice AR RG.length cR, .int .i64 ((t : Int) + 1)] 93 (0, 0)) := by rw [hW5]; exact put5 HZ4.out _ _ _ _ _
          have hk5 : ∀ k, k ≠ w.heap.size → W5.heap[k]? = Y4.heap[k]? := fun k hk => by rw [hW5]; exact keep5 _ _ _ _ _ k hk
          have hs5 : W5.heap.size = Y4.heap.size := by rw [hW5, size5]
          have hv5 : Vec W5 Ap Nm PN := by rw [hW5]; exact (WV3.out.below B4.out).off5 HZ4.out _ _ _ _ _
          have hb5 : Below w.heap.size w W5 → True := fun _ => trivial
          have bt4 : Btw mm (mm + 1) W Y4 := HBT1.out.trans (Btw.of_below (WB.out.trans ((B3.out.trans (B4.out.mono B3.out.size)).mono WB.out.size)))
          have bt5 : Btw mm (mm + 1) w W5 := by
            have h1 : Btw mm (mm + 1) w Y4 := (Btw.of_below HB.out).trans bt4
            rw [hW5]
            exact ⟨h1.os, h1.tape, h1.output, by rw [size5]; exact h1.size, fun k hk hg => (keep5 _ _ _ _ _ k (by omega)).trans (h1.block k hk hg)⟩
          have rf5 : Rfs W5 B mm (Rm.dr f (2 * t + 2)) (N + 2 * t + 2) := HR1.out.keep fun k hk => (hk5 k (by have := HR1.out.lt; omega)).trans ((WB.out.trans ((B3.out.trans (B4.out.mono B3.out.size)).mono WB.out.size)).block k (by have := HR1.out.lt; omega))
          have sl5 : Sl W5 AL LF.length cL LF := ((SL3.out.below B4.out).off (q := w.heap.size) (NL.out.ne hws) hs5 hk5)
          have sr5 : Sl W5 AR RG.length cR RG := (SR4.out.off (q := w.heap.size) (NR.out.ne hw3s) hs5 hk5)
          obtain ⟨o1, o2, o3, o4, o5⟩ := HPK.out
          clear hb5
          have HROW := Lib.hid hrow
          have FIN := Lib.hid (And.intro hv5 (And.intro sl5 (And.intro sr5 (And.intro rf5 bt5))))
          have OO := Lib.hid (And.intro o1 (And.intro o2 (And.intro o3 (And.intro o4 o5))))
          clear hrow hk5 hs5 hv5 bt4 bt5 rf5 sl5 sr5 hW5 o1 o2 o3 o4 o5 ua0 ua1 z0 z1 z2 z3 z4 f0 f1 f2 f3 f4
          go_wp2
          (try simp only [Exit.inBlock, Exit.then])
          refine bodyPost_ret (v := .agg #[.slice Ap Nm cp, .int .i64 PO, .slice AL LF.length cL, .slice AR RG.length cR, .int .i64 ((t : Int) + 1)]) (results_cell_row (p := 8) Try.results44 _ _ w.heap.size 93 _ (0, 0) _ rfl HROW.out Try.underlying93 rfl Try.sizeRefSplit) rfl ?_
          obtain ⟨o1, o2, o3, o4, o5⟩ := OO.out
          obtain ⟨hv5, sl5, sr5, rf5, bt5⟩ := FIN.out
          rw [o1, o2, o3, o4, o5, ← HPNv.out, ← HPOv.out, ← HLF.out, ← HRG.out]
          exact ⟨Ap, Nm, cp, AL, cL, AR, cR, rfl, hv5, hNl, sl5, sr5, rf5, bt5, NL.out.out (by omega), NR.out.out (by omega)⟩
        · have hok2 : Zm.ok L ids P Q t = false := by simpa using hok
          rw [hok2]
          have HBAD2 : Hid (∀ s, s < t + 1 → Zm.ok L ids P Q s = false) := Lib.hid fun s hs => by
            rcases (show s < t ∨ s = t from by omega) with h | rfl
            · exact HBAD.out s h
            · exact hok2
          have BT3 := Lib.hid (HBT1.out.trans (Btw.of_below (WB.out.trans (B3.out.mono WB.out.size))))
          have RF3 := Lib.hid (HR1.out.keep (w' := w3) fun k hk => (WB.out.trans (B3.out.mono WB.out.size)).block k (by have := HR1.out.lt; obtain ⟨_, _, _, _, _, _, _, _, _, hB, _⟩ := HR1.out; omega))
          clear hok hok2 HBAD
          go_wp2
          go_roundw
          case rel => exact ⟨t + 1, by omega, by go_num, by omega, HBAD2.out, RF3.out, BT3.out⟩
          case measure => simp [intOf]; omega
    · obtain ⟨hn, hhn⟩ : ∃ hn, hn = m / 2 := ⟨_, rfl⟩
      have hq2 : (m : Int).tdiv 2 = (hn : Int) := by rw [hhn]; rfl
      have hle : hn ≤ m := by omega
      obtain ⟨H, hH⟩ : ∃ H, H = m - hn := ⟨_, rfl⟩
      have hH1 : (m : Int) - (hn : Int) = (H : Int) := by omega
      have hHm : H ≤ m := by omega
      have HHF : Hid (Zm.half ids = H) := Lib.hid (by unfold Zm.half; rw [HLEN.out, hH, hhn])
      have HHN : Hid (m - H = hn) := Lib.hid (by omega)
      have hcap := SR.out.cap
      have FF : Hid (∀ V, Below wr.heap.size wr V → Calls Try.prog 54 #[.int .i64 (dd : Int)] V fun e w' => ∃ A c, e = .returned (.agg #[.slice A dd c, .int .i64 0]) ∧ Vec w' A dd (Pm.flat dd) ∧ Below wr.heap.size wr w') := Lib.hid fun V hb =>
        (refFlat_any dd V hd).mono fun _ _ ⟨A, c, h1, h2, h3⟩ => ⟨A, c, h1, h2, hb.trans (h3.mono hb.size)⟩
      have hz : wr.heap[w.heap.size]? = some (.cells zero5 93 (0, 0)) := (HBT.out.block w.heap.size hws (by omega)).trans ZR.out
      have HZ3 := Lib.hid hz
      have hw3s : w.heap.size < wr.heap.size := lt_of_block hz
      have G0 := Lib.hid (Below.refl wr.heap.size wr).drew
      obtain ⟨AS, hAS⟩ : ∃ AS, (if c2 = H then A2 else Option.map (fun x => x.add H) A2) = AS := ⟨_, rfl⟩
      have HAS := Lib.hid hAS
      have hcase : (m < 2 ∧ t = 0) ∨ (2 ≤ m ∧ t = 4) := by have := HZ.out; omega
      clear hgo hz hhn hH
      have k4 : (0 : Int) ≤ (H : Int) := by omega
      have k5 : (H : Int) ≤ (m : Int) := by omega
      have k6 : (H : Int) ≤ (c2 : Int) := by omega
      have k7 : (m : Int) ≤ (c2 : Int) := by omega
      rcases hcase with ⟨g, rfl⟩ | ⟨g, rfl⟩
      · go_wp2
        go_region_held3 (fun _ => True) (exact trivial) (first
          | (go_at_call 54; (with_reducible refine (FF.out _ G0.out).mono ?_); rintro _ Y4 ⟨AR, cR, rfl, hsr, hb4⟩; have Z4 : Y4.heap[w.heap.size]? = some (.cells zero5 93 (0, 0)) := (hb4.block w.heap.size hw3s).trans HZ3.out; have z0 : Y4.cell? ⟨w.heap.size, 0, none⟩ = some (.slice none 0 0) := by { rw [cell_of_row _ _ _ _ _ _ Z4]; rfl }; have z1 : Y4.cell? ⟨w.heap.size, 1, none⟩ = some (.int .i64 0) := by { rw [cell_of_row _ _ _ _ _ _ Z4]; rfl }; have z2 : Y4.cell? ⟨w.heap.size, 2, none⟩ = some (.slice none 0 0) := by { rw [cell_of_row _ _ _ _ _ _ Z4]; rfl }; have z3 : Y4.cell? ⟨w.heap.size, 3, none⟩ = some (.slice none 0 0) := by { rw [cell_of_row _ _ _ _ _ _ Z4]; rfl }; have z4 : Y4.cell? ⟨w.heap.size, 4, none⟩ = some (.int .i64 0) := by { rw [cell_of_row _ _ _ _ _ _ Z4]; rfl }; have f0 := frozen_of_row Y4 w.heap.size 0 _ _ Z4; have f1 := frozen_of_row Y4 w.heap.size 1 _ _ Z4; have f2 := frozen_of_row Y4 w.heap.size 2 _ _ Z4; have f3 := frozen_of_row Y4 w.heap.size 3 _ _ Z4; have f4 := frozen_of_row Y4 w.heap.size 4 _ _ Z4; have HZ4 := Lib.hid Z4; have HVF := Lib.hid hsr; have B4 := Lib.hid hb4; clear Z4 hsr hb4))
        obtain ⟨W5, hW5⟩ : ∃ W5, W5 = ((((Y4.setCell ⟨w.heap.size, 0, none⟩ (.slice AR dd cR)).setCell ⟨w.heap.size, 1, none⟩ (.int .i64 0)).setCell ⟨w.heap.size, 2, none⟩ (.slice A2 H c2)).setCell ⟨w.heap.size, 3, none⟩ (.slice AS (m - H) (c2 - H))).setCell ⟨w.heap.size, 4, none⟩ (.int .i64 0) := ⟨_, rfl⟩
        rw [← hW5]
        have hrow : W5.heap[w.heap.size]? = some (.cells #[.slice AR dd cR, .int .i64 0, .slice A2 H c2, .slice AS (m - H) (c2 - H), .int .i64 0] 93 (0, 0)) := by rw [hW5]; exact put5 HZ4.out _ _ _ _ _
        have hv5 : Vec W5 AR dd (Pm.flat dd) := by rw [hW5]; exact HVF.out.off5 HZ4.out _ _ _ _ _
        have bt5 : Btw mm (mm + 1) w W5 := by
          have h1 : Btw mm (mm + 1) w Y4 := (Btw.of_below HB.out).trans (HBT.out.trans (Btw.of_below B4.out))
          rw [hW5]
          exact ⟨h1.os, h1.tape, h1.output, by rw [size5]; exact h1.size, fun k hk hg => (keep5 _ _ _ _ _ k (by omega)).trans (h1.block k hk hg)⟩
        have rf5 : Rfs W5 B mm (Rm.dr f (2 * 0)) (N + 2 * 0) := HRR.out.keep fun k hk => by
          rw [hW5]; exact (keep5 _ _ _ _ _ k (by have := HRR.out.lt; omega)).trans (B4.out.block k (by have := HRR.out.lt; omega))
        have sl5 := HS0.out.btw HOUT.out bt5
        have sa5 := sl_to sl5 hHm
        have sb5 := lst_from sl5 hHm HAS.out
        obtain ⟨o1, o2, o3, o4, o5⟩ := Zm.of_none (Zm.pick_none (L := L) (p := P) (q := Q) (.inl (by rw [HLEN.out]; exact g))) dd
        have o6 : Zm.tries L ids P Q = 0 := by rw [o5, HLEN.out]; simp; omega
        have HROW := Lib.hid hrow
        have FIN := Lib.hid (And.intro hv5 (And.intro sa5 (And.intro sb5 (And.intro rf5 bt5))))
        have OO := Lib.hid (And.intro o1 (And.intro o2 (And.intro o3 (And.intro o4 o6))))
        clear hrow hv5 bt5 rf5 sl5 sa5 sb5 hW5 o1 o2 o3 o4 o5 o6 z0 z1 z2 z3 z4 f0 f1 f2 f3 f4
        go_wp2
        (try simp only [Exit.inBlock, Exit.then])
        refine bodyPost_ret (v := .agg #[.slice AR dd cR, .int .i64 0, .slice A2 H c2, .slice AS (m - H) (c2 - H), .int .i64 0]) (results_cell_row (p := 8) Try.results44 _ _ w.heap.size 93 _ (0, 0) _ rfl HROW.out Try.underlying93 rfl Try.sizeRefSplit) rfl ?_
        obtain ⟨o1, o2, o3, o4, o6⟩ := OO.out
        obtain ⟨hv5, sa5, sb5, rf5, bt5⟩ := FIN.out
        have hla : (ids.take H).length = H := sa5.length
        have hlb : (ids.drop H).length = m - H := sb5.length
        rw [o1, o2, o3, o4, o6, HHF.out, hla, hlb]
        exact ⟨AR, dd, cR, A2, c2, AS, c2 - H, rfl, hv5, by omega, sa5, sb5, rf5, bt5, fun h0 => HOUT.out (by omega), out_from HOUT.out HAS.out⟩
      · go_wp2
        go_region_held3 (fun _ => True) (exact trivial) (first
          | (go_at_call 54; (with_reducible refine (FF.out _ G0.out).mono ?_); rintro _ Y4 ⟨AR, cR, rfl, hsr, hb4⟩; have Z4 : Y4.heap[w.heap.size]? = some (.cells zero5 93 (0, 0)) := (hb4.block w.heap.size hw3s).trans HZ3.out; have z0 : Y4.cell? ⟨w.heap.size, 0, none⟩ = some (.slice none 0 0) := by { rw [cell_of_row _ _ _ _ _ _ Z4]; rfl }; have z1 : Y4.cell? ⟨w.heap.size, 1, none⟩ = some (.int .i64 0) := by { rw [cell_of_row _ _ _ _ _ _ Z4]; rfl }; have z2 : Y4.cell? ⟨w.heap.size, 2, none⟩ = some (.slice none 0 0) := by { rw [cell_of_row _ _ _ _ _ _ Z4]; rfl }; have z3 : Y4.cell? ⟨w.heap.size, 3, none⟩ = some (.slice none 0 0) := by { rw [cell_of_row _ _ _ _ _ _ Z4]; rfl }; have z4 : Y4.cell? ⟨w.heap.size, 4, none⟩ = some (.int .i64 0) := by { rw [cell_of_row _ _ _ _ _ _ Z4]; rfl }; have f0 := frozen_of_row Y4 w.heap.size 0 _ _ Z4; have f1 := frozen_of_row Y4 w.heap.size 1 _ _ Z4; have f2 := frozen_of_row Y4 w.heap.size 2 _ _ Z4; have f3 := frozen_of_row Y4 w.heap.size 3 _ _ Z4; have f4 := frozen_of_row Y4 w.heap.size 4 _ _ Z4; have HZ4 := Lib.hid Z4; have HVF := Lib.hid hsr; have B4 := Lib.hid hb4; clear Z4 hsr hb4))
        obtain ⟨W5, hW5⟩ : ∃ W5, W5 = ((((Y4.setCell ⟨w.heap.size, 0, none⟩ (.slice AR dd cR)).setCell ⟨w.heap.size, 1, none⟩ (.int .i64 0)).setCell ⟨w.heap.size, 2, none⟩ (.slice A2 H c2)).setCell ⟨w.heap.size, 3, none⟩ (.slice AS (m - H) (c2 - H))).setCell ⟨w.heap.size, 4, none⟩ (.int .i64 4) := ⟨_, rfl⟩
        rw [← hW5]
        have hrow : W5.heap[w.heap.size]? = some (.cells #[.slice AR dd cR, .int .i64 0, .slice A2 H c2, .slice AS (m - H) (c2 - H), .int .i64 4] 93 (0, 0)) := by rw [hW5]; exact put5 HZ4.out _ _ _ _ _
        have hv5 : Vec W5 AR dd (Pm.flat dd) := by rw [hW5]; exact HVF.out.off5 HZ4.out _ _ _ _ _
        have bt5 : Btw mm (mm + 1) w W5 := by
          have h1 : Btw mm (mm + 1) w Y4 := (Btw.of_below HB.out).trans (HBT.out.trans (Btw.of_below B4.out))
          rw [hW5]
          exact ⟨h1.os, h1.tape, h1.output, by rw [size5]; exact h1.size, fun k hk hg => (keep5 _ _ _ _ _ k (by omega)).trans (h1.block k hk hg)⟩
        have rf5 : Rfs W5 B mm (Rm.dr f (2 * 4)) (N + 2 * 4) := HRR.out.keep fun k hk => by
          rw [hW5]; exact (keep5 _ _ _ _ _ k (by have := HRR.out.lt; omega)).trans (B4.out.block k (by have := HRR.out.lt; omega))
        have sl5 := HS0.out.btw HOUT.out bt5
        have sa5 := sl_to sl5 hHm
        have sb5 := lst_from sl5 hHm HAS.out
        obtain ⟨o1, o2, o3, o4, o5⟩ := Zm.of_none (Zm.pick_none (L := L) (p := P) (q := Q) (.inr HBAD.out)) dd
        have o6 : Zm.tries L ids P Q = 4 := by rw [o5, HLEN.out]; simp; omega
        have HROW := Lib.hid hrow
        have FIN := Lib.hid (And.intro hv5 (And.intro sa5 (And.intro sb5 (And.intro rf5 bt5))))
        have OO := Lib.hid (And.intro o1 (And.intro o2 (And.intro o3 (And.intro o4 o6))))
        clear hrow hv5 bt5 rf5 sl5 sa5 sb5 hW5 o1 o2 o3 o4 o5 o6 z0 z1 z2 z3 z4 f0 f1 f2 f3 f4
        go_wp2
        (try simp only [Exit.inBlock, Exit.then])
        refine bodyPost_ret (v := .agg #[.slice AR dd cR, .int .i64 0, .slice A2 H c2, .slice AS (m - H) (c2 - H), .int .i64 4]) (results_cell_row (p := 8) Try.results44 _ _ w.heap.size 93 _ (0, 0) _ rfl HROW.out Try.underlying93 rfl Try.sizeRefSplit) rfl ?_
        obtain ⟨o1, o2, o3, o4, o6⟩ := OO.out
        obtain ⟨hv5, sa5, sb5, rf5, bt5⟩ := FIN.out
        have hla : (ids.take H).length = H := sa5.length
        have hlb : (ids.drop H).length = m - H := sb5.length
        rw [o1, o2, o3, o4, o6, HHF.out, hla, hlb]
        exact ⟨AR, dd, cR, A2, c2, AS, c2 - H, rfl, hv5, by omega, sa5, sb5, rf5, bt5, fun h0 => HOUT.out (by omega), out_from HOUT.out HAS.out⟩
theorem refChoose_any (A A2 : Option Addr) (n c m c2 mm N B dd : Nat) (L : List (List Int)) (ids : List Int) (f : Nat → Int) (w0 w : World) (h : Lv w0 A n c L) (hb0 : Below w0.heap.size w0 w) (hm0 : w0.heap.size ≤ mm) (hn : n ≤ maxLen) (hL : ∀ l ∈ L, l.length ≤ 10000)
    (hs : Sl w A2 m c2 ids) (ho : Out mm (mm + 1) m A2) (hm : m ≤ 100000) (hr : Rfs w B mm f N) (hN : N < 900000) (hd : dd ≤ 1024) :
    Calls Try.prog 44 #[.slice A n c, .int .i64 (dd : Int), .slice A2 m c2, .pointer (some ⟨mm, 0, none⟩)] w fun e w' => ∃ Ap np cp A1 c1 A3 c3,
      e = .returned (.agg #[.slice Ap np cp, .int .i64 (Zm.poOf L ids (refP f m) (refQ f m)), .slice A1 (Zm.lfOf L ids (refP f m) (refQ f m)).length c1, .slice A3 (Zm.rgOf L ids (refP f m) (refQ f m)).length c3, .int .i64 (Zm.tries L ids (refP f m) (refQ f m) : Nat)]) ∧
      Vec w' Ap np (Zm.pnOf L ids (refP f m) (refQ f m) dd) ∧ np ≤ 10000 ∧ Sl w' A1 (Zm.lfOf L ids (refP f m) (refQ f m)).length c1 (Zm.lfOf L ids (refP f m) (refQ f m)) ∧ Sl w' A3 (Zm.rgOf L ids (refP f m) (refQ f m)).length c3 (Zm.rgOf L ids (refP f m) (refQ f m)) ∧
      Rfs w' B mm (Rm.dr f (2 * Zm.tries L ids (refP f m) (refQ f m))) (N + 2 * Zm.tries L ids (refP f m) (refQ f m)) ∧ Btw mm (mm + 1) w w' :=
  (refChoose_at A A2 n c m c2 mm N B dd L ids f w0 w h hb0 hm0 hn hL hs ho hm hr hN hd).mono fun _ _ ⟨Ap, np, cp, A1, c1, A3, c3, h1, h2, h3, h4, h5, h6, h7, _, _⟩ => ⟨Ap, np, cp, A1, c1, A3, c3, h1, h2, h3, h4, h5, h6, h7⟩
end Go.Proofs.Ytecdgpacofojeaa
