/-
  Layer 12 (split): the document's own sides, by a contract.
-/
import Derived.Test.YtecdgpacofojeaaZMem
namespace Go.Proofs.Ytecdgpacofojeaa
open Go.RowKit

set_option maxHeartbeats 1600000 in
set_option maxRecDepth 100000 in
theorem refSide_any (A A2 Ap : Option Addr) (n c m c2 np cp : Nat) (o : Int) (L : List (List Int)) (ids lp : List Int) (b : Bool) (w : World) (h : Lv w A n c L) (hn : n ≤ maxLen) (hL : ∀ l ∈ L, l.length ≤ 10000) (hs : Sl w A2 m c2 ids) (hm : m ≤ 100000) (hv : Vec w Ap np lp) (hnp : np ≤ 10000) :
    Calls Try.prog 52 #[.slice A n c, .slice A2 m c2, .agg #[.slice Ap np cp, .int .i64 o], .bool b] w fun e w' => ∃ A' c', e = .returned (.slice A' (Zm.side L lp o b ids).length c') ∧ Sl w' A' (Zm.side L lp o b ids).length c' (Zm.side L lp o b ids) ∧ Below w.heap.size w w' ∧ New w.heap.size A' := by
  obtain ⟨i0, hi, hz0, hz1, hz2⟩ := info_parts Try.infoI
  obtain ⟨W, hW⟩ : ∃ W, W = w.alloc (.cells #[.slice Ap np cp, .int .i64 o] 66) := ⟨_, rfl⟩
  have hb : Below w.heap.size w W := by rw [hW]; exact (Below.refl _ w).alloc (Nat.le_refl _) _
  have hws : w.heap.size < W.heap.size := by rw [hW]; simp
  have P : Hid (Pbx W w.heap.size Ap np cp o) := by rw [hW]; exact Pbx.new w Ap np cp o
  have HLV := Lib.hid (h.below hb)
  have HS := Lib.hid (hs.below hb)
  have HV := Lib.hid (hv.below hb)
  have HB := Lib.hid hb
  have HW := Lib.hid hW
  have HLEN := Lib.hid hs.length
  have HLL := Lib.hid hL
  have NW := Lib.hid (show ∀ e, W.ownsRow W.heap.size e 1 (.slice none 0 0) 0 [] from fun e => World.ownsRow_nil _ _ _ _)
  clear h hs hv hb hW hL
  go_enter Try.func52, Try.ntmps52
  go_wp2
  rw [← HW.out]
  clear HW
  go_loopw [9, 10] (fun v i wr => ∃ (k : Nat) (S : List Int), k ≤ m ∧ i = .int .i64 k ∧ S = Zm.side L lp o b (ids.take k) ∧ wr.ownsRow W.heap.size 3 1 v S.length (ci S) ∧ Below W.heap.size W wr) (fun _ i _ => m - (intOf i).toNat)
  case atStart => exact ⟨0, [], Nat.zero_le _, rfl, by simp [Zm.side], NW.out _, Below.refl _ _⟩
  case round =>
    obtain ⟨k, S, hk, rfl, hS, hown, hbel⟩ := hrel
    have HSS := Lib.hid hS
    have HO := Lib.hid hown
    have HBB := Lib.hid hbel
    have hsz := hbel.size
    have hSk : S.length ≤ k := by
      have := Zm.side_le L lp o b (ids.take k); rw [← hS, List.length_take] at this; omega
    clear hS hown hbel
    by_cases hlt : k < m
    · have hkl : k < ids.length := by rw [HLEN.out]; exact hlt
      obtain ⟨b2, off2, rfl, hb2, hc2⟩ := HS.out.at_ (List.getElem?_eq_getElem hkl)
      have k2 := (HBB.out.cell (p := ⟨b2, off2 + k, none⟩) hb2).trans hc2
      obtain ⟨x, hx⟩ : ∃ x, x = ids[k] := ⟨_, rfl⟩
      rw [← hx] at k2
      obtain ⟨A', n', c', hvi, hn', hcall⟩ := item_lv HLV.out HLL.out hn x
      obtain ⟨N, hN⟩ : ∃ N, Pm.mar lp o (Zm.item L x) = N := ⟨_, rfl⟩
      obtain ⟨q, hq⟩ : ∃ q : Bool, decide (0 ≤ N) = q := ⟨_, rfl⟩
      have FI := Lib.hid hcall
      have FM : Hid (∀ V, Below W.heap.size W V → Calls Try.prog 59 #[.agg #[.slice Ap np cp, .int .i64 o], .slice A' n' c'] V fun e w' => e = .returned (.int .i64 N) ∧ Below W.heap.size W w' ∧ Below V.heap.size V w') := Lib.hid fun V hb => by
        exact (refMarg_any Ap A' np n' cp c' o lp _ V (HV.out.below hb) (hvi.below hb) hnp hn').mono fun _ _ h => ⟨by rw [h.1, hN], hb.trans (h.2.mono hb.size), h.2⟩
      have CL : Hid (∀ V, Below W.heap.size W V → V.cell? ⟨w.heap.size, 0, none⟩ = some (.slice Ap np cp) ∧ V.cell? ⟨w.heap.size, 1, none⟩ = some (.int .i64 o) ∧ V.cell? ⟨b2, off2 + k, none⟩ = some (.int .i64 x)) := Lib.hid fun V hb =>
        ⟨(P.out.below hb).c0, (P.out.below hb).c1, by rw [hx]; exact (hb.cell (p := ⟨b2, off2 + k, none⟩) hb2).trans hc2⟩
      have HON : Hid (Zm.on L lp o ids[k] = q) := Lib.hid (by unfold Zm.on; rw [← hx, hN, hq])
      have HX := Lib.hid hx
      have G0 := Lib.hid HBB.out.drew
      obtain ⟨k0, k1, -⟩ := CL.out wr HBB.out
      clear hx hc2 hvi hcall hN hb2
      go_wp2
      go_region_held3 (fun V => V.cell? ⟨w.heap.size, 0, none⟩ = some (.slice Ap np cp) ∧ V.cell? ⟨w.heap.size, 1, none⟩ = some (.int .i64 o) ∧ V.cell? ⟨b2, off2 + k, none⟩ = some (.int .i64 x)) (go_keep) (first
        | (go_at_call 51; (with_reducible refine (FI.out _ G0.out).mono ?_); rintro _ Y1 ⟨rfl, rfl⟩; have G1 := G0)
        | (go_at_call 59; (with_reducible refine (FM.out _ G1.out).mono ?_); rintro _ Y2 ⟨rfl, hb, hb2⟩; obtain ⟨u0, u1, u2⟩ := CL.out Y2 hb; have G2 := Lib.hid hb; have G3 := Lib.hid hb2; clear hb hb2))
      have BY : Hid (Below wr.heap.size wr Y2) := Lib.hid ((Below.refl wr.heap.size wr).drew.trans G3.out)
      have OY := Lib.hid (own_below HO.out BY.out)
      have SY := BY.out.size
      clear G0 G1 G3 FI FM k0 k1 k2 BY hq
      have HTY := Lib.hid (fun (hqb : q = b) => Zm.side_snoc_yes hkl (HON.out.trans hqb))
      have HTN := Lib.hid (fun (hqb : q = !b) => Zm.side_snoc_no (L := L) (l := lp) (o := o) (b := b) hkl (HON.out.trans hqb))
      have hcase : (q = true ∧ b = true) ∨ (q = false ∧ b = false) ∨ (q = true ∧ b = false) ∨ (q = false ∧ b = true) := by cases q <;> cases b <;> simp
      clear HON
      rcases hcase with ⟨rfl, rfl⟩ | ⟨rfl, rfl⟩ | ⟨rfl, rfl⟩ | ⟨rfl, rfl⟩
      · have HT := Lib.hid (HTY.out rfl)
        clear HTY HTN
        go_wp2_with (at_builtin; refine wpList_append_own _ rfl (.tmp 28) (.tmp 33) 42 rfl W.heap.size 3 i0 (.int .i64 0) 1 8 Try.underlying42 hi hz0 hz1 hz2 rfl (by decide) u9 S.length (ci S) rfl (OY.out.alloc _) ⟨Y2.heap.size, 0, none⟩ 1 1 [.int .i64 x] rfl rfl (World.news_of_block (heap_alloc_new Y2 _)) (by intro u hu; simp at hu; subst hu; rfl) (by unfold maxLen; omega) (by omega) (by simp; omega) ?_; intro v' w1 hown' hgrow _; have HO' := Lib.hid hown'; have HB1 := Lib.hid ((G2.out.alloc (by omega) (.cells #[.int .i64 x] 3)).grown hgrow (by simp; omega) (own_block OY.out)); clear hown' hgrow)
        refine ⟨⟨k + 1, S ++ [x], by omega, by go_num, ?_, ?_, HB1.out⟩, by simp [intOf]; omega⟩
        · rw [HT.out, HSS.out, HX.out]
        · have h2 := HO'.out
          rw [List.length_append, ← ci_app]
          exact h2
      · have HT := Lib.hid (HTY.out rfl)
        clear HTY HTN
        go_wp2_with (at_builtin; refine wpList_append_own _ rfl (.tmp 28) (.tmp 33) 42 rfl W.heap.size 3 i0 (.int .i64 0) 1 8 Try.underlying42 hi hz0 hz1 hz2 rfl (by decide) u9 S.length (ci S) rfl (OY.out.alloc _) ⟨Y2.heap.size, 0, none⟩ 1 1 [.int .i64 x] rfl rfl (World.news_of_block (heap_alloc_new Y2 _)) (by intro u hu; simp at hu; subst hu; rfl) (by unfold maxLen; omega) (by omega) (by simp; omega) ?_; intro v' w1 hown' hgrow _; have HO' := Lib.hid hown'; have HB1 := Lib.hid ((G2.out.alloc (by omega) (.cells #[.int .i64 x] 3)).grown hgrow (by simp; omega) (own_block OY.out)); clear hown' hgrow)
        refine ⟨⟨k + 1, S ++ [x], by omega, by go_num, ?_, ?_, HB1.out⟩, by simp [intOf]; omega⟩
        · rw [HT.out, HSS.out, HX.out]
        · have h2 := HO'.out
          rw [List.length_append, ← ci_app]
          exact h2
      · have HT := Lib.hid (HTN.out rfl)
        clear HTY HTN
        go_wp2
        exact ⟨⟨k + 1, S, by omega, by go_num, by rw [HT.out, HSS.out], OY.out, G2.out⟩, by simp [intOf]; omega⟩
      · have HT := Lib.hid (HTN.out rfl)
        clear HTY HTN
        go_wp2
        exact ⟨⟨k + 1, S, by omega, by go_num, by rw [HT.out, HSS.out], OY.out, G2.out⟩, by simp [intOf]; omega⟩
    · obtain rfl : k = m := by omega
      have hall : ids.take k = ids := List.take_of_length_le (by rw [HLEN.out]; exact Nat.le_refl _)
      rw [hall] at HSS
      obtain ⟨A', c', rfl, -, -⟩ := own_form HO.out
      go_wp2
      go_ret
      exact ⟨A', c', by rw [← HSS.out]; rfl, by rw [← HSS.out]; exact Sl.of_own HO.out, HB.out.trans (HBB.out.mono HB.out.size), (New.of_own HO.out).mono HB.out.size⟩
end Go.Proofs.Ytecdgpacofojeaa
