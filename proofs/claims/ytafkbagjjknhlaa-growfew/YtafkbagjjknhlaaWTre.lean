/-
  Layer 13 (grow): the document's own tree of all ids, and whether two trees are the same, by contracts.
-/
import Derived.Test.YtafkbagjjknhlaaWGrw
namespace Go.Proofs.Ytafkbagjjknhlaa
open Go.RowKit

section
variable {A : Option Addr} {n c dd mm B lim dp : Nat} {L : List (List Int)} {w0 : World} {tr sd : Int} {sc : Bool} {pA : Option Addr} {pn pc : Nat}
set_option maxRecDepth 100000 in
theorem refTree {w : World} {f : Nat → Int} {N : Nat} (hn : n ≤ 1000) (hn1 : 1 ≤ n) (hL : ∀ l ∈ L, l.length ≤ 10000) (hd : dd ≤ 1024) (hlim : 1 ≤ lim) (hdp : dp ≤ 64) (hmm : mm < w.heap.size) (hr : Rfs w B mm f N) (hN : N ≤ 1000) (w0 : World) (h0 : Lv w0 A n c L) (hb0 : Below w0.heap.size w0 w) (hm0 : w0.heap.size ≤ mm) :
    Calls Try.prog 17 #[.slice A n c, .int .i64 (dd : Int), .agg #[.int .i64 tr, .int .i64 (lim : Int), .int .i64 (dp : Int), .bool sc, .int .u64 sd, .slice pA pn pc], .pointer (some ⟨mm, 0, none⟩)] w fun e w' => ∃ A' c',
      e = .returned (.slice A' (Wm.grow L dd lim dp (Wm.upto n) 0 f).1.length c') ∧ Nds (fun k => k ≠ mm) w' A' (Wm.grow L dd lim dp (Wm.upto n) 0 f).1.length c' (Wm.grow L dd lim dp (Wm.upto n) 0 f).1 ∧
      Rfs w' B mm (Rm.dr f (Wm.grow L dd lim dp (Wm.upto n) 0 f).2) (N + (Wm.grow L dd lim dp (Wm.upto n) 0 f).2) ∧ Btw mm (mm + 1) w w' := by
  obtain ⟨i0, hi, hz0, hz1, hz2⟩ := info_parts Try.infoI
  obtain ⟨W, hW⟩ : ∃ W, W = w.alloc (.cells #[.int .i64 tr, .int .i64 (lim : Int), .int .i64 (dp : Int), .bool sc, .int .u64 sd, .slice pA pn pc] 28) := ⟨_, rfl⟩
  have hb : Below w.heap.size w W := by rw [hW]; exact (Below.refl _ w).alloc (Nat.le_refl _) _
  have hp : Prx W w.heap.size tr (lim : Int) (dp : Int) sc sd pA pn pc := by rw [hW]; exact Prx.new w _ _ _ _ _ _ _ _
  have hsW : W.heap.size = w.heap.size + 1 := by rw [hW]; simp
  have hBm : B ≤ mm := by obtain ⟨_, _, _, _, _, _, _, _, _, hB, _⟩ := hr; exact hB
  have hsz0 := hb0.size
  have HP := Lib.hid hp
  have HB := Lib.hid hb
  have HW := Lib.hid hW
  have HL0 := Lib.hid h0
  have HB0 := Lib.hid (hb0.trans (hb.mono hsz0))
  have HR := Lib.hid (hr.keep (w' := W) fun k hk => hb.block k (by omega))
  have HLL := Lib.hid hL
  have NW := Lib.hid (show W.ownsRow W.heap.size 3 1 (.slice none 0 0) 0 (ci (Wm.upto 0)) from World.ownsRow_nil _ _ _ _)
  clear hW hb hp h0 hb0 hr hL
  go_enter Try.func17, Try.ntmps17
  go_wp2_with fail
  rw [← HW.out]
  clear HW
  go_wp2
  go_loopw [9, 10] (fun v i wr => ∃ k : Nat, k ≤ n ∧ i = .int .i64 k ∧ wr.ownsRow W.heap.size 3 1 v k (ci (Wm.upto k)) ∧ Below W.heap.size W wr) (fun _ i _ => n - (intOf i).toNat)
  case atStart => exact ⟨0, Nat.zero_le _, rfl, NW.out, Below.refl _ _⟩
  case round =>
    obtain ⟨k, hk, rfl, hown, hbel⟩ := hrel
    have HO := Lib.hid hown
    have HBB := Lib.hid hbel
    have hsz := hbel.size
    clear hown hbel
    by_cases hlt : k < n
    · go_wp2_with (at_builtin; refine wpList_append_own _ rfl (.tmp 17) (.tmp 19) 51 rfl W.heap.size 3 i0 (.int .i64 0) 1 8 Try.underlying51 hi hz0 hz1 hz2 rfl (by decide) u9 k (ci (Wm.upto k)) rfl (HO.out.alloc _) ⟨wr.heap.size, 0, none⟩ 1 1 [.int .i64 k] rfl rfl (World.news_of_block (heap_alloc_new wr _)) (by intro u hu; simp at hu; subst hu; rfl) (by unfold maxLen; omega) (by omega) (by simp; omega) ?_; intro v' w1 hown' hgrow _; have HO' := Lib.hid hown'; have HB1 := Lib.hid ((HBB.out.alloc (by omega) (.cells #[.int .i64 k] 3)).grown hgrow (by simp; omega) (own_block HO.out)); clear hown' hgrow)
      refine ⟨⟨k + 1, by omega, by go_num, ?_, HB1.out⟩, by simp [intOf]; omega⟩
      have h2 := HO'.out
      rw [Wm.upto_succ, ← ci_app]
      exact h2
    · obtain rfl : k = n := by omega
      obtain ⟨A2, c2, rfl, -, -⟩ := own_form HO.out
      have hP := HP.out.below (HBB.out.mono (Nat.le_refl _))
      have q0 := hP.c0
      have q1 := hP.c1
      have q2 := hP.c2
      have q3 := hP.c3
      have q4 := hP.c4
      have q5 := hP.c5
      have FG0 := refGrow (tr := tr) (sd := sd) (sc := sc) (pA := pA) (pn := pn) (pc := pc) HL0 hm0 (by unfold maxLen; omega) HLL hd hlim hdp dp (Wm.upto k) 0 f N wr 0 A2 k c2 (by omega) (HB0.out.trans (HBB.out.mono HB0.out.size)) (Sl.of_own HO.out) ((New.of_own HO.out).out (by omega)) hn1 (by omega) (by omega) (HR.out.keep fun q hq => HBB.out.block q (by omega)) (by omega)
      have FG := Lib.hid FG0
      clear FG0 hP
      go_wp2_with fail
      refine FG.out.mono ?_
      rintro _ w2 ⟨A', c', rfl, h1, h2, h3⟩
      have FIN := Lib.hid (And.intro h1 (And.intro h2 (((Btw.of_below HB.out).trans (Btw.of_below HBB.out)).trans h3)))
      clear h1 h2 h3 FG
      go_wp2
      go_ret
      exact ⟨A', c', rfl, FIN.out⟩
end

set_option maxHeartbeats 1600000 in
set_option maxRecDepth 100000 in
theorem refSameT {Pr Pr' : Nat → Prop} {w : World} {A B : Option Addr} {n c d : Nat} {T : List Wm.Nd} (h : Nds Pr w A n c T) (h' : Nds Pr' w B n d T) (hn : n ≤ 1000000) (hT : ∀ t ∈ T, t.ids.length ≤ 1000000) :
    Calls Try.prog 16 #[.slice A n c, .slice B n d] w fun e w' => e = .returned (.bool true) ∧ Below w.heap.size w w' := by
  have HA := Lib.hid h
  have HB := Lib.hid h'
  have HT := Lib.hid hT
  have HLEN := Lib.hid h.len
  clear h h' hT
  go_enter Try.func16, Try.ntmps16
  go_wp2
  go_loopw [5] (fun i wr => ∃ k : Nat, k ≤ n ∧ i = .int .i64 k ∧ Below w.heap.size w wr) (fun i _ => n - (intOf i).toNat)
  case atStart => exact ⟨0, Nat.zero_le _, rfl, Below.refl _ _⟩
  case round =>
    obtain ⟨k, hk, rfl, hbel⟩ := hrel
    have HBB := Lib.hid hbel
    have hsz := hbel.size
    by_cases hlt : k < n
    · have hkl : k < T.length := by rw [HLEN.out]; exact hlt
      obtain ⟨t, ht⟩ : ∃ t, T[k]? = some t := ⟨_, List.getElem?_eq_getElem hkl⟩
      have hmem := HT.out t (List.mem_of_getElem? ht)
      obtain ⟨b, off, rfl, hb, -, A1, n1, c1, A2, n2, c2, na, a0, a1, a2, a3, a4, a5⟩ := (HA.out.below hbel).at_ ht
      obtain ⟨b', off', rfl, hb', -, B1, m1, d1, B2, m2, d2, nb, b0, b1, b2, b3, b4, b5⟩ := (HB.out.below hbel).at_ ht
      have FI' : Hid (∀ V, Below wr.heap.size wr V → Calls Try.prog 28 #[.slice A1 n1 c1, .slice B1 m1 d1] V fun e w' => e = .returned (.bool true) ∧ Below wr.heap.size wr w') := Lib.hid fun V hV =>
        (refSame A1 B1 n1 c1 m1 d1 t.ids t.ids V (na.ids.below hV) (nb.ids.below hV) (by have := na.ids.length; omega)).mono fun _ _ ⟨h1, h2⟩ => ⟨by rw [h1, decide_eq_true rfl], hV.trans (h2.mono hV.size)⟩
      have FP : Hid (∀ V, Below wr.heap.size wr V → Calls Try.prog 29 #[.agg #[.slice A2 n2 c2, .int .i64 t.po], .agg #[.slice B2 m2 d2, .int .i64 t.po]] V fun e w' => e = .returned (.bool true) ∧ Below wr.heap.size wr w') := Lib.hid fun V hV =>
        (refSameP_any A2 B2 n2 m2 c2 d2 t.po t.po t.pn t.pn V (na.pn.below hV) (nb.pn.below hV) na.le nb.le).mono fun _ _ ⟨h1, h2⟩ => ⟨by rw [h1, decide_eq_true ⟨rfl, rfl⟩], hV.trans (h2.mono hV.size)⟩
      obtain ⟨lf, hlf⟩ : ∃ lf, lf = t.leaf := ⟨_, rfl⟩
      rw [← hlf] at a0 b0
      obtain ⟨po, hpo⟩ : ∃ po, po = t.po := ⟨_, rfl⟩
      rw [← hpo] at a3 b3 FP
      obtain ⟨lt, hlt'⟩ : ∃ lt, lt = t.lt := ⟨_, rfl⟩
      rw [← hlt'] at a4 b4
      obtain ⟨rt, hrt⟩ : ∃ rt, rt = t.rt := ⟨_, rfl⟩
      rw [← hrt] at a5 b5
      have CL : Hid (∀ V, Below wr.heap.size wr V → V.cell? ⟨b, off + k * 6, none⟩ = some (.bool lf) ∧ V.cell? ⟨b, off + k * 6 + 1, none⟩ = some (.slice A1 n1 c1) ∧ V.cell? ⟨b, off + k * 6 + 2, none⟩ = some (.slice A2 n2 c2) ∧ V.cell? ⟨b, off + k * 6 + 3, none⟩ = some (.int .i64 po) ∧ V.cell? ⟨b, off + k * 6 + 4, none⟩ = some (.int .i64 (lt : Int)) ∧ V.cell? ⟨b, off + k * 6 + 5, none⟩ = some (.int .i64 (rt : Int)) ∧ V.cell? ⟨b', off' + k * 6, none⟩ = some (.bool lf) ∧ V.cell? ⟨b', off' + k * 6 + 1, none⟩ = some (.slice B1 m1 d1) ∧ V.cell? ⟨b', off' + k * 6 + 2, none⟩ = some (.slice B2 m2 d2) ∧ V.cell? ⟨b', off' + k * 6 + 3, none⟩ = some (.int .i64 po) ∧ V.cell? ⟨b', off' + k * 6 + 4, none⟩ = some (.int .i64 (lt : Int)) ∧ V.cell? ⟨b', off' + k * 6 + 5, none⟩ = some (.int .i64 (rt : Int))) := Lib.hid fun V hV =>
        ⟨(hV.cell (p := ⟨b, _, none⟩) hb).trans a0, (hV.cell (p := ⟨b, _, none⟩) hb).trans a1, (hV.cell (p := ⟨b, _, none⟩) hb).trans a2, (hV.cell (p := ⟨b, _, none⟩) hb).trans a3, (hV.cell (p := ⟨b, _, none⟩) hb).trans a4, (hV.cell (p := ⟨b, _, none⟩) hb).trans a5, (hV.cell (p := ⟨b', _, none⟩) hb').trans b0, (hV.cell (p := ⟨b', _, none⟩) hb').trans b1, (hV.cell (p := ⟨b', _, none⟩) hb').trans b2, (hV.cell (p := ⟨b', _, none⟩) hb').trans b3, (hV.cell (p := ⟨b', _, none⟩) hb').trans b4, (hV.cell (p := ⟨b', _, none⟩) hb').trans b5⟩
      have G0 := Lib.hid (Below.refl wr.heap.size wr).drew
      clear na nb hbel hlf hpo hlt' hrt hb hb' hmem ht hkl
      have hq : (lf != lf) = false := by cases lf <;> rfl
      go_wp2
      dsimp only [List.append]
      go_region_held3 (fun V => V.cell? ⟨b, off + k * 6, none⟩ = some (.bool lf) ∧ V.cell? ⟨b, off + k * 6 + 1, none⟩ = some (.slice A1 n1 c1) ∧ V.cell? ⟨b, off + k * 6 + 2, none⟩ = some (.slice A2 n2 c2) ∧ V.cell? ⟨b, off + k * 6 + 3, none⟩ = some (.int .i64 po) ∧ V.cell? ⟨b, off + k * 6 + 4, none⟩ = some (.int .i64 (lt : Int)) ∧ V.cell? ⟨b, off + k * 6 + 5, none⟩ = some (.int .i64 (rt : Int)) ∧ V.cell? ⟨b', off' + k * 6, none⟩ = some (.bool lf) ∧ V.cell? ⟨b', off' + k * 6 + 1, none⟩ = some (.slice B1 m1 d1) ∧ V.cell? ⟨b', off' + k * 6 + 2, none⟩ = some (.slice B2 m2 d2) ∧ V.cell? ⟨b', off' + k * 6 + 3, none⟩ = some (.int .i64 po) ∧ V.cell? ⟨b', off' + k * 6 + 4, none⟩ = some (.int .i64 (lt : Int)) ∧ V.cell? ⟨b', off' + k * 6 + 5, none⟩ = some (.int .i64 (rt : Int))) (go_keep) (first
        | (go_at_call 28; (with_reducible refine (FI'.out _ G0.out).mono ?_); rintro _ Y1 ⟨rfl, hb1⟩; obtain ⟨ua0, ua1, ua2, ua3, ua4, ua5, ub0, ub1, ub2, ub3, ub4, ub5⟩ := CL.out Y1 hb1; have G1 := Lib.hid hb1; clear hb1)
        | (go_at_call 29; (with_reducible refine (FP.out _ G1.out).mono ?_); rintro _ Y2 ⟨rfl, hb2⟩; obtain ⟨va0, va1, va2, va3, va4, va5, vb0, vb1, vb2, vb3, vb4, vb5⟩ := CL.out Y2 hb2; have G2 := Lib.hid hb2; clear hb2))
      go_wp2
      exact ⟨⟨k + 1, by omega, by go_num, HBB.out.trans (G2.out.mono HBB.out.size)⟩, by simp [intOf]; omega⟩
    · obtain rfl : k = n := by omega
      go_wp2
      go_ret
      exact ⟨rfl, HBB.out⟩
end Go.Proofs.Ytafkbagjjknhlaa
