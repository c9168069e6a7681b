/-
  Layer 8 (topk): a selector: what gives way, and Offer, by contracts.
-/
import Derived.Test.YtdpoieemadblnaaKSelP
import Derived.Deep.QuietTactic
namespace Go.Proofs.Ytdpoieemadblnaa
open Go.RowKit

set_option maxRecDepth 100000 in
theorem sgiveP_none (S : Nat → Prop) (s : Nat) (m : Int) (c : Nat) (x1 x2 : Int) (w : World) (h : SelP w S s m c []) :
    Calls Try.prog 31 #[.pointer (some ⟨s, 0, none⟩), .agg #[.int .i64 x1, .int .i64 x2]] w fun e w' => e = .returned (.bool false) ∧ Below w.heap.size w w' := by
  have hb0 := (Below.refl _ w).alloc (Nat.le_refl _) (.cells #[.int .i64 x1, .int .i64 x2] 27)
  have HL := Lib.hid (slastP S s m c [] _ (h.below hb0))
  have s0 : (w.alloc (.cells #[.int .i64 x1, .int .i64 x2] 27)).heap.size = w.heap.size + 1 := by simp
  have HB0 := Lib.hid hb0
  clear h hb0
  go_enter Try.func31, Try.ntmps31
  go_wp2_with fail
  refine HL.out.mono ?_
  rintro _ w1 ⟨rfl, hb1⟩
  have HB2 := Lib.hid (show Below w.heap.size w (w1.alloc (.cells #[.int .i64 0, .int .i64 0] 27)) from (HB0.out.trans (hb1.mono (by omega))).alloc (by have := hb1.size; omega) _)
  clear hb1 HL
  go_wp2
  go_region
  all_goals
    go_wp2
    go_ret
    exact ⟨rfl, HB2.out.drew⟩

set_option maxRecDepth 100000 in
theorem sgiveP (S : Nat → Prop) (s : Nat) (m : Int) (c : Nat) (K : List Om.E) (z1 z2 x1 x2 : Int) (w : World) (h : SelP w S s m c (K ++ [(z1, z2)])) (hc : c ≤ 100000) :
    Calls Try.prog 31 #[.pointer (some ⟨s, 0, none⟩), .agg #[.int .i64 x1, .int .i64 x2]] w fun e w' => e = .returned (.bool (Om.less (x1, x2) (z1, z2))) ∧ SelP w' S s m c (Km.gave (Om.less (x1, x2) (z1, z2)) K (z1, z2)) ∧ Kept S w w' := by
  have hb0 := (Below.refl _ w).alloc (Nat.le_refl _) (.cells #[.int .i64 x1, .int .i64 x2] 27)
  have HL := Lib.hid (slastP S s m c _ _ (h.below hb0))
  have s0 : (w.alloc (.cells #[.int .i64 x1, .int .i64 x2] 27)).heap.size = w.heap.size + 1 := by simp
  have r0 : (w.alloc (.cells #[.int .i64 x1, .int .i64 x2] 27)).heap[w.heap.size]? = some (.cells #[.int .i64 x1, .int .i64 x2] 27 (0, 0)) := heap_alloc_new w _
  have hcall := fun W => less_any x1 x2 z1 z2 W
  generalize Om.less (x1, x2) (z1, z2) = r at hcall ⊢
  obtain ⟨cb, B, Sh, q, es, h1, h2⟩ := h
  obtain ⟨es0, l2, rfl, e1, e2⟩ := List.map_eq_append_iff.1 h2
  obtain ⟨e, rfl, e3⟩ : ∃ e, l2 = [e] ∧ e.1 = (z1, z2) := by
    cases l2 with
    | nil => simp at e2
    | cons e t => simp at e2; exact ⟨e, by rw [e2.2], e2.1⟩
  have H1 := Lib.hid h1
  have HE := Lib.hid e1
  have HE2 := Lib.hid h2
  have HB0 := Lib.hid hb0
  have HR0 := Lib.hid r0
  simp at HL
  clear h1 h2 hb0 e1 e2 e3 r0
  go_enter Try.func31, Try.ntmps31
  go_wp2_with fail
  refine HL.out.mono ?_
  rintro _ w1 ⟨rfl, hb1⟩
  have hs1 := hb1.size
  have hb2 : Below w.heap.size w (w1.alloc (.cells #[.int .i64 z1, .int .i64 z2] 27)) := (HB0.out.trans (hb1.mono (by omega))).alloc (by omega) _
  have hs2 := H1.out.below hb2
  obtain ⟨v0, -, -, -⟩ := hs2.cells
  have rx : (w1.alloc (.cells #[.int .i64 z1, .int .i64 z2] 27)).heap[w.heap.size]? = some (.cells #[.int .i64 x1, .int .i64 x2] 27 (0, 0)) := by
    rw [Below.heap_alloc _ _ _ (by omega), hb1.block _ (by omega)]
    exact HR0.out
  have rz := heap_alloc_new w1 (.cells #[.int .i64 z1, .int .i64 z2] 27)
  have vx1 := cell_of_row _ _ 0 _ _ _ rx
  have vx2 := cell_of_row _ _ 1 _ _ _ rx
  have vz1 := cell_of_row _ _ 0 _ _ _ rz
  have vz2 := cell_of_row _ _ 1 _ _ _ rz
  have HB2 := Lib.hid hb2
  have HS2 := Lib.hid hs2
  clear hb1 hb2 hs2 rx rz HL
  obtain ⟨V, hV⟩ : ∃ V, V = w1.alloc (.cells #[.int .i64 z1, .int .i64 z2] 27) := ⟨_, rfl⟩
  go_wp2
  simp only [← hV] at v0 vx1 vx2 vz1 vz2 HB2 HS2 ⊢
  clear hV
  go_still_tail 9, (by kernel_rfl)
  change wpList _ _ _ _ _ V.drew
  obtain ⟨U, hU⟩ : ∃ U, U = V.drew := ⟨_, rfl⟩
  rw [← hU]
  have HBU : Hid (Below w.heap.size w U) := by rw [hU]; exact HB2.out.drew
  have HSU : Hid (SelIP U S s m c cb B Sh q (es0 ++ [e])) := by rw [hU]; exact HS2.out.drew
  clear hU v0 vx1 vx2 vz1 vz2
  go_wp2_with fail
  refine (hcall _).mono ?_
  rintro _ w5 ⟨rfl, hb5⟩
  have hs5 := HSU.out.below hb5
  obtain ⟨-, -, -, v3⟩ := hs5.cells
  have HS5 := Lib.hid hs5
  have HB5 := Lib.hid (HBU.out.trans (hb5.mono HBU.out.size))
  clear hs5 hb5
  cases r with
  | false =>
    go_wp2
    go_ret
    exact ⟨rfl, ⟨_, _, _, _, _, HS5.out, HE2.out⟩, Kept.of_below HB5.out⟩
  | true =>
    go_wp2_with fail
    refine (kpopP cb Sh B _ _ HS5.out.hp (by have := HS5.out.len; omega)).mono ?_
    rintro _ w6 ⟨y1, y2, y3, ok, l', rfl, hpo, hp6, hk6⟩
    have hl' : l'.Perm es0 := by
      rcases hpo with ⟨h, _⟩ | ⟨_, hp, hle⟩
      · simp at h
      · exact (HS5.out.so.pops Om.less_ord hp hle).2
    have HFIN := Lib.hid (show SelIP w6 S s m c cb B Sh q es0 from
      ⟨(hk6.block s (HS5.out.lt s HS5.out.ss) HS5.out.ns).trans HS5.out.blk, hp6.perm hl', HS5.out.sub, HS5.out.ss, HS5.out.ns, fun k h => Nat.lt_of_lt_of_le (HS5.out.lt k h) hk6.size, HS5.out.so.init, fun y hy => HS5.out.old y (by simp [hy]), HS5.out.qc, by have := HS5.out.len; simp at this; omega⟩)
    have HFK := Lib.hid (show Kept S w w6 from (Kept.of_below HB5.out).trans hk6 fun k h => .inl (HS5.out.sub k h))
    clear hpo hp6 hk6 hl'
    go_wp2
    go_ret
    exact ⟨rfl, ⟨_, _, _, _, _, HFIN.out, HE.out⟩, HFK.out⟩

set_option maxRecDepth 100000 in
set_option maxHeartbeats 800000 in
theorem sofferP (S : Nat → Prop) (s : Nat) (m : Int) (c : Nat) (K : List Om.E) (x1 x2 : Int) (w : World) (h : SelP w S s m c K) (hc : c ≤ 100000) :
    Calls Try.prog 12 #[.pointer (some ⟨s, 0, none⟩), .agg #[.int .i64 x1, .int .i64 x2]] w fun e w' => e = .returned (.bool (Km.off Om.less m K (x1, x2)).2) ∧ ∃ S', SelP w' S' s m (c + 1) (Km.off Om.less m K (x1, x2)).1 ∧ Kept S w w' ∧ ∀ k, S' k → S k ∨ w.heap.size ≤ k := by
  have hb0 := (Below.refl _ w).alloc (Nat.le_refl _) (.cells #[.int .i64 x1, .int .i64 x2] 27)
  have r0 : (w.alloc (.cells #[.int .i64 x1, .int .i64 x2] 27)).heap[w.heap.size]? = some (.cells #[.int .i64 x1, .int .i64 x2] 27 (0, 0)) := heap_alloc_new w _
  have HK0 := Lib.hid (show Kept S w (w.alloc (.cells #[.int .i64 x1, .int .i64 x2] 27)) from Kept.of_below hb0)
  have hlt := h.in_
  by_cases hr : (K.length : Int) < m
  · rw [Km.off_room hr]
    obtain ⟨cb, B, Sh, q, es1, h1, h2⟩ := h
    have hl : es1.length = K.length := by rw [← h2, List.length_map]
    have h3 := h1.below hb0
    have HSV0 := Lib.hid h3
    obtain ⟨-, u1, -, u3⟩ := h3.cells
    have HLEN := Lib.hid (show ∀ d, Calls Try.prog 30 #[.pointer (some ⟨B, 0, none⟩)] ((w.alloc (.cells #[.int .i64 x1, .int .i64 x2] 27)).drewN d) fun e W' => e = .returned (.int .i64 (es1.length : Int)) ∧ W' = (w.alloc (.cells #[.int .i64 x1, .int .i64 x2] 27)).drewN d from fun d => klenP cb Sh B es1 _ (h3.hp.keep (by rw [heap_drew_n]; exact Nat.le_refl _) fun k _ => by rw [heap_drew_n]))
    have HE := Lib.hid h2
    have HR0 := Lib.hid r0
    obtain ⟨n, hn⟩ : ∃ n, n = es1.length := ⟨_, rfl⟩
    rw [← hn] at HLEN hl
    have hr' : decide (m ≤ (n : Int)) = false := by simp; omega
    rw [← hl] at hr
    clear h1 h2 h3 hb0 r0 hl hn
    go_enter Try.func12, Try.ntmps12
    go_wp2
    go_quiet ((go_at_call 30; exact Calls.quiet_of_same (HLEN.out _)))
    obtain ⟨V, hV⟩ : ∃ V, V = (w.alloc (.cells #[.int .i64 x1, .int .i64 x2] 27)).drewN nq := ⟨_, rfl⟩
    have hVh : V.heap = (w.alloc (.cells #[.int .i64 x1, .int .i64 x2] 27)).heap := by rw [hV]; exact heap_drew_n _ _
    have hsv : SelIP V S s m c cb B Sh q es1 := HSV0.out.keep (by rw [hVh]; exact Nat.le_refl _) fun k _ => by rw [hVh]
    have HKV : Hid (Kept S w V) := by rw [hV]; exact HK0.out.drewN nq
    have rv : V.heap[w.heap.size]? = some (.cells #[.int .i64 x1, .int .i64 x2] 27 (0, 0)) := by rw [hVh]; exact HR0.out
    obtain ⟨-, -, v1, v2⟩ := hsv.cells
    have v3 := cell_of_row _ _ 0 _ _ _ rv
    have v4 := cell_of_row _ _ 1 _ _ _ rv
    have HSV := Lib.hid hsv
    rw [← hV]
    clear hV hVh hsv rv u1 u3 HLEN
    go_wp2
    go_still_tail 10, (by kernel_rfl)
    change wpList _ _ _ _ _ V.drew
    obtain ⟨U, hU⟩ : ∃ U, U = V.drew := ⟨_, rfl⟩
    rw [← hU]
    have HSU : Hid (SelIP U S s m c cb B Sh q es1) := by rw [hU]; exact HSV.out.drew
    have HKU : Hid (Kept S w U) := by rw [hU]; exact HKV.out.drew
    clear hU v1 v2 v3 v4
    go_wp2_with fail
    refine (kpushP cb Sh B es1 x1 x2 (q : Int) _ HSU.out.hp (by have := HSU.out.len; omega)).mono ?_
    rintro _ w5 ⟨rfl, Sh', hp5, hk5, hq5⟩
    have b5 := (hk5.block s (HSU.out.lt s HSU.out.ss) HSU.out.ns).trans HSU.out.blk
    have c5 := cell_of_row _ _ 2 _ _ _ b5
    have f5 := frozen_of_row _ _ 2 _ _ b5
    have hns : ¬ Sh' s := fun h => by
      rcases hq5 s h with h | h
      · exact HSU.out.ns h
      · have := HSU.out.lt s HSU.out.ss; omega
    have HFIN := Lib.hid (show SelIP (w5.setCell ⟨s, 2, none⟩ (.int .i64 ((q : Int) + 1))) (fun k => S k ∨ Sh' k) s m (c + 1) cb B Sh' (q + 1) (Km.put Om.less es1 ((x1, x2), (q : Int))) from
      ⟨by rw [heap_setCell_same _ _ _ _ _ _ b5]; rfl, (hp5.perm (Km.put_perm _ _)).other (S' := fun k => k = s) ((Kept.refl _ _).setCell (.inl rfl)) (fun k hk e => hns (by rw [← e]; exact hk)), fun k h => .inr h, .inl HSU.out.ss, hns, fun k h => by
        rcases h with h | h
        · have := HSU.out.lt k h; have := hk5.size; simp [World.setCell]; omega
        · have := hp5.in_ k h; simpa [World.setCell] using this, Km.put_so Om.less_ord HSU.out.so HSU.out.old, fun y hy => by
        rcases List.mem_cons.1 ((Km.put_perm es1 _).symm.subset hy) with rfl | hy
        · show (q : Int) < _; omega
        · have := HSU.out.old y hy; omega, by have := HSU.out.qc; omega, by rw [← (Km.put_perm es1 _).length_eq]; have := HSU.out.len; simp; omega⟩)
    have HFK := Lib.hid (show Kept S w (w5.setCell ⟨s, 2, none⟩ (.int .i64 ((q : Int) + 1))) from (HKU.out.trans hk5 fun k h => .inl (HSU.out.sub k h)).setCell (.inl HSU.out.ss))
    have HFS : Hid (∀ k, (fun k => S k ∨ Sh' k) k → S k ∨ w.heap.size ≤ k) := by
      intro k hk
      rcases hk with hk | hk
      · exact .inl hk
      · rcases hq5 k hk with h | h
        · exact .inl (HSU.out.sub k h)
        · exact .inr (Nat.le_trans HKU.out.size h)
    have qb : (q : Int) + 1 ≤ 1000000 := by have := HSU.out.qc; omega
    have q0 : (0 : Int) ≤ (q : Int) := by omega
    have HPF := Lib.hid (Km.put_fst (f := Om.less) es1 ((x1, x2), (q : Int)))
    clear hp5 hk5 hq5 b5 hns
    go_wp2
    go_ret
    exact ⟨rfl, _, ⟨_, _, _, _, _, HFIN.out, by rw [HPF.out]; exact by rw [HE.out]⟩, HFK.out, HFS.out⟩
  · have hc2 := h
    obtain ⟨W0, hW0⟩ : ∃ W0, W0 = w.alloc (.cells #[.int .i64 x1, .int .i64 x2] 27) := ⟨_, rfl⟩
    rw [← hW0] at hb0 r0 HK0
    have s0 : W0.heap.size = w.heap.size + 1 := by rw [hW0]; simp
    have HW0 := Lib.hid hW0
    clear hW0
    rcases List.eq_nil_or_concat K with rfl | ⟨K0, z, rfl⟩
    · simp at hr
      rw [Km.off_none (by omega)]
      have HSF := Lib.hid h
      obtain ⟨cb, B, Sh, q, es1, h1, h2⟩ := h
      obtain rfl : es1 = [] := by simpa using h2
      have h3 := h1.below hb0
      obtain ⟨-, u1, -, u3⟩ := h3.cells
      have HLEN := Lib.hid (klenP cb Sh B [] _ h3.drew.hp)
      have HG := Lib.hid (sgiveP_none S s m c x1 x2 _ ((hc2.below hb0).drew))
      have g1 : decide (m ≤ 0) = true := by simp; omega
      have e1 := cell_of_row _ _ 0 _ _ _ r0
      have e2 := cell_of_row _ _ 1 _ _ _ r0
      have HB0 := Lib.hid hb0
      clear h1 h2 h3 hb0 r0 hc2 hr hlt
      go_enter Try.func12, Try.ntmps12
      go_wp2
      rw [← HW0.out]
      go_still_tail 13, (by kernel_rfl)
      still_call HLEN.out
      repeat still_step
      refine wpStill_nil ?_
      change wpList _ _ _ _ _ W0.drew
      clear e1 e2 u1 u3
      go_wp2_with fail
      refine HG.out.mono ?_
      rintro _ w5 ⟨rfl, hb5⟩
      have HB5 := Lib.hid (show Below w.heap.size w w5 from HB0.out.drew.trans (hb5.mono (by show _ ≤ W0.heap.size; omega)))
      clear hb5 HG HLEN
      go_wp2
      go_ret
      exact ⟨rfl, S, (HSF.out.below HB5.out).more (by omega), Kept.of_below HB5.out, fun k hk => .inl hk⟩
    · rw [List.concat_eq_append] at *
      obtain ⟨z1, z2⟩ := z
      have hm : m ≤ (K0.length : Int) + 1 := by simp at hr; omega
      have hoff : Km.off Om.less m (K0 ++ [(z1, z2)]) (x1, x2) = if Om.less (x1, x2) (z1, z2) = true then (Om.merge Om.less K0 [(x1, x2)], true) else (K0 ++ [(z1, z2)], false) := by
        cases hf : Om.less (x1, x2) (z1, z2) with
        | true => rw [Km.off_yes hm hf]; rfl
        | false => rw [Km.off_no hm hf]; rfl
      rw [hoff]
      have hg := sgiveP S s m c K0 z1 z2 x1 x2 _ ((hc2.below hb0).drew) hc
      generalize Om.less (x1, x2) (z1, z2) = r at hg ⊢
      obtain ⟨cb0, B0, Sh0, q0, es0, h1, h2⟩ := h
      have hl : es0.length = K0.length + 1 := by rw [← List.length_map (f := Prod.fst), h2]; simp
      have h3 := h1.below hb0
      obtain ⟨-, u1, -, u3⟩ := h3.cells
      have hle := klenP cb0 Sh0 B0 es0 _ h3.drew.hp
      obtain ⟨n, hn⟩ : ∃ n, n = es0.length := ⟨_, rfl⟩
      rw [← hn] at hle
      have HLEN := Lib.hid hle
      have HG := Lib.hid hg
      have g1 : decide (m ≤ (n : Int)) = true := by simp; omega
      have e1 := cell_of_row _ _ 0 _ _ _ r0
      have e2 := cell_of_row _ _ 1 _ _ _ r0
      have HR0 := Lib.hid r0
      have HLT := Lib.hid hlt
      clear h1 h2 h3 hb0 r0 hc2 hr hlt hle hg hoff hm hl hn
      go_enter Try.func12, Try.ntmps12
      go_wp2
      rw [← HW0.out]
      go_still_tail 13, (by kernel_rfl)
      still_call HLEN.out
      repeat still_step
      refine wpStill_nil ?_
      change wpList _ _ _ _ _ W0.drew
      clear e1 e2 u1 u3 g1
      go_wp2_with fail
      refine HG.out.mono ?_
      rintro _ V ⟨rfl, hsv, hkv⟩
      have hkw : Kept S w V := HK0.out.drew.trans hkv fun k h => .inl h
      cases r with
      | false =>
        have HSV := Lib.hid hsv
        have HKW := Lib.hid hkw
        clear hsv hkv hkw HG HLEN
        go_wp2
        go_ret
        exact ⟨rfl, S, HSV.out.more (by omega), HKW.out, fun k hk => .inl hk⟩
      | true =>
        obtain ⟨cb, B, Sh, q, es1, hsv, hes⟩ := hsv
        have rv : V.heap[w.heap.size]? = some (.cells #[.int .i64 x1, .int .i64 x2] 27 (0, 0)) := (hkv.block w.heap.size (by show _ < W0.heap.size; omega) (fun h => by have := HLT.out _ h; omega)).trans HR0.out
        obtain ⟨-, -, v1, v2⟩ := hsv.cells
        have v3 := cell_of_row _ _ 0 _ _ _ rv
        have v4 := cell_of_row _ _ 1 _ _ _ rv
        have HSV := Lib.hid hsv
        have HKV := Lib.hid hkw
        have HE := Lib.hid (show es1.map Prod.fst = K0 from hes)
        clear hsv hkv hkw rv hes HG HLEN
        go_wp2
        go_still_tail 10, (by kernel_rfl)
        change wpList _ _ _ _ _ V.drew
        obtain ⟨U, hU⟩ : ∃ U, U = V.drew := ⟨_, rfl⟩
        rw [← hU]
        have HSU : Hid (SelIP U S s m c cb B Sh q es1) := by rw [hU]; exact HSV.out.drew
        have HKU : Hid (Kept S w U) := by rw [hU]; exact HKV.out.drew
        clear hU v1 v2 v3 v4
        go_wp2_with fail
        refine (kpushP cb Sh B es1 x1 x2 (q : Int) _ HSU.out.hp (by have := HSU.out.len; omega)).mono ?_
        rintro _ w5 ⟨rfl, Sh', hp5, hk5, hq5⟩
        have b5 := (hk5.block s (HSU.out.lt s HSU.out.ss) HSU.out.ns).trans HSU.out.blk
        have c5 := cell_of_row _ _ 2 _ _ _ b5
        have f5 := frozen_of_row _ _ 2 _ _ b5
        have hns : ¬ Sh' s := fun h => by
          rcases hq5 s h with h | h
          · exact HSU.out.ns h
          · have := HSU.out.lt s HSU.out.ss; omega
        have HFIN := Lib.hid (show SelIP (w5.setCell ⟨s, 2, none⟩ (.int .i64 ((q : Int) + 1))) (fun k => S k ∨ Sh' k) s m (c + 1) cb B Sh' (q + 1) (Km.put Om.less es1 ((x1, x2), (q : Int))) from
          ⟨by rw [heap_setCell_same _ _ _ _ _ _ b5]; rfl, (hp5.perm (Km.put_perm _ _)).other (S' := fun k => k = s) ((Kept.refl _ _).setCell (.inl rfl)) (fun k hk e => hns (by rw [← e]; exact hk)), fun k h => .inr h, .inl HSU.out.ss, hns, fun k h => by
            rcases h with h | h
            · have := HSU.out.lt k h; have := hk5.size; simp [World.setCell]; omega
            · have := hp5.in_ k h; simpa [World.setCell] using this, Km.put_so Om.less_ord HSU.out.so HSU.out.old, fun y hy => by
            rcases List.mem_cons.1 ((Km.put_perm es1 _).symm.subset hy) with rfl | hy
            · show (q : Int) < _; omega
            · have := HSU.out.old y hy; omega, by have := HSU.out.qc; omega, by rw [← (Km.put_perm es1 _).length_eq]; have := HSU.out.len; simp; omega⟩)
        have HFK := Lib.hid (show Kept S w (w5.setCell ⟨s, 2, none⟩ (.int .i64 ((q : Int) + 1))) from (HKU.out.trans hk5 fun k h => .inl (HSU.out.sub k h)).setCell (.inl HSU.out.ss))
        have HFS : Hid (∀ k, (fun k => S k ∨ Sh' k) k → S k ∨ w.heap.size ≤ k) := by
          intro k hk
          rcases hk with hk | hk
          · exact .inl hk
          · rcases hq5 k hk with h | h
            · exact .inl (HSU.out.sub k h)
            · exact .inr (Nat.le_trans HKU.out.size h)
        have qb : (q : Int) + 1 ≤ 1000000 := by have := HSU.out.qc; omega
        have q0 : (0 : Int) ≤ (q : Int) := by omega
        have HPF := Lib.hid (Km.put_fst (f := Om.less) es1 ((x1, x2), (q : Int)))
        clear hp5 hk5 hq5 b5 hns
        go_wp2
        go_ret
        exact ⟨rfl, _, ⟨_, _, _, _, _, HFIN.out, by rw [HPF.out]; exact by rw [HE.out]⟩, HFK.out, HFS.out⟩
end Go.Proofs.Ytdpoieemadblnaa
