/-
  Layer 8 (topk): a selector's List, by contract: the walk.
-/
import Derived.Test.YtdpoieemadblnaaKLstP
namespace Go.Proofs.Ytdpoieemadblnaa
open Go.RowKit Go.Shelf
namespace slistP
attribute [local go_sem] Oper.semAt_some

/-- what stands ahead of a pop; one that was popped; none is left -/
def DI (W0 : World) (Sh : Nat → Prop) (r B cb : Nat) (es o L : List Km.Ent) (S : Nat → Prop) (W : World) : Prop := DlP W0 Sh r B cb L.length o L S W ∧ es = L ++ o.reverse
def DM (W0 : World) (Sh : Nat → Prop) (r B cb : Nat) (es o : List Km.Ent) (x : Km.Ent) (L : List Km.Ent) (S : Nat → Prop) (W : World) : Prop := DlP W0 Sh r B cb (L.length + 1) o L S W ∧ es = L ++ x :: o.reverse
def DZ (W0 : World) (Sh : Nat → Prop) (r B cb : Nat) (es o : List Km.Ent) (S : Nat → Prop) (W : World) : Prop := DlP W0 Sh r B cb 0 o [] S W ∧ es = o.reverse
/-- a block of the iterator's own, or of a round's: one entry -/
def Own3 (W0 : World) (x1 x2 x3 : Int) (b : Nat) (S : Nat → Prop) (W : World) : Prop := ¬ S b ∧ W0.heap.size + 2 ≤ b ∧ W.heap[b]? = some (.cells #[.int .i64 x1, .int .i64 x2, .int .i64 x3] 61 (0, 0))
theorem Own3.off {W0 W W' : World} {x1 x2 x3 : Int} {b : Nat} {S : Nat → Prop} (h : Own3 W0 x1 x2 x3 b S W) (ho : Off (W0.heap.size + 1) W W') : Own3 W0 x1 x2 x3 b S W' := ⟨h.1, h.2.1, (ho.block b (by have := h.2.1; omega)).trans h.2.2⟩

set_option maxHeartbeats 3200000 in
set_option maxRecDepth 100000 in
theorem list_ (S : Nat → Prop) (s : Nat) (m : Int) (c : Nat) (K : List Om.E) (w : World) (h : SelP w S s m c K) (hc : c ≤ 100000) :
    Calls Try.prog 16 #[.pointer (some ⟨s, 0, none⟩)] w fun e w' => e = .returned (.slice (some ⟨w.heap.size, 0, none⟩) K.length K.length) ∧ BlkE 27 w' w.heap.size K ∧ ∃ S', SelP w' S' s m c K ∧ ¬ S' w.heap.size ∧ Kept S w w' ∧ ∀ k, S' k → S k ∨ w.heap.size ≤ k := by
  obtain ⟨cb, B, Sh, q, es, h1, h2⟩ := h
  obtain ⟨n, hn⟩ : ∃ n, n = K.length := ⟨_, rfl⟩
  have hne : es.length = n := by rw [hn, ← h2, List.length_map]
  have hn1 : n ≤ 100000 := by have := h1.len; omega
  obtain ⟨M2, hM2, hmk2⟩ := hmadeP n hn1
  have hmk1 := smadeP n hn1
  have HL := Lib.hid (show Calls Try.prog _ _ _ _ from slenP S s m c K w ⟨cb, B, Sh, q, es, h1, h2⟩)
  rw [← hn] at HL
  obtain ⟨WA, hWA⟩ : ∃ WA, WA = (w.alloc (.cells (cel (List.replicate n (0, 0))).toArray 27)).alloc (.cells #[.slice (some ⟨w.heap.size, 0, none⟩) n n] 29) := ⟨_, rfl⟩
  have bA : Below w.heap.size w WA := by rw [hWA]; exact below_two _ _ _
  have sA : WA.heap.size = w.heap.size + 2 := by rw [hWA]; simp
  have HL2 := Lib.hid (show Calls Try.prog _ _ _ _ from slenP S s m c K WA ⟨cb, B, Sh, q, es, h1.below bA, h2⟩)
  rw [← hn] at HL2
  obtain ⟨WB, hWB⟩ : ∃ WB, WB = (WA.alloc (.cells M2 61)).alloc (.cells #[.slice (some ⟨w.heap.size + 2, 0, none⟩) 0 n] 68) := ⟨_, rfl⟩
  have bB : Below w.heap.size w WB := by rw [hWB]; exact bA.trans ((below_two _ _ _).mono bA.size)
  have sB : WB.heap.size = w.heap.size + 4 := by rw [hWB]; simp; omega
  have hsB := h1.below bB
  obtain ⟨-, -, -, cB⟩ := hsB.cells
  rw [hWB] at cB
  have HWA := Lib.hid hWA
  have HWB := Lib.hid hWB
  have H1 := Lib.hid h1
  have HE := Lib.hid h2
  have HNE := Lib.hid hne
  have HN := Lib.hid hn
  have HBB := Lib.hid bB
  have HSB := Lib.hid hsB
  rw [← hn]
  clear hWA hWB h1 h2 bA bB hsB hn hne
  refine (callsIn_wide (n := 6)).1 ?_
  refine callsIn_of_wp_marks Try.func16 rfl trivial ?_ rfl
  simp only [Try.ntmps16, List.size_toArray, List.length_cons, List.length_nil, Nat.reduceAdd, Nat.reduceSub, Array.replicate_succ, Array.replicate_zero, List.push_toArray, List.append_toArray, List.nil_append, List.cons_append]
  gi_wp2_with fail
  refine ⟨trivial, ?_⟩
  refine (callsIn_wide.2 HL.out).mono ?_
  rintro _ W1 ⟨rfl, hw1⟩
  subst W1
  gi_wp2_with fail
  rw [← HWA.out]
  refine ⟨trivial, ?_⟩
  refine (callsIn_wide.2 HL2.out).mono ?_
  rintro _ W2 ⟨rfl, hw2⟩
  subst W2
  gi_wp2_with fail
  rw [← HWB.out]
  refine ⟨trivial, ?_⟩
  refine (callsIn_wide.2 (kdrainP B _)).mono ?_
  rintro _ W4 ⟨rfl, hw4⟩
  have b4 : Below WB.heap.size WB W4 := by rw [hw4]; exact (Below.refl _ WB).alloc (Nat.le_refl _) _
  have s4 : W4.heap.size = w.heap.size + 5 := by rw [hw4]; simp; omega
  have HQ4 : Hid (W4.heap[w.heap.size + 4]? = some (.cells #[.pointer (some ⟨B, 0, none⟩)] 58 (0, 0))) := by rw [hw4, ← sB]; exact heap_alloc_new WB _
  clear hw4
  rw [sB]
  have HR4 : Hid (BlkE 27 W4 w.heap.size (List.replicate n (0, 0))) := by
    have e : WA.heap[w.heap.size]? = some (.cells (cel (List.replicate n (0, 0))).toArray 27 (0, 0)) := by rw [HWA.out]; exact heap_alloc2_old w _ _
    have e2 : WB.heap[w.heap.size]? = some (.cells (cel (List.replicate n (0, 0))).toArray 27 (0, 0)) := by rw [HWB.out, (below_two WA _ _).block _ (by omega)]; exact e
    exact (b4.block _ (by omega)).trans e2
  have HX4 : Hid (W4.heap[w.heap.size + 1]? = some (.cells #[.slice (some ⟨w.heap.size, 0, none⟩) n n] 29 (0, 0))) := by
    have e : WA.heap[w.heap.size + 1]? = some (.cells #[.slice (some ⟨w.heap.size, 0, none⟩) n n] 29 (0, 0)) := by rw [HWA.out]; exact heap_alloc2_new w _ _
    have e2 : WB.heap[w.heap.size + 1]? = some (.cells #[.slice (some ⟨w.heap.size, 0, none⟩) n n] 29 (0, 0)) := by rw [HWB.out, (below_two WA _ _).block _ (by omega)]; exact e
    exact (b4.block _ (by omega)).trans e2
  have HP4 : Hid (W4.heap[w.heap.size + 3]? = some (.cells #[.slice (some ⟨w.heap.size + 2, 0, none⟩) 0 n] 68 (0, 0))) := by
    have e2 : WB.heap[WA.heap.size + 1]? = some (.cells #[.slice (some ⟨w.heap.size + 2, 0, none⟩) 0 n] 68 (0, 0)) := by rw [HWB.out]; exact heap_alloc2_new WA _ _
    rw [sA] at e2
    exact (b4.block _ (by omega)).trans e2
  have HO4 : Hid (W4.ownsRow w.heap.size 61 3 (.slice (some ⟨w.heap.size + 2, 0, none⟩) 0 n) 0 (ce3 [])) := by
    have e2 : WB.heap[w.heap.size + 2]? = some (.cells M2 61 (0, 0)) := by rw [HWB.out, ← sA]; exact heap_alloc2_old WA _ _
    refine ⟨rfl, .inr ⟨w.heap.size + 2, n, M2, rfl, by omega, (b4.block _ (by omega)).trans e2, by omega, by unfold maxLen; omega, hM2, by simp [ce3]⟩⟩
  have HS4 := Lib.hid (HSB.out.below b4)
  have B4 := Lib.hid (HBB.out.trans (b4.mono (by omega)))
  have HSh := Lib.hid (show ∀ k, Sh k → k < w.heap.size from fun k hk => H1.out.lt k (H1.out.sub k hk))
  have HL5 := Lib.hid (show es.length = n from HNE.out)
  clear cB hmk1 hmk2 b4 HWA HWB HL HL2 HSB HBB hM2
  gi_wp2
  rw [show w.heap.size + 2 + 1 = w.heap.size + 3 from rfl]
  obtain ⟨i0, hi, hz0, hz1, hz2⟩ := info_parts Try.kinfoP
  refine range_boxes (n := 6) (ι := List Km.Ent × Int × Int × Int × List Km.Ent × Nat) rfl (by omega) (gf := 52) (lb := #[.pointer (some ⟨w.heap.size + 4, 0, none⟩)]) rfl trivial (enters_of Try.func52 (by kernel_rfl) rfl)
    (fun W => ∃ S, DI W4 Sh w.heap.size B cb es [] es S W)
    (fun i vs W => vs = #[.agg #[.int .i64 i.2.1, .int .i64 i.2.2.1, .int .i64 i.2.2.2.1]] ∧ ∃ S, DM W4 Sh w.heap.size B cb es i.1 ((i.2.1, i.2.2.1), i.2.2.2.1) i.2.2.2.2.1 S W ∧ Own3 W4 i.2.1 i.2.2.1 i.2.2.2.1 i.2.2.2.2.2 S W)
    (fun i vs c W => vs = #[.agg #[.int .i64 i.2.1, .int .i64 i.2.2.1, .int .i64 i.2.2.2.1]] ∧ ∃ S, DM W4 Sh w.heap.size B cb es i.1 ((i.2.1, i.2.2.1), i.2.2.2.1) i.2.2.2.2.1 S W ∧ Own3 W4 i.2.1 i.2.2.1 i.2.2.2.1 i.2.2.2.2.2 S W ∧ Own3 W4 i.2.1 i.2.2.1 i.2.2.2.1 c S W)
    (fun i W => ∃ S, DI W4 Sh w.heap.size B cb es (i.1 ++ [((i.2.1, i.2.2.1), i.2.2.2.1)]) i.2.2.2.2.1 S W ∧ Own3 W4 i.2.1 i.2.2.1 i.2.2.2.1 i.2.2.2.2.2 S W)
    (fun W => ∃ o S, DZ W4 Sh w.heap.size B cb es o S W)
    (fun _ _ => False)
    (fun c vs t => (t.setIfInBounds 17 (vs.getD 0 undef)).setIfInBounds 5 (.pointer (some ⟨c, 0, none⟩)))
    ?hJ ?hA ?hE ?hX ?hps ?h0 ?iter ?assign ?body ?done ?stop
  case hJ => rintro i W W' ⟨S, ⟨h1, h2⟩, h3⟩ ho; exact ⟨S, ⟨h1.off HSh.out s4 ho, h2⟩, h3.off ho⟩
  case hA => rintro i vs c W W' ⟨hv, S, ⟨h1, h2⟩, h3, h4⟩ ho; exact ⟨hv, S, ⟨h1.off HSh.out s4 ho, h2⟩, h3.off ho, h4.off ho⟩
  case hE => rintro W W' ⟨o, S, h1, h2⟩ ho; exact ⟨o, S, h1.off HSh.out s4 ho, h2⟩
  case hX => rintro c W W' ⟨⟩
  case hps => rintro i vs W ⟨rfl, _⟩; rfl
  case h0 =>
    intro W hb hs
    refine ⟨fun k => k < W4.heap.size ∨ some (w.heap.size + 2) = some k, ⟨_, fun _ => Iff.rfl, HS4.out.hp.below hb, (hb.block _ (by omega)).trans HP4.out, ?_, fun k e => ?_, ?_, by omega, Kept.of_below hb⟩, by simp⟩
    · exact own_keep HO4.out fun g e => hb.block g (by have e2 : w.heap.size + 2 = g := by simpa [Value.ownBlock] using e
                                                       omega)
    · have e2 : w.heap.size + 2 = k := by simpa [Value.ownBlock] using e
      omega
    · rw [HL5.out]
      simpa using (show BlkE 27 W w.heap.size (List.replicate n (0, 0)) from (hb.block _ (by omega)).trans HR4.out)
  case iter =>
    intro l' Kk Y hK hY W hI hKW
    refine kiterP (m := 5) (D := W4.heap.size) (B := B) Sh (fun k hk => by have := HSh.out k hk; omega) (DI W4 Sh w.heap.size B cb es) (DM W4 Sh w.heap.size B cb es) (DZ W4 Sh w.heap.size B cb es) Kk Y ?_ ?_ ?_ hK ?_ ?_ ?_ ?_ ?_ es W hI hKW
    · exact fun o L => ⟨fun S W h => h.1.lt, fun S W W' h hk => ⟨h.1.keep HSh.out s4 hk, h.2⟩⟩
    · exact fun o x L => ⟨fun S W h => h.1.lt, fun S W W' h hk => ⟨h.1.keep HSh.out s4 hk, h.2⟩⟩
    · exact fun o => ⟨fun S W h => h.1.lt, fun S W W' h hk => ⟨h.1.keep HSh.out s4 hk, h.2⟩⟩
    · rintro o L S W ⟨⟨v, h1, h2, h3, h4, h5, h6, h7, h8⟩, _⟩; exact h7
    · rintro o x L S W ⟨h, _⟩; exact h.lenC
    · rintro o L S W ⟨⟨v, h1, h2, h3, h4, h5, h6, h7, h8⟩, _⟩
      have := (h8.block (w.heap.size + 4) (by omega) (fun q => by
        rcases q with q | q | q | q
        · have := HSh.out _ q; omega
        · omega
        · omega
        · omega)).trans HQ4.out
      rw [cell_of_row _ _ _ _ _ _ this]; rfl
    · rintro o L S W ⟨h, h1⟩
      have hL : L.length ≤ 100000 := by
        have e := congrArg List.length h1
        rw [List.length_append, HL5.out] at e
        omega
      refine (h.pop HSh.out s4 hL).mono ?_
      rintro e W' ⟨x1, x2, x3, ok, L', he, po, h', k⟩
      refine ⟨x1, x2, x3, ok, he, ?_, k⟩
      rcases po with ⟨rfl, _, rfl, rfl⟩ | ⟨rfl, hp, hle⟩
      · exact .inr ⟨rfl, h' [] (List.Perm.refl _), by simpa using h1⟩
      · rcases List.eq_nil_or_concat L with rfl | ⟨L0, z, rfl⟩
        · exact absurd hp.length_eq (by simp)
        · rw [List.concat_eq_append] at *
          have hso : Km.So Om.less (L0 ++ [z]) := by
            have := H1.out.so
            rw [h1] at this
            exact List.Pairwise.sublist (List.sublist_append_left _ _) this
          obtain ⟨hz, hp2⟩ := hso.pops Om.less_ord hp hle
          refine .inl ⟨rfl, L0, by simp, ?_, ?_⟩
          · have := h' L0 hp2
            simpa using this
          · rw [h1, ← hz]; simp
    · rintro o x1 x2 x3 L' b W ⟨S, hM, hO⟩ hKW
      exact hY (o, x1, x2, x3, L', b) _ W ⟨rfl, S, hM, hO⟩ hKW
  case assign =>
    rintro l' ⟨o, x1, x2, x3, L', b⟩ vs W Kk ⟨rfl, S, hM, hO⟩ hK
    have hn : Kept (fun k => ¬ S k) W (W.alloc (.cells #[.int .i64 x1, .int .i64 x2, .int .i64 x3] 61)) := kept_box _
    have hlt := hM.1.lt
    have h5 : W4.heap.size + 2 ≤ W.heap.size := by obtain ⟨v, h1, h2, h3, h4, h5, h6, h7, h8⟩ := hM.1; exact h7
    have HC := Lib.hid (hK W.heap.size (W.alloc (.cells #[.int .i64 x1, .int .i64 x2, .int .i64 x3] 61)) ⟨rfl, S, ⟨hM.1.keep HSh.out s4 hn, hM.2⟩, ⟨hO.1, hO.2.1, (Below.heap_alloc _ _ _ (lt_of_block hO.2.2)).trans hO.2.2⟩, fun q => by have := hlt _ q; omega, h5, heap_alloc_new _ _⟩ (kf_kept (S := fun k => k < W4.heap.size) (kept_box _) fun k h => h))
    clear hK hM hO hn
    gi_wp2
    exact HC.out
  case body =>
    rintro l' ⟨o, x1, x2, x3, L', b⟩ vs c W ⟨rfl, S, hM, hO, hC⟩
    obtain ⟨v, hv, hov, h7, hS1, hvk, hbr, hxl⟩ : ∃ v, W.heap[w.heap.size + 3]? = some (.cells #[v] 68 (0, 0)) ∧ W.ownsRow w.heap.size 61 3 v o.length (ce3 o) ∧ W4.heap.size + 2 ≤ W.heap.size ∧ (∀ k, S k ↔ k < W4.heap.size ∨ v.ownBlock = some k) ∧ (∀ k, v.ownBlock = some k → k = w.heap.size + 2 ∨ W4.heap.size + 2 ≤ k) ∧ BlkE 27 W w.heap.size (List.replicate (L'.length + 1) (0, 0) ++ o.reverse.map Prod.fst) ∧ W.heap[w.heap.size + 1]? = some (.cells #[.slice (some ⟨w.heap.size, 0, none⟩) n n] 29 (0, 0)) := by
      obtain ⟨v, h1, h2, h3, h4, h5, h6, h7, h8⟩ := hM.1
      exact ⟨v, h3, h4, h7, h1, h5, h6, (h8.block (w.heap.size + 1) (by omega) (fun q => by
        rcases q with q | q | q | q
        · have := HSh.out _ q; omega
        · omega
        · omega
        · omega)).trans HX4.out⟩
    obtain ⟨A, cp, rfl⟩ : ∃ A cp, v = .slice A o.length cp := by
      rcases hov.2 with ⟨e, e2⟩ | ⟨g, cap, cur, e, _⟩
      · exact ⟨none, 0, by rw [e, e2]⟩
      · exact ⟨_, cap, e⟩
    have hnn : n = L'.length + 1 + o.length := by
      have e := congrArg List.length hM.2
      rw [HL5.out] at e
      simp at e
      omega
    have hpc : W.cell? ⟨w.heap.size + 3, 0, none⟩ = some (.slice A o.length cp) := by rw [cell_of_row _ _ _ _ _ _ hv]; rfl
    obtain ⟨⟨cc1, cc2, cc3⟩, -⟩ := kcellsP hC.2.2
    have HPU := Lib.hid (fun (W2 : World) (g cap : Nat) => DlP.push (W2 := W2) (g := g) (cap := cap) (x1 := x1) (x2 := x2) (x3 := x3) (nw := .cells #[.int .i64 x1, .int .i64 x2, .int .i64 x3] 61) hM.1 HSh.out s4 hv)
    have HOV := Lib.hid (hov.alloc (.cells #[.int .i64 x1, .int .i64 x2, .int .i64 x3] 61))
    have HO := Lib.hid hO
    have HC := Lib.hid hC
    have HM := Lib.hid hM.2
    have HVV := Lib.hid hv
    have HXL := Lib.hid hxl
    have HBR := Lib.hid hbr
    have HVK := Lib.hid hvk
    have HS1 := Lib.hid hS1
    have hcl : c < W.heap.size := lt_of_block hC.2.2
    have hcne : c ≠ w.heap.size + 3 := by have := hC.2.1; omega
    have hcne2 : c ≠ w.heap.size := by have := hC.2.1; omega
    have HWN := Lib.hid (show ∀ k, k < W4.heap.size → k ≠ w.heap.size + 2 → (Value.slice A o.length cp).ownBlock ≠ some k from fun k hk hk2 q => by rcases hvk k q with e | e <;> omega)
    have HWC := Lib.hid (show (Value.slice A o.length cp).ownBlock ≠ some c from fun q => hC.1 ((hS1 c).2 (.inr q)))
    have e1 : (n : Int) - ((o.length : Int) + 1) = (L'.length : Int) := by omega
    have e2 : IntKind.i64.wrap ((n : Int) - ((o.length : Int) + 1)) = (L'.length : Int) := by rw [e1]; exact IntWalk.i64_in _ (by omega)
    have ln : L'.length < n := by omega
    have HIX := Lib.hid (show (List.replicate (L'.length + 1) ((0 : Int), (0 : Int)) ++ o.reverse.map Prod.fst)[L'.length]? = some (0, 0) from by
      rw [List.getElem?_append_left (by simp), List.getElem?_replicate, if_pos (by omega)])
    have HNN := Lib.hid hnn
    have on : o.length < n := by omega
    clear hnn hM hO hC hv hov hS1 hvk hbr hxl
    generalize hP : leftBy W4.heap.size _ _ W = Pst
    have HP := Lib.hid hP
    clear hP
    gi_wp2_with (gi_at_builtin; refine push_in3 _ rfl (.tmp 18) (.tmp 20) 68 rfl w.heap.size 61 i0 (.agg #[.int .i64 0, .int .i64 0, .int .i64 0]) 24 Try.underlying68 hi hz0 hz1 hz2 rfl (.slice A o.length cp) o.length (ce3 o) rfl HOV.out W.heap.size (.int .i64 x1) (.int .i64 x2) (.int .i64 x3) rfl (heap_alloc_new _ _) rfl rfl rfl (by omega) (by omega) (by simp; omega) ?_; intro g cap' V2 r1 r2 r3; have hp2 := (r2.block (w.heap.size + 3) (by simp; omega) (fun e => HWN.out _ (by omega) (by omega) e.symm)).trans ((Below.heap_alloc _ _ _ (by omega)).trans HVV.out); have hx2 := (r2.block (w.heap.size + 1) (by simp; omega) (fun e => HWN.out _ (by omega) (by omega) e.symm)).trans ((Below.heap_alloc _ _ _ (by omega)).trans HXL.out); have hr2 := (r2.block w.heap.size (by simp; omega) (fun e => HWN.out _ (by omega) (by omega) e.symm)).trans ((Below.heap_alloc _ _ _ (by omega)).trans HBR.out); have hc2 := (r2.block c (by simp; omega) (fun e => HWC.out e.symm)).trans ((Below.heap_alloc _ _ _ hcl).trans HC.out.2.2); have m3 : V2.cell? ⟨w.heap.size + 3, 0, none⟩ = some (.slice A o.length cp) := cell_of_row _ _ 0 _ _ _ hp2; have f3 := frozen_of_row V2 (w.heap.size + 3) 0 _ _ hp2; have m4 : V2.cell? ⟨w.heap.size + 1, 0, none⟩ = some (.slice (some ⟨w.heap.size, 0, none⟩) n n) := cell_of_row _ _ 0 _ _ _ hx2; obtain ⟨⟨k1, k2, k3⟩, -⟩ := kcellsP hc2; have m5 := BlkE.fst (t := 27) (i := L'.length) (x := (0, 0)) hr2 HIX.out; have m6 := BlkE.snd (t := 27) (i := L'.length) (x := (0, 0)) hr2 HIX.out; have f5 := BlkE.frozen (t := 27) hr2 (L'.length * 2); have f6 := BlkE.frozen (t := 27) hr2 (L'.length * 2 + 1); have HPP := Lib.hid (HPU.out V2 g cap' r1 r2 r3); clear r1 r2 r3 hp2 hx2 hr2 hc2)
    obtain ⟨S', q1, q2, q3⟩ := HPP.out
    rw [← HP.out]
    have q4 := q3 b HO.out.1 (by have := HO.out.2.1; omega) (lt_of_block HO.out.2.2)
    exact ⟨q2, S', ⟨q1, by rw [HM.out]; simp⟩, q4.1, HO.out.2.1, q4.2.trans HO.out.2.2⟩
  case stop => rintro D c W rfl ⟨⟩
  case done =>
    rintro D W rfl ⟨o, S', ⟨v, h1, h2, h3, h4, h5, h6, h7, h8⟩, heso⟩ hK
    obtain ⟨A, cp, rfl⟩ : ∃ A cp, v = .slice A o.length cp := by
      rcases h4.2 with ⟨e, e2⟩ | ⟨g, cap, cur, e, _⟩
      · exact ⟨none, 0, by rw [e, e2]⟩
      · exact ⟨_, cap, e⟩
    have hA0 : A = none → cp = 0 := by
      rcases h4.2 with ⟨e, e2⟩ | ⟨g, cap, cur, e, _⟩
      · injection e with e1 _ e3; intro _; exact e3
      · injection e with e1; intro e; rw [e1] at e; cases e
    have hno : o.length ≤ 100000 := by
      have e := congrArg List.length heso
      rw [HL5.out] at e
      simp at e
      omega
    have hsw : s < w.heap.size := H1.out.lt s H1.out.ss
    have hold : ∀ k, k < w.heap.size → ¬ Sh k → W.heap[k]? = w.heap[k]? := fun k hk hn => (h8.block k (by omega) (fun q => by
      rcases q with q | q | q | q
      · exact hn q
      · omega
      · omega
      · omega)).trans (B4.out.block k hk)
    have bs : W.heap[s]? = some (.cells #[.func (.func 10) #[] #[], .int .i64 m, .int .i64 (q : Int), .pointer (some ⟨B, 0, none⟩)] 65 (0, 0)) := (hold s hsw H1.out.ns).trans H1.out.blk
    have bx : W.heap[w.heap.size + 1]? = some (.cells #[.slice (some ⟨w.heap.size, 0, none⟩) n n] 29 (0, 0)) := (h8.block (w.heap.size + 1) (by omega) (fun q => by
      rcases q with q | q | q | q
      · have := HSh.out _ q; omega
      · omega
      · omega
      · omega)).trans HX4.out
    have br : BlkE 27 W w.heap.size K := by
      have e : K = List.replicate 0 (0, 0) ++ o.reverse.map Prod.fst := by rw [← HE.out, heso]; simp
      rw [e]; exact h6
    have kw : Kept S w W := ⟨h8.os.trans B4.out.os, h8.tape.trans B4.out.tape, h8.output.trans B4.out.output, by omega, fun k hk hn => hold k hk fun q => hn (H1.out.sub k q)⟩
    have u0 := cell_of_row _ _ 0 _ _ _ bs
    have u3 := cell_of_row _ _ 0 _ _ _ h3
    have HVO := Lib.hid (VecK.of_own h4)
    have HBS := Lib.hid bs
    have HBX := Lib.hid bx
    have HBR := Lib.hid br
    have HB3 := Lib.hid h3
    have HKW := Lib.hid kw
    have HKD := Lib.hid hK
    have HA0 := Lib.hid hA0
    have HPE := Lib.hid (show o.Perm es from by rw [heso]; exact (List.reverse_perm o).symm)
    have sW : w.heap.size + 7 ≤ W.heap.size := by omega
    clear h1 h2 h3 h4 h5 h6 h7 h8 hold bs bx br kw hK hA0 heso HQ4 HR4 HX4 HP4 HO4 HS4 hi hz0 hz1 hz2
    gi_wp2
    refine wpIn_mono (?_ : Code.wpIn _ _ _ _ (NoPanic _) _ _) NoPanic.imp
    gi_region_with (first
      | (refine ⟨trivial, ?_⟩; gi_at_call 29; refine (callsIn_wide.2 (laterP _)).mono ?_; rintro _ U1 ⟨rfl, hu1⟩; have hU1b : Below W.heap.size W U1 := (by rw [hu1]; exact (Below.refl _ W).drew.alloc (Nat.le_refl _) _); have hU1c : CapP U1 W.heap.size := (by rw [hu1]; exact heap_alloc_new _ _); have HU1B := Lib.hid hU1b; have HU1C := Lib.hid hU1c; have u4 : U1.cell? ⟨w.heap.size + 3, 0, none⟩ = some (.slice A o.length cp) := (hU1b.cell (p := ⟨w.heap.size + 3, 0, none⟩) (by show w.heap.size + 3 < _; omega)).trans u3; clear hu1 hU1b hU1c)
      | (refine ⟨trivial, ?_⟩; gi_at_call 28; refine (callsIn_wide.2 (knewP W.heap.size A o.length cp o U1 HU1C.out (HVO.out.below HU1B.out) HA0.out hno)).mono ?_; rintro _ U2 ⟨Sh', B', rfl, hh, hb2, hS2⟩; have HHH := Lib.hid hh; have HU2B := Lib.hid (HU1B.out.trans (hb2.mono HU1B.out.size)); have HS2 := Lib.hid hS2; have hbs2 := (HU2B.out.block s (by omega)).trans HBS.out; have u5 := cell_of_row _ _ 3 _ _ _ hbs2; have f5 := frozen_of_row _ _ 3 _ _ hbs2; have s12 := HU1B.out.size; clear hh hb2 hS2 hbs2))
    all_goals
      refine NoPanic.normal ?_
      go_simp
      have hbs2 := (HU2B.out.block s (by omega)).trans HBS.out
      have s2 := HU2B.out.size
      have hge : ∀ k, Sh' k → w.heap.size + 7 ≤ k := fun k hk => by rcases HS2.out k hk with e | e <;> omega
      have hsel : SelIP (U2.setCell ⟨s, 3, none⟩ (.pointer (some ⟨B', 0, none⟩))) (fun k => k = s ∨ Sh' k) s m c W.heap.size B' Sh' q es :=
        ⟨by rw [heap_setCell_same _ _ _ _ _ _ hbs2]; rfl, (HHH.out.perm HPE.out).other (S' := fun k => k = s) ((Kept.refl _ _).setCell (.inl rfl)) (fun k hk e => by have := hge k hk; omega), fun k h => .inr h, .inl rfl, fun h => by have := hge s h; omega, fun k h => by
          rcases h with h | h
          · simp [World.setCell]; omega
          · have := HHH.out.in_ k h; simpa [World.setCell] using this, H1.out.so, H1.out.old, H1.out.qc, H1.out.len⟩
      have hk3 : Kept S w (U2.setCell ⟨s, 3, none⟩ (.pointer (some ⟨B', 0, none⟩))) := (HKW.out.below HU2B.out).setCell (.inl H1.out.ss)
      have hbr3 : BlkE 27 (U2.setCell ⟨s, 3, none⟩ (.pointer (some ⟨B', 0, none⟩))) w.heap.size K := by
        unfold BlkE
        rw [Below.heap_setCell _ _ _ _ (show w.heap.size ≠ s by omega), HU2B.out.block _ (by omega)]
        exact HBR.out
      have hx3 : (U2.setCell ⟨s, 3, none⟩ (.pointer (some ⟨B', 0, none⟩))).heap[w.heap.size + 1]? = some (.cells #[.slice (some ⟨w.heap.size, 0, none⟩) n n] 29 (0, 0)) := by
        rw [Below.heap_setCell _ _ _ _ (show w.heap.size + 1 ≠ s by omega), HU2B.out.block _ (by omega)]
        exact HBX.out
      have HDE := Lib.hid (show (U2.setCell ⟨s, 3, none⟩ (.pointer (some ⟨B', 0, none⟩))).heap[w.heap.size + 5]? = some (.deferred (some [])) from by
        rw [Below.heap_setCell _ _ _ _ (show w.heap.size + 5 ≠ s by omega), HU2B.out.block _ (by omega), ← s4]
        exact HKD.out)
      have cx3 := cell_of_row _ _ 0 _ _ _ hx3
      have HFIN := Lib.hid (show ∀ W'' : World, Kept (fun k => k = w.heap.size + 5) (U2.setCell ⟨s, 3, none⟩ (.pointer (some ⟨B', 0, none⟩))) W'' → BlkE 27 W'' w.heap.size K ∧ ∃ S', SelP W'' S' s m c K ∧ ¬ S' w.heap.size ∧ Kept S w W'' ∧ ∀ k, S' k → S k ∨ w.heap.size ≤ k from fun W'' hk =>
        ⟨(hk.block _ hbr3.lt (by omega)).trans hbr3, fun k => k = s ∨ Sh' k, ⟨_, _, _, _, _, hsel.keep hk.size fun k h => hk.block k (hsel.lt k h) (fun e => by
          rcases h with h | h
          · omega
          · have := hge k h; omega), HE.out⟩, fun h => by
          rcases h with h | h
          · omega
          · have := hge _ h; omega, hk3.trans hk fun k e => .inr (by omega), fun k h => by
          rcases h with h | h
          · subst h; exact .inl H1.out.ss
          · have := hge k h; exact .inr (by omega)⟩)
      clear hbs2 hge hsel hk3 hbr3 hx3 u0 u3 u4 u5 f5
      gi_wp2
      refine ⟨by simp, .inl ⟨_, _, rfl, run_takeDeferred HDE.out, ?_⟩⟩
      exact ⟨_, results_tmp rfl _ _ _, rfl, HFIN.out _ ⟨rfl, rfl, rfl, by simp, fun k _ hk => World.putObj_heap_other hk⟩⟩
end slistP
end Go.Proofs.Ytdpoieemadblnaa
