/-
  Layer 8 (topk): what a heap's Drain hands back, ranged over, by contract.
-/
import Derived.Test.YtdpoieemadblnaaKOpsP
import Derived.Test.YtdpoieemadblnaaKHld
namespace Go.Proofs.Ytdpoieemadblnaa
open Go.RowKit Go.Shelf
attribute [local go_sem] Oper.semAt_some

/-- Drain: a closure that holds the heap -/
theorem kdrainP (B : Nat) (w : World) :
    Calls Try.prog 34 #[.pointer (some ⟨B, 0, none⟩)] w fun e w' => e = .returned (.func (.func 52) #[] #[.pointer (some ⟨w.heap.size, 0, none⟩)]) ∧ w' = w.alloc (.cells #[.pointer (some ⟨B, 0, none⟩)] 58) := by
  go_enter Try.func34, Try.ntmps34
  go_wp2
  go_ret
  exact ⟨rfl, rfl⟩

theorem kiterP {m l q B D : Nat} (Sh : Nat → Prop) (hSh : ∀ k, Sh k → k < D) (I : List Km.Ent → List Km.Ent → (Nat → Prop) → World → Prop) (M : List Km.Ent → Km.Ent → List Km.Ent → (Nat → Prop) → World → Prop) (Z : List Km.Ent → (Nat → Prop) → World → Prop) (K Y : World → Prop)
    (hIh : ∀ o L, Held (I o L)) (hMh : ∀ o x L, Held (M o x L)) (hZh : ∀ o, Held (Z o)) (hK : ∀ W W', K W → KeepsFrom D W W' → K W')
    (hD : ∀ o L S W, I o L S W → D + 2 ≤ W.heap.size)
    (hlen : ∀ o x L S W, M o x L S W → lenC B W = L.length)
    (hq : ∀ o L S W, I o L S W → W.cell? ⟨q, 0, none⟩ = some (.pointer (some ⟨B, 0, none⟩)))
    (hpop : ∀ o L S W, I o L S W → Calls Try.prog 50 #[.pointer (some ⟨B, 0, none⟩)] W fun e W' => ∃ x1 x2 x3 ok, e = .returned (.tuple #[.agg #[.int .i64 x1, .int .i64 x2, .int .i64 x3], .bool ok]) ∧ ((ok = true ∧ ∃ L', L'.length < L.length ∧ M o ((x1, x2), x3) L' S W') ∨ (ok = false ∧ Z o S W')) ∧ Kept Sh W W')
    (hY : ∀ o x1 x2 x3 L' b W, (∃ S, M o ((x1, x2), x3) L' S W ∧ ¬ S b ∧ D + 2 ≤ b ∧ W.heap[b]? = some (.cells #[.int .i64 x1, .int .i64 x2, .int .i64 x3] 61 (0, 0))) → K W → YieldAt Fence.wide (m - 1) Try.prog l #[.agg #[.int .i64 x1, .int .i64 x2, .int .i64 x3]] W fun e W' => (e = .returned (.bool true) ∧ (∃ S, I (o ++ [((x1, x2), x3)]) L' S W' ∧ ¬ S b ∧ D + 2 ≤ b ∧ W'.heap[b]? = some (.cells #[.int .i64 x1, .int .i64 x2, .int .i64 x3] 61 (0, 0))) ∧ K W') ∨ (e = .returned (.bool false) ∧ Y W'))
    (L0 : List Km.Ent) (W : World) (h0 : ∃ S, I [] L0 S W) (hK0 : K W) :
    CallsIn Fence.wide m Try.prog 52 #[.func (.yield l) #[] #[], .pointer (some ⟨q, 0, none⟩)] W fun e W' => (∃ v, e = .returned v) ∧ (((∃ o S, Z o S W') ∧ K W') ∨ Y W') := by
  obtain ⟨S0, h0⟩ := h0
  have cq := hq [] L0 S0 W h0
  have HP0 := Lib.hid (hpop [] L0 S0 W h0)
  have HD0 := Lib.hid (hD [] L0 S0 W h0)
  have HK0 := Lib.hid hK0
  have H0 := Lib.hid h0
  clear h0 hK0
  refine callsIn_of_wp Try.func52 rfl trivial ?_ rfl
  simp only [Try.ntmps52, List.size_toArray, List.length_cons, List.length_nil, Nat.reduceAdd, Nat.reduceSub, Array.replicate_succ, Array.replicate_zero, List.push_toArray, List.append_toArray, List.nil_append, List.cons_append]
  gi_wp2_with fail
  refine ⟨trivial, (fun h => by cases h), ?_⟩
  refine (callsIn_wide.2 HP0.out).mono ?_
  rintro _ W1 ⟨x1, x2, x3, ok, rfl, hr, hk1⟩
  have HS1 := Lib.hid (show ∀ k, S0 k → k < W1.heap.size from fun k hk => Nat.lt_of_lt_of_le ((hIh [] L0).lt S0 W H0.out k hk) hk1.size)
  have hD1 : D + 2 ≤ W1.heap.size := Nat.le_trans HD0.out hk1.size
  have HR1 := Lib.hid (show (ok = true ∧ ∃ L', M [] ((x1, x2), x3) L' S0 (W1.alloc (.cells #[.int .i64 x1, .int .i64 x2, .int .i64 x3] 61))) ∨ (ok = false ∧ Z [] S0 (W1.alloc (.cells #[.int .i64 x1, .int .i64 x2, .int .i64 x3] 61))) from by
    rcases hr with ⟨e, L', _, hm⟩ | ⟨e, hz⟩
    · exact .inl ⟨e, L', (hMh _ _ _).keep _ _ _ hm (kept_box _)⟩
    · exact .inr ⟨e, (hZh _).keep _ _ _ hz (kept_box _)⟩)
  have HK1 := Lib.hid (hK _ _ (hK _ _ HK0.out (kf_kept hk1 hSh)) (kf_kept (S := Sh) (kept_box (.cells #[.int .i64 x1, .int .i64 x2, .int .i64 x3] 61)) hSh))
  have HN1 := Lib.hid (heap_alloc_new W1 (.cells #[.int .i64 x1, .int .i64 x2, .int .i64 x3] 61))
  clear hr hk1 HP0 HK0 HD0 H0 cq
  gi_wp2
  gi_loopw [3, 4] (fun p4 p5 wr => ∃ (o : List Km.Ent) (ok : Bool) (b : Nat) (x1 x2 x3 : Int) (S : Nat → Prop), p4 = .pointer (some ⟨b, 0, none⟩) ∧ p5 = .bool ok ∧ D + 2 ≤ b ∧ wr.heap[b]? = some (.cells #[.int .i64 x1, .int .i64 x2, .int .i64 x3] 61 (0, 0)) ∧ K wr ∧ ¬ S b ∧ ((ok = true ∧ ∃ L', M o ((x1, x2), x3) L' S wr) ∨ (ok = false ∧ Z o S wr))) (fun _ p5 wr => okM p5 (lenC B wr))
  case atStart => exact ⟨[], ok, W1.heap.size, x1, x2, x3, S0, rfl, rfl, hD1, HN1.out, HK1.out, fun q => by have := HS1.out _ q; omega, HR1.out⟩
  case round =>
    clear HS1 HR1 HK1 HN1 hD1
    obtain ⟨o, ok, b, y1, y2, y3, S, rfl, rfl, hDb, hb, hKr, hSb, hr⟩ := hrel
    have HB := Lib.hid hb
    have HKR := Lib.hid hKr
    have HSB := Lib.hid hSb
    obtain ⟨⟨c1, c2, c3⟩, -⟩ := kcellsP hb
    rcases hr with ⟨rfl, L', hm⟩ | ⟨rfl, hz⟩
    · have HM := Lib.hid hm
      have HLN := Lib.hid (hlen _ _ _ _ _ hm)
      clear hb hKr hSb hm
      obtain ⟨fn, tmps, assign, body, hy, hR⟩ := hY o y1 y2 y3 L' b wr ⟨S, HM.out, HSB.out, hDb, HB.out⟩ HKR.out
      have HR := Lib.hid hR
      clear hR
      gi_wp2
      refine ⟨(fun h => by cases h), ?_⟩
      refine HR.out.mono ?_
      rintro e W3 (⟨rfl, ⟨S3, hI3, hSb3, -, hb3⟩, hK3⟩ | ⟨rfl, hY3⟩)
      · have HI3 := Lib.hid hI3
        have HK3 := Lib.hid hK3
        have hD3 := hD _ _ _ _ hI3
        obtain ⟨⟨d1, d2, d3⟩, -⟩ := kcellsP hb3
        have hI4 := (hIh _ _).keep _ _ (W3.alloc (.cells #[.int .i64 y1, .int .i64 y2, .int .i64 y3] 61)) hI3 (kept_box _)
        have HK4 := Lib.hid (hK _ _ hK3 (kf_kept (S := Sh) (kept_box (.cells #[.int .i64 y1, .int .i64 y2, .int .i64 y3] 61)) hSh))
        have cq := hq _ _ _ _ hI4
        have HP := Lib.hid (hpop _ _ _ _ hI4)
        have HN4 := Lib.hid (heap_alloc_new W3 (.cells #[.int .i64 y1, .int .i64 y2, .int .i64 y3] 61))
        have HLT := Lib.hid ((hIh _ _).lt _ _ hI3)
        clear hI3 hK3 hb3 hSb3 HR hy hI4 c1 c2 c3
        gi_wp2_with fail
        refine ⟨trivial, (fun h => by cases h), ?_⟩
        refine (callsIn_wide.2 HP.out).mono ?_
        rintro _ W5 ⟨z1, z2, z3, ok5, rfl, hr5, hk5⟩
        have hb5 : W5.heap[W3.heap.size]? = some (.cells #[.int .i64 y1, .int .i64 y2, .int .i64 y3] 61 (0, 0)) := (hk5.block W3.heap.size (by simp) (fun q => by have := hSh _ q; omega)).trans HN4.out
        obtain ⟨⟨e1, e2, e5⟩, e3, e4, e6⟩ := kcellsP hb5
        have HN6 := Lib.hid (ksetP (.int .i64 z1) (.int .i64 z2) (.int .i64 z3) hb5)
        have kS : Kept (fun k => ¬ S3 k) W5 (((W5.setCell ⟨W3.heap.size, 0, none⟩ (.int .i64 z1)).setCell ⟨W3.heap.size, 1, none⟩ (.int .i64 z2)).setCell ⟨W3.heap.size, 2, none⟩ (.int .i64 z3)) := (((Kept.refl (fun k => ¬ S3 k) W5).setCell (.inl fun q => by have := HLT.out _ q; omega)).setCell (.inl fun q => by have := HLT.out _ q; omega)).setCell (.inl fun q => by have := HLT.out _ q; omega)
        have hb6 : (W5.setCell ⟨W3.heap.size, 0, none⟩ (.int .i64 z1)).heap[W3.heap.size]? = some (.cells #[.int .i64 z1, .int .i64 y2, .int .i64 y3] 61 (0, 0)) := by rw [heap_setCell_same _ _ _ _ _ _ hb5]; rfl
        have hb7 : ((W5.setCell ⟨W3.heap.size, 0, none⟩ (.int .i64 z1)).setCell ⟨W3.heap.size, 1, none⟩ (.int .i64 z2)).heap[W3.heap.size]? = some (.cells #[.int .i64 z1, .int .i64 z2, .int .i64 y3] 61 (0, 0)) := by rw [heap_setCell_same _ _ _ _ _ _ hb6]; rfl
        have HK6 := Lib.hid (hK _ _ (hK _ _ (hK _ _ (hK _ _ HK4.out (kf_kept hk5 hSh)) (kf_cell (o := 0) (u := .int .i64 z1) hb5)) (kf_cell (o := 1) (u := .int .i64 z2) hb6)) (kf_cell (o := 2) (u := .int .i64 z3) hb7))
        have HR6 := Lib.hid (show (ok5 = true ∧ ∃ L'', L''.length < L'.length ∧ M (o ++ [((y1, y2), y3)]) ((z1, z2), z3) L'' S3 (((W5.setCell ⟨W3.heap.size, 0, none⟩ (.int .i64 z1)).setCell ⟨W3.heap.size, 1, none⟩ (.int .i64 z2)).setCell ⟨W3.heap.size, 2, none⟩ (.int .i64 z3))) ∨ (ok5 = false ∧ Z (o ++ [((y1, y2), y3)]) S3 (((W5.setCell ⟨W3.heap.size, 0, none⟩ (.int .i64 z1)).setCell ⟨W3.heap.size, 1, none⟩ (.int .i64 z2)).setCell ⟨W3.heap.size, 2, none⟩ (.int .i64 z3))) from by
          rcases hr5 with ⟨e, L'', hl, hm⟩ | ⟨e, hz⟩
          · exact .inl ⟨e, L'', hl, (hMh _ _ _).keep _ _ _ hm kS⟩
          · exact .inr ⟨e, (hZh _).keep _ _ _ hz kS⟩)
        clear hr5 hk5 hb5 kS hb6 hb7 HP cq d1 d2 d3
        gi_wp2
        go_roundw
        case rel => exact ⟨_, ok5, _, z1, z2, z3, S3, rfl, rfl, hD3, HN6.out, HK6.out, fun q => by have := HLT.out _ q; omega, by
          rcases HR6.out with ⟨e, L'', _, hm⟩ | ⟨e, hz⟩
          · exact .inl ⟨e, L'', hm⟩
          · exact .inr ⟨e, hz⟩⟩
        case measure =>
          rcases HR6.out with ⟨rfl, L'', hl, hm⟩ | ⟨rfl, hz⟩
          · have h1 := hlen _ _ _ _ _ hm
            have h2 := HLN.out
            simp only [okM, h1, h2]
            omega
          · simp only [okM]
            omega
      · have HY3 := Lib.hid hY3
        clear hY3 HR hy
        gi_wp2
        refine bodyPost_ret (results_none rfl _ _ _) rfl ?_
        exact ⟨⟨_, rfl⟩, .inr HY3.out⟩
    · have HZ := Lib.hid hz
      clear hb hKr hSb hz
      gi_wp2
      go_end0
      exact ⟨⟨_, rfl⟩, .inl ⟨⟨o, S, HZ.out⟩, HKR.out⟩⟩
end Go.Proofs.Ytdpoieemadblnaa
