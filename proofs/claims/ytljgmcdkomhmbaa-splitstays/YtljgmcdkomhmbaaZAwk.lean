/-
  Layer 12 (split): the document's example, by a contract.
-/
import Derived.Test.YtljgmcdkomhmbaaZSom
namespace Go.Proofs.Ytljgmcdkomhmbaa
open Go.RowKit

abbrev exL : List (List Int) := [[0], [10], [1], [11]]
theorem ex_lf : Zm.lfOf exL [0, 1, 2, 3] (refP (lstF [0, 0]) 4) (refQ (lstF [0, 0]) 4) = [1, 3] := by decide +kernel
theorem ex_rg : Zm.rgOf exL [0, 1, 2, 3] (refP (lstF [0, 0]) 4) (refQ (lstF [0, 0]) 4) = [0, 2] := by decide +kernel
theorem ex_tries : Zm.tries exL [0, 1, 2, 3] (refP (lstF [0, 0]) 4) (refQ (lstF [0, 0]) 4) = 1 := by decide +kernel
theorem ex_chks : Dm.chks 1 exL = 0 := by decide +kernel
theorem blk1 (w : World) (x : Int) : Blk (w.alloc (.cells #[.int .i32 x] 21)) w.heap.size [x] := heap_alloc_new w _
theorem one_vec {w W : World} {g : Nat} {x : Int} (h : Blk w g [x]) (hb : Below w.heap.size w W) (hx : -2147483648 ≤ x ∧ x ≤ 2147483647) : Vec W (some ⟨g, 0, none⟩) 1 [x] :=
  (h.below hb).vec rfl (by intro z hz; simp at hz; subst hz; exact hx)
theorem lv_four {w : World} {g g0 g1 g2 g3 : Nat} {x0 x1 x2 x3 : Int} (h : w.heap[g]? = some (.cells #[.slice (some ⟨g0, 0, none⟩) 1 1, .slice (some ⟨g1, 0, none⟩) 1 1, .slice (some ⟨g2, 0, none⟩) 1 1, .slice (some ⟨g3, 0, none⟩) 1 1] 24 (0, 0)))
    (h0 : Vec w (some ⟨g0, 0, none⟩) 1 [x0]) (h1 : Vec w (some ⟨g1, 0, none⟩) 1 [x1]) (h2 : Vec w (some ⟨g2, 0, none⟩) 1 [x2]) (h3 : Vec w (some ⟨g3, 0, none⟩) 1 [x3]) : Lv w (some ⟨g, 0, none⟩) 4 4 [[x0], [x1], [x2], [x3]] := by
  have hm : 1 ≤ maxLen := by unfold maxLen; omega
  exact Lv.of_lst (vs := [.slice (some ⟨g0, 0, none⟩) 1 1, .slice (some ⟨g1, 0, none⟩) 1 1, .slice (some ⟨g2, 0, none⟩) 1 1, .slice (some ⟨g3, 0, none⟩) 1 1])
    ⟨rfl, fun _ => ⟨g, 0, rfl, lt_of_block h, fun j u hu => by rw [cell_of_row _ _ _ _ _ _ h, Nat.zero_add]; simpa using hu⟩⟩
    (((((Vl.nil w).snoc h0 hm).snoc h1 hm).snoc h2 hm).snoc h3 hm) (Nat.le_refl _) (fun h => by cases h)
theorem ex_rows (w : World) : ∃ D, D = ((((w.alloc (.cells #[.int .i32 0] 21)).alloc (.cells #[.int .i32 10] 21)).alloc (.cells #[.int .i32 1] 21)).alloc (.cells #[.int .i32 11] 21)).alloc (.cells #[.slice (some ⟨w.heap.size, 0, none⟩) 1 1, .slice (some ⟨w.heap.size + 1, 0, none⟩) 1 1, .slice (some ⟨w.heap.size + 1 + 1, 0, none⟩) 1 1, .slice (some ⟨w.heap.size + 1 + 1 + 1, 0, none⟩) 1 1] 24) ∧
    Lv D (some ⟨w.heap.size + 1 + 1 + 1 + 1, 0, none⟩) 4 4 exL ∧ Below w.heap.size w D := by
  obtain ⟨a, ha⟩ : ∃ a, a = w.alloc (.cells #[.int .i32 0] 21) := ⟨_, rfl⟩
  obtain ⟨b, hb⟩ : ∃ b, b = a.alloc (.cells #[.int .i32 10] 21) := ⟨_, rfl⟩
  obtain ⟨c, hc⟩ : ∃ c, c = b.alloc (.cells #[.int .i32 1] 21) := ⟨_, rfl⟩
  obtain ⟨d, hd⟩ : ∃ d, d = c.alloc (.cells #[.int .i32 11] 21) := ⟨_, rfl⟩
  have sa : a.heap.size = w.heap.size + 1 := by rw [ha]; simp
  have sb : b.heap.size = w.heap.size + 1 + 1 := by rw [hb]; simp [sa]
  have sc : c.heap.size = w.heap.size + 1 + 1 + 1 := by rw [hc]; simp [sb]
  have sd : d.heap.size = w.heap.size + 1 + 1 + 1 + 1 := by rw [hd]; simp [sc]
  rw [← ha, ← hb, ← hc, ← hd]
  obtain ⟨D, hD⟩ : ∃ D, D = d.alloc (.cells #[.slice (some ⟨w.heap.size, 0, none⟩) 1 1, .slice (some ⟨w.heap.size + 1, 0, none⟩) 1 1, .slice (some ⟨w.heap.size + 1 + 1, 0, none⟩) 1 1, .slice (some ⟨w.heap.size + 1 + 1 + 1, 0, none⟩) 1 1] 24) := ⟨_, rfl⟩
  have bD : Below d.heap.size d D := by rw [hD]; exact (Below.refl _ _).alloc (Nat.le_refl _) _
  have bd : Below c.heap.size c d := by rw [hd]; exact (Below.refl _ _).alloc (Nat.le_refl _) _
  have bc : Below b.heap.size b c := by rw [hc]; exact (Below.refl _ _).alloc (Nat.le_refl _) _
  have bb : Below a.heap.size a b := by rw [hb]; exact (Below.refl _ _).alloc (Nat.le_refl _) _
  have ba : Below w.heap.size w a := by rw [ha]; exact (Below.refl _ _).alloc (Nat.le_refl _) _
  have cD : Below c.heap.size c D := bd.trans (bD.mono bd.size)
  have bbD : Below b.heap.size b D := bc.trans (cD.mono bc.size)
  have aD : Below a.heap.size a D := bb.trans (bbD.mono bb.size)
  have k0 : Blk a w.heap.size [0] := by rw [ha]; exact blk1 w 0
  have k1 : Blk b (w.heap.size + 1) [10] := by rw [hb, ← sa]; exact blk1 a 10
  have k2 : Blk c (w.heap.size + 1 + 1) [1] := by rw [hc, ← sb]; exact blk1 b 1
  have k3 : Blk d (w.heap.size + 1 + 1 + 1) [11] := by rw [hd, ← sc]; exact blk1 c 11
  have hr := heap_alloc_new d (.cells #[.slice (some ⟨w.heap.size, 0, none⟩) 1 1, .slice (some ⟨w.heap.size + 1, 0, none⟩) 1 1, .slice (some ⟨w.heap.size + 1 + 1, 0, none⟩) 1 1, .slice (some ⟨w.heap.size + 1 + 1 + 1, 0, none⟩) 1 1] 24)
  rw [← hD, sd] at hr
  exact ⟨D, hD, lv_four hr (one_vec k0 aD (by decide)) (one_vec k1 bbD (by decide)) (one_vec k2 cD (by decide)) (one_vec k3 bD (by decide)), ba.trans (aD.mono ba.size)⟩
theorem sl_new {w : World} {g n : Nat} {xs : List Int} (h : w.heap[g]? = some (.cells (ci xs).toArray 3 (0, 0))) (hn : xs.length = n) : Sl w (some ⟨g, 0, none⟩) n n xs :=
  ⟨⟨by rw [ci_length, hn], fun _ => ⟨g, 0, rfl, lt_of_block h, fun j u hu => by rw [cell_of_row _ _ _ _ _ _ h, Nat.zero_add]; simpa using hu⟩⟩, Nat.le_refl _, fun h => by cases h⟩
set_option maxHeartbeats 1600000 in
set_option maxRecDepth 100000 in
theorem awakeZ (w : World) : Calls Try.prog 8 #[] w fun e w' => e = .returned (.bool true) ∧ Below w.heap.size w w' := by
  obtain ⟨D, hD, hL, hb⟩ := ex_rows w
  have HD := Lib.hid hD
  have HL := Lib.hid hL
  have HB := Lib.hid hb
  clear hD hL hb
  go_enter Try.func8, Try.ntmps8
  go_wp2_with fail
  rw [← HD.out]
  refine (ofD HL.out (by omega) 1 ex_chks).mono ?_
  rintro _ w1 ⟨s, S, rfl, hit, hS, hb1⟩
  have HI := Lib.hid hit
  have HS := Lib.hid hS
  have HB1 := Lib.hid hb1
  clear hit hS hb1
  obtain ⟨E, hE⟩ : ∃ E, E = (w1.alloc (.cells #[.int .i64 0, .int .i64 1, .int .i64 2, .int .i64 3] 3)).alloc (.cells #[.int .u64 0, .int .u64 0] 44) := ⟨_, rfl⟩
  have bE : Below w1.heap.size w1 E := by rw [hE]; exact ((Below.refl _ _).alloc (Nat.le_refl _) _).alloc (by simp) _
  have sE : w1.heap.size < E.heap.size := by rw [hE]; simp; omega
  have hids : Sl E (some ⟨w1.heap.size, 0, none⟩) 4 4 [0, 1, 2, 3] := by
    have h0 := sl_new (w := w1.alloc (.cells #[.int .i64 0, .int .i64 1, .int .i64 2, .int .i64 3] 3)) (g := w1.heap.size) (n := 4) (xs := [0, 1, 2, 3]) (heap_alloc_new w1 _) rfl
    rw [hE]; exact h0.below ((Below.refl _ _).alloc (Nat.le_refl _) _)
  have hdr : Lst E E.heap.size (some ⟨w1.heap.size + 1, 0, none⟩) 2 (([0, 0] : List Int).map (Value.int .u64)) := by
    have hr := heap_alloc_new (w1.alloc (.cells #[.int .i64 0, .int .i64 1, .int .i64 2, .int .i64 3] 3)) (.cells #[.int .u64 0, .int .u64 0] 44)
    rw [← hE, show (w1.alloc (.cells #[.int .i64 0, .int .i64 1, .int .i64 2, .int .i64 3] 3)).heap.size = w1.heap.size + 1 from by simp] at hr
    exact ⟨rfl, fun _ => ⟨_, 0, rfl, lt_of_block hr, fun j u hu => by rw [cell_of_row _ _ _ _ _ _ hr, Nat.zero_add]; simpa using hu⟩⟩
  have HIDS := Lib.hid hids
  have HDR := Lib.hid hdr
  have HIE := Lib.hid (HI.out.below bE)
  have BE := Lib.hid (HB.out.trans ((HB1.out.trans (bE.mono HB1.out.size)).mono HB.out.size))
  have HE := Lib.hid hE
  clear hids hdr bE hE
  go_wp2_with fail
  rw [← HE.out]
  refine (script_new (some ⟨w1.heap.size + 1, 0, none⟩) 2 2 [0, 0] E HDR.out (fun h => by cases h) (by omega) (by intro x hx; simp at hx; omega)).mono ?_
  rintro _ w2 ⟨b, rfl, hbas, hb2⟩
  have HBAS := Lib.hid hbas
  have HB2 := Lib.hid hb2
  have HS1 := Lib.hid (HI.out.lt)
  clear hbas hb2
  go_wp2_with fail
  refine (chooseZ (HIE.out.below HB2.out) (HIDS.out.below HB2.out) (lo := E.heap.size) (hi := w2.heap.size) (fun k hk => .inl (Nat.lt_trans (HS1.out k hk) sE)) (by intro _ b off s e; injection e with e; injection e with e1; left; omega) (.inl HBAS.out) (by omega) (N := 0) (by omega)).mono ?_
  rintro _ w3 ⟨Ap, np, cp, A1, c1, A3, c3, rfl, hv, hnp, hl, hr, -, hbt, -, -, -⟩
  have B3 := Lib.hid (HB2.out.trans (hbt.old (B := E.heap.size) HB2.out.size (Nat.le_refl _)))
  rw [ex_lf] at hl
  rw [ex_rg] at hr
  rw [ex_lf, ex_rg, ex_tries]
  obtain ⟨po, hpo⟩ : ∃ po, po = Zm.poOf exL [0, 1, 2, 3] (refP (lstF [0, 0]) 4) (refQ (lstF [0, 0]) 4) := ⟨_, rfl⟩
  rw [← hpo, show ([1, 3] : List Int).length = 2 from rfl, show ([0, 2] : List Int).length = 2 from rfl]
  rw [show ([1, 3] : List Int).length = 2 from rfl] at hl
  rw [show ([0, 2] : List Int).length = 2 from rfl] at hr
  obtain ⟨F, hF⟩ : ∃ F, F = w3.alloc (.cells #[.slice Ap np cp, .int .i64 po, .slice A1 2 c1, .slice A3 2 c3, .int .i64 1] 48) := ⟨_, rfl⟩
  have bF : Below w3.heap.size w3 F := by rw [hF]; exact (Below.refl _ _).alloc (Nat.le_refl _) _
  have sF : F.heap.size = w3.heap.size + 1 := by rw [hF]; simp
  have hrow : F.heap[w3.heap.size]? = some (.cells #[.slice Ap np cp, .int .i64 po, .slice A1 2 c1, .slice A3 2 c3, .int .i64 1] 48 (0, 0)) := by rw [hF]; exact heap_alloc_new _ _
  have HF := Lib.hid hF
  have HL := Lib.hid (hl.below bF)
  have HR := Lib.hid (hr.below bF)
  have HROW := Lib.hid hrow
  have BF := Lib.hid (BE.out.trans ((B3.out.trans (bF.mono B3.out.size)).mono BE.out.size))
  have h13 : Hid (Sl (F.alloc (.cells #[.int .i64 1, .int .i64 3] 3)) (some ⟨w3.heap.size + 1, 0, none⟩) 2 2 [1, 3]) := by
    have h0 := sl_new (w := F.alloc (.cells #[.int .i64 1, .int .i64 3] 3)) (g := F.heap.size) (n := 2) (xs := [1, 3]) (heap_alloc_new F _) rfl
    rwa [sF] at h0
  have bG := Lib.hid (show Below F.heap.size F (F.alloc (.cells #[.int .i64 1, .int .i64 3] 3)) from (Below.refl _ _).alloc (Nat.le_refl _) _)
  clear hpo hv hl hr hbt hF bF hrow sF HBAS HS1 HIE HIDS HDR HI HS HE
  go_wp2_with fail
  rw [← HF.out]
  refine (refSame _ _ _ _ _ _ _ _ _ (HL.out.below bG.out) h13.out (by omega)).mono ?_
  rintro _ w4 ⟨rfl, hb4⟩
  rw [decide_eq_true rfl]
  have B4 := Lib.hid (show Below F.heap.size F w4 from bG.out.trans (hb4.mono bG.out.size))
  have hr4 := (B4.out.block w3.heap.size (lt_of_block HROW.out)).trans HROW.out
  have q0 : w4.cell? ⟨w3.heap.size, 3, none⟩ = some (.slice A3 2 c3) := by rw [cell_of_row _ _ _ _ _ _ hr4]; rfl
  have q1 : w4.cell? ⟨w3.heap.size, 4, none⟩ = some (.int .i64 1) := by rw [cell_of_row _ _ _ _ _ _ hr4]; rfl
  have h02 : Hid (Sl (w4.alloc (.cells #[.int .i64 0, .int .i64 2] 3)) (some ⟨w4.heap.size, 0, none⟩) 2 2 [0, 2]) := sl_new (w := w4.alloc (.cells #[.int .i64 0, .int .i64 2] 3)) (g := w4.heap.size) (n := 2) (xs := [0, 2]) (heap_alloc_new w4 _) rfl
  have bH := Lib.hid (show Below w4.heap.size w4 (w4.alloc (.cells #[.int .i64 0, .int .i64 2] 3)) from (Below.refl _ _).alloc (Nat.le_refl _) _)
  clear hb4 hr4 h13 bG HF
  go_wp2_with fail
  refine (refSame _ _ _ _ _ _ _ _ _ ((HR.out.below B4.out).below bH.out) h02.out (by omega)).mono ?_
  rintro _ w5 ⟨rfl, hb5⟩
  rw [decide_eq_true rfl]
  have B5 := Lib.hid (show Below F.heap.size F w5 from B4.out.trans ((bH.out.trans (hb5.mono bH.out.size)).mono B4.out.size))
  have hr5 := (B5.out.block w3.heap.size (lt_of_block HROW.out)).trans HROW.out
  have q2 : w5.cell? ⟨w3.heap.size, 4, none⟩ = some (.int .i64 1) := by rw [cell_of_row _ _ _ _ _ _ hr5]; rfl
  clear hb5 hr5 q0 q1
  go_wp2
  go_ret
  exact ⟨rfl, BF.out.trans (B5.out.mono BF.out.size)⟩
end Go.Proofs.Ytljgmcdkomhmbaa
