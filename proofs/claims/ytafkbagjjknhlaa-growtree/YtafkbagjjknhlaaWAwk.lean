/-
  Layer 13 (grow): the document's example, by a contract.
-/
import Derived.Test.YtafkbagjjknhlaaWSom
import Derived.Test.YtafkbagjjknhlaaRMake
namespace Go.Proofs.Ytafkbagjjknhlaa
open Go.RowKit

abbrev exM : List (List Int) := [[0], [10]]
theorem exM_chks : Dm.chks 1 exM = 0 := by decide +kernel
theorem wblk1 (w : World) (x : Int) : Blk (w.alloc (.cells #[.int .i32 x] 21)) w.heap.size [x] := heap_alloc_new w _
theorem wone_vec {w W : World} {g : Nat} {x : Int} (h : Blk w g [x]) (hb : Below w.heap.size w W) (hx : -2147483648 ≤ x ∧ x ≤ 2147483647) : Vec W (some ⟨g, 0, none⟩) 1 [x] :=
  (h.below hb).vec rfl (by intro z hz; simp at hz; subst hz; exact hx)
theorem exM_rows (w : World) : ∃ D, D = ((w.alloc (.cells #[.int .i32 0] 21)).alloc (.cells #[.int .i32 10] 21)).alloc (.cells #[.slice (some ⟨w.heap.size, 0, none⟩) 1 1, .slice (some ⟨w.heap.size + 1, 0, none⟩) 1 1] 55) ∧
    Lv D (some ⟨w.heap.size + 1 + 1, 0, none⟩) 2 2 exM ∧ Below w.heap.size w D := by
  obtain ⟨a, ha⟩ : ∃ a, a = w.alloc (.cells #[.int .i32 0] 21) := ⟨_, rfl⟩
  obtain ⟨b, hb⟩ : ∃ b, b = a.alloc (.cells #[.int .i32 10] 21) := ⟨_, rfl⟩
  have sa : a.heap.size = w.heap.size + 1 := by rw [ha]; simp
  have sb : b.heap.size = w.heap.size + 1 + 1 := by rw [hb]; simp [sa]
  rw [← ha, ← hb]
  obtain ⟨D, hD⟩ : ∃ D, D = b.alloc (.cells #[.slice (some ⟨w.heap.size, 0, none⟩) 1 1, .slice (some ⟨w.heap.size + 1, 0, none⟩) 1 1] 55) := ⟨_, rfl⟩
  have bD : Below b.heap.size b D := by rw [hD]; exact (Below.refl _ _).alloc (Nat.le_refl _) _
  have bb : Below a.heap.size a b := by rw [hb]; exact (Below.refl _ _).alloc (Nat.le_refl _) _
  have ba : Below w.heap.size w a := by rw [ha]; exact (Below.refl _ _).alloc (Nat.le_refl _) _
  have aD : Below a.heap.size a D := bb.trans (bD.mono bb.size)
  have k0 : Blk a w.heap.size [0] := by rw [ha]; exact wblk1 w 0
  have k1 : Blk b (w.heap.size + 1) [10] := by rw [hb, ← sa]; exact wblk1 a 10
  have hr := heap_alloc_new b (.cells #[.slice (some ⟨w.heap.size, 0, none⟩) 1 1, .slice (some ⟨w.heap.size + 1, 0, none⟩) 1 1] 55)
  rw [← hD, sb] at hr
  have hm : 1 ≤ maxLen := by unfold maxLen; omega
  refine ⟨D, hD, ?_, ba.trans (aD.mono ba.size)⟩
  exact Lv.of_lst (vs := [.slice (some ⟨w.heap.size, 0, none⟩) 1 1, .slice (some ⟨w.heap.size + 1, 0, none⟩) 1 1])
    ⟨rfl, fun _ => ⟨_, 0, rfl, lt_of_block hr, fun j u hu => by rw [cell_of_row _ _ _ _ _ _ hr, Nat.zero_add]; simpa using hu⟩⟩
    (((Vl.nil D).snoc (wone_vec k0 aD (by decide)) hm).snoc (wone_vec k1 bD (by decide)) hm) (Nat.le_refl _) (fun h => by cases h)
/-- a tree of two ids, one a leaf -/
theorem exM_tree (L : List (List Int)) (d : Nat) (f : Nat → Int) : ∃ pn po l g k, Wm.grow L d 1 9 (Wm.upto 2) 0 f = ([⟨false, [], pn, po, 1, 2⟩, Wm.one l, Wm.one g], k) ∧ l.length = 1 ∧ g.length = 1 := by
  have hw := Wm.lr_pos (L := L) (f := f) (ids := Wm.upto 2) (by rw [Wm.upto_length]; omega)
  have hs := Wm.lr_len (L := L) (f := f) (ids := Wm.upto 2)
  rw [Wm.upto_length] at hs
  have h1 : (Wm.lfF L (Wm.upto 2) f).length = 1 := by omega
  have h2 : (Wm.rgF L (Wm.upto 2) f).length = 1 := by omega
  exact ⟨_, _, _, _, _, Wm.grow_node (by rw [Wm.upto_length]; omega) (Wm.grow_leaf (.inl (by omega))) (Wm.grow_leaf (.inl (by omega))), h1, h2⟩
set_option maxHeartbeats 1600000 in
set_option maxRecDepth 100000 in
theorem awakeW (w : World) : Calls Try.prog 8 #[] w fun e w' => e = .returned (.bool true) ∧ Below w.heap.size w w' := by
  obtain ⟨D, hD, hL, hb⟩ := exM_rows w
  have HD := Lib.hid hD
  have HL := Lib.hid hL
  have HB := Lib.hid hb
  clear hD hL hb
  go_enter Try.func8, Try.ntmps8
  go_wp2_with fail
  rw [← HD.out]
  refine (ofD HL.out (by omega) 1 exM_chks).mono ?_
  rintro _ w1 ⟨s, S, rfl, hit, hS, hb1⟩
  have HI := Lib.hid hit
  have HB1 := Lib.hid (HB.out.trans (hb1.mono HB.out.size))
  clear hit hS hb1 HB HL HD
  go_wp2_with fail
  refine (script_new none 0 0 [] w1 (Lst.nil _ _ _) (fun _ => rfl) (by omega) (by intro x hx; simp at hx)).mono ?_
  rintro _ w2 ⟨b, rfl, hbas, hb2⟩
  obtain ⟨pn, po, l, g, k, hT, hl, hg⟩ := exM_tree exM 1 (lstF [])
  have FT0 := treeW (tr := 1) (sd := 0) (sc := false) (pA := none) (pn := 0) (pc := 0) (lim := 1) (dp := 9) (HI.out.below hb2) (lo := w1.heap.size) (hi := w2.heap.size) (fun k hk => .inl (HI.out.lt k hk)) (.inl hbas) (N := 0) (by omega) (by decide) (by decide) (by decide)
  have FT1 : Wm.grow exM (1 : Int).toNat 1 9 (Wm.upto exM.length) 0 (lstF []) = ([⟨false, [], pn, po, 1, 2⟩, Wm.one l, Wm.one g], k) := hT
  unfold growT at FT0
  rw [FT1] at FT0
  have FT := Lib.hid FT0
  have HB2 := Lib.hid (HB1.out.trans (hb2.mono HB1.out.size))
  have HLL := Lib.hid hl
  have b12 := hb2.size
  have HBB2 := Lib.hid hb2
  clear FT0 FT1 hT hl hg hbas hb2 HI
  go_wp2_with fail
  refine FT.out.mono ?_
  rintro _ w3 ⟨A', c', rfl, hn, -, hbt⟩
  have B3 := Lib.hid (HB1.out.trans ((HBB2.out.trans (hbt.old (B := w1.heap.size) HBB2.out.size (Nat.le_refl _))).mono HB1.out.size))
  obtain ⟨b0, o0, rfl, hb0, -, A1, n1, c1, A2, n2, c2, na, a0, a1, a2, a3, a4, a5⟩ := hn.at_ (k := 0) rfl
  obtain ⟨b1, o1, e1, -, -, A3, n3, c3, A4, n4, c4, nb, d0, d1, d2, d3, d4, d5⟩ := hn.at_ (k := 1) rfl
  obtain ⟨b2, o2, e2, -, -, A5, n5, c5, A6, n6, c6, nc, x0, x1, x2, x3, x4, x5⟩ := hn.at_ (k := 2) rfl
  injection e1 with e1
  injection e1 with e1 e3
  subst e1
  subst e3
  injection e2 with e2
  injection e2 with e2 e3
  subst e2
  subst e3
  have hn3 : n3 = 1 := by have := nb.ids.length; rw [← this]; exact HLL.out
  subst hn3
  have FB0 := boundW (n := 2) (w := w3) (by omega)
  rw [show ((8 * (2 - 1) : Nat) : Int) = 8 from rfl] at FB0
  have FBd := Lib.hid FB0
  clear FB0
  clear FT na nb nc hn hbt a1 a2 a3 a4 d2 d3 d4 d5 x1 x2 x3 x4 x5
  simp only [Nat.zero_mul, Nat.add_zero, Nat.one_mul, show 2 * 6 = 12 from rfl, Nat.add_assoc] at a0 a5 d0 d1 x0
  go_wp2_with fail
  refine FBd.out.mono ?_
  rintro _ w4 ⟨rfl, hb⟩
  have B4 := Lib.hid (B3.out.trans (hb.mono B3.out.size))
  clear hb FBd
  go_wp2
  go_ret
  exact ⟨rfl, B4.out⟩
end Go.Proofs.Ytafkbagjjknhlaa
