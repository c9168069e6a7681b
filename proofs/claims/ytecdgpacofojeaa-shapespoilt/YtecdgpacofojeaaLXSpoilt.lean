/-
  ShapeSpoilt holds for every input: a tree with one thing of a node that is another one isn't a tree, but where a plane's number is; and isn't the same. No condition.
-/
import Derived.Test.YtecdgpacofojeaaXCpy
import Derived.Test.YtecdgpacofojeaaMW
import Derived.ProofKit
import Derived.Lib.SmallJoins
import Derived.OpenShut
import Derived.ChangeOld
import Derived.WalkSmall
import Derived.SizedLaws
import Derived.Deep.RegionHeld3
import Derived.Deep.RegionLaw
import Derived.Deep.AppendLies
namespace Go.Proofs.Ytecdgpacofojeaa.shapeSpoilt
open Go.ChangeShapes Go.WideShapes Go.ChangeAt Go.RowKit Go.Joins
set_option linter.unusedVariables false

variable {w0 : World}
theorem own_zero (W : World) (e : TypeId) (sz : Nat) : (W.alloc (.cells #[] e)).ownsRow W.heap.size e sz (.slice (some ⟨W.heap.size, 0, none⟩) 0 0) 0 [] :=
  ⟨by simp, .inr ⟨W.heap.size, 0, #[], rfl, Nat.le_refl _, heap_alloc_new W _, Nat.le_refl _, by unfold maxLen; omega, by simp, by simp⟩⟩
theorem own_mono {W : World} {base base' n sz : Nat} {e : TypeId} {v : Value} {xs : List Value} (h : W.ownsRow base e sz v n xs) (hb : base' ≤ base) : W.ownsRow base' e sz v n xs := by
  refine ⟨h.1, ?_⟩
  rcases h.2 with h2 | ⟨g, cap, cur, hv, hbg, hr⟩
  · exact .inl h2
  · exact .inr ⟨g, cap, cur, hv, by omega, hr⟩
theorem own_heap {W W' : World} {base n sz : Nat} {e : TypeId} {v : Value} {xs : List Value} (h : W.ownsRow base e sz v n xs) (hh : W'.heap = W.heap) : W'.ownsRow base e sz v n xs := own_keep6 h fun k _ => by rw [hh]
/-- one more node is copied: its lists, and its cells in a block of their own -/
theorem cpy_step {lo j : Nat} {wr wc w5 : World} {U : List (Value × Value)} {T' : List Xm.Nd} {vU vP vI : Value} {x : Xm.Nd} {cs : Array Value} (hcp : Cpy lo wr U T') (hrow : wr.ownsRow lo 68 6 vU j (cpc U T')) (hlo : lo ≤ wr.heap.size) (b1 : Below wr.heap.size wr wc)
    (hP : wc.ownsRow wr.heap.size 21 1 vP x.pn.length (x.pn.map (Value.int .i32))) (b2 : Below wc.heap.size wc w5) (hI : w5.ownsRow wc.heap.size 3 1 vI x.ids.length (ci x.ids)) (hin : ∀ y ∈ x.pn, -2147483648 ≤ y ∧ y ≤ 2147483647) (l1 : x.ids.length ≤ 5001) (l2 : x.pn.length ≤ 5001) :
    (w5.alloc (.cells cs 68)).ownsRow lo 68 6 vU j (cpc U T') ∧ Cpy lo (w5.alloc (.cells cs 68)) (U ++ [(vI, vP)]) (T' ++ [x]) := by
  have b3 : Below w5.heap.size w5 (w5.alloc (.cells cs 68)) := (Below.refl _ w5).alloc (Nat.le_refl _) _
  have b13 : Below wr.heap.size wr (w5.alloc (.cells cs 68)) := b1.trans ((b2.mono b1.size).trans (b3.mono (Nat.le_trans b1.size b2.size)))
  refine ⟨own_keep6 hrow fun k e => b13.block k (own_lt6 hrow k e).2.1, (hcp.below b13).snoc (B := wr.heap.size) ⟨?_, ?_, hin, l1, l2⟩ (fun q e => ?_) (fun q e => (own_lt6 hP q e).1) (fun i u hu => ?_)⟩
  · exact own_mono (own_keep6 hI fun k e => b3.block k (own_lt6 hI k e).2.1) (Nat.le_trans hlo b1.size)
  · exact own_mono (own_keep6 hP fun k e => (b2.trans (b3.mono b2.size)).block k (own_lt6 hP k e).2.1) hlo
  · exact Nat.le_trans b1.size (own_lt6 hI q e).1
  · obtain ⟨x', hx'⟩ : ∃ x', T'[i]? = some x' := ⟨_, List.getElem?_eq_getElem (by rw [← hcp.len]; exact (List.getElem?_eq_some_iff.1 hu).1)⟩
    have ho := hcp.own i u x' hu hx'
    exact ⟨fun q e => (own_lt6 ho.ids q e).2.1, fun q e => (own_lt6 ho.pn q e).2.1⟩
/-- what grows is the row of nodes: an argument's block, and a plane's, are as they were -/
theorem far_cells {lo j b pb : Nat} {W w6 : World} {vU : Value} {xs : List Value} {cs : Array Value} (hr : W.ownsRow lo 68 6 vU j xs) (hg : W.grownBy w6 vU.ownBlock) (hb : b < lo) (hbl : b < W.heap.size) (hp : W.heap[pb]? = some (.cells cs 66 (0, 0))) :
    (∀ i, w6.cell? ⟨b, i, none⟩ = W.cell? ⟨b, i, none⟩) ∧ ∀ i, w6.cell? ⟨pb, i, none⟩ = W.cell? ⟨pb, i, none⟩ := by
  refine ⟨fun i => hg.cell_far ⟨b, i, none⟩ hbl fun e => ?_, fun i => hg.cell_far ⟨pb, i, none⟩ (lt_of_block hp) fun e => ?_⟩
  · have := (own_lt6 hr b e.symm).1; omega
  · obtain ⟨-, -, cs', hc⟩ := own_lt6 hr pb e.symm
    rw [hp] at hc
    injection hc with hc
    injection hc with _ hc
    exact absurd hc (by decide)
/-- what is said of a spoilt list -/
theorem spoilt_fin {w W5 : World} {A A5 : Option Addr} {n c n5 c5 : Nat} {T T5 : List Xm.Nd} {k d : Int} (hx : Xds w A n c T) (hb : Below w.heap.size w W5) (h5 : Xds W5 A5 n5 c5 T5) (hk : Xm.chk T k d = 0) (h14 : Xm.chk T5 k d = 14) (hn : n ≤ 100000) (hn5 : n5 ≤ 100000) (ht : Xm.tot T ≤ 1000000) (ht5 : Xm.tot T5 ≤ 1000000) :
    Hid (Calls Try.prog 10 #[.slice A5 n5 c5, .int .i64 k, .int .i64 d] W5 fun e w' => e = .returned (.int .i64 14) ∧ Below W5.heap.size W5 w') ∧
    Hid (∀ V, Below W5.heap.size W5 V → Calls Try.prog 23 #[.slice A n c, .slice A5 n5 c5] V fun e w' => e = .returned (.bool false) ∧ Below W5.heap.size W5 w') ∧
    Hid (∀ V, Below W5.heap.size W5 V → Calls Try.prog 23 #[.slice A5 n5 c5, .slice A n c] V fun e w' => e = .returned (.bool false) ∧ Below W5.heap.size W5 w') := by
  have hne := Xm.chk_ne hk h14
  refine ⟨Lib.hid ?_, Lib.hid fun V hV => ?_, Lib.hid fun V hV => ?_⟩
  · have := checkX h5 hn5 ht5 k d
    rwa [h14] at this
  · exact (sameX (hx.below (hb.trans (hV.mono hb.size))) (h5.below hV) hn hn5 ht ht5).mono fun _ w' ⟨h1, h2⟩ => ⟨by rw [h1, Xm.eqT_false hne], hV.trans (h2.mono hV.size)⟩
  · exact (sameX (h5.below hV) (hx.below (hb.trans (hV.mono hb.size))) hn5 hn ht5 ht).mono fun _ w' ⟨h1, h2⟩ => ⟨by rw [h1, Xm.eqT_false (fun e => hne e.symm)], hV.trans (h2.mono hV.size)⟩
/-- a plane's two cells, made behind its row -/
theorem plane_a {w5 : World} {B n2 cP : Nat} {AP : Option Addr} {po : Int} {l : List Value} (h : w5.ownsRow B 21 1 (.slice AP n2 cP) n2 l) (hb : Below B w0 w5) (hs : B ≤ w5.heap.size) :
    (w5.alloc (.cells #[.slice AP n2 cP, .int .i64 po] 66)).heap[w5.heap.size]? = some (.cells #[.slice AP n2 cP, .int .i64 po] 66 (0, 0)) ∧ (w5.alloc (.cells #[.slice AP n2 cP, .int .i64 po] 66)).ownsRow B 21 1 (.slice AP n2 cP) n2 l ∧
      Below B w0 (w5.alloc (.cells #[.slice AP n2 cP, .int .i64 po] 66)) :=
  ⟨heap_alloc_new w5 _, own_keep6 h fun k e => Below.heap_alloc _ _ _ (own_lt6 h k e).2.1, hb.alloc hs _⟩
/-- a plane's two cells, made ahead of it -/
theorem plane_b {w5 : World} {B n2 cP pb : Nat} {AP : Option Addr} {po : Int} {l : List Value} (hp : w5.heap[pb]? = some (.cells #[.slice none 0 0, .int .i64 0] 66 (0, 0))) (h : w5.ownsRow B 21 1 (.slice AP n2 cP) n2 l) (hb : Below B w0 w5) (hge : B ≤ pb) :
    ((w5.setCell ⟨pb, 0, none⟩ (.slice AP n2 cP)).setCell ⟨pb, 1, none⟩ (.int .i64 po)).heap[pb]? = some (.cells #[.slice AP n2 cP, .int .i64 po] 66 (0, 0)) ∧ ((w5.setCell ⟨pb, 0, none⟩ (.slice AP n2 cP)).setCell ⟨pb, 1, none⟩ (.int .i64 po)).ownsRow B 21 1 (.slice AP n2 cP) n2 l ∧
      Below B w0 ((w5.setCell ⟨pb, 0, none⟩ (.slice AP n2 cP)).setCell ⟨pb, 1, none⟩ (.int .i64 po)) := by
  refine ⟨?_, own_keep6 h fun k e => ?_, (hb.setCell (p := ⟨pb, 0, none⟩) hge _).setCell (p := ⟨pb, 1, none⟩) hge _⟩
  · have h1 := heap_setCell_same w5 pb 0 _ _ (.slice AP n2 cP) hp
    have h2 := heap_setCell_same _ pb 1 _ _ (.int .i64 po) h1
    simpa using h2
  · obtain ⟨-, -, cs, hc⟩ := own_lt6 h k e
    have hne : k ≠ pb := fun e2 => by
      subst e2
      rw [hp] at hc
      injection hc with hc
      injection hc with _ hc
      exact absurd hc (by decide)
    exact (Below.heap_setCell _ _ _ _ hne).trans (Below.heap_setCell _ _ _ _ hne)
set_option maxHeartbeats 3200000 in
set_option maxRecDepth 100000 in
theorem walk (A : Option Addr) (n c : Nat) (T : List Xm.Nd) (k d at_ by_ kind : Int) (w : World) (h : Xds w A n c T ∧ Xdc w A T ∧ n ≤ 2000000000000) (_hk : (Lit.int .i64 k).wf = true) (_hd : (Lit.int .i64 d).wf = true) (_ha : (Lit.int .i64 at_).wf = true) (_hb : (Lit.int .i64 by_).wf = true) (_hkd : (Lit.int .i64 kind).wf = true) :
    Calls Try.prog 6 #[.slice A n c, .int .i64 k, .int .i64 d, .int .i64 at_, .int .i64 by_, .int .i64 kind] w fun e w' => e = .returned (.bool true) ∧ Below w.heap.size w w' := by
  obtain ⟨j0, hj, hjz0, hjz1, hjz2⟩ := info_parts Try.infoI
  obtain ⟨i0, hi, hiz0, hiz1, hiz2⟩ := info_parts Try.infoI32
  obtain ⟨n0, hin, hnz0, hnz1, hnz2⟩ := info_parts Try.infoNode
  obtain ⟨hx, hxc, hn⟩ := h
  have HX := Lib.hid hx
  have HXC := Lib.hid hxc
  clear hx hxc _hk _hd _ha _hb _hkd
  go_enter Try.func6, Try.ntmps6
  go_wp2_with fail
  refine (awakeX w).mono ?_
  rintro _ w1 ⟨rfl, hb1⟩
  have HX1 := Lib.hid (HX.out.below hb1)
  have B1 := Lib.hid hb1
  clear hb1
  go_wp2_with fail
  refine (refFewX HX1.out hn).mono ?_
  rintro _ w2 (⟨rfl, hb2⟩ | ⟨rfl, hn4, ht, hb2⟩)
  · have B2 := Lib.hid (B1.out.trans (hb2.mono B1.out.size))
    clear hb2
    go_wp2
    go_ret
    exact ⟨rfl, B2.out⟩
  have B2 := Lib.hid (B1.out.trans (hb2.mono B1.out.size))
  have HX2 := Lib.hid (HX1.out.below hb2)
  clear hb2 HX1
  by_cases g1 : 5000 < k
  · go_wp2
    go_ret
    exact ⟨rfl, B2.out⟩
  have FK0 := refChkX HX2.out hn4 ht k d
  obtain ⟨ck, hck⟩ : ∃ ck, ck = Xm.chk T k d := ⟨_, rfl⟩
  rw [← hck] at FK0
  have FK := Lib.hid FK0
  have HCK := Lib.hid hck
  clear FK0 hck
  by_cases g2 : ck = 0
  case neg =>
    have e2 : (ck != 0) = true := by simpa using g2
    go_wp2_with fail
    refine FK.out.mono ?_
    rintro _ w3 ⟨rfl, hb3⟩
    have B3 := Lib.hid (B2.out.trans (hb3.mono B2.out.size))
    clear hb3
    go_wp2
    go_ret
    exact ⟨rfl, B3.out⟩
  have HC0 := Lib.hid (show Xm.chk T k d = 0 from by rw [← HCK.out]; exact g2)
  subst g2
  go_wp2_with fail
  refine FK.out.mono ?_
  rintro _ w3 ⟨rfl, hb3⟩
  have B3 := Lib.hid (B2.out.trans (hb3.mono B2.out.size))
  clear hb3 FK HX2
  by_cases g3 : at_ < 0
  · go_wp2
    go_ret
    exact ⟨rfl, B3.out⟩
  obtain ⟨p, rfl⟩ : ∃ p : Nat, at_ = (p : Int) := ⟨at_.toNat, by omega⟩
  by_cases g4 : n ≤ p
  · go_wp2
    go_ret
    exact ⟨rfl, B3.out⟩
  by_cases g5 : by_ = 0
  · subst g5
    go_wp2
    go_ret
    exact ⟨rfl, B3.out⟩
  have g5' : (by_ == 0) = false := by simpa using g5
  by_cases g6 : 1000 < by_
  · go_wp2
    go_ret
    exact ⟨rfl, B3.out⟩
  by_cases g7 : by_ < -1000
  · go_wp2
    go_ret
    exact ⟨rfl, B3.out⟩
  have g8 : ¬ (p : Int) < 0 := by omega
  have G5 := Lib.hid g5
  clear g3 g5
  go_wp2
  clear g5'
  go_loopw [13, 14] (fun vU I wr => ∃ (j : Nat) (U : List (Value × Value)), I = .int .i64 (j : Int) ∧ j ≤ n ∧ wr.ownsRow w3.heap.size 68 6 vU j (cpc U (T.take j)) ∧ Cpy w3.heap.size wr U (T.take j) ∧ Below w3.heap.size w3 wr) (fun _ I _ => n - (intOf I).toNat)
  case atStart => exact ⟨0, [], rfl, Nat.zero_le _, World.ownsRow_nil _ _ _ _, ⟨rfl, fun j u x hu => (by cases hu), fun i j u v _ hu => (by cases hu)⟩, Below.refl _ _⟩
  case round =>
    obtain ⟨j, U, rfl, hjn, hrow, hcp, hbl⟩ := hrel
    have HR := Lib.hid hrow
    have HCP := Lib.hid hcp
    have HBL := Lib.hid hbl
    have hsz := hbl.size
    clear hrow hcp hbl
    by_cases hlt : j < n
    · obtain ⟨x, hx⟩ := HX.out.get hlt
      obtain ⟨b, off, rfl, hbk, A1, n1, c1, A2, n2, c2, ha, g0, k1, k2, k3, k4, k5⟩ := HX.out.at_ j x hx
      have hnil := HXC.out j b off A2 n2 c2 (by rw [HX.out.len]; exact hlt) rfl k2
      have hmem := Xm.tot_in (List.mem_of_getElem? hx)
      have hl1 : x.ids.length = n1 := ha.ids.length
      have hl2 : x.pn.length = n2 := ha.pn.length
      have CX : Hid (∀ V, Below w3.heap.size w3 V → V.cell? ⟨b, off + j * 6, none⟩ = some (.bool x.leaf) ∧ V.cell? ⟨b, off + j * 6 + 1, none⟩ = some (.slice A1 n1 c1) ∧ V.cell? ⟨b, off + j * 6 + 2, none⟩ = some (.slice A2 n2 c2) ∧
          V.cell? ⟨b, off + j * 6 + 3, none⟩ = some (.int .i64 x.po) ∧ V.cell? ⟨b, off + j * 6 + 4, none⟩ = some (.int .i64 x.lt) ∧ V.cell? ⟨b, off + j * 6 + 5, none⟩ = some (.int .i64 x.rt) ∧ V.cell? ⟨b, off + j * 6 + 2 + 1, none⟩ = some (.int .i64 x.po)) := Lib.hid fun V hV => by
        have hW := B3.out.trans (hV.mono B3.out.size)
        have up : ∀ (i : Nat) (v : Value), w.cell? ⟨b, i, none⟩ = some v → V.cell? ⟨b, i, none⟩ = some v := fun i v hv => (hW.cell (p := ⟨b, i, none⟩) hbk).trans hv
        exact ⟨up _ _ g0, up _ _ k1, up _ _ k2, up _ _ k3, up _ _ k4, up _ _ k5, up _ _ k3⟩
      have hb3w : w.heap.size ≤ w3.heap.size := B3.out.size
      have IDS : Hid (∀ V, Below w3.heap.size w3 V → Sl V A1 n1 c1 x.ids) := Lib.hid fun V hV => ha.ids.below (B3.out.trans (hV.mono B3.out.size))
      have PNS : Hid (∀ V, Below w3.heap.size w3 V → Lst V V.heap.size A2 n2 (x.pn.map (Value.int .i32))) := Lib.hid fun V hV => (ha.pn.below (B3.out.trans (hV.mono B3.out.size))).1
      have HIN := Lib.hid ha.pn.2
      have HXX := Lib.hid hx
      have HL := Lib.hid (And.intro hl1 hl2)
      have HBK := Lib.hid hbk
      have hn1 : n1 ≤ 5000 := by omega
      have hn2 : n2 ≤ 5000 := by omega
      have HNIL := Lib.hid hnil
      obtain ⟨lf, hlf⟩ : ∃ lf, lf = x.leaf := ⟨_, rfl⟩
      obtain ⟨po, hpo⟩ : ∃ po, po = x.po := ⟨_, rfl⟩
      obtain ⟨lt, hlt'⟩ : ∃ lt, lt = x.lt := ⟨_, rfl⟩
      obtain ⟨rt, hrt⟩ : ∃ rt, rt = x.rt := ⟨_, rfl⟩
      rw [← hlf, ← hpo, ← hlt', ← hrt] at CX
      have HF := Lib.hid (And.intro hlf (And.intro hpo (And.intro hlt' hrt)))
      obtain ⟨W1, hW1⟩ : ∃ W1, W1 = wr.alloc (.cells #[] 21) := ⟨_, rfl⟩
      have hb1 : Below wr.heap.size wr W1 := by rw [hW1]; exact (Below.refl _ wr).alloc (Nat.le_refl _) _
      have hz : W1.ownsRow wr.heap.size 21 1 (.slice (some ⟨wr.heap.size, 0, none⟩) 0 0) 0 [] := by rw [hW1]; exact own_zero wr _ 1
      have B13 : Hid (∀ V : World, Below W1.heap.size W1 V → V.ownsRow wr.heap.size 21 1 (.slice (some ⟨wr.heap.size, 0, none⟩) 0 0) 0 []) := Lib.hid fun V hV => own_keep6 hz fun q e => hV.block q (own_lt6 hz q e).2.1
      rw [hW1] at B13
      have X0 := Lib.hid (Below.refl (wr.alloc (.cells #[] 21)).heap.size (wr.alloc (.cells #[] 21)))
      have X1 := Lib.hid X0.out.drew
      have X2 := Lib.hid (X0.out.alloc (Nat.le_refl _) (.cells #[.slice none 0 0, .int .i64 0] 66))
      have X3 := Lib.hid X2.out.drew
      have PB : Hid (((wr.alloc (.cells #[] 21)).alloc (.cells #[.slice none 0 0, .int .i64 0] 66)).heap[wr.heap.size + 1]? = some (.cells #[.slice none 0 0, .int .i64 0] 66 (0, 0))) := Lib.hid (by
        have := heap_alloc_new (wr.alloc (.cells #[] 21)) (.cells #[.slice none 0 0, .int .i64 0] 66)
        rwa [show (wr.alloc (.cells #[] 21)).heap.size = wr.heap.size + 1 from by simp] at this)
      obtain ⟨V1, hV1⟩ : ∃ V1, V1 = wr.alloc (.cells #[.slice none 0 0, .int .i64 0] 66) := ⟨_, rfl⟩
      have sV1 : V1.heap.size = wr.heap.size + 1 := by rw [hV1]; simp
      have hzb : (V1.alloc (.cells #[] 21)).ownsRow wr.heap.size 21 1 (.slice (some ⟨wr.heap.size + 1, 0, none⟩) 0 0) 0 [] := by
        have := own_zero V1 21 1
        rw [sV1] at this
        exact own_mono this (by omega)
      have B14 : Hid (∀ V : World, Below (V1.alloc (.cells #[] 21)).heap.size (V1.alloc (.cells #[] 21)) V → V.ownsRow wr.heap.size 21 1 (.slice (some ⟨wr.heap.size + 1, 0, none⟩) 0 0) 0 []) := Lib.hid fun V hV => own_keep6 hzb fun q e => hV.block q (own_lt6 hzb q e).2.1
      have PB2 : Hid ((V1.alloc (.cells #[] 21)).heap[wr.heap.size]? = some (.cells #[.slice none 0 0, .int .i64 0] 66 (0, 0))) := Lib.hid (by
        rw [Below.heap_alloc _ _ _ (by omega), hV1]; exact heap_alloc_new wr _)
      rw [hV1] at B14 PB2
      have Y0 := Lib.hid (Below.refl ((wr.alloc (.cells #[.slice none 0 0, .int .i64 0] 66)).alloc (.cells #[] 21)).heap.size ((wr.alloc (.cells #[.slice none 0 0, .int .i64 0] 66)).alloc (.cells #[] 21)))
      have Y1 := Lib.hid Y0.out.drew
      have BP0 := Lib.hid ((Below.refl wr.heap.size wr).alloc (Nat.le_refl _) (.cells #[.slice none 0 0, .int .i64 0] 66))
      have BP1 := Lib.hid (BP0.out.alloc BP0.out.size (.cells #[] 21))
      have BP2 := Lib.hid BP1.out.drew
      obtain ⟨p0, p1, p2, p3, p4, p5, p6⟩ := CX.out _ (HBL.out.trans (BP0.out.mono hsz))
      obtain ⟨q0, q1, q2, q3, q4, q5, q6⟩ := CX.out _ (HBL.out.trans (BP1.out.mono hsz))
      clear hV1 sV1 hzb
      obtain ⟨r0, r1, r2, r3, r4, r5, r6⟩ := CX.out wr HBL.out
      have BA := Lib.hid ((Below.refl wr.heap.size wr).alloc (Nat.le_refl _) (.cells #[] 21))
      have BAd := Lib.hid BA.out.drew
      have BAa := Lib.hid (BA.out.alloc BA.out.size (.cells #[.slice none 0 0, .int .i64 0] 66))
      have BAe := Lib.hid BAa.out.drew
      obtain ⟨s0, s1, s2, s3, s4, s5, s6⟩ := CX.out _ (HBL.out.trans (BA.out.mono hsz))
      obtain ⟨a0, a1, a2, a3, a4, a5, a6⟩ := CX.out _ (HBL.out.trans (BAa.out.mono hsz))
      clear g0 k1 k2 k3 k4 k5 ha hnil hmem hl1 hl2 hlf hpo hlt' hrt hW1 hz hb1 hx hbk
      go_upto_region 9 with fail
      go_cut [15] from 55 to 102 (fun pv wx => ∃ pb AP cP, pv = .pointer (some ⟨pb, 0, none⟩) ∧ wx.heap[pb]? = some (.cells #[.slice AP n2 cP, .int .i64 po] 66 (0, 0)) ∧ wx.ownsRow wr.heap.size 21 1 (.slice AP n2 cP) n2 (x.pn.map (Value.int .i32)) ∧ Below wr.heap.size wr wx)
      case first =>
        go_region_law (first
          | (refine step_append_lst rfl (.tmp 61) (.tmp 67) 64 rfl wr.heap.size 21 i0 (.int .i32 0) 4 Try.underlying64 hi hiz0 hiz1 hiz2 rfl (.slice (some ⟨wr.heap.size, 0, none⟩) 0 0) 0 [] (by simp [Act.eval]) (by first | exact B13.out _ X0.out | exact B13.out _ X1.out | exact B13.out _ X2.out | exact B13.out _ X3.out) _ A2 n2 c2 (x.pn.map (Value.int .i32)) (by simp [Act.eval]) HNIL.out (by first | exact PNS.out _ (HBL.out.trans (BA.out.mono hsz)) | exact PNS.out _ (HBL.out.trans (BAd.out.mono hsz)) | exact PNS.out _ (HBL.out.trans (BAa.out.mono hsz)) | exact PNS.out _ (HBL.out.trans (BAe.out.mono hsz))) (ints_one .i32 x.pn) (by unfold maxLen; omega) (by omega) (by first | (simp; done) | (simp; omega)) ?_; intro vP w5 hoP hgP; have hoQ : w5.ownsRow wr.heap.size 21 1 vP n2 (x.pn.map (Value.int .i32)) := (by simpa using hoP); obtain ⟨AP, cP, hvP, hPn, hPc⟩ := own1_form hoQ; subst hvP; have HPC := Lib.hid (And.intro hPn hPc); have HOP := Lib.hid hoQ; have HB5 : Hid (Below wr.heap.size wr w5) := Lib.hid ((by first | exact BA.out | exact BAd.out | exact BAa.out | exact BAe.out : Below wr.heap.size wr _).grown hgP (by first | (simp; done) | (simp; omega)) (fun q e => by have e2 : some wr.heap.size = some q := e; injection e2 with e2; omega)); have HG5 := Lib.hid hgP; (first | (have pz : w5.heap[wr.heap.size + 1]? = some (.cells #[.slice none 0 0, .int .i64 0] 66 (0, 0)) := (hgP.block (wr.heap.size + 1) (by simp) (by simp [Value.ownBlock])).trans PB.out; have pc0 : w5.cell? ⟨wr.heap.size + 1, 0, none⟩ = some (.slice none 0 0) := (by rw [cell_of_row _ _ _ _ _ _ pz]; rfl); have pc1 : w5.cell? ⟨wr.heap.size + 1, 1, none⟩ = some (.int .i64 0) := (by rw [cell_of_row _ _ _ _ _ _ pz]; rfl); have pf0 := frozen_of_row w5 (wr.heap.size + 1) 0 _ _ pz; have pf1 := frozen_of_row w5 (wr.heap.size + 1) 1 _ _ pz; have PZ := Lib.hid pz; clear pz) | skip); obtain ⟨t0, t1, t2, t3, t4, t5, t6⟩ := CX.out w5 (HBL.out.trans (HB5.out.mono hsz)); obtain ⟨y0, y1, y2, y3, y4, y5, y6⟩ := CX.out _ (HBL.out.trans ((HB5.out.alloc HB5.out.size (.cells #[.slice none 0 0, .int .i64 0] 66)).mono hsz)); clear hoP hoQ hgP hPn hPc)
          | (refine step_append_lst rfl (.tmp 61) (.tmp 67) 64 rfl wr.heap.size 21 i0 (.int .i32 0) 4 Try.underlying64 hi hiz0 hiz1 hiz2 rfl (.slice (some ⟨wr.heap.size + 1, 0, none⟩) 0 0) 0 [] (by simp [Act.eval]) (by first | exact B14.out _ Y0.out | exact B14.out _ Y1.out) _ A2 n2 c2 (x.pn.map (Value.int .i32)) (by simp [Act.eval]) HNIL.out (by first | exact PNS.out _ (HBL.out.trans (BP1.out.mono hsz)) | exact PNS.out _ (HBL.out.trans (BP2.out.mono hsz))) (ints_one .i32 x.pn) (by unfold maxLen; omega) (by omega) (by first | (simp; done) | (simp; omega)) ?_; intro vP w5 hoP hgP; have hoQ : w5.ownsRow wr.heap.size 21 1 vP n2 (x.pn.map (Value.int .i32)) := (by simpa using hoP); obtain ⟨AP, cP, hvP, hPn, hPc⟩ := own1_form hoQ; subst hvP; have HPC := Lib.hid (And.intro hPn hPc); have HOP := Lib.hid hoQ; have HB5 : Hid (Below wr.heap.size wr w5) := Lib.hid ((by first | exact BP1.out | exact BP2.out : Below wr.heap.size wr _).grown hgP (by first | (simp; done) | (simp; omega)) (fun q e => by have e2 : some (wr.heap.size + 1) = some q := e; injection e2 with e2; omega)); have HG5 := Lib.hid hgP; (first | (have pz : w5.heap[wr.heap.size]? = some (.cells #[.slice none 0 0, .int .i64 0] 66 (0, 0)) := (hgP.block wr.heap.size (by simp; omega) (by simp [Value.ownBlock])).trans PB2.out; have pc0 : w5.cell? ⟨wr.heap.size, 0, none⟩ = some (.slice none 0 0) := (by rw [cell_of_row _ _ _ _ _ _ pz]; rfl); have pc1 : w5.cell? ⟨wr.heap.size, 1, none⟩ = some (.int .i64 0) := (by rw [cell_of_row _ _ _ _ _ _ pz]; rfl); have pf0 := frozen_of_row w5 wr.heap.size 0 _ _ pz; have pf1 := frozen_of_row w5 wr.heap.size 1 _ _ pz; have PZ := Lib.hid pz; clear pz) | skip); obtain ⟨t0, t1, t2, t3, t4, t5, t6⟩ := CX.out w5 (HBL.out.trans (HB5.out.mono hsz)); obtain ⟨y0, y1, y2, y3, y4, y5, y6⟩ := CX.out _ (HBL.out.trans ((HB5.out.alloc HB5.out.size (.cells #[.slice none 0 0, .int .i64 0] 66)).mono hsz)); clear hoP hoQ hgP hPn hPc))
        all_goals
          go_wp2_with fail
          go_meet
          first
            | exact ⟨_, _, _, rfl, plane_a HOP.out HB5.out HB5.out.size⟩
            | exact ⟨_, _, _, rfl, plane_b PZ.out HOP.out HB5.out (by omega)⟩
      case rest =>
        obtain ⟨pb, AP, cP, rfl, hpb, hrow, hbw⟩ := hcut
        have hpl := lt_of_block hpb
        have HBW := Lib.hid (HBL.out.trans (hbw.mono hsz))
        have hswc := hbw.size
        obtain ⟨e0, e1, e2, e3, e4, e5, -⟩ := CX.out wc HBW.out
        have p0' : wc.cell? ⟨pb, 0, none⟩ = some (.slice AP n2 cP) := by rw [cell_of_row _ _ _ _ _ _ hpb]; rfl
        have p1' : wc.cell? ⟨pb, 1, none⟩ = some (.int .i64 po) := by rw [cell_of_row _ _ _ _ _ _ hpb]; rfl
        have CS : Hid (∀ V, Below wc.heap.size wc V → V.cell? ⟨b, off + j * 6, none⟩ = some (.bool lf) ∧ V.cell? ⟨b, off + j * 6 + 1, none⟩ = some (.slice A1 n1 c1) ∧ V.cell? ⟨b, off + j * 6 + 4, none⟩ = some (.int .i64 lt) ∧ V.cell? ⟨b, off + j * 6 + 5, none⟩ = some (.int .i64 rt) ∧
            V.cell? ⟨pb, 0, none⟩ = some (.slice AP n2 cP) ∧ V.cell? ⟨pb, 1, none⟩ = some (.int .i64 po)) := Lib.hid fun V hV => by
          obtain ⟨e0, e1, -, -, e4, e5, -⟩ := CX.out V (HBW.out.trans (hV.mono HBW.out.size))
          exact ⟨e0, e1, e4, e5, (hV.cell (p := ⟨pb, 0, none⟩) hpl).trans p0', (hV.cell (p := ⟨pb, 1, none⟩) hpl).trans p1'⟩
        have HROW := Lib.hid hrow
        have HPB := Lib.hid hpb
        have HBWC := Lib.hid hbw
        have Z0 := Lib.hid ((Below.refl wc.heap.size wc).alloc (Nat.le_refl _) (.cells #[] 3))
        have Z1 := Lib.hid Z0.out.drew
        have hz2 : (wc.alloc (.cells #[] 3)).drew.ownsRow wc.heap.size 3 1 (.slice (some ⟨wc.heap.size, 0, none⟩) 0 0) 0 [] := own_heap (own_zero wc 3 1) rfl
        have HZ2 := Lib.hid hz2
        clear hpb hrow hbw hz2 p0' p1' e0 e1 e2 e3 e4 e5 r0 r1 r2 r3 r4 r5 r6 s0 s1 s2 s3 s4 s5 s6 a0 a1 a2 a3 a4 a5 a6 p0 p1 p2 p3 p4 p5 p6 q0 q1 q2 q3 q4 q5 q6 BP0 BP1 BP2 BA BAa BAd BAe X0 X1 X2 X3 Y0 Y1 B13 B14 PB PB2
        obtain ⟨e0, e1, e2, e3, e4, e5⟩ := CS.out wc (Below.refl _ _)
        have hnil1 := (IDS.out wc HBW.out).nil
        have HN1 := Lib.hid hnil1
        have HXL : Hid (x.ids.length = n1 ∧ x.pn.length = n2) := HL
        clear hnil1
        go_upto_region 10 with fail
        go_region_held3 (fun V => V.cell? ⟨b, off + j * 6, none⟩ = some (.bool lf) ∧ V.cell? ⟨b, off + j * 6 + 1, none⟩ = some (.slice A1 n1 c1) ∧ V.cell? ⟨b, off + j * 6 + 4, none⟩ = some (.int .i64 lt) ∧ V.cell? ⟨b, off + j * 6 + 5, none⟩ = some (.int .i64 rt) ∧
            V.cell? ⟨pb, 0, none⟩ = some (.slice AP n2 cP) ∧ V.cell? ⟨pb, 1, none⟩ = some (.int .i64 po)) (go_keep) (first
          | (refine step_append_lst rfl (.tmp 82) (.tmp 87) 42 rfl wc.heap.size 3 j0 (.int .i64 0) 8 Try.underlying42 hj hjz0 hjz1 hjz2 rfl (.slice (some ⟨wc.heap.size, 0, none⟩) 0 0) 0 [] (by simp [Act.eval]) (by first | exact HZ2.out | exact own_heap HZ2.out rfl) _ A1 n1 c1 (ci x.ids) (by simp [Act.eval]) HN1.out ((IDS.out _ (HBW.out.trans ((by first | exact Z0.out | exact Z1.out : Below wc.heap.size wc _).mono HBW.out.size))).lst) (ints_one .i64 x.ids) (by unfold maxLen; omega) (by omega) (by first | (simp; done) | (simp; omega)) ?_; intro vI w5 hoI hgI; have hoJ : w5.ownsRow wc.heap.size 3 1 vI n1 (ci x.ids) := (by simpa using hoI); obtain ⟨AI, cI, hvI, hIn, hIc⟩ := own1_form hoJ; subst hvI; have HOI := Lib.hid hoJ; have HB5 : Hid (Below wc.heap.size wc w5) := Lib.hid ((by first | exact Z0.out | exact Z1.out : Below wc.heap.size wc _).grown hgI (by first | (simp; done) | (simp; omega)) (fun q e => by have e2 : some wc.heap.size = some q := e; injection e2 with e2; omega)); obtain ⟨t0, t1, t2, t3, t4, t5⟩ := CS.out w5 HB5.out; have HST := Lib.hid (cpy_step (vP := .slice AP n2 cP) (vI := .slice AI n1 cI) (x := x) (cs := #[.bool lf, .slice AI n1 cI, .slice AP n2 cP, .int .i64 po, .int .i64 lt, .int .i64 rt]) HCP.out HR.out hsz HBWC.out (by rw [HXL.out.2]; exact HROW.out) HB5.out (by rw [HXL.out.1]; exact HOI.out) HIN.out (by rw [HXL.out.1]; omega) (by rw [HXL.out.2]; omega)); clear hoI hoJ hgI hIn hIc)
          | (refine step_append_lies _ rfl (.tmp 76) (.tmp 101) 22 rfl w3.heap.size 68 n0 _ 6 80 Try.underlying22 hin hnz0 hnz1 hnz2 rfl (by decide) u13 j (cpc U (T.take j)) (by simp [Act.eval]) HST.out.1 ⟨w5.heap.size, 0, none⟩ 1 1 [.bool lf, .slice AI n1 cI, .slice AP n2 cP, .int .i64 po, .int .i64 lt, .int .i64 rt] (by simp [Act.eval]) rfl (World.news_of_block (heap_alloc_new w5 _)) (by intro u hu; simp at hu; rcases hu with rfl | rfl | rfl | rfl | rfl | rfl <;> rfl) (by omega) (by unfold maxLen; omega) (by omega) (by have := HB5.out.size; simp; omega) _ rfl ?_; intro g cap w6 hoG hgG hatG hltG; have hbA := HB5.out.alloc HB5.out.size (.cells #[.bool lf, .slice AI n1 cI, .slice AP n2 cP, .int .i64 po, .int .i64 lt, .int .i64 rt] 68); obtain ⟨f1, f2⟩ := far_cells (b := b) (pb := pb) HST.out.1 hgG (Nat.lt_of_lt_of_le HBK.out hb3w) (by have := hbA.size; have := HBK.out; omega) ((hbA.block _ hpl).trans HPB.out); obtain ⟨z0, z1, z2, z3, z4, z5⟩ := CS.out _ hbA; have y0 := (f1 _).trans z0; have y1 := (f1 _).trans z1; have y2 := (f1 _).trans z2; have y3 := (f1 _).trans z3; have y4 := (f2 _).trans z4; have y5 := (f2 _).trans z5; have HBA := Lib.hid hbA; clear f1 f2 z0 z1 z2 z3 z4 z5 hbA; have HOG := Lib.hid hoG; have HGG := Lib.hid hgG; clear hoG hgG hatG hltG))
        all_goals
          have HOG2 : Hid (w6.ownsRow w3.heap.size 68 6 (.slice (some ⟨g, 0, none⟩) (j + 1) cap) (j + 1) (cpc (U ++ [(.slice AI n1 cI, .slice AP n2 cP)]) (T.take (j + 1)))) := Lib.hid (by
            rw [Xm.take_snoc HXX.out, cpc_snoc HCP.out.len, ← HF.out.1, ← HF.out.2.1, ← HF.out.2.2.1, ← HF.out.2.2.2]
            exact HOG.out)
          have HCP2 : Hid (Cpy w3.heap.size w6 (U ++ [(.slice AI n1 cI, .slice AP n2 cP)]) (T.take (j + 1))) := Lib.hid (by
            rw [Xm.take_snoc HXX.out]
            exact HST.out.2.grown HST.out.1 HGG.out)
          have HBL2 : Hid (Below w3.heap.size w3 w6) := Lib.hid ((HBW.out.trans (HBA.out.mono HBW.out.size)).grown HGG.out (by have := HBA.out.size; omega) (fun q e => (own_lt6 HST.out.1 q e).1))
          clear HOG HGG HST HBA HOI HB5 HROW HPB HBWC Z0 Z1 HZ2 CS CX IDS PNS HIN HN1 HXL HNIL HL HF HR HCP HBL HBW
          clear y0 y1 y2 y3 y4 y5 t0 t1 t2 t3 t4 t5 e0 e1 e2 e3 e4 e5
          go_wp2
          go_roundw
          case rel => exact ⟨j + 1, _, congrArg (Value.int .i64) (by omega), by omega, HOG2.out, HCP2.out, HBL2.out⟩
          case measure => simp [intOf]; omega
    · obtain rfl : j = n := by omega
      have hTk : T.take j = T := List.take_of_length_le (by rw [HX.out.len]; exact Nat.le_refl _)
      have hrow := HR.out
      have hcp := HCP.out
      rw [hTk] at hrow hcp
      have hpj : p < j := by omega
      obtain ⟨g, cap, rfl, hg1, hg2⟩ := hrow.form (by omega)
      have hxu := hcp.xds hrow HX.out.len
      have FS0 := sameX (HX.out.below (B3.out.trans (HBL.out.mono B3.out.size))) hxu (by omega) (by omega) (by omega) (by omega)
      rw [Xm.eqT_true rfl] at FS0
      have FSM := Lib.hid FS0
      have HRW := Lib.hid hrow
      have HCQ := Lib.hid hcp
      have HBW := Lib.hid (B3.out.trans (HBL.out.mono B3.out.size))
      have hlo := HBL.out.size
      clear FS0 hxu hrow hcp hTk HR HCP HBL
      go_wp2_with fail
      refine FSM.out.mono ?_
      rintro _ w4 ⟨rfl, hb4⟩
      have hrow4 : w4.ownsRow w3.heap.size 68 6 (.slice (some ⟨g, 0, none⟩) j cap) j (cpc U T) := own_keep6 HRW.out fun q e => hb4.block q (own_lt6 HRW.out q e).2.1
      have hcp4 := HCQ.out.below hb4
      have hb04 := HBW.out.trans (hb4.mono HBW.out.size)
      have hs4 := hb4.size
      have hlo4 : w3.heap.size ≤ w4.heap.size := by omega
      have hww : w.heap.size ≤ w3.heap.size := B3.out.size
      obtain ⟨x, hx⟩ := HX.out.get hpj
      obtain ⟨u, hu⟩ : ∃ u, U[p]? = some u := ⟨_, List.getElem?_eq_getElem (by rw [hcp4.len, HX.out.len]; exact hpj)⟩
      have hrng := Xm.chk_rng HC0.out hx
      rw [HX.out.len] at hrng
      have hmem := Xm.tot_in (List.mem_of_getElem? hx)
      have hcell : ∀ (i : Nat) (y : Value), ([.bool x.leaf, u.1, u.2, .int .i64 x.po, .int .i64 x.lt, .int .i64 x.rt] : List Value)[i]? = some y → w4.cell? ⟨g, p * 6 + i, none⟩ = some y := fun i y hy => by
        have := hrow4.cells (g := g) rfl (p * 6 + i) y (cpc_get hu hx i y hy)
        rwa [Addr.add_lit, Nat.zero_add] at this
      have k0 := hcell 0 _ rfl
      have k1 := hcell 1 _ rfl
      have k2 := hcell 2 _ rfl
      have k4 := hcell 4 _ rfl
      have k5 := hcell 5 _ rfl
      rw [Nat.add_zero] at k0
      have ho := hcp4.own p u x hu hx
      obtain ⟨A1, c1, hu1, -, -⟩ := own1_form ho.ids
      obtain ⟨A2, c2, hu2, -, -⟩ := own1_form ho.pn
      have hfz : ∀ i, w4.frozen? ⟨g, i, none⟩ = false := fun i => by
        obtain ⟨-, -, cs, hc⟩ := own_lt6 hrow4 g rfl
        exact frozen_of_row w4 g i _ _ hc
      have fz0 := hfz (p * 6)
      have fz1 := hfz (p * 6 + 1)
      have fz2 := hfz (p * 6 + 2)
      have fz4 := hfz (p * 6 + 4)
      have fz5 := hfz (p * 6 + 5)
      have HU1 := Lib.hid hu1
      have HU2 := Lib.hid hu2
      have HR4 := Lib.hid hrow4
      have HC4 := Lib.hid hcp4
      have HB4 := Lib.hid hb04
      have HXX := Lib.hid hx
      have HUU := Lib.hid hu
      have HOW := Lib.hid ho
      obtain ⟨lf, hlf⟩ : ∃ lf, lf = x.leaf := ⟨_, rfl⟩
      obtain ⟨lt, hlt'⟩ : ∃ lt, lt = x.lt := ⟨_, rfl⟩
      obtain ⟨rt, hrt⟩ : ∃ rt, rt = x.rt := ⟨_, rfl⟩
      obtain ⟨n1, hn1⟩ : ∃ n1, n1 = x.ids.length := ⟨_, rfl⟩
      obtain ⟨n2, hn2⟩ : ∃ n2, n2 = x.pn.length := ⟨_, rfl⟩
      rw [← hlt', ← hrt] at hrng
      rw [← hn1, ← hn2] at hmem
      rw [← hlf] at k0
      rw [hu1, ← hn1] at k1
      rw [hu2, ← hn2] at k2
      rw [← hlt'] at k4
      rw [← hrt] at k5
      have HLF := Lib.hid hlf
      have HLT := Lib.hid hlt'
      have HRT := Lib.hid hrt
      have HN1 := Lib.hid hn1
      have HN2 := Lib.hid hn2
      clear hcell hfz hu1 hu2 hrow4 hcp4 hb04 hb4 hx hu ho hlf hlt' hrt hn1 hn2 FSM HRW HCQ HBW
      by_cases e0 : kind = 0
      · subst e0
        obtain ⟨hr5, hc5, hb5⟩ := HC4.out.put HR4.out HUU.out HXX.out (i := 4) (z := .int .i64 (lt + by_)) (by omega) { x with lt := lt + by_ } rfl rfl rfl
        have h14 := Xm.spoil_lt (b := lt + by_) HC0.out HXX.out (by rw [← HLT.out]; have := G5.out; omega)
        have ht5 := Xm.tot_set (T := T) (k := p) { x with lt := lt + by_ }
        obtain ⟨F1, F2, F3⟩ := spoilt_fin HX.out (HB4.out.trans (hb5.mono hww)) (hc5.xds hr5 (by rw [List.length_set]; exact HX.out.len)) HC0.out h14 (by omega) (by omega) (by omega) (by have := HN1.out; have := HN2.out; dsimp only at ht5; omega)
        have B5 := Lib.hid (HB4.out.trans (hb5.mono hww))
        clear hr5 hc5 hb5 h14 ht5
        go_wp2_with fail
        refine F1.out.mono ?_
        rintro _ w7 ⟨rfl, hb7⟩
        have G2 := Lib.hid (F2.out _ hb7)
        clear F1 F2 hb7
        go_wp2_with fail
        refine G2.out.mono ?_
        rintro _ w8 ⟨rfl, hb8⟩
        have G3 := Lib.hid (F3.out _ hb8)
        clear G2 F3 hb8
        go_wp2_with fail
        refine G3.out.mono ?_
        rintro _ w9 ⟨rfl, hb9⟩
        have B9 := Lib.hid (B5.out.trans (hb9.mono B5.out.size))
        clear hb9 G3
        go_wp2
        go_ret
        exact ⟨rfl, B9.out⟩
      have q0 : (kind == 0) = false := by simpa using e0
      by_cases e1 : kind = 1
      · subst e1
        clear q0
        obtain ⟨hr5, hc5, hb5⟩ := HC4.out.put HR4.out HUU.out HXX.out (i := 5) (z := .int .i64 (rt + by_)) (by omega) { x with rt := rt + by_ } rfl rfl rfl
        have h14 := Xm.spoil_rt (b := rt + by_) HC0.out HXX.out (by rw [← HRT.out]; have := G5.out; omega)
        have ht5 := Xm.tot_set (T := T) (k := p) { x with rt := rt + by_ }
        obtain ⟨F1, F2, F3⟩ := spoilt_fin HX.out (HB4.out.trans (hb5.mono hww)) (hc5.xds hr5 (by rw [List.length_set]; exact HX.out.len)) HC0.out h14 (by omega) (by omega) (by omega) (by have := HN1.out; have := HN2.out; dsimp only at ht5; omega)
        have B5 := Lib.hid (HB4.out.trans (hb5.mono hww))
        clear hr5 hc5 hb5 h14 ht5
        go_wp2_with fail
        refine F1.out.mono ?_
        rintro _ w7 ⟨rfl, hb7⟩
        have G2 := Lib.hid (F2.out _ hb7)
        clear F1 F2 hb7
        go_wp2_with fail
        refine G2.out.mono ?_
        rintro _ w8 ⟨rfl, hb8⟩
        have G3 := Lib.hid (F3.out _ hb8)
        clear G2 F3 hb8
        go_wp2_with fail
        refine G3.out.mono ?_
        rintro _ w9 ⟨rfl, hb9⟩
        have B9 := Lib.hid (B5.out.trans (hb9.mono B5.out.size))
        clear hb9 G3
        go_wp2
        go_ret
        exact ⟨rfl, B9.out⟩
      have q1 : (kind == 1) = false := by simpa using e1
      by_cases e2 : kind = 2
      · subst e2
        clear q0 q1
        rw [← Nat.add_zero (p * 6)] at k0 fz0
        obtain ⟨hr5, hc5, hb5⟩ := HC4.out.put HR4.out HUU.out HXX.out (i := 0) (z := .bool (!lf)) (by omega) { x with leaf := !x.leaf } rfl rfl (by rw [HLF.out]; rfl)
        have h14 := Xm.spoil_leaf HC0.out HXX.out
        have ht5 := Xm.tot_set (T := T) (k := p) { x with leaf := !x.leaf }
        obtain ⟨F1, F2, F3⟩ := spoilt_fin HX.out (HB4.out.trans (hb5.mono hww)) (hc5.xds hr5 (by rw [List.length_set]; exact HX.out.len)) HC0.out h14 (by omega) (by omega) (by omega) (by have := HN1.out; have := HN2.out; dsimp only at ht5; omega)
        have B5 := Lib.hid (HB4.out.trans (hb5.mono hww))
        clear hr5 hc5 hb5 h14 ht5
        rw [Nat.add_zero] at k0 fz0 F1 F2 F3 B5
        go_wp2_with fail
        refine F1.out.mono ?_
        rintro _ w7 ⟨rfl, hb7⟩
        have G2 := Lib.hid (F2.out _ hb7)
        clear F1 F2 hb7
        go_wp2_with fail
        refine G2.out.mono ?_
        rintro _ w8 ⟨rfl, hb8⟩
        have G3 := Lib.hid (F3.out _ hb8)
        clear G2 F3 hb8
        go_wp2_with fail
        refine G3.out.mono ?_
        rintro _ w9 ⟨rfl, hb9⟩
        have B9 := Lib.hid (B5.out.trans (hb9.mono B5.out.size))
        clear hb9 G3
        go_wp2
        go_ret
        exact ⟨rfl, B9.out⟩
      have q2 : (kind == 2) = false := by simpa using e2
      by_cases e3 : kind = 3
      · subst e3
        clear q0 q1 q2
        have HU1' := Lib.hid (show u.1 = .slice A1 n1 c1 from by rw [HU1.out, HN1.out])
        obtain ⟨W1, hW1⟩ : ∃ W1, W1 = w4.alloc (.cells #[.int .i64 by_] 3) := ⟨_, rfl⟩
        have hbW : Below w4.heap.size w4 W1 := by rw [hW1]; exact (Below.refl _ w4).alloc (Nat.le_refl _) _
        have howB : W1.ownsRow w3.heap.size 3 1 (.slice A1 n1 c1) n1 (ci x.ids) := by
          have := HOW.out.ids
          rw [HU1.out, ← HN1.out] at this
          exact own_keep6 this fun q e => hbW.block q (own_lt6 this q e).2.1
        have hnw : W1.heap[w4.heap.size]? = some (.cells #[.int .i64 by_] 3 (0, 0)) := by rw [hW1]; exact heap_alloc_new w4 _
        have MORE : Hid (∀ (g6 cap6 : Nat) (w6 : World), w6.ownsRow w3.heap.size 3 1 (.slice (some ⟨g6, 0, none⟩) (n1 + 1) cap6) (n1 + 1) (ci x.ids ++ [.int .i64 by_]) → W1.grownBy w6 (Value.slice A1 n1 c1).ownBlock → ((Value.slice A1 n1 c1).ownBlock = some g6 ∨ g6 = W1.heap.size) →
            (∃ v, w6.cell? ⟨g, p * 6 + 1, none⟩ = some v) ∧ w6.frozen? ⟨g, p * 6 + 1, none⟩ = false ∧ Below w.heap.size w (w6.setCell ⟨g, p * 6 + 1, none⟩ (.slice (some ⟨g6, 0, none⟩) (n1 + 1) cap6)) ∧
              Xds (w6.setCell ⟨g, p * 6 + 1, none⟩ (.slice (some ⟨g6, 0, none⟩) (n1 + 1) cap6)) (some ⟨g, 0, none⟩) j cap (T.set p { x with ids := x.ids ++ [by_] })) := Lib.hid fun g6 cap6 w6 r1 r2 r3 => by
          rw [← HU1'.out] at r2 r3
          obtain ⟨row6, row7, cp7, b7⟩ := HC4.out.more1 HR4.out HUU.out HXX.out hbW (by rw [← HN1.out]; exact r1) r2 (fun b e => by
            have e2 : g6 = b := by simpa [Value.ownBlock] using e
            subst e2
            exact r3) (by rw [← HN1.out]; omega) hlo4 { x with ids := x.ids ++ [by_] } rfl
          obtain ⟨-, -, cs, hc⟩ := own_lt6 row6 g rfl
          refine ⟨⟨u.1, ?_⟩, frozen_of_row w6 g _ _ _ hc, HB4.out.trans (b7.mono hww), cp7.xds row7 (by rw [List.length_set]; exact HX.out.len)⟩
          have := row6.cells (g := g) rfl (p * 6 + 1) u.1 (cpc_get HUU.out HXX.out 1 _ rfl)
          rwa [Addr.add_lit, Nat.zero_add] at this
        have h14 := Xm.spoil_ids (b := x.ids ++ [by_]) HC0.out HXX.out (by simp)
        have ht5 := Xm.tot_set (T := T) (k := p) { x with ids := x.ids ++ [by_] }
        have FIN : Hid (∀ W5, Below w.heap.size w W5 → Xds W5 (some ⟨g, 0, none⟩) j cap (T.set p { x with ids := x.ids ++ [by_] }) → _) := Lib.hid fun W5 hb5 hx5 => spoilt_fin HX.out hb5 hx5 HC0.out h14 (by omega) (by omega) (by omega) (by have := HN1.out; have := HN2.out; simp only [List.length_append, List.length_cons, List.length_nil] at ht5; omega)
        have HBW := Lib.hid hbW
        have HOWB := Lib.hid howB
        have HNW := Lib.hid hnw
        have hsW := hbW.size
        have HW1 := Lib.hid hW1
        clear hbW howB hnw h14 ht5 hW1
        go_wp2_with (at_builtin; rw [← HW1.out]; refine wpList_append_lies _ rfl (.tmp 152) (.tmp 154) 42 rfl w3.heap.size 3 j0 (.int .i64 0) 1 8 Try.underlying42 hj hjz0 hjz1 hjz2 rfl (by decide) (.slice A1 n1 c1) n1 (ci x.ids) rfl HOWB.out ⟨w4.heap.size, 0, none⟩ 1 1 [.int .i64 by_] rfl rfl (World.news_of_block HNW.out) (ints_one .i64 [by_]) (by omega) (by unfold maxLen; omega) (by omega) (by omega) _ rfl ?_; intro g6 cap6 w6 r1 r2 r3 r4; obtain ⟨⟨v6, m1⟩, m2, m3, m4⟩ := MORE.out g6 cap6 w6 r1 r2 r3; obtain ⟨F1, F2, F3⟩ := FIN.out _ m3 m4; have B5 := Lib.hid m3; clear r1 r2 r3 r4 m3 m4)
        refine F1.out.mono ?_
        rintro _ w7 ⟨rfl, hb7⟩
        have G2 := Lib.hid (F2.out _ hb7)
        clear F1 F2 hb7
        go_wp2_with fail
        refine G2.out.mono ?_
        rintro _ w8 ⟨rfl, hb8⟩
        have G3 := Lib.hid (F3.out _ hb8)
        clear G2 F3 hb8
        go_wp2_with fail
        refine G3.out.mono ?_
        rintro _ w9 ⟨rfl, hb9⟩
        have B9 := Lib.hid (B5.out.trans (hb9.mono B5.out.size))
        clear hb9 G3
        go_wp2
        go_ret
        exact ⟨rfl, B9.out⟩
      have q3 : (kind == 3) = false := by simpa using e3
      by_cases e4 : kind = 4
      · subst e4
        clear q0 q1 q2 q3
        have HU2' := Lib.hid (show u.2 = .slice A2 n2 c2 from by rw [HU2.out, HN2.out])
        obtain ⟨W1, hW1⟩ : ∃ W1, W1 = w4.alloc (.cells #[.int .i32 0] 21) := ⟨_, rfl⟩
        have hbW : Below w4.heap.size w4 W1 := by rw [hW1]; exact (Below.refl _ w4).alloc (Nat.le_refl _) _
        have howB : W1.ownsRow w3.heap.size 21 1 (.slice A2 n2 c2) n2 (x.pn.map (Value.int .i32)) := by
          have := HOW.out.pn
          rw [HU2.out, ← HN2.out] at this
          exact own_keep6 this fun q e => hbW.block q (own_lt6 this q e).2.1
        have hnw : W1.heap[w4.heap.size]? = some (.cells #[.int .i32 0] 21 (0, 0)) := by rw [hW1]; exact heap_alloc_new w4 _
        have MORE : Hid (∀ (g6 cap6 : Nat) (w6 : World), w6.ownsRow w3.heap.size 21 1 (.slice (some ⟨g6, 0, none⟩) (n2 + 1) cap6) (n2 + 1) (x.pn.map (Value.int .i32) ++ [.int .i32 0]) → W1.grownBy w6 (Value.slice A2 n2 c2).ownBlock → ((Value.slice A2 n2 c2).ownBlock = some g6 ∨ g6 = W1.heap.size) →
            (∃ v, w6.cell? ⟨g, p * 6 + 2, none⟩ = some v) ∧ w6.frozen? ⟨g, p * 6 + 2, none⟩ = false ∧ Below w.heap.size w (w6.setCell ⟨g, p * 6 + 2, none⟩ (.slice (some ⟨g6, 0, none⟩) (n2 + 1) cap6)) ∧
              Xds (w6.setCell ⟨g, p * 6 + 2, none⟩ (.slice (some ⟨g6, 0, none⟩) (n2 + 1) cap6)) (some ⟨g, 0, none⟩) j cap (T.set p { x with pn := x.pn ++ [0] })) := Lib.hid fun g6 cap6 w6 r1 r2 r3 => by
          rw [← HU2'.out] at r2 r3
          obtain ⟨row6, row7, cp7, b7⟩ := HC4.out.more2 HR4.out HUU.out HXX.out hbW (by rw [← HN2.out]; exact r1) r2 (fun b e => by
            have e2 : g6 = b := by simpa [Value.ownBlock] using e
            subst e2
            exact r3) (by rw [← HN2.out]; omega) hlo4 { x with pn := x.pn ++ [0] } rfl
          obtain ⟨-, -, cs, hc⟩ := own_lt6 row6 g rfl
          refine ⟨⟨u.2, ?_⟩, frozen_of_row w6 g _ _ _ hc, HB4.out.trans (b7.mono hww), cp7.xds row7 (by rw [List.length_set]; exact HX.out.len)⟩
          have := row6.cells (g := g) rfl (p * 6 + 2) u.2 (cpc_get HUU.out HXX.out 2 _ rfl)
          rwa [Addr.add_lit, Nat.zero_add] at this
        have h14 := Xm.spoil_pn (b := x.pn ++ [0]) HC0.out HXX.out (by simp)
        have ht5 := Xm.tot_set (T := T) (k := p) { x with pn := x.pn ++ [0] }
        have FIN : Hid (∀ W5, Below w.heap.size w W5 → Xds W5 (some ⟨g, 0, none⟩) j cap (T.set p { x with pn := x.pn ++ [0] }) → _) := Lib.hid fun W5 hb5 hx5 => spoilt_fin HX.out hb5 hx5 HC0.out h14 (by omega) (by omega) (by omega) (by have := HN1.out; have := HN2.out; simp only [List.length_append, List.length_cons, List.length_nil] at ht5; omega)
        have HBW := Lib.hid hbW
        have HOWB := Lib.hid howB
        have HNW := Lib.hid hnw
        have hsW := hbW.size
        have HW1 := Lib.hid hW1
        clear hbW howB hnw h14 ht5 hW1
        go_wp2_with (at_builtin; rw [← HW1.out]; refine wpList_append_lies _ rfl (.tmp 165) (.tmp 166) 64 rfl w3.heap.size 21 i0 (.int .i32 0) 1 4 Try.underlying64 hi hiz0 hiz1 hiz2 rfl (by decide) (.slice A2 n2 c2) n2 (x.pn.map (Value.int .i32)) rfl HOWB.out ⟨w4.heap.size, 0, none⟩ 1 1 [.int .i32 0] rfl rfl (World.news_of_block HNW.out) (ints_one .i32 [0]) (by omega) (by unfold maxLen; omega) (by omega) (by omega) _ rfl ?_; intro g6 cap6 w6 r1 r2 r3 r4; obtain ⟨⟨v6, m1⟩, m2, m3, m4⟩ := MORE.out g6 cap6 w6 r1 r2 r3; obtain ⟨F1, F2, F3⟩ := FIN.out _ m3 m4; have B5 := Lib.hid m3; clear r1 r2 r3 r4 m3 m4)
        refine F1.out.mono ?_
        rintro _ w7 ⟨rfl, hb7⟩
        have G2 := Lib.hid (F2.out _ hb7)
        clear F1 F2 hb7
        go_wp2_with fail
        refine G2.out.mono ?_
        rintro _ w8 ⟨rfl, hb8⟩
        have G3 := Lib.hid (F3.out _ hb8)
        clear G2 F3 hb8
        go_wp2_with fail
        refine G3.out.mono ?_
        rintro _ w9 ⟨rfl, hb9⟩
        have B9 := Lib.hid (B5.out.trans (hb9.mono B5.out.size))
        clear hb9 G3
        go_wp2
        go_ret
        exact ⟨rfl, B9.out⟩
      have q4 : (kind == 4) = false := by simpa using e4
      have hxd := (HC4.out.xds HR4.out HX.out.len).take (j := p) (by omega)
      have hcp := (HC4.out.xds HR4.out HX.out.len).cap
      have hcpp : p ≤ cap := by omega
      have h14 := Xm.spoil_cut HC0.out (show p < T.length by rw [HX.out.len]; exact hpj)
      have ht5 := Xm.tot_take T p
      obtain ⟨F1, F2, F3⟩ := spoilt_fin HX.out HB4.out hxd HC0.out h14 (by omega) (by omega) (by omega) (by omega)
      have B5 := HB4
      clear hxd h14 ht5
      go_wp2_with fail
      refine F1.out.mono ?_
      rintro _ w7 ⟨rfl, hb7⟩
      have G2 := Lib.hid (F2.out _ hb7)
      clear F1 F2 hb7
      go_wp2_with fail
      refine G2.out.mono ?_
      rintro _ w8 ⟨rfl, hb8⟩
      have G3 := Lib.hid (F3.out _ hb8)
      clear G2 F3 hb8
      go_wp2_with fail
      refine G3.out.mono ?_
      rintro _ w9 ⟨rfl, hb9⟩
      have B9 := Lib.hid (B5.out.trans (hb9.mono B5.out.size))
      clear hb9 G3
      go_wp2
      go_ret
      exact ⟨rfl, B9.out⟩
theorem own : ownKnob Try.prog.godebug = none := by kernel_rfl
theorem laidOut : laidOutB Try.prog = true := by kernel_rfl
set_option maxRecDepth 100000 in
theorem lifted (os : Os) (started : os.Started) (H : Type) (enc : TypeId × Value → H) :
    ReturnsInHanded {} Try.checked os 6 .any (Rows.shapeSpoiltSpec.pre6 enc Try.prog Try.f6 Rows.shapeSpoiltRow.domain false) (Rows.shapeSpoiltSpec.post enc Try.prog Try.f6 false true false false) := by
  refine returnsInHanded_of_change_sized (C := Try.checked) own started (by kernel_rfl) Try.func6
    (ChangeSpec.witness6 (enc := enc) (C := Try.checked) false ⟨#[], #[.slice none 0 0, .int .i64 0, .int .i64 0, .int .i64 0, .int .i64 0, .int .i64 0], []⟩ 8 (by kernel_rfl) (by kernel_rfl) (by kernel_rfl) (by kernel_rfl)) ?_
  intro W base args ds gs before hval0 hW hcnd hsz0 _
  have hwt : ∀ (j : Nat) (t : TypeId) (d : DataW H), (Try.f6.params.toList ++ Rows.shapeSpoiltSpec.plain.varTypes Try.prog)[j]? = some t → (ds ++ gs)[j]? = some d → ∀ k ∈ d.weights Try.prog t, k ≤ reachBytes := fun j t d ht hd k hk => by
    have := List.all_eq_true.1 hsz0 k (DataW.weights_mem_each ht hd k hk)
    simpa using this
  have hval : ∀ (j : Nat) t v, Try.f6.params[j]? = some t → args[j]? = some v → Value.okWide Try.prog W .any base t v := hval0
  have hW' := hW
  obtain ⟨p, q, hA0, hV, rfl, hfz, hnd⟩ := hW
  have hA : DataW.TrodAll enc Try.prog W 0 (fun _ => true) true Try.f6.params.toList args.toList ds p := hA0
  rw [Try.params6] at hA hval
  obtain ⟨v0, vs0, d0, ds0, p0, q0, hargs, rfl, rfl, h0, r0⟩ := trodAll_cons hA
  obtain ⟨v1, vs1, d1, ds1, p1, q1, rfl, rfl, rfl, h1, r1⟩ := trodAll_cons r0
  obtain ⟨v2, vs2, d2, ds2, p2, q2, rfl, rfl, rfl, h2, r2⟩ := trodAll_cons r1
  obtain ⟨v3, vs3, d3, ds3, p3, q3, rfl, rfl, rfl, h3, r3⟩ := trodAll_cons r2
  obtain ⟨v4, vs4, d4, ds4, p4, q4, rfl, rfl, rfl, h4, r4⟩ := trodAll_cons r3
  obtain ⟨v5, vs5, d5, ds5, p5, q5, rfl, rfl, rfl, h5, r5⟩ := trodAll_cons r4
  obtain ⟨rfl, rfl, rfl⟩ := trodAll_nil r5
  obtain rfl : args = #[v0, v1, v2, v3, v4, v5] := by cases args; simp_all
  obtain ⟨rfl, rfl⟩ := trodVars_none hV
  obtain ⟨a0, len0, cap0, rfl⟩ := okWide_slice Try.underlying22 (hval 0 22 v0 rfl rfl)
  have k0 := h0
  have lt0 : ∀ x ∈ p0, x.block < W.heap.size := by obtain ⟨m, hm⟩ := k0; exact DataW.trod_lt m _ _ _ hm
  obtain ⟨z0, w0⟩ : ∃ T, Xds W a0 len0 cap0 T ∧ Xdc W a0 T ∧ len0 ≤ 2000000000000 := by
    obtain ⟨fuel, hf⟩ := h0
    exact nodes_open (by simpa [Value.cells] using hf) (fun k hk => hwt 0 22 _ (by kernel_rfl) rfl k hk)
  obtain ⟨a1, rfl, rfl, rfl, w1⟩ := open_int Try.underlying3 (hval 1 3 v1 rfl rfl) h1
  obtain ⟨a2, rfl, rfl, rfl, w2⟩ := open_int Try.underlying3 (hval 2 3 v2 rfl rfl) h2
  obtain ⟨a3, rfl, rfl, rfl, w3⟩ := open_int Try.underlying3 (hval 3 3 v3 rfl rfl) h3
  obtain ⟨a4, rfl, rfl, rfl, w4⟩ := open_int Try.underlying3 (hval 4 3 v4 rfl rfl) h4
  obtain ⟨a5, rfl, rfl, rfl, w5⟩ := open_int Try.underlying3 (hval 5 3 v5 rfl rfl) h5
  clear hA0 hval0
  refine (walk a0 len0 cap0 z0 a1 a2 a3 a4 a5 W w0 w1 w2 w3 w4 w5).mono fun e W' ⟨he, bel⟩ => ?_
  subst he
  exact ⟨_, rfl, _, _, _, [], _, [], hW', trodAll_mk1 (shut_bool Try.underlying4 _), (trodAll_cons_mk (Below.trod laidOut (by kernel_rfl) (of_decide_eq_true (by kernel_rfl)) k0 bel lt0) (trodAll_cons_mk (shut_int Try.underlying3 w1) (trodAll_cons_mk (shut_int Try.underlying3 w2) (trodAll_cons_mk (shut_int Try.underlying3 w3) (trodAll_cons_mk (shut_int Try.underlying3 w4) (trodAll_cons_mk (shut_int Try.underlying3 w5) trodAll_mk0)))))), rfl, bel.frame _, fun h => by cases h⟩
theorem over : Rows.shapeSpoiltRow.holds Try.pinned (OpenSpec.ofChange Rows.shapeSpoiltSpec) :=
  OpenClaim.holds_of_wide 6 Try.f6 rfl rfl rfl rfl rfl rfl rfl ⟨rfl, rfl, rfl, rfl, rfl⟩ rfl rfl rfl rfl rfl (by kernel_rfl) Try.func6 (by kernel_rfl)
    (of_decide_eq_true (by kernel_rfl)) (by unfold Func.isWrapper; first | (rw [if_pos (by decide +kernel)]; kernel_rfl) | (rw [if_neg (by decide +kernel)]; exact ⟨rfl, rfl⟩))
    (fun os started H enc _ => lifted os started H enc)
/-- the statement -/
theorem proved : Rows.ShapeSpoiltSaid := over
#print axioms proved
end Go.Proofs.Ytecdgpacofojeaa.shapeSpoilt
