/-
  Layer 14 (shape): is each node as it should be, but for its right child, by contracts.
-/
import Derived.Test.YtecdgpacofojeaaXHld
import Derived.Test.YtecdgpacofojeaaXLnk
namespace Go.Proofs.Ytecdgpacofojeaa
open Go.RowKit Go.Shelf

section
variable {w : World} {A A1 A2 : Option Addr} {n c n1 c1 n2 c2 : Nat} {T : List Xm.Nd} {x : Xm.Nd}
set_option maxHeartbeats 1600000 in
set_option maxRecDepth 100000 in
theorem sleafX (h : XdA w x A1 n1 c1 A2 n2 c2) : Calls Try.prog 37 #[.agg #[.bool x.leaf, .slice A1 n1 c1, .slice A2 n2 c2, .int .i64 x.po, .int .i64 x.lt, .int .i64 x.rt]] w fun e w' =>
      e = .returned (.bool (Xm.lfOk x)) ∧ Below w.heap.size w w' := by
  obtain ⟨W, hW⟩ : ∃ W, W = w.alloc (.cells #[.bool x.leaf, .slice A1 n1 c1, .slice A2 n2 c2, .int .i64 x.po, .int .i64 x.lt, .int .i64 x.rt] 68) := ⟨_, rfl⟩
  have hb : Below w.heap.size w W := by rw [hW]; exact (Below.refl _ w).alloc (Nat.le_refl _) _
  have hp : Ndb W w.heap.size x A1 n1 c1 A2 n2 c2 := by rw [hW]; exact Ndb.new w x A1 n1 c1 A2 n2 c2
  obtain ⟨p0, p1, p2, p3, p4, p5⟩ := hp.cells
  obtain ⟨E, hE⟩ : ∃ E, E = Xm.lfOk x := ⟨_, rfl⟩
  obtain ⟨b1, g1⟩ : ∃ b1, ((n2 : Int) == 0) = b1 := ⟨_, rfl⟩
  obtain ⟨b2, g2⟩ : ∃ b2, (x.po == 0) = b2 := ⟨_, rfl⟩
  obtain ⟨b3, g3⟩ : ∃ b3, (x.lt == 0) = b3 := ⟨_, rfl⟩
  obtain ⟨b4, g4⟩ : ∃ b4, (x.rt == 0) = b4 := ⟨_, rfl⟩
  have HE : Hid (E = (b1 && b2 && b3 && b4)) := Lib.hid (by
    rw [hE, ← g1, ← g2, ← g3, ← g4]
    unfold Xm.lfOk
    have hl := h.pn.length
    have e : x.pn = [] ↔ n2 = 0 := by rw [← hl, List.length_eq_zero_iff]
    apply Bool.eq_iff_iff.2
    simp [e]
    constructor
    · rintro ⟨i1, i2, i3, i4⟩; exact ⟨⟨⟨i4, i3⟩, i1⟩, i2⟩
    · rintro ⟨⟨⟨i4, i3⟩, i1⟩, i2⟩; exact ⟨i1, i2, i3, i4⟩)
  have hn2 := h.l2
  rw [← hE]
  obtain ⟨lx, hlx⟩ : ∃ lx, lx = x.leaf := ⟨_, rfl⟩
  obtain ⟨xo, hxo⟩ : ∃ xo, xo = x.po := ⟨_, rfl⟩
  obtain ⟨xl, hxl⟩ : ∃ xl, xl = x.lt := ⟨_, rfl⟩
  obtain ⟨xr, hxr⟩ : ∃ xr, xr = x.rt := ⟨_, rfl⟩
  rw [← hlx] at p0 hW ⊢
  rw [← hxo] at p3 hW g2 ⊢
  rw [← hxl] at p4 hW g3 ⊢
  rw [← hxr] at p5 hW g4 ⊢
  have HW := Lib.hid hW
  have HB := Lib.hid hb
  clear h hb hp hE hlx hxo hxl hxr hW
  go_enter Try.func37, Try.ntmps37
  go_wp2_with fail
  rw [← HW.out]
  go_wp2
  all_goals first | rw [← HW.out] | skip
  all_goals
    go_ret
    refine ⟨?_, HB.out⟩
    rw [HE.out]
    simp_all
set_option maxHeartbeats 1600000 in
set_option maxRecDepth 100000 in
theorem ssplitX (h : XdA w x A1 n1 c1 A2 n2 c2) (p : Nat) (hp : p ≤ 100000) (d : Int) : Calls Try.prog 38 #[.agg #[.bool x.leaf, .slice A1 n1 c1, .slice A2 n2 c2, .int .i64 x.po, .int .i64 x.lt, .int .i64 x.rt], .int .i64 (p : Int), .int .i64 d] w fun e w' =>
      e = .returned (.bool (Xm.spOk d p x)) ∧ Below w.heap.size w w' := by
  obtain ⟨W, hW⟩ : ∃ W, W = w.alloc (.cells #[.bool x.leaf, .slice A1 n1 c1, .slice A2 n2 c2, .int .i64 x.po, .int .i64 x.lt, .int .i64 x.rt] 68) := ⟨_, rfl⟩
  have hb : Below w.heap.size w W := by rw [hW]; exact (Below.refl _ w).alloc (Nat.le_refl _) _
  have hq : Ndb W w.heap.size x A1 n1 c1 A2 n2 c2 := by rw [hW]; exact Ndb.new w x A1 n1 c1 A2 n2 c2
  obtain ⟨p0, p1, p2, p3, p4, p5⟩ := hq.cells
  obtain ⟨E, hE⟩ : ∃ E, E = Xm.spOk d p x := ⟨_, rfl⟩
  obtain ⟨ck, hck⟩ : ∃ ck, ck = Pm.chk x.pn x.po d := ⟨_, rfl⟩
  have FC := chkP_any A2 n2 c2 x.po x.pn d W (h.pn.below hb) (by have := h.l2; unfold maxLen; omega)
  rw [← hck] at FC
  obtain ⟨b1, g1⟩ : ∃ b1, ((n1 : Int) == 0) = b1 := ⟨_, rfl⟩
  obtain ⟨b2, g2⟩ : ∃ b2, (ck == 0) = b2 := ⟨_, rfl⟩
  obtain ⟨b3, g3⟩ : ∃ b3, (x.lt == (p : Int) + 1) = b3 := ⟨_, rfl⟩
  have HE : Hid (E = (b1 && b2 && b3)) := Lib.hid (by
    rw [hE, ← g1, ← g2, ← g3, hck]
    unfold Xm.spOk
    have hl := h.ids.length
    have e : x.ids = [] ↔ n1 = 0 := by rw [← hl, List.length_eq_zero_iff]
    apply Bool.eq_iff_iff.2
    simp [e, and_assoc])
  have hn1 := h.l1
  rw [← hE]
  obtain ⟨lx, hlx⟩ : ∃ lx, lx = x.leaf := ⟨_, rfl⟩
  obtain ⟨xo, hxo⟩ : ∃ xo, xo = x.po := ⟨_, rfl⟩
  obtain ⟨xl, hxl⟩ : ∃ xl, xl = x.lt := ⟨_, rfl⟩
  obtain ⟨xr, hxr⟩ : ∃ xr, xr = x.rt := ⟨_, rfl⟩
  rw [← hlx] at p0 hW ⊢
  rw [← hxo] at p3 hW FC ⊢
  rw [← hxl] at p4 hW g3 ⊢
  rw [← hxr] at p5 hW ⊢
  have HW := Lib.hid hW
  have HB := Lib.hid hb
  have FC1 := Lib.hid FC
  clear h hb hq hE hlx hxo hxl hxr hW hck FC
  go_enter Try.func38, Try.ntmps38
  go_wp2_with fail
  · rw [← HW.out]
    refine FC1.out.mono ?_
    rintro _ w1 ⟨rfl, hb1⟩
    have HB1 := Lib.hid (HB.out.trans (hb1.mono HB.out.size))
    have r3 := (hb1.cell (p := ⟨w.heap.size, 3, none⟩) (cell_block_lt p3)).trans p3
    have r4 := (hb1.cell (p := ⟨w.heap.size, 4, none⟩) (cell_block_lt p4)).trans p4
    clear hb1 p0 p1 p2 p3 p4 p5
    go_wp2
    all_goals
      go_ret
      refine ⟨?_, HB1.out⟩
      rw [HE.out]
      simp_all
  · rw [← HW.out]
    go_ret
    refine ⟨?_, HB.out⟩
    rw [HE.out]
    simp_all
set_option maxHeartbeats 1600000 in
set_option maxRecDepth 100000 in
theorem soundX (h : Xds w A n c T) (hn : n ≤ 100000) (d : Int) : Calls Try.prog 24 #[.slice A n c, .int .i64 d] w fun e w' => ∃ r, e = .returned (.bool r) ∧ (r = true ↔ ∀ (i : Nat) (x : Xm.Nd), T[i]? = some x → Xm.lcl d i x = true) ∧ Below w.heap.size w w' := by
  have HX := Lib.hid h
  clear h
  go_enter Try.func24, Try.ntmps24
  go_wp2
  go_loopw [9] (fun i wr => ∃ k : Nat, k ≤ n ∧ i = .int .i64 (k : Int) ∧ (∀ (i : Nat) (x : Xm.Nd), i < k → T[i]? = some x → Xm.lcl d i x = true) ∧ Below w.heap.size w wr) (fun i _ => n - (intOf i).toNat)
  case atStart => exact ⟨0, Nat.zero_le _, rfl, fun i x hi => absurd hi (Nat.not_lt_zero _), Below.refl _ _⟩
  case round =>
    obtain ⟨k, hk, rfl, hall, hb⟩ := hrel
    have HA := Lib.hid hall
    have HB := Lib.hid hb
    by_cases hlt : k < n
    · obtain ⟨x, hx⟩ := HX.out.get hlt
      obtain ⟨b, off, rfl, hbl, A1, n1, c1, A2, n2, c2, ha, -, g0, g1, g2, g3, g4, g5⟩ := HX.out.at_in (V := wr) hb.size (fun q hq => hb.block q hq) hx
      obtain ⟨W1, hW1⟩ : ∃ W1, W1 = wr.alloc (.cells #[.bool x.leaf, .slice A1 n1 c1, .slice A2 n2 c2, .int .i64 x.po, .int .i64 x.lt, .int .i64 x.rt] 68) := ⟨_, rfl⟩
      have hb1 : Below wr.heap.size wr W1 := by rw [hW1]; exact (Below.refl _ wr).alloc (Nat.le_refl _) _
      have hN : Ndb W1 wr.heap.size x A1 n1 c1 A2 n2 c2 := by rw [hW1]; exact Ndb.new wr x A1 n1 c1 A2 n2 c2
      obtain ⟨q0, q1, q2, q3, q4, q5⟩ := hN.cells
      have B1 : Hid (Below w.heap.size w W1) := Lib.hid (hb.trans (hb1.mono hb.size))
      have FL := sleafX (ha.below hb1)
      have FS := ssplitX (ha.below hb1) k (by omega) d
      have HLC : Hid (Xm.lcl d k x = if x.leaf = true then Xm.lfOk x else Xm.spOk d k x) := Lib.hid rfl
      have HGO : Hid (Xm.lcl d k x = true → ∀ (i : Nat) (y : Xm.Nd), i < k + 1 → T[i]? = some y → Xm.lcl d i y = true) := Lib.hid fun h i y hi hy => by
        rcases Nat.lt_or_ge i k with h1 | h1
        · exact HA.out i y h1 hy
        · obtain rfl : i = k := by omega
          rw [hx] at hy; injection hy with hy; subst hy; exact h
      have HNO : Hid (Xm.lcl d k x = false → ¬ ∀ (i : Nat) (y : Xm.Nd), T[i]? = some y → Xm.lcl d i y = true) := Lib.hid fun h h1 => by have := h1 k x hx; rw [h] at this; cases this
      have HW1 := Lib.hid hW1
      obtain ⟨E, hE⟩ : ∃ E, E = Xm.lcl d k x := ⟨_, rfl⟩
      obtain ⟨E1, hE1⟩ : ∃ E1, E1 = Xm.lfOk x := ⟨_, rfl⟩
      obtain ⟨E2, hE2⟩ : ∃ E2, E2 = Xm.spOk d k x := ⟨_, rfl⟩
      obtain ⟨lx, hlx⟩ : ∃ lx, lx = x.leaf := ⟨_, rfl⟩
      obtain ⟨xo, hxo⟩ : ∃ xo, xo = x.po := ⟨_, rfl⟩
      obtain ⟨xl, hxl⟩ : ∃ xl, xl = x.lt := ⟨_, rfl⟩
      obtain ⟨xr, hxr⟩ : ∃ xr, xr = x.rt := ⟨_, rfl⟩
      rw [← hE, ← hE1, ← hE2, ← hlx] at HLC
      rw [← hE] at HGO HNO
      rw [← hE1, ← hlx, ← hxo, ← hxl, ← hxr] at FL
      rw [← hE2, ← hlx, ← hxo, ← hxl, ← hxr] at FS
      rw [← hlx] at g0 q0 HW1
      rw [← hxo] at g3 q3 HW1
      rw [← hxl] at g4 q4 HW1
      rw [← hxr] at g5 q5 HW1
      have FL1 := Lib.hid FL
      have FS1 := Lib.hid FS
      clear hx hall hb ha hW1 hb1 hN hE hE1 hE2 hlx hxo hxl hxr FL FS
      cases lx with
      | true =>
        go_wp2_with fail
        rw [← HW1.out]
        go_wp2_with fail
        refine FL1.out.mono ?_
        rintro _ w2 ⟨rfl, hb2⟩
        have B2 := Lib.hid (B1.out.trans (hb2.mono B1.out.size))
        have hs2 := hb2
        have r0 := (hb2.cell (p := ⟨wr.heap.size, 0, none⟩) (cell_block_lt q0)).trans q0
        clear hb2 hs2
        cases E1 with
        | true =>
          go_wp2
          go_roundw
          case rel => exact ⟨k + 1, by omega, by go_num, HGO.out (by rw [HLC.out]; rfl), B2.out⟩
          case measure => simp [intOf]; omega
        | false =>
          go_wp2
          go_ret
          exact ⟨false, rfl, ⟨(fun h => by cases h), fun h => absurd h (HNO.out (by rw [HLC.out]; rfl))⟩, B2.out⟩
      | false =>
        go_wp2_with fail
        rw [← HW1.out]
        go_wp2_with fail
        refine FS1.out.mono ?_
        rintro _ w2 ⟨rfl, hb2⟩
        have B2 := Lib.hid (B1.out.trans (hb2.mono B1.out.size))
        clear hb2
        cases E2 with
        | true =>
          go_wp2
          go_roundw
          case rel => exact ⟨k + 1, by omega, by go_num, HGO.out (by rw [HLC.out]; rfl), B2.out⟩
          case measure => simp [intOf]; omega
        | false =>
          go_wp2
          go_ret
          exact ⟨false, rfl, ⟨(fun h => by cases h), fun h => absurd h (HNO.out (by rw [HLC.out]; rfl))⟩, B2.out⟩
    · obtain rfl : k = n := by omega
      clear hall hb
      go_wp2
      go_ret
      exact ⟨true, rfl, ⟨fun _ i x hi => HA.out i x (by rw [← HX.out.len]; exact (List.getElem?_eq_some_iff.1 hi).1) hi, fun _ => rfl⟩, HB.out⟩
end
end Go.Proofs.Ytecdgpacofojeaa
