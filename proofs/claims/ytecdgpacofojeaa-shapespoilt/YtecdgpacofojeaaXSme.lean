/-
  Layer 14 (shape): Same, by contract: slices.EqualFunc over alike.
-/
import Derived.Test.YtecdgpacofojeaaXEqu
namespace Go.Proofs.Ytecdgpacofojeaa
open Go.RowKit Go.Shelf

section
variable {w : World} {A B : Option Addr} {n c m c' : Nat} {T T' : List Xm.Nd}
set_option maxHeartbeats 1600000 in
set_option maxRecDepth 100000 in
theorem eqfX (h : Xds w A n c T) (h' : Xds w B m c' T') (hn : n ≤ 100000) (hm : m ≤ 100000) (ht : Xm.tot T ≤ 1000000) (ht' : Xm.tot T' ≤ 1000000) :
    Calls Try.prog 35 #[.slice A n c, .slice B m c', .func (.func 36) #[] #[]] w fun e w' => e = .returned (.bool (Xm.eqT T T')) ∧ Below w.heap.size w w' := by
  have HX := Lib.hid h
  have HX' := Lib.hid h'
  have HT := Lib.hid ht
  have HT' := Lib.hid ht'
  have HTR : Hid (T = T' → Xm.eqT T T' = true) := Lib.hid Xm.eqT_true
  have HFA : Hid (T ≠ T' → Xm.eqT T T' = false) := Lib.hid Xm.eqT_false
  obtain ⟨E, hE⟩ : ∃ E, E = Xm.eqT T T' := ⟨_, rfl⟩
  rw [← hE] at HTR HFA ⊢
  clear h h' ht ht' hE
  by_cases g : n = m
  · subst g
    go_enter Try.func35, Try.ntmps35
    go_wp2
    go_loopw [17] (fun i wr => ∃ k : Nat, k ≤ n ∧ i = .int .i64 k ∧ T.take k = T'.take k ∧ Below w.heap.size w wr) (fun i _ => n - (intOf i).toNat)
    case atStart => exact ⟨0, Nat.zero_le _, rfl, by simp, Below.refl _ _⟩
    case round =>
      obtain ⟨k, hk, rfl, htk, hb⟩ := hrel
      have HTK := Lib.hid htk
      have HB := Lib.hid hb
      by_cases hlt : k < n
      · obtain ⟨x, hx⟩ := HX.out.get hlt
        obtain ⟨y, hy⟩ := HX'.out.get hlt
        have hx1 := Xm.tot_in (List.mem_of_getElem? hx)
        have hy1 := Xm.tot_in (List.mem_of_getElem? hy)
        obtain ⟨b, off, rfl, hbl, A1, n1, c1, A2, n2, c2, ha, -, g0, g1, g2, g3, g4, g5⟩ := HX.out.at_in (V := wr) hb.size (fun q hq => hb.block q hq) hx
        obtain ⟨b', off', rfl, hbl', B1, m1, d1, B2, m2, d2, ha', -, f0, f1, f2, f3, f4, f5⟩ := HX'.out.at_in (V := wr) hb.size (fun q hq => hb.block q hq) hy
        obtain ⟨W1, hW1⟩ : ∃ W1, W1 = wr.alloc (.cells #[.bool x.leaf, .slice A1 n1 c1, .slice A2 n2 c2, .int .i64 x.po, .int .i64 x.lt, .int .i64 x.rt] 68) := ⟨_, rfl⟩
        have hb1 : Below wr.heap.size wr W1 := by rw [hW1]; exact (Below.refl _ wr).alloc (Nat.le_refl _) _
        have hN : Ndb W1 wr.heap.size x A1 n1 c1 A2 n2 c2 := by rw [hW1]; exact Ndb.new wr x A1 n1 c1 A2 n2 c2
        have hs1 : W1.heap.size = wr.heap.size + 1 := by rw [hW1]; simp
        obtain ⟨W2, hW2⟩ : ∃ W2, W2 = W1.alloc (.cells #[.bool y.leaf, .slice B1 m1 d1, .slice B2 m2 d2, .int .i64 y.po, .int .i64 y.lt, .int .i64 y.rt] 68) := ⟨_, rfl⟩
        have hb2 : Below W1.heap.size W1 W2 := by rw [hW2]; exact (Below.refl _ W1).alloc (Nat.le_refl _) _
        have hN2 : Ndb W2 (wr.heap.size + 1) y B1 m1 d1 B2 m2 d2 := by rw [hW2, ← hs1]; exact Ndb.new W1 y B1 m1 d1 B2 m2 d2
        have hN1 := hN.below hb2
        obtain ⟨q0, q1, q2, q3, q4, q5⟩ := hN1.cells
        obtain ⟨r0, r1, r2, r3, r4, r5⟩ := hN2.cells
        have up : ∀ (j : Nat) (v : Value), wr.cell? ⟨b', j, none⟩ = some v → W1.cell? ⟨b', j, none⟩ = some v := fun j v hv => (hb1.cell (p := ⟨b', j, none⟩) (cell_block_lt hv)).trans hv
        have e0 := up _ _ f0
        have e1 := up _ _ f1
        have e2 := up _ _ f2
        have e3 := up _ _ f3
        have e4 := up _ _ f4
        have e5 := up _ _ f5
        have B12 : Below wr.heap.size wr W2 := hb1.trans (hb2.mono hb1.size)
        have l1 := ha.ids.length
        have l2 := ha.pn.length
        have l3 := ha'.ids.length
        have l4 := ha'.pn.length
        have FA := alikeX (ha.below B12) (ha'.below B12) (by have := HT.out; omega) (by have := HT.out; omega) (by have := HT'.out; omega) (by have := HT'.out; omega)
        have B2 : Hid (Below w.heap.size w W2) := Lib.hid (hb.trans (B12.mono hb.size))
        have HYES : Hid (Xm.eqN x y = true → T.take (k + 1) = T'.take (k + 1)) := Lib.hid fun h => by rw [Xm.take_snoc hx, Xm.take_snoc hy, HTK.out, Xm.eqN_iff.1 h]
        have HNO : Hid (Xm.eqN x y = false → E = false) := Lib.hid fun h => HFA.out fun e => by
          subst e
          rw [hx] at hy
          injection hy with hy
          rw [Xm.eqN_iff.2 hy] at h
          cases h
        obtain ⟨eb, heb⟩ : ∃ eb, eb = Xm.eqN x y := ⟨_, rfl⟩
        rw [← heb] at FA HYES HNO
        obtain ⟨lx, hlx⟩ : ∃ lx, lx = x.leaf := ⟨_, rfl⟩
        obtain ⟨ly, hly⟩ : ∃ ly, ly = y.leaf := ⟨_, rfl⟩
        obtain ⟨xo, hxo⟩ : ∃ xo, xo = x.po := ⟨_, rfl⟩
        obtain ⟨yo, hyo⟩ : ∃ yo, yo = y.po := ⟨_, rfl⟩
        obtain ⟨xl, hxl⟩ : ∃ xl, xl = x.lt := ⟨_, rfl⟩
        obtain ⟨yl, hyl⟩ : ∃ yl, yl = y.lt := ⟨_, rfl⟩
        obtain ⟨xr, hxr⟩ : ∃ xr, xr = x.rt := ⟨_, rfl⟩
        obtain ⟨yr, hyr⟩ : ∃ yr, yr = y.rt := ⟨_, rfl⟩
        rw [← hlx, ← hly, ← hxo, ← hyo, ← hxl, ← hyl, ← hxr, ← hyr] at FA
        rw [← hlx, ← hxo, ← hxl, ← hxr] at hW1
        rw [← hly, ← hyo, ← hyl, ← hyr, hW1] at hW2
        rw [← hlx] at g0 q0
        rw [← hxo] at g3 q3
        rw [← hxl] at g4 q4
        rw [← hxr] at g5 q5
        rw [← hly] at e0 r0
        rw [← hyo] at e3 r3
        rw [← hyl] at e4 r4
        rw [← hyr] at e5 r5
        rw [hW2] at q0 q1 q2 q3 q4 q5 r0 r1 r2 r3 r4 r5
        rw [hW1] at e0 e1 e2 e3 e4 e5
        have FA1 := Lib.hid FA
        have HW2 := Lib.hid hW2
        clear hx hy ha ha' hb hW1 hW2 hb1 hb2 hN hN1 hN2 up f0 f1 f2 f3 f4 f5 B12 FA heb hlx hly hxo hyo hxl hyl hxr hyr htk hs1 hbl hbl' hx1 hy1 l1 l2 l3 l4
        go_wp2_with fail
        rw [← HW2.out]
        refine FA1.out.mono ?_
        rintro _ w3 ⟨rfl, hb3⟩
        have B3 := Lib.hid (B2.out.trans (hb3.mono B2.out.size))
        clear hb3 q0 q1 q2 q3 q4 q5 r0 r1 r2 r3 r4 r5 e0 e1 e2 e3 e4 e5 g0 g1 g2 g3 g4 g5 FA1 HW2
        cases eb with
        | true =>
          go_wp2
          go_roundw
          case rel => exact ⟨k + 1, by omega, by go_num, HYES.out (by first | rfl | trivial), B3.out⟩
          case measure => simp [intOf]; omega
        | false =>
          go_wp2
          go_ret
          exact ⟨ret_bool (HNO.out (by first | rfl | trivial)).symm, B3.out⟩
      · obtain rfl : k = n := by omega
        have HQ : Hid (E = true) := Lib.hid (HTR.out (by
          have := HTK.out
          rwa [List.take_of_length_le (by rw [HX.out.len]; exact Nat.le_refl _), List.take_of_length_le (by rw [HX'.out.len]; exact Nat.le_refl _)] at this))
        clear hb htk
        go_wp2
        go_ret
        exact ⟨ret_bool HQ.out.symm, HB.out⟩
  · have g2 : ((n : Int) != (m : Int)) = true := by simp; omega
    have HQ : Hid (E = false) := Lib.hid (HFA.out fun e => g (by rw [← HX.out.len, ← HX'.out.len, e]))
    clear g
    go_enter Try.func35, Try.ntmps35
    go_wp2
    go_ret
    exact ⟨ret_bool HQ.out.symm, Below.refl _ _⟩
theorem sameX (h : Xds w A n c T) (h' : Xds w B m c' T') (hn : n ≤ 100000) (hm : m ≤ 100000) (ht : Xm.tot T ≤ 1000000) (ht' : Xm.tot T' ≤ 1000000) :
    Calls Try.prog 23 #[.slice A n c, .slice B m c'] w fun e w' => e = .returned (.bool (Xm.eqT T T')) ∧ Below w.heap.size w w' := by
  have HC := Lib.hid (eqfX h h' hn hm ht ht')
  clear h h' ht ht'
  go_enter Try.func23, Try.ntmps23
  go_wp2_with fail
  refine HC.out.mono ?_
  rintro _ w1 ⟨rfl, hb⟩
  have HB := Lib.hid hb
  clear hb HC
  go_wp2
  go_ret
  exact ⟨rfl, HB.out⟩
end
end Go.Proofs.Ytecdgpacofojeaa
