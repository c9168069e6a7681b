/-
  PlaneMiddle holds for every input: a vector that is as far from both is on the plane between them, and on its Side; so is the middle, where there is one. No condition.
-/
import Derived.Test.YtkkpngkninelmaaPArg
import Derived.ProofKit
import Derived.OpenShut
import Derived.ShutString
import Derived.ChangeOld
import Derived.WalkSmall
namespace Go.Proofs.Ytkkpngkninelmaa.planeMiddle
open Go.ChangeShapes Go.WideShapes Go.ChangeAt Go.RowKit
open Go.ChangeMaps (open_string shut_string)
set_option linter.unusedVariables false

/-- two rows of the call's own, apart from each other -/
structure Two (wA W : World) (vx vy : Value) (i j : Nat) (Xs Ys : List Int) : Prop where
  ox : W.ownsRow wA.heap.size 21 1 vx i (Xs.map (Value.int .i32))
  oy : W.ownsRow wA.heap.size 21 1 vy j (Ys.map (Value.int .i32))
  ne : vy.ownBlock = none ∨ vy.ownBlock ≠ vx.ownBlock
  be : Below wA.heap.size wA W
section
variable {wA W W1 : World} {vx vy : Value} {i j : Nat} {Xs Ys : List Int}
theorem own_lt {w : World} {base : Nat} {e : TypeId} {v : Value} {n : Nat} {xs : List Value} (h : w.ownsRow base e 1 v n xs) : ∀ k, v.ownBlock = some k → k < w.heap.size := by
  rcases h.2 with ⟨rfl, _⟩ | ⟨g, cap, cur, rfl, _, hg, _⟩
  · simp [Value.ownBlock]
  · intro k hk
    have e : g = k := by simpa [Value.ownBlock] using hk
    subst e
    exact lt_of_block hg
theorem Two.alloc (h : Two wA W vx vy i j Xs Ys) (o : Obj) : Two wA (W.alloc o) vx vy i j Xs Ys := ⟨h.ox.alloc o, h.oy.alloc o, h.ne, h.be.alloc h.be.size o⟩
theorem Two.drew (h : Two wA W vx vy i j Xs Ys) : Two wA W.drew vx vy i j Xs Ys := ⟨h.ox, h.oy, h.ne, h.be.drew⟩
theorem Two.stepx {g cap : Nat} {s : Int} (h : Two wA W vx vy i j Xs Ys) (ho : W1.ownsRow wA.heap.size 21 1 (.slice (some ⟨g, 0, none⟩) (i + 1) cap) (i + 1) (Xs.map (Value.int .i32) ++ [.int .i32 s]))
    (hg : W.grownBy W1 vx.ownBlock) (hat : vx.ownBlock = some g ∨ g = W.heap.size) : Two wA W1 (.slice (some ⟨g, 0, none⟩) (i + 1) cap) vy (i + 1) j (Xs ++ [s]) Ys := by
  refine ⟨by rw [List.map_append]; exact ho, h.oy.kept hg h.ne, ?_, h.be.grown hg h.be.size (vownBlock_ge h.ox)⟩
  show vy.ownBlock = none ∨ vy.ownBlock ≠ some g
  rcases h.ne with hn | hn
  · exact .inl hn
  · refine .inr fun e => ?_
    rcases hat with ha | ha
    · exact hn (e.trans ha.symm)
    · have := own_lt h.oy g e; omega
theorem Two.stepy {g cap : Nat} {s : Int} (h : Two wA W vx vy i j Xs Ys) (ho : W1.ownsRow wA.heap.size 21 1 (.slice (some ⟨g, 0, none⟩) (j + 1) cap) (j + 1) (Ys.map (Value.int .i32) ++ [.int .i32 s]))
    (hg : W.grownBy W1 vy.ownBlock) (hat : vy.ownBlock = some g ∨ g = W.heap.size) : Two wA W1 vx (.slice (some ⟨g, 0, none⟩) (j + 1) cap) i (j + 1) Xs (Ys ++ [s]) := by
  have hx : vx.ownBlock = none ∨ vx.ownBlock ≠ vy.ownBlock := by
    rcases h.ne with hn | hn
    · cases hv : vx.ownBlock with
      | none => exact .inl rfl
      | some q => exact .inr (by rw [hn]; simp)
    · exact .inr fun e => hn e.symm
  refine ⟨h.ox.kept hg hx, by rw [List.map_append]; exact ho, .inr ?_, h.be.grown hg h.be.size (vownBlock_ge h.oy)⟩
  show some g ≠ vx.ownBlock
  intro e
  rcases hat with ha | ha
  · rcases hx with hn | hn
    · rw [hn] at e; cases e
    · exact hn (e.symm.trans ha.symm)
  · have := own_lt h.ox g e.symm; omega
/-- a new block's cell, behind an append to x -/
theorem Two.far {g : Nat} {v : Value} (h : Two wA W vx vy i j Xs Ys) (hg : W.grownBy W1 vx.ownBlock) (hc : W.cell? ⟨g, 0, none⟩ = some v) (hx : ∀ k, vx.ownBlock = some k → k ≠ g) : W1.cell? ⟨g, 0, none⟩ = some v :=
  (hg.cell_far ⟨g, 0, none⟩ (cell_block_lt hc) (fun e => hx g e.symm rfl)).trans hc
theorem cell_new (w : World) (v : Value) : (w.alloc (.cells #[v] 21)).cell? ⟨w.heap.size, 0, none⟩ = some v := by
  rw [cell_of_row _ _ _ _ _ _ (heap_alloc_new w (.cells #[v] 21))]; rfl
theorem cell_more {w : World} {a : Addr} {v : Value} (o : Obj) (h : w.cell? a = some v) : (w.alloc o).cell? a = some v := by
  rw [World.cell?_alloc_some w a o (by rw [h]; rfl), h]
theorem cell_next (w : World) (o : Obj) (v : Value) : ((w.alloc o).alloc (.cells #[v] 21)).cell? ⟨w.heap.size + 1, 0, none⟩ = some v := by
  have := cell_new (w.alloc o) v
  rwa [show (w.alloc o).heap.size = w.heap.size + 1 from by simp] at this
theorem news_one {W : World} {g : Nat} {s : Int} (hc : W.cell? ⟨g, 0, none⟩ = some (.int .i32 s)) : ∀ j u, ([.int .i32 s] : List Value)[j]? = some u → W.cell? ((⟨g, 0, none⟩ : Addr).add j) = some u := by
  intro j u hu
  cases j with
  | zero => rw [Addr.add_lit]; simp at hu; subst hu; exact hc
  | succ j => simp at hu
end

set_option maxHeartbeats 3200000 in
set_option maxRecDepth 100000 in
theorem good_walk (a0 a1 : Option Addr) (n cap0 cap1 : Nat) (l r : List Int) (w : World) (V : Hid (Vec w a0 n l)) (V' : Hid (Vec w a1 n r)) (hn0 : 1 ≤ n) (hn : n ≤ 1024) :
    Calls Try.prog 7 #[.slice a0 n cap0, .slice a1 n cap1] w fun e w' => e = .returned (.bool true) ∧ Below w.heap.size w w' := by
  obtain ⟨i0, hi, hz0, hz1, hz2⟩ := info_parts Try.infoI32
  have HL0 := Lib.hid V.out.length
  have HL1 := Lib.hid V'.out.length
  go_enter Try.func7, Try.ntmps7
  go_wp2_with fail
  refine (awake_any _).mono ?_
  rintro e w1 ⟨rfl, hb1⟩
  have HB1 := Lib.hid hb1
  clear hb1
  go_wp2_with fail
  have U := Lib.hid (V.out.below HB1.out)
  have U' := Lib.hid (V'.out.below HB1.out)
  clear V V'
  go_loopw [6, 7, 8] (fun vx vy i wr => ∃ k : Nat, k ≤ n ∧ i = .int .i64 k ∧ Two w1 wr vx vy k k (Pm.mid (l.take k) (r.take k)) (Pm.far2 (l.take k) (r.take k)) ∧ Pm.Near (l.take k) (r.take k)) (fun _ _ i _ => n - (intOf i).toNat)
  case atStart => exact ⟨0, Nat.zero_le _, rfl, ⟨by simpa [Pm.mid] using World.ownsRow_nil _ _ _ _, by simpa [Pm.far2] using World.ownsRow_nil _ _ _ _, .inl rfl, Below.refl _ _⟩, by simp [Pm.Near]⟩
  case round =>
    obtain ⟨k, hk, rfl, hT, hN⟩ := hrel
    have HT := Lib.hid hT
    have HN := Lib.hid hN
    have hsz := hT.be.size
    clear hN
    by_cases hlt : k < n
    · have hk0 : k < l.length := by rw [HL0.out]; exact hlt
      have hk1 : k < r.length := by rw [HL1.out]; exact hlt
      obtain ⟨b0, o0, rfl, hb0, hc0, p0, p1⟩ := U.out.at_ hlt hk0
      obtain ⟨b1, o1, rfl, hb1, hc1, p2, p3⟩ := U'.out.at_ hlt hk1
      have d0 : wr.cell? ⟨b0, o0 + k, none⟩ = some (.int .i32 l[k]) := (hT.be.cell hb0).trans hc0
      have d1 : wr.cell? ⟨b1, o1 + k, none⟩ = some (.int .i32 r[k]) := (hT.be.cell hb1).trans hc1
      have HS := Lib.hid (Pm.mid_snoc k l r hk0 hk1)
      have HS' := Lib.hid (Pm.far2_snoc k l r hk0 hk1)
      have HNS := Lib.hid (Pm.near_snoc k l r hk0 hk1 HN.out)
      obtain ⟨x, hx⟩ : ∃ x, x = l[k] := ⟨_, rfl⟩
      obtain ⟨y, hy⟩ : ∃ y, y = r[k] := ⟨_, rfl⟩
      rw [← hx] at hc0 d0 p0 p1 HS HS' HNS
      rw [← hy] at hc1 d1 p2 p3 HS HS' HNS
      clear hx hy
      have HB2 := Lib.hid (HB1.out.trans (hT.be.mono HB1.out.size))
      by_cases q0 : x < -524288
      · clear hT
        go_wp2
        go_ret
        exact ⟨rfl, HB2.out⟩
      by_cases q1 : 524288 < x
      · clear hT
        go_wp2
        go_ret
        exact ⟨rfl, HB2.out⟩
      by_cases q2 : y < -131072
      · clear hT
        go_wp2
        go_ret
        exact ⟨rfl, HB2.out⟩
      by_cases q3 : 131072 < y
      · clear hT
        go_wp2
        go_ret
        exact ⟨rfl, HB2.out⟩
      have HNK := Lib.hid (HNS.out ⟨by omega, by omega, by omega, by omega⟩)
      obtain ⟨s, hs⟩ : ∃ s, x + y = s := ⟨_, rfl⟩
      obtain ⟨p, hp⟩ : ∃ p, 2 * y = p := ⟨_, rfl⟩
      obtain ⟨q, hq⟩ : ∃ q, x + p = q := ⟨_, rfl⟩
      have hs' : IntKind.i32.wrap (x + y) = s := by rw [IntWalk.i32_left, Vm.wrap32_in (by omega) (by omega)]; exact hs
      have hp' : IntKind.i32.wrap (2 * y) = p := by rw [IntWalk.i32_left, Vm.wrap32_in (by omega) (by omega)]; exact hp
      have hq' : IntKind.i32.wrap (x + p) = q := by rw [IntWalk.i32_left, Vm.wrap32_in (by omega) (by omega)]; exact hq
      rw [hs] at HS
      rw [hp, hq] at HS'
      clear hs hp hq hT HNS p0 p1 p2 p3
      have HC0 := Lib.hid hc0
      have HC1 := Lib.hid hc1
      clear hc0 hc1
      have HX := Lib.hid (own_lt HT.out.ox)
      have HT1 := Lib.hid (HT.out.alloc (.cells #[.int .i32 s] 21)).drew
      have HT12 := Lib.hid ((HT.out.alloc (.cells #[.int .i32 s] 21)).alloc (.cells #[.int .i32 q] 21)).drew
      have HT21 := Lib.hid ((HT.out.alloc (.cells #[.int .i32 q] 21)).alloc (.cells #[.int .i32 s] 21)).drew
      have N1 := Lib.hid (show (wr.alloc (.cells #[.int .i32 s] 21)).drew.cell? ⟨wr.heap.size, 0, none⟩ = some (.int .i32 s) from cell_new wr _)
      have N12 := Lib.hid (show ((wr.alloc (.cells #[.int .i32 s] 21)).alloc (.cells #[.int .i32 q] 21)).drew.cell? ⟨wr.heap.size, 0, none⟩ = some (.int .i32 s) from cell_more _ (cell_new wr _))
      have M12 := Lib.hid (show ((wr.alloc (.cells #[.int .i32 s] 21)).alloc (.cells #[.int .i32 q] 21)).drew.cell? ⟨wr.heap.size + 1, 0, none⟩ = some (.int .i32 q) from cell_next wr _ _)
      have N21 := Lib.hid (show ((wr.alloc (.cells #[.int .i32 q] 21)).alloc (.cells #[.int .i32 s] 21)).drew.cell? ⟨wr.heap.size + 1, 0, none⟩ = some (.int .i32 s) from cell_next wr _ _)
      have M21 := Lib.hid (show ((wr.alloc (.cells #[.int .i32 q] 21)).alloc (.cells #[.int .i32 s] 21)).drew.cell? ⟨wr.heap.size, 0, none⟩ = some (.int .i32 q) from cell_more _ (cell_new wr _))
      go_wp2
      go_region_held3 (fun w' => w'.cell? ⟨b0, o0 + k, none⟩ = some (.int .i32 x) ∧ w'.cell? ⟨b1, o1 + k, none⟩ = some (.int .i32 y)) (go_keep) (first | (refine step_append_lies _ rfl (.tmp 57) (.tmp 67) 22 rfl w1.heap.size 21 i0 (.int .i32 0) 1 4 Try.underlying22 hi hz0 hz1 hz2 rfl (by decide) u6 k _ (by simp [Act.eval]) HT1.out.ox ⟨wr.heap.size, 0, none⟩ 1 1 [.int .i32 s] (by simp [Act.eval]) rfl (news_one N1.out) (ints_one .i32 [s]) (by omega) (by unfold maxLen; omega) (by omega) HT1.out.be.size _ rfl ?_; intro g cap w2 ho hg hat hlt2; have HT2 := Lib.hid (HT1.out.stepx ho hg hat); have e0 := (HT2.out.be.cell hb0).trans HC0.out; have e1 := (HT2.out.be.cell hb1).trans HC1.out; have HTY := Lib.hid (HT2.out.alloc (.cells #[.int .i32 q] 21)); have NY := Lib.hid (cell_new w2 (.int .i32 q)); clear ho hg hat hlt2) | (refine step_append_lies _ rfl (.tmp 57) (.tmp 67) 22 rfl w1.heap.size 21 i0 (.int .i32 0) 1 4 Try.underlying22 hi hz0 hz1 hz2 rfl (by decide) u6 k _ (by simp [Act.eval]) HT12.out.ox ⟨wr.heap.size, 0, none⟩ 1 1 [.int .i32 s] (by simp [Act.eval]) rfl (news_one N12.out) (ints_one .i32 [s]) (by omega) (by unfold maxLen; omega) (by omega) HT12.out.be.size _ rfl ?_; intro g cap w2 ho hg hat hlt2; have HT2 := Lib.hid (HT12.out.stepx ho hg hat); have e0 := (HT2.out.be.cell hb0).trans HC0.out; have e1 := (HT2.out.be.cell hb1).trans HC1.out; have HTY := HT2; have NY := Lib.hid (HT12.out.far hg M12.out (fun p hp => by have := HX.out p hp; omega)); clear ho hg hat hlt2) | (refine step_append_lies _ rfl (.tmp 57) (.tmp 67) 22 rfl w1.heap.size 21 i0 (.int .i32 0) 1 4 Try.underlying22 hi hz0 hz1 hz2 rfl (by decide) u6 k _ (by simp [Act.eval]) HT21.out.ox ⟨wr.heap.size + 1, 0, none⟩ 1 1 [.int .i32 s] (by simp [Act.eval]) rfl (news_one N21.out) (ints_one .i32 [s]) (by omega) (by unfold maxLen; omega) (by omega) HT21.out.be.size _ rfl ?_; intro g cap w2 ho hg hat hlt2; have HT2 := Lib.hid (HT21.out.stepx ho hg hat); have e0 := (HT2.out.be.cell hb0).trans HC0.out; have e1 := (HT2.out.be.cell hb1).trans HC1.out; have HTY := HT2; have NY := Lib.hid (HT21.out.far hg M21.out (fun p hp => by have := HX.out p hp; omega)); clear ho hg hat hlt2) | (refine step_append_lies _ rfl (.tmp 69) (.tmp 80) 22 rfl w1.heap.size 21 i0 (.int .i32 0) 1 4 Try.underlying22 hi hz0 hz1 hz2 rfl (by decide) u7 k _ (by simp [Act.eval]) HTY.out.oy _ 1 1 [.int .i32 q] (by simp [Act.eval]) rfl (news_one NY.out) (ints_one .i32 [q]) (by omega) (by unfold maxLen; omega) (by omega) HTY.out.be.size _ rfl ?_; intro g' cap' w3 ho' hg' hat' hlt3; have HT3 := Lib.hid (HTY.out.stepy ho' hg' hat'); have f0 := (HT3.out.be.cell hb0).trans HC0.out; have f1 := (HT3.out.be.cell hb1).trans HC1.out; clear ho' hg' hat' hlt3))
      all_goals
        have HT4 : Hid (Two w1 w3 (.slice (some ⟨g, 0, none⟩) (k + 1) cap) (.slice (some ⟨g', 0, none⟩) (k + 1) cap') (k + 1) (k + 1) (Pm.mid (l.take (k + 1)) (r.take (k + 1))) (Pm.far2 (l.take (k + 1)) (r.take (k + 1)))) := by
          show Two w1 w3 (.slice (some ⟨g, 0, none⟩) (k + 1) cap) (.slice (some ⟨g', 0, none⟩) (k + 1) cap') (k + 1) (k + 1) (Pm.mid (l.take (k + 1)) (r.take (k + 1))) (Pm.far2 (l.take (k + 1)) (r.take (k + 1)))
          rw [HS.out, HS'.out]; exact HT3.out
        clear HT3 HT2 HTY NY HT1 HT12 HT21 N1 N12 N21 M12 M21 HX HT f0 f1 e0 e1 d0 d1 hs' hq' hp' HS HS'
        go_wp2
        go_roundw
        case rel => exact ⟨k + 1, by omega, by go_num, HT4.out, HNK.out⟩
        case measure => simp [intOf]; omega
    · obtain rfl : k = n := by omega
      have hlk : l.take k = l := List.take_of_length_le (by rw [HL0.out]; omega)
      have hrk : r.take k = r := List.take_of_length_le (by rw [HL1.out]; omega)
      have hN := HN.out
      rw [hlk, hrk] at hT hN
      obtain ⟨ox, oy, -, be⟩ := hT
      obtain ⟨A, c, rfl⟩ := vown_form ox
      obtain ⟨A', c', rfl⟩ := vown_form oy
      obtain ⟨-, -, -, g1, g2, -, -⟩ := Pm.mid_facts l r (by rw [HL0.out, HL1.out]) hN
      obtain ⟨t1, D, t2, t3, D0, D1⟩ := Pm.mid_tells HL0.out HL1.out hn hN
      have X := Lib.hid (U.out.below be)
      have M := Lib.hid (show Vec wr A k (Pm.mid l r) from ⟨Lst.of_own ox, fun x hx => by have := g1 x hx; unfold Vm.good at this; omega⟩)
      have B := Lib.hid (show Vec wr A' k (Pm.far2 l r) from ⟨Lst.of_own oy, fun x hx => by have := g2 x hx; unfold Vm.good at this; omega⟩)
      have HBW := Lib.hid (HB1.out.trans (be.mono HB1.out.size))
      have T1 := Lib.hid t1
      have T2 := Lib.hid t2
      have T3 := Lib.hid t3
      clear hlk hrk hN ox oy be g1 g2 t1 t2 t3 HT HN hi hz0 hz1 hz2 U U'
      go_wp2_with fail
      refine (betw_c X.out B.out (Below.refl _ _) (by omega) (by omega)).mono ?_
      rintro e w2 ⟨g, rfl, -, -, hv2, hb2, -⟩
      rw [Nat.min_self] at hv2 ⊢
      obtain ⟨E, hE⟩ : ∃ E, E = w2.alloc (.cells #[.slice (some ⟨g, 0, none⟩) k k, .int .i64 (Pm.off l (Pm.far2 l r))] 24) := ⟨_, rfl⟩
      have hbE : Below w2.heap.size w2 E := by rw [hE]; exact (Below.refl _ _).alloc (Nat.le_refl _) _
      have hpE : Pbx E w2.heap.size (some ⟨g, 0, none⟩) k k (Pm.off l (Pm.far2 l r)) := by rw [hE]; exact Pbx.new _ _ _ _ _
      have HBE := Lib.hid (hb2.trans (hbE.mono hb2.size))
      have N := Lib.hid (hv2.below hbE)
      have XE := Lib.hid (X.out.below HBE.out)
      have ME := Lib.hid (M.out.below HBE.out)
      have PE := Lib.hid hpE
      have HE := Lib.hid hE
      clear hv2 hb2 hbE hpE hE X M B
      go_wp2_with fail
      rw [← HE.out]
      refine (marg_c (w0 := E) N.out ME.out (Below.refl _ _) (by omega) (by omega)).mono ?_
      rintro e w3 ⟨rfl, hb3⟩
      rw [T1.out]
      have HB3 := Lib.hid hb3
      have k0 := (PE.out.below hb3).c0
      have k1 := (PE.out.below hb3).c1
      clear hb3 HE
      go_wp2_with fail
      refine (side_c N.out ME.out HB3.out (by omega) (by omega)).mono ?_
      rintro e w4 ⟨rfl, hb4⟩
      rw [T1.out]
      have HB4 := Lib.hid hb4
      clear HB3 k0 k1
      have k0 := (PE.out.below hb4).c0
      have k1 := (PE.out.below hb4).c1
      clear hb4
      go_wp2_with fail
      refine (marg_c N.out XE.out HB4.out (by omega) (by omega)).mono ?_
      rintro e w5 ⟨rfl, hb5⟩
      rw [T3.out]
      have HB5 := Lib.hid hb5
      clear HB4 k0 k1 hb5
      go_wp2_with fail
      refine (far_c XE.out ME.out HB5.out (by omega) (by omega)).mono ?_
      rintro e w6 ⟨rfl, hb6⟩
      rw [T2.out]
      have HB6 := Lib.hid (HBE.out.trans (hb6.mono HBE.out.size))
      clear HB5 hb6
      go_wp2
      go_ret
      exact ⟨rfl, HBW.out.trans (HB6.out.mono HBW.out.size)⟩

set_option maxHeartbeats 1600000 in
set_option maxRecDepth 100000 in
theorem walk (a0 : Option Addr) (len0 cap0 : Nat) (z0 : List Int) (a1 : Option Addr) (len1 cap1 : Nat) (z1 : List Int) (w : World) (w0 : IsRow .i32 w a0 len0 cap0 z0) (w1 : IsRow .i32 w a1 len1 cap1 z1) :
    Calls Try.prog 7 #[.slice a0 len0 cap0, .slice a1 len1 cap1] w fun e w' => e = .returned (.bool true) ∧ Below w.heap.size w w' := by
  obtain ⟨l, hV, m0, -⟩ := w0.vec
  obtain ⟨r, hV', m1, -⟩ := w1.vec
  have V := Lib.hid hV
  have V' := Lib.hid hV'
  clear w0 w1 hV hV'
  by_cases g : len0 < 1
  · go_enter Try.func7, Try.ntmps7
    go_wp2_with fail
    refine (awake_any _).mono ?_
    rintro e w1 ⟨rfl, hb1⟩
    have HB1 := Lib.hid hb1
    clear hb1
    go_wp2
    go_ret
    exact ⟨rfl, HB1.out⟩
  by_cases g2 : 1024 < len0
  · go_enter Try.func7, Try.ntmps7
    go_wp2_with fail
    refine (awake_any _).mono ?_
    rintro e w1 ⟨rfl, hb1⟩
    have HB1 := Lib.hid hb1
    clear hb1
    go_wp2
    go_ret
    exact ⟨rfl, HB1.out⟩
  by_cases g3 : len1 = len0
  case neg =>
    have g3' : ((len1 : Int) != (len0 : Int)) = true := by simpa using (show ¬ (len1 : Int) = (len0 : Int) by omega)
    clear g3
    go_enter Try.func7, Try.ntmps7
    go_wp2_with fail
    refine (awake_any _).mono ?_
    rintro e w1 ⟨rfl, hb1⟩
    have HB1 := Lib.hid hb1
    clear hb1
    go_wp2
    go_ret
    exact ⟨rfl, HB1.out⟩
  subst g3
  exact good_walk a0 a1 _ cap0 cap1 l r w V V' (by omega) (by omega)
theorem own : ownKnob Try.prog.godebug = none := by kernel_rfl
theorem laidOut : laidOutB Try.prog = true := by kernel_rfl
set_option maxRecDepth 100000 in
theorem lifted (os : Os) (started : os.Started) (H : Type) (enc : TypeId × Value → H) :
    ReturnsInHanded {} Try.checked os 7 .any (Rows.planeMiddleSpec.pre6 enc Try.prog Try.f7 Rows.planeMiddleRow.domain false) (Rows.planeMiddleSpec.post enc Try.prog Try.f7 false true false false) := by
  refine returnsInHanded_of_change (C := Try.checked) own started (by kernel_rfl) Try.func7
    (ChangeSpec.witness6 (enc := enc) (C := Try.checked) false ⟨#[], #[.slice none 0 0, .slice none 0 0], []⟩ 8 (by kernel_rfl) (by kernel_rfl) (by kernel_rfl) (by kernel_rfl)) ?_
  intro W base args ds gs before hval0 hW hcnd _
  have hval : ∀ (j : Nat) t v, Try.f7.params[j]? = some t → args[j]? = some v → Value.okWide Try.prog W .any base t v := hval0
  have hW' := hW
  obtain ⟨p, q, hA0, hV, rfl, hfz, hnd⟩ := hW
  have hA : DataW.TrodAll enc Try.prog W 0 (fun _ => true) true Try.f7.params.toList args.toList ds p := hA0
  rw [Try.params7] at hA hval
  obtain ⟨v0, vs0, d0, ds0, p0, q0, hargs, rfl, rfl, h0, r0⟩ := trodAll_cons hA
  obtain ⟨v1, vs1, d1, ds1, p1, q1, rfl, rfl, rfl, h1, r1⟩ := trodAll_cons r0
  obtain ⟨rfl, rfl, rfl⟩ := trodAll_nil r1
  obtain rfl : args = #[v0, v1] := by cases args; simp_all
  obtain ⟨rfl, rfl⟩ := trodVars_none hV
  obtain ⟨a0, len0, cap0, rfl⟩ := okWide_slice Try.underlying22 (hval 0 22 v0 rfl rfl)
  have k0 := h0
  have lt0 : ∀ x ∈ p0, x.block < W.heap.size := by obtain ⟨m, hm⟩ := k0; exact DataW.trod_lt m _ _ _ hm
  obtain ⟨z0, w0⟩ : ∃ zs, IsRow .i32 W a0 len0 cap0 zs := by
    obtain ⟨fuel, hf⟩ := h0
    rcases open_ints Try.underlying22 Try.underlying21 (by kernel_rfl) hf with ⟨hcs, _⟩ | ⟨x, l, c, zs, hcs, _, hl, hm, hz, _, hcell, hwz⟩
    · simp [Value.cells] at hcs
      obtain ⟨rfl, rfl, rfl⟩ := hcs
      exact ⟨[], .inl ⟨rfl, rfl, rfl, rfl⟩⟩
    · simp [Value.cells] at hcs
      obtain ⟨rfl, rfl, rfl⟩ := hcs
      exact ⟨zs, .inr ⟨_, rfl, hl, hm, by simpa using hz, hcell, hwz⟩⟩
  obtain ⟨a1, len1, cap1, rfl⟩ := okWide_slice Try.underlying22 (hval 1 22 v1 rfl rfl)
  have k1 := h1
  have lt1 : ∀ x ∈ p1, x.block < W.heap.size := by obtain ⟨m, hm⟩ := k1; exact DataW.trod_lt m _ _ _ hm
  obtain ⟨z1, w1⟩ : ∃ zs, IsRow .i32 W a1 len1 cap1 zs := by
    obtain ⟨fuel, hf⟩ := h1
    rcases open_ints Try.underlying22 Try.underlying21 (by kernel_rfl) hf with ⟨hcs, _⟩ | ⟨x, l, c, zs, hcs, _, hl, hm, hz, _, hcell, hwz⟩
    · simp [Value.cells] at hcs
      obtain ⟨rfl, rfl, rfl⟩ := hcs
      exact ⟨[], .inl ⟨rfl, rfl, rfl, rfl⟩⟩
    · simp [Value.cells] at hcs
      obtain ⟨rfl, rfl, rfl⟩ := hcs
      exact ⟨zs, .inr ⟨_, rfl, hl, hm, by simpa using hz, hcell, hwz⟩⟩
  clear hA0 hval0
  refine (walk a0 len0 cap0 z0 a1 len1 cap1 z1 W w0 w1).mono fun e W' ⟨he, bel⟩ => ?_
  subst he
  exact ⟨_, rfl, _, _, _, [], _, [], hW', trodAll_mk1 (shut_bool Try.underlying4 _), (trodAll_cons_mk (Below.trod laidOut (by kernel_rfl) (of_decide_eq_true (by kernel_rfl)) k0 bel lt0) (trodAll_cons_mk (Below.trod laidOut (by kernel_rfl) (of_decide_eq_true (by kernel_rfl)) k1 bel lt1) trodAll_mk0)), rfl, bel.frame _, fun h => by cases h⟩
theorem over : Rows.planeMiddleRow.holds Try.pinned (OpenSpec.ofChange Rows.planeMiddleSpec) :=
  OpenClaim.holds_of_wide 7 Try.f7 rfl rfl rfl rfl rfl rfl rfl ⟨rfl, rfl, rfl, rfl, rfl⟩ rfl rfl rfl rfl rfl (by kernel_rfl) Try.func7 (by kernel_rfl)
    (of_decide_eq_true (by kernel_rfl)) (by unfold Func.isWrapper; first | (rw [if_pos (by decide +kernel)]; kernel_rfl) | (rw [if_neg (by decide +kernel)]; exact ⟨rfl, rfl⟩))
    (fun os started H enc _ => lifted os started H enc)
/-- the statement -/
theorem proved : Rows.PlaneMiddleSaid := over
#print axioms proved
end Go.Proofs.Ytkkpngkninelmaa.planeMiddle
