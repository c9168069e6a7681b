/-
  VecShifts holds for every input: how far two vectors are stays, when both are shifted by the same; so does their difference. No condition.
-/
import Derived.Test.YtmnckpjboieeiaaVAll
import Derived.ProofKit
import Derived.OpenShut
import Derived.ShutString
import Derived.ChangeOld
import Derived.WalkSmall
import Derived.Deep.RegionHeld3
namespace Go.Proofs.Ytmnckpjboieeiaa.vecShifts
open Go.ChangeShapes Go.WideShapes Go.ChangeAt Go.RowKit
open Go.ChangeMaps (open_string shut_string)
set_option linter.unusedVariables false

theorem plus_in {l t : List Int} (hl : ∀ x ∈ l, Vm.good x) (ht : ∀ x ∈ t, Vm.good x) : ∀ x ∈ Vm.plus l t, -2147483648 ≤ x ∧ x ≤ 2147483647 := by
  induction l generalizing t with
  | nil => simp [Vm.plus]
  | cons a l ih =>
    cases t with
    | nil => simp [Vm.plus]
    | cons b t =>
      intro x hx
      have h1 := hl a (.head _)
      have h2 := ht b (.head _)
      unfold Vm.good at h1 h2
      simp only [Vm.plus, List.zipWith_cons_cons, List.mem_cons] at hx
      rcases hx with rfl | hx
      · omega
      · exact ih (fun z hz => hl z (.tail _ hz)) (fun z hz => ht z (.tail _ hz)) x hx
theorem ne_bool {x : Int} (h : ¬ x = 0) : (x != 0) = true := by simpa using h

/-- two rows of the call's own, apart from each other -/
structure Two (wA W : World) (vx vy : Value) (i j : Nat) (Xs Ys : List Int) : Prop where
  ox : W.ownsRow wA.heap.size 21 1 vx i (Xs.map (Value.int .i32))
  oy : W.ownsRow wA.heap.size 21 1 vy j (Ys.map (Value.int .i32))
  ne : vy.ownBlock = none ∨ vy.ownBlock ≠ vx.ownBlock
  be : Below wA.heap.size wA W
section
variable {wA W W1 : World} {vx vy : Value} {i j : Nat} {Xs Ys : List Int}
theorem own_lt {w : World} {base : Nat} {e : TypeId} {v : Value} {n : Nat} {xs : List Value} (h : w.ownsRow base e 1 v n xs) : ∀ k, v.ownBlock = some k → k < w.heap.size := by
  rcases h.2 with ⟨rfl, _⟩ | ⟨g, cap, cur, rfl, _, hg, _⟩
  · simp [Value.ownBlock]
  · intro k hk
    have e : g = k := by simpa [Value.ownBlock] using hk
    subst e
    exact lt_of_block hg
theorem Two.alloc (h : Two wA W vx vy i j Xs Ys) (o : Obj) : Two wA (W.alloc o) vx vy i j Xs Ys := ⟨h.ox.alloc o, h.oy.alloc o, h.ne, h.be.alloc h.be.size o⟩
theorem Two.drew (h : Two wA W vx vy i j Xs Ys) : Two wA W.drew vx vy i j Xs Ys := ⟨h.ox, h.oy, h.ne, h.be.drew⟩
theorem Two.stepx {g cap : Nat} {s : Int} (h : Two wA W vx vy i j Xs Ys) (ho : W1.ownsRow wA.heap.size 21 1 (.slice (some ⟨g, 0, none⟩) (i + 1) cap) (i + 1) (Xs.map (Value.int .i32) ++ [.int .i32 s]))
    (hg : W.grownBy W1 vx.ownBlock) (hat : vx.ownBlock = some g ∨ g = W.heap.size) : Two wA W1 (.slice (some ⟨g, 0, none⟩) (i + 1) cap) vy (i + 1) j (Xs ++ [s]) Ys := by
  refine ⟨by rw [List.map_append]; exact ho, h.oy.kept hg h.ne, ?_, h.be.grown hg h.be.size (ownBlock_ge h.ox)⟩
  show vy.ownBlock = none ∨ vy.ownBlock ≠ some g
  rcases h.ne with hn | hn
  · exact .inl hn
  · refine .inr fun e => ?_
    rcases hat with ha | ha
    · exact hn (e.trans ha.symm)
    · have := own_lt h.oy g e; omega
theorem Two.stepy {g cap : Nat} {s : Int} (h : Two wA W vx vy i j Xs Ys) (ho : W1.ownsRow wA.heap.size 21 1 (.slice (some ⟨g, 0, none⟩) (j + 1) cap) (j + 1) (Ys.map (Value.int .i32) ++ [.int .i32 s]))
    (hg : W.grownBy W1 vy.ownBlock) (hat : vy.ownBlock = some g ∨ g = W.heap.size) : Two wA W1 vx (.slice (some ⟨g, 0, none⟩) (j + 1) cap) i (j + 1) Xs (Ys ++ [s]) := by
  have hx : vx.ownBlock = none ∨ vx.ownBlock ≠ vy.ownBlock := by
    rcases h.ne with hn | hn
    · cases hv : vx.ownBlock with
      | none => exact .inl rfl
      | some q => exact .inr (by rw [hn]; simp)
    · exact .inr fun e => hn e.symm
  refine ⟨h.ox.kept hg hx, by rw [List.map_append]; exact ho, .inr ?_, h.be.grown hg h.be.size (ownBlock_ge h.oy)⟩
  show some g ≠ vx.ownBlock
  intro e
  rcases hat with ha | ha
  · rcases hx with hn | hn
    · rw [hn] at e; cases e
    · exact hn (e.symm.trans ha.symm)
  · have := own_lt h.ox g e.symm; omega
/-- a new block's cell, behind an append to x -/
theorem Two.far {g : Nat} {v : Value} (h : Two wA W vx vy i j Xs Ys) (hg : W.grownBy W1 vx.ownBlock) (hc : W.cell? ⟨g, 0, none⟩ = some v) (hx : ∀ k, vx.ownBlock = some k → k ≠ g) : W1.cell? ⟨g, 0, none⟩ = some v :=
  (hg.cell_far ⟨g, 0, none⟩ (cell_block_lt hc) (fun e => hx g e.symm rfl)).trans hc
theorem cell_new (w : World) (v : Value) : (w.alloc (.cells #[v] 21)).cell? ⟨w.heap.size, 0, none⟩ = some v := by
  rw [cell_of_row _ _ _ _ _ _ (heap_alloc_new w (.cells #[v] 21))]; rfl
theorem cell_more {w : World} {a : Addr} {v : Value} (o : Obj) (h : w.cell? a = some v) : (w.alloc o).cell? a = some v := by
  rw [World.cell?_alloc_some w a o (by rw [h]; rfl), h]
theorem cell_next (w : World) (o : Obj) (v : Value) : ((w.alloc o).alloc (.cells #[v] 21)).cell? ⟨w.heap.size + 1, 0, none⟩ = some v := by
  have := cell_new (w.alloc o) v
  rwa [show (w.alloc o).heap.size = w.heap.size + 1 from by simp] at this
theorem news_one {W : World} {g : Nat} {s : Int} (hc : W.cell? ⟨g, 0, none⟩ = some (.int .i32 s)) : ∀ j u, ([.int .i32 s] : List Value)[j]? = some u → W.cell? ((⟨g, 0, none⟩ : Addr).add j) = some u := by
  intro j u hu
  cases j with
  | zero => rw [Addr.add_lit]; simp at hu; subst hu; exact hc
  | succ j => simp at hu
end

set_option maxHeartbeats 1600000 in
set_option maxRecDepth 100000 in
theorem good_walk (a0 a1 a2 : Option Addr) (n cap0 cap1 cap2 : Nat) (l r t : List Int) (w : World) (V : Hid (Vec w a0 n l)) (V' : Hid (Vec w a1 n r)) (V2 : Hid (Vec w a2 n t))
    (c0 : Vm.chk l (n : Int) = 0) (c1 : Vm.chk r (n : Int) = 0) (c2 : Vm.chk t (n : Int) = 0) :
    Calls Try.prog 8 #[.slice a0 n cap0, .slice a1 n cap1, .slice a2 n cap2] w fun e w' => e = .returned (.bool true) ∧ Below w.heap.size w w' := by
  obtain ⟨i0, hi, hz0, hz1, hz2⟩ := info_parts Try.infoI32
  obtain ⟨d0, d1, e0, good0⟩ := Vm.chk_ok c0
  obtain ⟨-, -, e1, good1⟩ := Vm.chk_ok c1
  obtain ⟨-, -, e2, good2⟩ := Vm.chk_ok c2
  have hn : n ≤ 1024 := by omega
  have HL0 := Lib.hid V.out.length
  have HL1 := Lib.hid V'.out.length
  have HL2 := Lib.hid V2.out.length
  have G0 := Lib.hid good0
  have G1 := Lib.hid good1
  have G2 := Lib.hid good2
  have C0 := Lib.hid c0
  have C1 := Lib.hid c1
  have C2 := Lib.hid c2
  have m0 : n ≤ maxLen := by unfold maxLen; omega
  clear c0 c1 c2 good0 good1 good2 e0 e1 e2
  go_enter Try.func8, Try.ntmps8
  go_wp2_with fail
  refine (awake_any _).mono ?_
  rintro e w1 ⟨rfl, hb1⟩
  have HB1 := Lib.hid hb1
  clear hb1
  go_wp2_with fail
  refine (check_c V.out HB1.out m0).mono ?_
  rintro e w2 ⟨rfl, rfl⟩
  rw [C0.out]
  go_wp2_with fail
  refine (check_c V'.out HB1.out m0).mono ?_
  rintro e w2 ⟨rfl, rfl⟩
  rw [C1.out]
  go_wp2_with fail
  refine (check_c V2.out HB1.out m0).mono ?_
  rintro e w2 ⟨rfl, rfl⟩
  rw [C2.out]
  go_wp2_with fail
  have U := Lib.hid (V.out.below HB1.out)
  have U' := Lib.hid (V'.out.below HB1.out)
  have U2 := Lib.hid (V2.out.below HB1.out)
  clear V V' V2 C0 C1 C2
  go_loopw [8, 9, 10] (fun vx vy i wr => ∃ k : Nat, k ≤ n ∧ i = .int .i64 k ∧ Two w1 wr vx vy k k (Vm.plus (l.take k) (t.take k)) (Vm.plus (r.take k) (t.take k))) (fun _ _ i _ => n - (intOf i).toNat)
  case atStart => exact ⟨0, Nat.zero_le _, rfl, by simpa [Vm.plus] using World.ownsRow_nil _ _ _ _, by simpa [Vm.plus] using World.ownsRow_nil _ _ _ _, .inl rfl, Below.refl _ _⟩
  case round =>
    obtain ⟨k, hk, rfl, hT⟩ := hrel
    have HT := Lib.hid hT
    have hsz := hT.be.size
    by_cases hlt : k < n
    · have hk0 : k < l.length := by rw [HL0.out]; exact hlt
      have hk1 : k < r.length := by rw [HL1.out]; exact hlt
      have hk2 : k < t.length := by rw [HL2.out]; exact hlt
      obtain ⟨b0, o0, rfl, hb0, hc0, -, -⟩ := U.out.at_ hlt hk0
      obtain ⟨b1, o1, rfl, hb1, hc1, -, -⟩ := U'.out.at_ hlt hk1
      obtain ⟨b2, o2, rfl, hb2, hc2, -, -⟩ := U2.out.at_ hlt hk2
      have gx := G0.out l[k] (List.getElem_mem _)
      have gy := G1.out r[k] (List.getElem_mem _)
      have gz := G2.out t[k] (List.getElem_mem _)
      unfold Vm.good at gx gy gz
      have d0 : wr.cell? ⟨b0, o0 + k, none⟩ = some (.int .i32 l[k]) := (hT.be.cell hb0).trans hc0
      have d1 : wr.cell? ⟨b1, o1 + k, none⟩ = some (.int .i32 r[k]) := (hT.be.cell hb1).trans hc1
      have d2 : wr.cell? ⟨b2, o2 + k, none⟩ = some (.int .i32 t[k]) := (hT.be.cell hb2).trans hc2
      have HS := Lib.hid (Vm.plus_snoc k l t hk0 hk2)
      have HS' := Lib.hid (Vm.plus_snoc k r t hk1 hk2)
      obtain ⟨x, hx⟩ : ∃ x, x = l[k] := ⟨_, rfl⟩
      obtain ⟨y, hy⟩ : ∃ y, y = r[k] := ⟨_, rfl⟩
      obtain ⟨z, hz⟩ : ∃ z, z = t[k] := ⟨_, rfl⟩
      rw [← hx] at hc0 d0 gx HS
      rw [← hy] at hc1 d1 gy HS'
      rw [← hz] at hc2 d2 gz HS HS'
      obtain ⟨x0, x1⟩ := gx
      obtain ⟨y0, y1⟩ := gy
      obtain ⟨z0, z1⟩ := gz
      obtain ⟨s, hs⟩ : ∃ s, x + z = s := ⟨_, rfl⟩
      obtain ⟨q, hq⟩ : ∃ q, y + z = q := ⟨_, rfl⟩
      rw [hs] at HS
      rw [hq] at HS'
      have hs' : IntKind.i32.wrap (x + z) = s := by rw [IntWalk.i32_left, Vm.wrap32_in (by omega) (by omega)]; exact hs
      have hq' : IntKind.i32.wrap (y + z) = q := by rw [IntWalk.i32_left, Vm.wrap32_in (by omega) (by omega)]; exact hq
      clear hx hy hz hs hq hT
      have HC0 := Lib.hid hc0
      have HC1 := Lib.hid hc1
      have HC2 := Lib.hid hc2
      clear hc0 hc1 hc2 x0 x1 y0 y1 z0 z1
      have HX := Lib.hid (own_lt HT.out.ox)
      have HT1 := Lib.hid (HT.out.alloc (.cells #[.int .i32 s] 21)).drew
      have HT12 := Lib.hid ((HT.out.alloc (.cells #[.int .i32 s] 21)).alloc (.cells #[.int .i32 q] 21)).drew
      have HT21 := Lib.hid ((HT.out.alloc (.cells #[.int .i32 q] 21)).alloc (.cells #[.int .i32 s] 21)).drew
      have N1 := Lib.hid (show (wr.alloc (.cells #[.int .i32 s] 21)).drew.cell? ⟨wr.heap.size, 0, none⟩ = some (.int .i32 s) from cell_new wr _)
      have N12 := Lib.hid (show ((wr.alloc (.cells #[.int .i32 s] 21)).alloc (.cells #[.int .i32 q] 21)).drew.cell? ⟨wr.heap.size, 0, none⟩ = some (.int .i32 s) from cell_more _ (cell_new wr _))
      have M12 := Lib.hid (show ((wr.alloc (.cells #[.int .i32 s] 21)).alloc (.cells #[.int .i32 q] 21)).drew.cell? ⟨wr.heap.size + 1, 0, none⟩ = some (.int .i32 q) from cell_next wr _ _)
      have N21 := Lib.hid (show ((wr.alloc (.cells #[.int .i32 q] 21)).alloc (.cells #[.int .i32 s] 21)).drew.cell? ⟨wr.heap.size + 1, 0, none⟩ = some (.int .i32 s) from cell_next wr _ _)
      have M21 := Lib.hid (show ((wr.alloc (.cells #[.int .i32 q] 21)).alloc (.cells #[.int .i32 s] 21)).drew.cell? ⟨wr.heap.size, 0, none⟩ = some (.int .i32 q) from cell_more _ (cell_new wr _))
      go_wp2
      go_region_held3 (fun w' => w'.cell? ⟨b0, o0 + k, none⟩ = some (.int .i32 x) ∧ w'.cell? ⟨b1, o1 + k, none⟩ = some (.int .i32 y) ∧ w'.cell? ⟨b2, o2 + k, none⟩ = some (.int .i32 z)) (go_keep) (first | (refine step_append_lies _ rfl (.tmp 36) (.tmp 46) 22 rfl w1.heap.size 21 i0 (.int .i32 0) 1 4 Try.underlying22 hi hz0 hz1 hz2 rfl (by decide) u8 k _ (by simp [Act.eval, Act.put]) HT1.out.ox ⟨wr.heap.size, 0, none⟩ 1 1 [.int .i32 s] (by simp [Act.eval, Act.put]) rfl (news_one N1.out) (ints_one .i32 [s]) (by omega) (by unfold maxLen; omega) (by omega) HT1.out.be.size _ rfl ?_; intro g cap w2 ho hg hat hlt2; have HT2 := Lib.hid (HT1.out.stepx ho hg hat); have e0 := (HT2.out.be.cell hb0).trans HC0.out; have e1 := (HT2.out.be.cell hb1).trans HC1.out; have e2 := (HT2.out.be.cell hb2).trans HC2.out; have HTY := Lib.hid (HT2.out.alloc (.cells #[.int .i32 q] 21)); have NY := Lib.hid (cell_new w2 (.int .i32 q)); clear ho hg hat hlt2) | (refine step_append_lies _ rfl (.tmp 36) (.tmp 46) 22 rfl w1.heap.size 21 i0 (.int .i32 0) 1 4 Try.underlying22 hi hz0 hz1 hz2 rfl (by decide) u8 k _ (by simp [Act.eval, Act.put]) HT12.out.ox ⟨wr.heap.size, 0, none⟩ 1 1 [.int .i32 s] (by simp [Act.eval, Act.put]) rfl (news_one N12.out) (ints_one .i32 [s]) (by omega) (by unfold maxLen; omega) (by omega) HT12.out.be.size _ rfl ?_; intro g cap w2 ho hg hat hlt2; have HT2 := Lib.hid (HT12.out.stepx ho hg hat); have e0 := (HT2.out.be.cell hb0).trans HC0.out; have e1 := (HT2.out.be.cell hb1).trans HC1.out; have e2 := (HT2.out.be.cell hb2).trans HC2.out; have HTY := HT2; have NY := Lib.hid (HT12.out.far hg M12.out (fun p hp => by have := HX.out p hp; omega)); clear ho hg hat hlt2) | (refine step_append_lies _ rfl (.tmp 36) (.tmp 46) 22 rfl w1.heap.size 21 i0 (.int .i32 0) 1 4 Try.underlying22 hi hz0 hz1 hz2 rfl (by decide) u8 k _ (by simp [Act.eval, Act.put]) HT21.out.ox ⟨wr.heap.size + 1, 0, none⟩ 1 1 [.int .i32 s] (by simp [Act.eval, Act.put]) rfl (news_one N21.out) (ints_one .i32 [s]) (by omega) (by unfold maxLen; omega) (by omega) HT21.out.be.size _ rfl ?_; intro g cap w2 ho hg hat hlt2; have HT2 := Lib.hid (HT21.out.stepx ho hg hat); have e0 := (HT2.out.be.cell hb0).trans HC0.out; have e1 := (HT2.out.be.cell hb1).trans HC1.out; have e2 := (HT2.out.be.cell hb2).trans HC2.out; have HTY := HT2; have NY := Lib.hid (HT21.out.far hg M21.out (fun p hp => by have := HX.out p hp; omega)); clear ho hg hat hlt2) | (refine step_append_lies _ rfl (.tmp 48) (.tmp 58) 22 rfl w1.heap.size 21 i0 (.int .i32 0) 1 4 Try.underlying22 hi hz0 hz1 hz2 rfl (by decide) u9 k _ (by simp [Act.eval, Act.put]) HTY.out.oy _ 1 1 [.int .i32 q] (by simp [Act.eval, Act.put]) rfl (news_one NY.out) (ints_one .i32 [q]) (by omega) (by unfold maxLen; omega) (by omega) HTY.out.be.size _ rfl ?_; intro g' cap' w3 ho' hg' hat' hlt3; have HT3 := Lib.hid (HTY.out.stepy ho' hg' hat'); have f0 := (HT3.out.be.cell hb0).trans HC0.out; have f1 := (HT3.out.be.cell hb1).trans HC1.out; have f2 := (HT3.out.be.cell hb2).trans HC2.out; clear ho' hg' hat' hlt3))
      all_goals
        have HT4 : Hid (Two w1 w3 (.slice (some ⟨g, 0, none⟩) (k + 1) cap) (.slice (some ⟨g', 0, none⟩) (k + 1) cap') (k + 1) (k + 1) (Vm.plus (l.take (k + 1)) (t.take (k + 1))) (Vm.plus (r.take (k + 1)) (t.take (k + 1)))) := by
          show Two w1 w3 (.slice (some ⟨g, 0, none⟩) (k + 1) cap) (.slice (some ⟨g', 0, none⟩) (k + 1) cap') (k + 1) (k + 1) (Vm.plus (l.take (k + 1)) (t.take (k + 1))) (Vm.plus (r.take (k + 1)) (t.take (k + 1)))
          rw [HS.out, HS'.out]; exact HT3.out
        clear HT3 HT2 HTY NY HT1 HT12 HT21 N1 N12 N21 M12 M21 HX HT f0 f1 f2 e0 e1 e2 d0 d1 d2 hs' hq' HS HS'
        go_wp2
        go_roundw
        case rel => exact ⟨k + 1, by omega, by go_num, HT4.out⟩
        case measure => simp [intOf]; omega
    · obtain rfl : k = n := by omega
      have ep : Vm.plus (l.take k) (t.take k) = Vm.plus l t := by rw [List.take_of_length_le (by rw [HL0.out]; omega), List.take_of_length_le (by rw [HL2.out]; omega)]
      have er : Vm.plus (r.take k) (t.take k) = Vm.plus r t := by rw [List.take_of_length_le (by rw [HL1.out]; omega), List.take_of_length_le (by rw [HL2.out]; omega)]
      rw [ep, er] at hT
      obtain ⟨Ax, cx, rfl⟩ := own_form hT.ox
      obtain ⟨Ay, cy, rfl⟩ := own_form hT.oy
      have hX : Vec wr Ax k (Vm.plus l t) := ⟨Lst.of_own hT.ox, plus_in G0.out G2.out⟩
      have hY : Vec wr Ay k (Vm.plus r t) := ⟨Lst.of_own hT.oy, plus_in G1.out G2.out⟩
      have hlt0 : l.length = t.length := by rw [HL0.out, HL2.out]
      have hrt0 : r.length = t.length := by rw [HL1.out, HL2.out]
      have kf := Vm.far_plus l r t hlt0 hrt0
      have km := Vm.less_plus l r t hlt0 hrt0
      have kb := Vm.less_back l t hlt0 G0.out
      obtain ⟨P, hP⟩ : ∃ P, Vm.plus l t = P := ⟨_, rfl⟩
      obtain ⟨Q, hQ⟩ : ∃ Q, Vm.plus r t = Q := ⟨_, rfl⟩
      rw [hP] at hX kf km kb
      rw [hQ] at hY kf km
      have HX := Lib.hid hX
      have HY := Lib.hid hY
      have KF := Lib.hid kf
      have KM := Lib.hid km
      have KB := Lib.hid kb
      have HBr := Lib.hid (HB1.out.trans (hT.be.mono HB1.out.size))
      have T0 := Lib.hid (U.out.below hT.be)
      have T1 := Lib.hid (U'.out.below hT.be)
      have T2 := Lib.hid (U2.out.below hT.be)
      clear hX hY kf km kb hT HT ep er hP hQ hlt0 hrt0 U U' U2 HB1 hsz hi hz0 hz1 hz2
      go_wp2_with fail
      refine (far_c HX.out HY.out (Below.refl _ _) (by omega) (by omega)).mono ?_
      rintro e x1 ⟨rfl, hb⟩
      rw [KF.out]
      have C1 := Lib.hid hb
      clear hb
      go_wp2_with fail
      refine (far_c T0.out T1.out C1.out (by omega) (by omega)).mono ?_
      rintro e x2 ⟨rfl, hb⟩
      have C2 := Lib.hid hb
      clear hb C1
      go_wp2_with fail
      refine (less_c HX.out HY.out C2.out (by omega) (by omega)).mono ?_
      rintro e x3 ⟨g3, rfl, -, -, -, hv, hb, -⟩
      rw [Nat.min_self, KM.out] at hv
      rw [Nat.min_self]
      have L3 := Lib.hid hv
      have C3 := Lib.hid hb
      clear hb hv C2
      go_wp2_with fail
      refine (less_c T0.out T1.out C3.out (by omega) (by omega)).mono ?_
      rintro e x4 ⟨g4, rfl, -, -, -, hv, hb, hbb⟩
      rw [Nat.min_self] at hv
      rw [Nat.min_self]
      have L4 := Lib.hid hv
      have L34 := Lib.hid (L3.out.below hbb)
      have C4 := Lib.hid hb
      clear hb hbb hv C3 L3
      go_wp2_with fail
      refine (same_any _ _ _ _ _ _ _ _ _ L34.out L4.out (by omega) (by omega)).mono ?_
      rintro e x5 ⟨rfl, hb⟩
      have C5 := Lib.hid (C4.out.trans (hb.mono C4.out.size))
      clear hb C4 L34 L4
      go_wp2_with fail
      refine (less_c HX.out T2.out C5.out (by omega) (by omega)).mono ?_
      rintro e x6 ⟨g6, rfl, -, -, -, hv, hb, -⟩
      rw [Nat.min_self, KB.out] at hv
      rw [Nat.min_self]
      have L6 := Lib.hid hv
      have C6 := Lib.hid hb
      clear hb hv C5
      go_wp2_with fail
      refine (same_any _ _ _ _ _ _ _ _ _ L6.out (T0.out.below C6.out) (by omega) (by omega)).mono ?_
      rintro e x7 ⟨rfl, hb⟩
      have C7 := Lib.hid (C6.out.trans (hb.mono C6.out.size))
      clear hb C6 L6
      go_wp2
      go_ret
      exact ⟨ret_bool (by simp), HBr.out.trans (C7.out.mono HBr.out.size)⟩

set_option maxHeartbeats 1600000 in
set_option maxRecDepth 100000 in
theorem walk (a0 : Option Addr) (len0 cap0 : Nat) (z0 : List Int) (a1 : Option Addr) (len1 cap1 : Nat) (z1 : List Int) (a2 : Option Addr) (len2 cap2 : Nat) (z2 : List Int) (w : World) (w0 : IsRow .i32 w a0 len0 cap0 z0) (w1 : IsRow .i32 w a1 len1 cap1 z1) (w2 : IsRow .i32 w a2 len2 cap2 z2) :
    Calls Try.prog 8 #[.slice a0 len0 cap0, .slice a1 len1 cap1, .slice a2 len2 cap2] w fun e w' => e = .returned (.bool true) ∧ Below w.heap.size w w' := by
  obtain ⟨l, hV, m0, -⟩ := w0.vec
  obtain ⟨r, hV', m1, -⟩ := w1.vec
  obtain ⟨t, hV2, m2, -⟩ := w2.vec
  have V := Lib.hid hV
  have V' := Lib.hid hV'
  have V2 := Lib.hid hV2
  clear w0 w1 w2 hV hV' hV2
  by_cases c0 : Vm.chk l (len0 : Int) = 0
  case neg =>
    have q := ne_bool c0
    obtain ⟨p, hp⟩ : ∃ p, Vm.chk l (len0 : Int) = p := ⟨_, rfl⟩
    rw [hp] at q
    have HP := Lib.hid hp
    clear c0 hp
    go_enter Try.func8, Try.ntmps8
    go_wp2_with fail
    refine (awake_any _).mono ?_
    rintro e w1 ⟨rfl, hb1⟩
    have HB1 := Lib.hid hb1
    clear hb1
    go_wp2_with fail
    refine (check_c V.out HB1.out m0).mono ?_
    rintro e w2 ⟨rfl, rfl⟩
    rw [HP.out]
    go_wp2
    go_ret
    exact ⟨rfl, HB1.out⟩
  by_cases c1 : Vm.chk r (len0 : Int) = 0
  case neg =>
    have q := ne_bool c1
    obtain ⟨p, hp⟩ : ∃ p, Vm.chk r (len0 : Int) = p := ⟨_, rfl⟩
    rw [hp] at q
    have HP := Lib.hid hp
    clear c1 hp
    have C0 := Lib.hid c0
    clear c0
    go_enter Try.func8, Try.ntmps8
    go_wp2_with fail
    refine (awake_any _).mono ?_
    rintro e w1 ⟨rfl, hb1⟩
    have HB1 := Lib.hid hb1
    clear hb1
    go_wp2_with fail
    refine (check_c V.out HB1.out m0).mono ?_
    rintro e w2 ⟨rfl, rfl⟩
    rw [C0.out]
    go_wp2_with fail
    refine (check_c V'.out HB1.out m1).mono ?_
    rintro e w2 ⟨rfl, rfl⟩
    rw [HP.out]
    go_wp2
    go_ret
    exact ⟨rfl, HB1.out⟩
  by_cases c2 : Vm.chk t (len0 : Int) = 0
  case neg =>
    have q := ne_bool c2
    obtain ⟨p, hp⟩ : ∃ p, Vm.chk t (len0 : Int) = p := ⟨_, rfl⟩
    rw [hp] at q
    have HP := Lib.hid hp
    clear c2 hp
    have C0 := Lib.hid c0
    clear c0
    have C1 := Lib.hid c1
    clear c1
    go_enter Try.func8, Try.ntmps8
    go_wp2_with fail
    refine (awake_any _).mono ?_
    rintro e w1 ⟨rfl, hb1⟩
    have HB1 := Lib.hid hb1
    clear hb1
    go_wp2_with fail
    refine (check_c V.out HB1.out m0).mono ?_
    rintro e w2 ⟨rfl, rfl⟩
    rw [C0.out]
    go_wp2_with fail
    refine (check_c V'.out HB1.out m1).mono ?_
    rintro e w2 ⟨rfl, rfl⟩
    rw [C1.out]
    go_wp2_with fail
    refine (check_c V2.out HB1.out m2).mono ?_
    rintro e w2 ⟨rfl, rfl⟩
    rw [HP.out]
    go_wp2
    go_ret
    exact ⟨rfl, HB1.out⟩
  have hl : len1 = len0 := by have := V'.out.length; have := (Vm.chk_ok c1).2.2.1; omega
  have hl2 : len2 = len0 := by have := V2.out.length; have := (Vm.chk_ok c2).2.2.1; omega
  rw [hl] at V' ⊢
  rw [hl2] at V2 ⊢
  exact good_walk a0 a1 a2 len0 cap0 cap1 cap2 l r t w V V' V2 c0 c1 c2
theorem own : ownKnob Try.prog.godebug = none := by kernel_rfl
theorem laidOut : laidOutB Try.prog = true := by kernel_rfl
set_option maxRecDepth 100000 in
theorem lifted (os : Os) (started : os.Started) (H : Type) (enc : TypeId × Value → H) :
    ReturnsInHanded {} Try.checked os 8 .any (Rows.vecShiftsSpec.pre6 enc Try.prog Try.f8 Rows.vecShiftsRow.domain false) (Rows.vecShiftsSpec.post enc Try.prog Try.f8 false true false false) := by
  refine returnsInHanded_of_change (C := Try.checked) own started (by kernel_rfl) Try.func8
    (ChangeSpec.witness6 (enc := enc) (C := Try.checked) false ⟨#[], #[.slice none 0 0, .slice none 0 0, .slice none 0 0], []⟩ 8 (by kernel_rfl) (by kernel_rfl) (by kernel_rfl) (by kernel_rfl)) ?_
  intro W base args ds gs before hval0 hW hcnd _
  have hval : ∀ (j : Nat) t v, Try.f8.params[j]? = some t → args[j]? = some v → Value.okWide Try.prog W .any base t v := hval0
  have hW' := hW
  obtain ⟨p, q, hA0, hV, rfl, hfz, hnd⟩ := hW
  have hA : DataW.TrodAll enc Try.prog W 0 (fun _ => true) true Try.f8.params.toList args.toList ds p := hA0
  rw [Try.params8] at hA hval
  obtain ⟨v0, vs0, d0, ds0, p0, q0, hargs, rfl, rfl, h0, r0⟩ := trodAll_cons hA
  obtain ⟨v1, vs1, d1, ds1, p1, q1, rfl, rfl, rfl, h1, r1⟩ := trodAll_cons r0
  obtain ⟨v2, vs2, d2, ds2, p2, q2, rfl, rfl, rfl, h2, r2⟩ := trodAll_cons r1
  obtain ⟨rfl, rfl, rfl⟩ := trodAll_nil r2
  obtain rfl : args = #[v0, v1, v2] := by cases args; simp_all
  obtain ⟨rfl, rfl⟩ := trodVars_none hV
  obtain ⟨a0, len0, cap0, rfl⟩ := okWide_slice Try.underlying22 (hval 0 22 v0 rfl rfl)
  have k0 := h0
  have lt0 : ∀ x ∈ p0, x.block < W.heap.size := by obtain ⟨m, hm⟩ := k0; exact DataW.trod_lt m _ _ _ hm
  obtain ⟨z0, w0⟩ : ∃ zs, IsRow .i32 W a0 len0 cap0 zs := by
    obtain ⟨fuel, hf⟩ := h0
    rcases open_ints Try.underlying22 Try.underlying21 (by kernel_rfl) hf with ⟨hcs, _⟩ | ⟨x, l, c, zs, hcs, _, hl, hm, hz, _, hcell, hwz⟩
    · simp [Value.cells] at hcs
      obtain ⟨rfl, rfl, rfl⟩ := hcs
      exact ⟨[], .inl ⟨rfl, rfl, rfl, rfl⟩⟩
    · simp [Value.cells] at hcs
      obtain ⟨rfl, rfl, rfl⟩ := hcs
      exact ⟨zs, .inr ⟨_, rfl, hl, hm, by simpa using hz, hcell, hwz⟩⟩
  obtain ⟨a1, len1, cap1, rfl⟩ := okWide_slice Try.underlying22 (hval 1 22 v1 rfl rfl)
  have k1 := h1
  have lt1 : ∀ x ∈ p1, x.block < W.heap.size := by obtain ⟨m, hm⟩ := k1; exact DataW.trod_lt m _ _ _ hm
  obtain ⟨z1, w1⟩ : ∃ zs, IsRow .i32 W a1 len1 cap1 zs := by
    obtain ⟨fuel, hf⟩ := h1
    rcases open_ints Try.underlying22 Try.underlying21 (by kernel_rfl) hf with ⟨hcs, _⟩ | ⟨x, l, c, zs, hcs, _, hl, hm, hz, _, hcell, hwz⟩
    · simp [Value.cells] at hcs
      obtain ⟨rfl, rfl, rfl⟩ := hcs
      exact ⟨[], .inl ⟨rfl, rfl, rfl, rfl⟩⟩
    · simp [Value.cells] at hcs
      obtain ⟨rfl, rfl, rfl⟩ := hcs
      exact ⟨zs, .inr ⟨_, rfl, hl, hm, by simpa using hz, hcell, hwz⟩⟩
  obtain ⟨a2, len2, cap2, rfl⟩ := okWide_slice Try.underlying22 (hval 2 22 v2 rfl rfl)
  have k2 := h2
  have lt2 : ∀ x ∈ p2, x.block < W.heap.size := by obtain ⟨m, hm⟩ := k2; exact DataW.trod_lt m _ _ _ hm
  obtain ⟨z2, w2⟩ : ∃ zs, IsRow .i32 W a2 len2 cap2 zs := by
    obtain ⟨fuel, hf⟩ := h2
    rcases open_ints Try.underlying22 Try.underlying21 (by kernel_rfl) hf with ⟨hcs, _⟩ | ⟨x, l, c, zs, hcs, _, hl, hm, hz, _, hcell, hwz⟩
    · simp [Value.cells] at hcs
      obtain ⟨rfl, rfl, rfl⟩ := hcs
      exact ⟨[], .inl ⟨rfl, rfl, rfl, rfl⟩⟩
    · simp [Value.cells] at hcs
      obtain ⟨rfl, rfl, rfl⟩ := hcs
      exact ⟨zs, .inr ⟨_, rfl, hl, hm, by simpa using hz, hcell, hwz⟩⟩
  clear hA0 hval0
  refine (walk a0 len0 cap0 z0 a1 len1 cap1 z1 a2 len2 cap2 z2 W w0 w1 w2).mono fun e W' ⟨he, bel⟩ => ?_
  subst he
  exact ⟨_, rfl, _, _, _, [], _, [], hW', trodAll_mk1 (shut_bool Try.underlying4 _), (trodAll_cons_mk (Below.trod laidOut (by kernel_rfl) (of_decide_eq_true (by kernel_rfl)) k0 bel lt0) (trodAll_cons_mk (Below.trod laidOut (by kernel_rfl) (of_decide_eq_true (by kernel_rfl)) k1 bel lt1) (trodAll_cons_mk (Below.trod laidOut (by kernel_rfl) (of_decide_eq_true (by kernel_rfl)) k2 bel lt2) trodAll_mk0))), rfl, bel.frame _, fun h => by cases h⟩
theorem over : Rows.vecShiftsRow.holds Try.pinned (OpenSpec.ofChange Rows.vecShiftsSpec) :=
  OpenClaim.holds_of_wide 8 Try.f8 rfl rfl rfl rfl rfl rfl rfl ⟨rfl, rfl, rfl, rfl, rfl⟩ rfl rfl rfl rfl rfl (by kernel_rfl) Try.func8 (by kernel_rfl)
    (of_decide_eq_true (by kernel_rfl)) (by unfold Func.isWrapper; first | (rw [if_pos (by decide +kernel)]; kernel_rfl) | (rw [if_neg (by decide +kernel)]; exact ⟨rfl, rfl⟩))
    (fun os started H enc _ => lifted os started H enc)
/-- the statement -/
theorem proved : Rows.VecShiftsSaid := over
#print axioms proved
end Go.Proofs.Ytmnckpjboieeiaa.vecShifts
