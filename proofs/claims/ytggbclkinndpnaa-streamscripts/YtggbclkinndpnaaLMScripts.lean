/-
  StreamScripts: of a script all numbers come to the streams, each once: taken by turns they are the list. No condition.
-/
import Derived.Test.YtggbclkinndpnaaMIter
import Derived.Lib.SmallJoins
import Derived.Shelf.AbstractIn
import Derived.Stop.RegionWithIn
import Derived.Deep.RegionHeld3
import Derived.Deep.DeepCutAuto
import Derived.Deep.WholeRow
import Derived.OpenShut
namespace Go.Proofs.Ytggbclkinndpnaa
open Go.RowKit Go.Joins Go.ChangeShapes Go.WideShapes Go.Deep Go.Shelf
namespace streamScripts
attribute [local go_sem] Oper.semAt_some

set_option maxHeartbeats 1600000 in
set_option maxRecDepth 100000 in
theorem walk (A : Option Addr) (len cap : Nat) (z : List Int) (trees : Int) (w : World) (wl : IsRow .u64 w A len cap z) (wn : (Lit.int .i64 trees).wf = true) :
    Calls Try.prog 5 #[.slice A len cap, .int .i64 trees] w fun e w' => e = .returned (.bool true) ∧ Below w.heap.size w w' := by
  have q1 := iface_eql
  have G := Lib.hid (Dws.of_row (s := 0) (by decide) wl)
  have bn := bounds_i64 wn
  clear wl wn
  have B0 : Hid (Below w.heap.size w (w.alloc (.cells #[.bool false] 4))) := (Below.refl _ _).alloc (Nat.le_refl _) _
  refine (callsIn_wide (n := 6)).1 ?_
  refine callsIn_of_wp_marks Try.func5 rfl trivial ?_ rfl
  simp only [Try.ntmps5, List.size_toArray, List.length_cons, List.length_nil, Nat.reduceAdd, Nat.reduceSub, Array.replicate_succ, Array.replicate_zero, List.push_toArray, List.append_toArray, List.nil_append, List.cons_append]
  gi_wp2_with fail
  refine ⟨trivial, ?_⟩
  refine (callsIn_wide.2 (awake_any _)).mono ?_
  rintro _ W1 ⟨rfl, b1⟩
  have B1 := Lib.hid (B0.out.trans (b1.mono B0.out.size))
  have hr : W1.heap[w.heap.size]? = some (.cells #[.bool false] 4 (0, 0)) := (b1.block _ (by simp)).trans (heap_new _ _ _)
  have s1 : w.heap.size + 1 ≤ W1.heap.size := by have := b1.size; simpa using this
  have c0 : W1.cell? ⟨w.heap.size, 0, none⟩ = some (.bool false) := by rw [cell_of_row _ _ _ _ _ _ hr]; rfl
  have f0 := frozen_of_row W1 w.heap.size 0 _ _ hr
  have HR := Lib.hid hr
  clear b1 hr B0
  by_cases g1 : 500 < len
  · gi_wp2
    refine ⟨_, result_bool rfl _ _ w.heap.size true rfl ?_, rfl, B1.out.setCell (Nat.le_refl _) _⟩
    rw [cell_of_row _ _ _ _ _ _ (heap_set_one HR.out)]; rfl
  by_cases g2 : trees < 1
  · gi_wp2
    refine ⟨_, result_bool rfl _ _ w.heap.size true rfl ?_, rfl, B1.out.setCell (Nat.le_refl _) _⟩
    rw [cell_of_row _ _ _ _ _ _ (heap_set_one HR.out)]; rfl
  by_cases g3 : 60 < trees
  · gi_wp2
    refine ⟨_, result_bool rfl _ _ w.heap.size true rfl ?_, rfl, B1.out.setCell (Nat.le_refl _) _⟩
    rw [cell_of_row _ _ _ _ _ _ (heap_set_one HR.out)]; rfl
  obtain ⟨N, rfl⟩ : ∃ N : Nat, trees = N := ⟨trees.toNat, by omega⟩
  obtain ⟨xs, hxs⟩ : ∃ xs, xs = z.take len := ⟨_, rfl⟩
  rw [← hxs] at G
  clear hxs
  obtain ⟨Wa, hWa⟩ : ∃ Wa, Wa = W1.alloc (.cells #[.slice none 0 0] 35) := ⟨_, rfl⟩
  have BA : Hid (Below w.heap.size w Wa) := by rw [hWa]; exact B1.out.alloc B1.out.size _
  have HK := Lib.hid (strAll_any true 0 A len cap xs N Wa ((G.out.below BA.out).more BA.out.size) (by omega))
  gi_wp2_with fail
  rw [← hWa]
  refine ⟨trivial, ?_⟩
  refine (callsIn_wide.2 HK.out).mono ?_
  rintro _ W0 ⟨rfl, s', A', n', c', xs', hat, hal, hb0⟩
  have hpA : Wa.heap[W1.heap.size]? = some (.cells #[.slice none 0 0] 35 (0, 0)) := by rw [hWa]; exact heap_new _ _ _
  have hsA : Wa.heap.size = W1.heap.size + 1 := by rw [hWa]; simp
  have HP0 := Lib.hid ((hb0.block _ (by omega)).trans hpA)
  have HAT := Lib.hid hat
  have HAL := Lib.hid hal
  have BW0 := Lib.hid (BA.out.trans (hb0.mono BA.out.size))
  have HR0 : Hid (W0.heap[w.heap.size]? = some (.cells #[.bool false] 4 (0, 0))) := Lib.hid ((hb0.block _ (by omega)).trans (by rw [hWa]; exact (Below.heap_alloc _ _ _ (by omega)).trans HR.out))
  have s0 : W1.heap.size + 1 ≤ W0.heap.size := by have := hb0.size; omega
  have hlt0 := hat.lt
  rw [hsA] at HAT hlt0
  clear hat hal hb0 HK hWa hpA HR c0 f0 BA B1
  rw [hsA]
  gi_wp2
  obtain ⟨F, hF⟩ : ∃ F : Nat → Nat → Int, F = fun (k : Nat) => Sm.strF true 0 xs (k : Int) (N : Int) := ⟨_, rfl⟩
  obtain ⟨T, hT⟩ : ∃ T : Nat, T = 49 := ⟨_, rfl⟩
  have HT : Hid (∀ k : Nat, k < N → strT true k (N : Int) = T) := Lib.hid (fun k hk => by unfold strT; rw [if_neg (by omega), hT]; rfl)
  have HF : Hid (∀ k : Nat, k < N → Sm.strF true s' xs' k (N : Int) = F k) := Lib.hid (fun k hk => by rw [hF]; exact HAL.out k N)
  have HFE := Lib.hid hF
  clear hF hT HAL
  obtain ⟨i0, hi, hz0, hz1, hz2⟩ := info_parts Try.infoSrc
  refine range_keeps (n := 6) rfl (by omega) (gf := 18) (lb := #[.pointer (some ⟨W1.heap.size + 1 + 1, 0, none⟩), .pointer (some ⟨W1.heap.size + 1, 0, none⟩)]) rfl trivial (enters_of Try.func18 (by kernel_rfl) rfl)
    (fun k W => GI W0 W1.heap.size T N F k W)
    (fun k vs W => ∃ bb, vs = #[.int .i64 (k : Int), sv T bb] ∧ GM W0 W1.heap.size T N F k bb W)
    (fun W => GI W0 W1.heap.size T N F N W)
    (fun _ _ => False)
    (fun vs t => ((t.setIfInBounds 27 (vs.getD 0 undef)).setIfInBounds 28 (vs.getD 1 undef)).setIfInBounds 7 (vs.getD 1 undef))
    (fun k W W' h ho => h.off ho (by omega)) (fun k vs W W' h ho => by obtain ⟨bb, h1, h2⟩ := h; exact ⟨bb, h1, h2.off ho (by omega)⟩) (fun W W' h ho => h.off ho (by omega))
    (fun c W W' h hb => h) (fun k vs W h => by obtain ⟨bb, h1, -⟩ := h; rw [h1]; rfl) (fun W hb hs => GI.start HP0.out hb hs) ?iter ?assign ?body ?done ?stop
  case iter =>
    intro l B Y hB hY W hi hb
    exact gather (m := 5) true s' A' xs' N (.inr rfl) (by omega) HAT.out (by omega) (by omega) HT.out HF.out B Y hB (fun k bb W h hB => hY k _ W ⟨bb, rfl, h⟩ hB) W hi hb
  case assign =>
    rintro l k vs W K ⟨bb, rfl, -⟩ hK
    gi_wp2
    exact hK
  case body =>
    rintro l k vs W ⟨bb, rfl, hk, ⟨lo, hi', b, v, L, hG, hbas, hL, hL', hg⟩, hw, hs⟩
    have hpc : W.cell? ⟨W1.heap.size, 0, none⟩ = some v := by rw [cell_of_row _ _ _ _ _ _ hG.all]; rfl
    have hpf := frozen_of_row W W1.heap.size 0 _ _ hG.all
    generalize hP : leftBy W0.heap.size _ _ W = Pst
    have HP := Lib.hid hP
    have HG := Lib.hid hG
    have HPU := Lib.hid (fun (W2 : World) (g cap : Nat) => GM.push (W2 := W2) (g := g) (cap := cap) (N := N) hk hG hbas hL hL' hg hw hs (by omega))
    have hpl : W1.heap.size < W.heap.size := by omega
    clear hP hG hbas hL hL' hg hw
    gi_wp2_with (gi_at_builtin; refine push_in _ rfl (.tmp 31) (.tmp 33) 35 rfl (W0.heap.size + 2) 28 i0 .nilIface 16 Try.underlying35 hi hz0 hz1 hz2 rfl v k ((List.range k).map fun j => sv T (b j)) rfl (HG.out.row.alloc _) W.heap.size (sv T bb) rfl (heap_new _ _ _) rfl (by omega) (by omega) (by simp; omega) ?_; intro g cap' W2 r1 r2 r3; have hp2 := (grown_block r2 (k := W1.heap.size) (by simp; omega) (fun e => by have := (own_lt HG.out.row _ e).1; omega)).trans ((Below.heap_alloc _ _ _ hpl).trans HG.out.all); have m3 : W2.cell? ⟨W1.heap.size, 0, none⟩ = some v := cell_of_row _ _ 0 _ _ _ hp2; have f3 := frozen_of_row W2 W1.heap.size 0 _ _ hp2; have HPP := Lib.hid (HPU.out W2 g cap' r1 r2 r3); clear r1 r2 r3 hp2)
    rw [← HP.out]
    exact HPP.out
  case done =>
    rintro D W rfl ⟨-, ⟨lo, hi', b, v, hG⟩, hbt, hsW⟩ hK
    obtain ⟨A2, cap2, g, rfl, hA2, hAl⟩ := hG.alive
    obtain rfl := hA2 (by omega)
    have HAL := Lib.hid hAl
    have hpz : W.cell? ⟨W1.heap.size, 0, none⟩ = some (.slice (some ⟨g, 0, none⟩) N cap2) := by rw [cell_of_row _ _ _ _ _ _ hG.all]; rfl
    have HPZ := Lib.hid hpz
    have HKZ := Lib.hid hK
    have HRZ := Lib.hid ((hbt.block w.heap.size (by omega) (by omega)).trans HR0.out)
    have BZ := Lib.hid (BW0.out.trans (hbt.old BW0.out.size (by omega)))
    have HLZ := Lib.hid (G.out.below BZ.out)
    clear hG hbt hAl hK HP0 HAT BW0 HR0 hi hz0 hz1 hz2
    gi_wp2
    gi_loopw [8] (fun I wr => ∃ (i : Nat) (c : Nat → Nat), I = .int .i64 (i : Int) ∧ i ≤ len ∧ (∀ k, k < N → Sm.Own k N i (c k)) ∧ Alive W wr (W0.heap.size + 2) g N T lo hi' b F c) (fun i _ => len - (intOf i).toNat)
    case atStart => exact ⟨0, fun _ => 0, rfl, by omega, fun k hk => Sm.own_zero hk, HAL.out⟩
    case round =>
      obtain ⟨i, c, rfl, hil, hO, hA⟩ := hrel
      have HO := Lib.hid hO
      have HA := Lib.hid hA
      clear hO hA
      have hsr := HA.out.old.size
      have pz := (HA.out.old.cell (p := ⟨W1.heap.size, 0, none⟩) (by show W1.heap.size < _; omega)).trans HPZ.out
      by_cases hlt : i < len
      · obtain ⟨k, hk⟩ : ∃ k, k = i % N := ⟨_, rfl⟩
        have hkN : k < N := by rw [hk]; exact Nat.mod_lt _ (by omega)
        have hrem : (i : Int).tmod (N : Int) = (k : Int) := by rw [hk]; rfl
        have rk := HA.out.row k hkN
        have hil' : i < xs.length := by rw [G.out.len]; exact hlt
        obtain ⟨lb, lo', hAe, hlb, hlc⟩ := HLZ.out.l.at_ hlt
        rw [List.getElem?_map, List.getElem?_eq_getElem hil'] at hlc
        obtain ⟨x, hx⟩ : ∃ x, x = xs[i] := ⟨_, rfl⟩
        rw [← hx] at hlc
        subst hAe
        have lz := (HA.out.old.cell (p := ⟨lb, lo' + i, none⟩) (by show lb < _; omega)).trans hlc
        have hval : Rm.dr (F k) (c k) 0 = x := by
          rw [Rm.dr_at, Nat.zero_add, HFE.out]
          show Sm.strF true 0 xs (k : Int) (N : Int) (c k) = x
          rw [Sm.strF_list (by omega)]
          show xs[k + c k * N]?.getD 0 = x
          rw [Sm.own_at (HO.out k hkN) hkN hk.symm, List.getElem?_eq_getElem hil', hx]
          rfl
        have K1 := bas_draw (HA.out.drew.bas k hkN)
        rw [hval] at K1
        have HK1 := Lib.hid K1
        obtain ⟨m1, m2, m3⟩ := (HA.out.bas k hkN).meth
        have HLC := Lib.hid hlc
        have HOY : Hid (∀ j, j < N → Sm.Own j N (i + 1) (if j = k then c k + 1 else c j)) := Lib.hid (fun j hj => by
          by_cases e : j = k
          · rw [if_pos e, e]; exact Sm.own_yes (HO.out k hkN) hkN hk.symm
          · rw [if_neg e]; exact Sm.own_no (HO.out j hj) hj (by omega))
        obtain ⟨bk, hbk⟩ : ∃ bk, bk = b k := ⟨_, rfl⟩
        have HBK := Lib.hid hbk
        rw [← hbk] at rk HK1
        have HHK := Lib.hid hk
        clear hval K1 hx hlc hk hbk
        gi_wp2
        refine wpIn_mono (?_ : Code.wpIn _ _ _ _ (NoPanic _) _ _) NoPanic.imp
        gi_region_with (refine ⟨trivial, ?_⟩; gi_at_fn (mOf T); refine (callsIn_wide.2 HK1.out).mono ?_; rintro _ U1 ⟨rfl, hc1, hb1⟩; have HA1 := Lib.hid (HA.out.drew.draw hkN (by rw [← HBK.out]; exact hc1) hb1 (by show _ ≤ wr.heap.size; have := HA.out.old.size; omega)); have lz1 := (HA1.out.old.cell (p := ⟨lb, lo' + i, none⟩) (by show lb < _; omega)).trans HLC.out; clear hc1 hb1)
        all_goals
          refine NoPanic.normal ?_
          clear HA HK1 HLC lz lz1 rk pz m1 m2 m3
          go_simp
          gi_wp2
          go_roundw
          case rel => exact ⟨i + 1, _, congrArg (Value.int .i64) (by omega), by omega, HOY.out, HA1.out⟩
          case measure => simp [intOf]; omega
      · obtain rfl : i = len := by omega
        have HEND : Hid (∀ k, k < N → Rm.dr (F k) (c k) 0 = 0) := Lib.hid (fun k hk => by
          rw [Rm.dr_at, Nat.zero_add, HFE.out]
          show Sm.strF true 0 xs (k : Int) (N : Int) (c k) = 0
          rw [Sm.strF_list (by omega)]
          show xs[k + c k * N]?.getD 0 = 0
          rw [List.getElem?_eq_none (by rw [G.out.len]; exact (HO.out k hk).1)]
          rfl)
        clear HAL pz
        gi_wp2
        gi_loopw [9] (fun I wr2 => ∃ (i2 : Nat) (c2 : Nat → Nat), I = .int .i64 (i2 : Int) ∧ i2 ≤ N ∧ (∀ k, k < N → i2 ≤ k → c2 k = c k) ∧ Alive W wr2 (W0.heap.size + 2) g N T lo hi' b F c2) (fun i _ => N - (intOf i).toNat)
        case atStart => exact ⟨0, c, rfl, by omega, fun _ _ _ => rfl, HA.out⟩
        case round =>
          clear HA HO
          obtain ⟨i2, c2, rfl, hil2, hO, hA⟩ := hrel
          have HO := Lib.hid hO
          have HA := Lib.hid hA
          clear hO hA
          have hsr2 := HA.out.old.size
          have pz := (HA.out.old.cell (p := ⟨W1.heap.size, 0, none⟩) (by show W1.heap.size < _; omega)).trans HPZ.out
          by_cases hlt2 : i2 < N
          · have rk := HA.out.row i2 hlt2
            have K1 := bas_draw (HA.out.bas i2 hlt2)
            rw [HO.out i2 hlt2 (Nat.le_refl _), HEND.out i2 hlt2] at K1
            have HK1 := Lib.hid K1
            obtain ⟨m1, m2, m3⟩ := (HA.out.bas i2 hlt2).meth
            have HOY : Hid (∀ k, k < N → i2 + 1 ≤ k → (if k = i2 then c2 i2 + 1 else c2 k) = c k) := Lib.hid (fun k hk h2 => by rw [if_neg (by omega)]; exact HO.out k hk (by omega))
            obtain ⟨bk, hbk⟩ : ∃ bk, bk = b i2 := ⟨_, rfl⟩
            have HBK := Lib.hid hbk
            rw [← hbk] at rk HK1
            clear K1 hbk
            gi_wp2_with fail
            refine ⟨trivial, ?_⟩
            refine (callsIn_wide.2 HK1.out).mono ?_
            rintro _ U1 ⟨rfl, hc1, hb1⟩
            have HA1 := Lib.hid (HA.out.draw hlt2 (by rw [HO.out i2 hlt2 (Nat.le_refl _), ← HBK.out]; exact hc1) hb1 (by omega))
            clear hc1 hb1 HA HK1 HO rk pz m1 m2 m3
            gi_wp2
            go_roundw
            case rel => exact ⟨i2 + 1, _, congrArg (Value.int .i64) (by omega), by omega, HOY.out, HA1.out⟩
            case measure => simp [intOf]; omega
          · have hr2 := (HA.out.old.block w.heap.size (by omega)).trans HRZ.out
            have hk2 := (HA.out.old.block W0.heap.size (by omega)).trans HKZ.out
            have cr : wr.cell? ⟨w.heap.size, 0, none⟩ = some (.bool false) := by rw [cell_of_row _ _ _ _ _ _ hr2]; rfl
            have fr := frozen_of_row wr w.heap.size 0 _ _ hr2
            have hr3 := heap_set_one (u := .bool true) hr2
            have hk3 := (heap_setCell_other wr ⟨w.heap.size, 0, none⟩ W0.heap.size (.bool true) (by show W0.heap.size ≠ w.heap.size; omega)).trans hk2
            have HU := Lib.hid ((BZ.out.trans (HA.out.old.mono (by omega))).setCell (p := ⟨w.heap.size, 0, none⟩) (Nat.le_refl _) (.bool true))
            have HR3 := Lib.hid hr3
            have HK3 := Lib.hid hk3
            have h0 : w.heap.size < W0.heap.size := by omega
            clear HA HO hr2 hk2 hr3 hk3 pz
            gi_wp2
            refine ⟨by simp, .inl ⟨_, _, rfl, run_takeDeferred HK3.out, ?_⟩⟩
            refine ⟨_, result_bool rfl _ _ w.heap.size true rfl ?_, rfl, HU.out.trans (below_put' (by omega) _)⟩
            rw [cell_of_row _ _ _ _ _ _ ((World.putObj_heap_other (by omega)).trans HR3.out)]
            rfl
  case stop =>
    rintro D c W hD h hK
    exact h.elim

theorem own : ownKnob Try.prog.godebug = none := by kernel_rfl
theorem laidOut : laidOutB Try.prog = true := by kernel_rfl
set_option maxRecDepth 100000 in
theorem lifted (os : Os) (started : os.Started) (H : Type) (enc : TypeId × Value → H) :
    ReturnsInHanded {} Try.checked os 5 .any (Rows.streamScriptsSpec.pre6 enc Try.prog Try.f5 Rows.streamScriptsRow.domain false) (Rows.streamScriptsSpec.post enc Try.prog Try.f5 false true false false) := by
  refine returnsInHanded_of_change (C := Try.checked) own started (by kernel_rfl) Try.func5
    (ChangeSpec.witness6 (enc := enc) (C := Try.checked) false ⟨#[], #[.slice none 0 0, .int .i64 0], []⟩ 8 (by kernel_rfl) (by kernel_rfl) (by kernel_rfl) (by kernel_rfl)) ?_
  intro W base args ds gs before hval0 hW hcnd _
  have hval : ∀ (j : Nat) t v, Try.f5.params[j]? = some t → args[j]? = some v → Value.okWide Try.prog W .any base t v := hval0
  have hW' := hW
  obtain ⟨p, q, hA0, hV, rfl, hfz, hnd⟩ := hW
  have hA : DataW.TrodAll enc Try.prog W 0 (fun _ => true) true Try.f5.params.toList args.toList ds p := hA0
  rw [Try.params5] at hA hval
  obtain ⟨v0, vs0, d0, ds0, p0, q0, hargs, rfl, rfl, h0, r0⟩ := trodAll_cons hA
  obtain ⟨v1, vs1, d1, ds1, p1, q1, rfl, rfl, rfl, h1, r1⟩ := trodAll_cons r0
  obtain ⟨rfl, rfl, rfl⟩ := trodAll_nil r1
  obtain rfl : args = #[v0, v1] := by cases args; simp_all
  obtain ⟨rfl, rfl⟩ := trodVars_none hV
  obtain ⟨a0, len0, cap0, rfl⟩ := okWide_slice Try.underlying23 (hval 0 23 v0 rfl rfl)
  have k0 := h0
  have lt0 : ∀ x ∈ p0, x.block < W.heap.size := by obtain ⟨m, hm⟩ := k0; exact DataW.trod_lt m _ _ _ hm
  obtain ⟨z0, w0⟩ : ∃ zs, IsRow .u64 W a0 len0 cap0 zs := by
    obtain ⟨fuel, hf⟩ := h0
    rcases open_ints Try.underlying23 Try.underlying22 (by kernel_rfl) hf with ⟨hcs, _⟩ | ⟨x, l, c, zs, hcs, _, hl, hm, hz, _, hcell, hwz⟩
    · simp [Value.cells] at hcs
      obtain ⟨rfl, rfl, rfl⟩ := hcs
      exact ⟨[], .inl ⟨rfl, rfl, rfl, rfl⟩⟩
    · simp [Value.cells] at hcs
      obtain ⟨rfl, rfl, rfl⟩ := hcs
      exact ⟨zs, .inr ⟨_, rfl, hl, hm, by simpa using hz, hcell, hwz⟩⟩
  obtain ⟨a1, rfl, rfl, rfl, w1⟩ := open_int Try.underlying3 (hval 1 3 v1 rfl rfl) h1
  clear hA0 hval0
  refine (walk a0 len0 cap0 z0 a1 W w0 w1).mono fun e W' ⟨he, bel⟩ => ?_
  subst he
  exact ⟨_, rfl, _, _, _, [], _, [], hW', trodAll_mk1 (shut_bool Try.underlying4 _), (trodAll_cons_mk (Below.trod laidOut (by kernel_rfl) (of_decide_eq_true (by kernel_rfl)) k0 bel lt0) (trodAll_cons_mk (shut_int Try.underlying3 w1) trodAll_mk0)), rfl, bel.frame _, fun h => by cases h⟩
theorem over : Rows.streamScriptsRow.holds Try.pinned (OpenSpec.ofChange Rows.streamScriptsSpec) :=
  OpenClaim.holds_of_wide 5 Try.f5 rfl rfl rfl rfl rfl rfl rfl ⟨rfl, rfl, rfl, rfl, rfl⟩ rfl rfl rfl rfl rfl (by kernel_rfl) Try.func5 (by kernel_rfl)
    (of_decide_eq_true (by kernel_rfl)) (by unfold Func.isWrapper; first | (rw [if_pos (by decide +kernel)]; kernel_rfl) | (rw [if_neg (by decide +kernel)]; exact ⟨rfl, rfl⟩))
    (fun os started H enc _ => lifted os started H enc)
/-- the statement -/
theorem proved : Rows.StreamScriptsSaid := over
#print axioms proved
end streamScripts
end Go.Proofs.Ytggbclkinndpnaa
