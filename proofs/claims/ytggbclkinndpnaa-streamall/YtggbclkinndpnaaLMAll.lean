/-
  StreamAll: all trees' streams are told, each once, in order; they tell what each does alone, in whatever order they are asked. No condition.
-/
import Derived.Test.YtggbclkinndpnaaMIter
import Derived.Lib.SmallJoins
import Derived.Deep.DeepCutAuto
import Derived.Deep.WholeRow
import Derived.OpenShut
namespace Go.Proofs.Ytggbclkinndpnaa
open Go.RowKit Go.Joins Go.ChangeShapes Go.WideShapes Go.Deep Go.Shelf
namespace streamAll
attribute [local go_sem] Oper.semAt_some

/-- which streams were not asked yet, when i were -/
def Fresh (back : Bool) (N i : Nat) (c : Nat → Nat) : Prop := ∀ k, k < N → (if back then k + i < N else i ≤ k) → c k = 0
theorem fresh_kk {back : Bool} {N i : Nat} {c : Nat → Nat} (h : Fresh back N i c) (hi : i < N) : ∃ kk, kk < N ∧ (if back then (N : Int) - 1 - (i : Int) else (i : Int)) = (kk : Int) ∧ c kk = 0 ∧ ∀ c2 : Nat → Nat, (∀ k, k ≠ kk → c2 k = c k) → Fresh back N (i + 1) c2 := by
  cases back with
  | true =>
    refine ⟨N - 1 - i, by omega, by simp; omega, h _ (by omega) (by simp; omega), fun c2 h2 k hk hf => ?_⟩
    simp only [if_true] at hf
    rw [h2 k (by omega)]
    exact h k hk (by simp; omega)
  | false =>
    refine ⟨i, hi, rfl, h i hi (by simp), fun c2 h2 k hk hf => ?_⟩
    have hf' : i + 1 ≤ k := by simpa using hf
    rw [h2 k (by omega)]
    exact h k hk (by simp; omega)
/-- the stream and the document's have told the same j draws -/
structure Both (Wz W : World) (B g N T : Nat) (lo hi b : Nat → Nat) (F : Nat → Nat → Int) (c c2 : Nat → Nat) (kk m ho j : Nat) : Prop where
  a : Alive Wz W B g N T lo hi b F c2
  r : Rdr W m ho (Rm.dr (F kk) j) j
  k : c2 kk = j
  o : ∀ k, k ≠ kk → c2 k = c k

set_option maxHeartbeats 1600000 in
set_option maxRecDepth 100000 in
theorem walk (sc : Bool) (s : Int) (A : Option Addr) (len cap : Nat) (z : List Int) (trees : Int) (back : Bool) (w : World) (wd : (Lit.int .u64 s).wf = true ∧ IsRow .u64 w A len cap z) (wn : (Lit.int .i64 trees).wf = true) :
    Calls Try.prog 4 #[.agg #[.bool sc, .int .u64 s, .slice A len cap], .int .i64 trees, .bool back] w fun e w' => e = .returned (.bool true) ∧ Below w.heap.size w w' := by
  have q1 := iface_eql
  have G := Lib.hid (Dws.of_row wd.1 wd.2)
  have bn := bounds_i64 wn
  clear wd wn
  obtain ⟨D, hD⟩ : ∃ D, D = (w.alloc (.cells #[.bool sc, .int .u64 s, .slice A len cap] 25)).alloc (.cells #[.bool false] 4) := ⟨_, rfl⟩
  have B0 : Hid (Below w.heap.size w D) := by rw [hD]; exact ((Below.refl _ _).alloc (Nat.le_refl _) _).alloc (by simp) _
  have sD : D.heap.size = w.heap.size + 2 := by rw [hD]; simp
  have HD0 : Hid (D.heap[w.heap.size]? = some (.cells #[.bool sc, .int .u64 s, .slice A len cap] 25 (0, 0))) := by rw [hD]; exact (Below.heap_alloc _ _ _ (by simp)).trans (heap_new w _ _)
  have HD1 : Hid (D.heap[w.heap.size + 1]? = some (.cells #[.bool false] 4 (0, 0))) := by rw [hD]; exact heap_alloc2_new w _ _
  refine (callsIn_wide (n := 6)).1 ?_
  refine callsIn_of_wp_marks Try.func4 rfl trivial ?_ rfl
  simp only [Try.ntmps4, List.size_toArray, List.length_cons, List.length_nil, Nat.reduceAdd, Nat.reduceSub, Array.replicate_succ, Array.replicate_zero, List.push_toArray, List.append_toArray, List.nil_append, List.cons_append]
  gi_wp2_with fail
  rw [← hD]
  refine ⟨trivial, ?_⟩
  refine (callsIn_wide.2 (awake_any _)).mono ?_
  rintro _ W1 ⟨rfl, b1⟩
  have B1 := Lib.hid (B0.out.trans (b1.mono B0.out.size))
  have hd := (b1.block w.heap.size (by omega)).trans HD0.out
  have hr := (b1.block (w.heap.size + 1) (by omega)).trans HD1.out
  have s1 : w.heap.size + 2 ≤ W1.heap.size := by have := b1.size; omega
  have c0 : W1.cell? ⟨w.heap.size + 1, 0, none⟩ = some (.bool false) := by rw [cell_of_row _ _ _ _ _ _ hr]; rfl
  have f0 := frozen_of_row W1 (w.heap.size + 1) 0 _ _ hr
  have d0 : W1.cell? ⟨w.heap.size, 0, none⟩ = some (.bool sc) := by rw [cell_of_row _ _ _ _ _ _ hd]; rfl
  have d1 : W1.cell? ⟨w.heap.size, 1, none⟩ = some (.int .u64 s) := by rw [cell_of_row _ _ _ _ _ _ hd]; rfl
  have d2 : W1.cell? ⟨w.heap.size, 2, none⟩ = some (.slice A len cap) := by rw [cell_of_row _ _ _ _ _ _ hd]; rfl
  have HR := Lib.hid hr
  have HDD := Lib.hid hd
  clear b1 hr hd B0 HD0 HD1 hD
  by_cases g1 : 500 < len
  · gi_wp2
    refine ⟨_, result_bool rfl _ _ (w.heap.size + 1) true rfl ?_, rfl, B1.out.setCell (by show _ ≤ w.heap.size + 1; omega) _⟩
    rw [cell_of_row _ _ _ _ _ _ (heap_set_one HR.out)]; rfl
  by_cases g2 : 60 < trees
  · gi_wp2
    refine ⟨_, result_bool rfl _ _ (w.heap.size + 1) true rfl ?_, rfl, B1.out.setCell (by show _ ≤ w.heap.size + 1; omega) _⟩
    rw [cell_of_row _ _ _ _ _ _ (heap_set_one HR.out)]; rfl
  obtain ⟨N, hN⟩ : ∃ N : Nat, N = 0 ∧ trees ≤ 0 ∨ trees = N := ⟨trees.toNat, by omega⟩
  have hN60 : N ≤ 60 := by omega
  obtain ⟨xs, hxs⟩ : ∃ xs, xs = z.take len := ⟨_, rfl⟩
  rw [← hxs] at G
  clear hxs
  obtain ⟨Wa, hWa⟩ : ∃ Wa, Wa = W1.alloc (.cells #[.slice none 0 0] 35) := ⟨_, rfl⟩
  have BA : Hid (Below w.heap.size w Wa) := by rw [hWa]; exact B1.out.alloc B1.out.size _
  have HK := Lib.hid (strAll_any sc s A len cap xs trees Wa ((G.out.below BA.out).more BA.out.size) (by omega))
  have e0 := (World.cell?_of_block (w := W1) (a := ⟨w.heap.size, 0, none⟩) (Below.heap_alloc W1 (.cells #[.slice none 0 0] 35) _ (by show w.heap.size < _; omega))).trans d0
  have e1 := (World.cell?_of_block (w := W1) (a := ⟨w.heap.size, 1, none⟩) (Below.heap_alloc W1 (.cells #[.slice none 0 0] 35) _ (by show w.heap.size < _; omega))).trans d1
  have e2 := (World.cell?_of_block (w := W1) (a := ⟨w.heap.size, 2, none⟩) (Below.heap_alloc W1 (.cells #[.slice none 0 0] 35) _ (by show w.heap.size < _; omega))).trans d2
  gi_wp2_with fail
  rw [← hWa]
  refine ⟨trivial, ?_⟩
  refine (callsIn_wide.2 HK.out).mono ?_
  rintro _ W0 ⟨rfl, s', A', n', c', xs', hat, hal, hb0⟩
  have hpA : Wa.heap[W1.heap.size]? = some (.cells #[.slice none 0 0] 35 (0, 0)) := by rw [hWa]; exact heap_new _ _ _
  have hsA : Wa.heap.size = W1.heap.size + 1 := by rw [hWa]; simp
  have HP0 := Lib.hid ((hb0.block _ (by omega)).trans hpA)
  have HAT := Lib.hid hat
  have HAL := Lib.hid hal
  have BW0 := Lib.hid (BA.out.trans (hb0.mono BA.out.size))
  have HR0 : Hid (W0.heap[w.heap.size + 1]? = some (.cells #[.bool false] 4 (0, 0))) := Lib.hid ((hb0.block _ (by omega)).trans (by rw [hWa]; exact (Below.heap_alloc _ _ _ (by omega)).trans HR.out))
  have HDD0 : Hid (W0.heap[w.heap.size]? = some (.cells #[.bool sc, .int .u64 s, .slice A len cap] 25 (0, 0))) := Lib.hid ((hb0.block _ (by omega)).trans (by rw [hWa]; exact (Below.heap_alloc _ _ _ (by omega)).trans HDD.out))
  have s0 : W1.heap.size + 1 ≤ W0.heap.size := by have := hb0.size; omega
  have hlt0 := hat.lt
  rw [hsA] at HAT hlt0
  clear hat hal hb0 HK hWa hpA HR HDD c0 f0 d0 d1 d2 e0 e1 e2 BA B1
  rw [hsA]
  gi_wp2
  obtain ⟨F, hF⟩ : ∃ F : Nat → Nat → Int, F = fun (k : Nat) => Sm.strF sc s xs (k : Int) trees := ⟨_, rfl⟩
  obtain ⟨T, hT⟩ : ∃ T : Nat, T = if sc then 49 else 53 := ⟨_, rfl⟩
  have HT : Hid (∀ k : Nat, k < N → strT sc k trees = T) := Lib.hid (fun k hk => by unfold strT; rw [if_neg (by omega), hT])
  have HF : Hid (∀ k : Nat, k < N → Sm.strF sc s' xs' k trees = F k) := Lib.hid (fun k hk => by rw [hF]; exact HAL.out k trees)
  have HFE := Lib.hid hF
  clear hF hT HAL
  obtain ⟨i0, hi, hz0, hz1, hz2⟩ := info_parts Try.infoSrc
  have HN := Lib.hid hN
  refine range_keeps (n := 6) rfl (by omega) (gf := 18) (lb := #[.pointer (some ⟨W1.heap.size + 1 + 1, 0, none⟩), .pointer (some ⟨W1.heap.size + 1, 0, none⟩)]) rfl trivial (enters_of Try.func18 (by kernel_rfl) rfl)
    (fun k W => GI W0 W1.heap.size T N F k W)
    (fun k vs W => ∃ bb, vs = #[.int .i64 (k : Int), sv T bb] ∧ GM W0 W1.heap.size T N F k bb W)
    (fun W => GI W0 W1.heap.size T N F N W)
    (fun _ _ => False)
    (fun vs t => (((t.setIfInBounds 27 (vs.getD 0 undef)).setIfInBounds 28 (vs.getD 1 undef)).setIfInBounds 8 (vs.getD 0 undef)).setIfInBounds 9 (vs.getD 1 undef))
    (fun k W W' h ho => h.off ho (by omega)) (fun k vs W W' h ho => by obtain ⟨bb, h1, h2⟩ := h; exact ⟨bb, h1, h2.off ho (by omega)⟩) (fun W W' h ho => h.off ho (by omega))
    (fun c W W' h hb => h) (fun k vs W h => by obtain ⟨bb, h1, -⟩ := h; rw [h1]; rfl) (fun W hb hs => GI.start HP0.out hb hs) ?iter ?assign ?body ?done ?stop
  case iter =>
    intro l B Y hB hY W hi hb
    exact gather (m := 5) sc s' A' xs' trees HN.out (by omega) HAT.out (by omega) (by omega) HT.out HF.out B Y hB (fun k bb W h hB => hY k _ W ⟨bb, rfl, h⟩ hB) W hi hb
  case assign =>
    rintro l k vs W K ⟨bb, rfl, -⟩ hK
    gi_wp2
    exact hK
  case body =>
    rintro l k vs W ⟨bb, rfl, hk, ⟨lo, hi', b, v, L, hG, hbas, hL, hL', hg⟩, hw, hs⟩
    obtain ⟨A2, cap2, rfl, -⟩ := own_form hG.row
    have hpc : W.cell? ⟨W1.heap.size, 0, none⟩ = some (.slice A2 k cap2) := by rw [cell_of_row _ _ _ _ _ _ hG.all]; rfl
    have hpf := frozen_of_row W W1.heap.size 0 _ _ hG.all
    generalize hP : leftBy W0.heap.size _ _ W = Pst
    have HP := Lib.hid hP
    have HG := Lib.hid hG
    have HPU := Lib.hid (fun (W2 : World) (g cap : Nat) => GM.push (W2 := W2) (g := g) (cap := cap) (N := N) hk hG hbas hL hL' hg hw hs (by omega))
    have hpl : W1.heap.size < W.heap.size := by omega
    clear hP hG hbas hL hL' hg hw hN
    gi_wp2_with (gi_at_builtin; refine push_in _ rfl (.tmp 37) (.tmp 39) 35 rfl (W0.heap.size + 2) 28 i0 .nilIface 16 Try.underlying35 hi hz0 hz1 hz2 rfl (.slice A2 k cap2) k ((List.range k).map fun j => sv T (b j)) rfl (HG.out.row.alloc _) W.heap.size (sv T bb) rfl (heap_new _ _ _) rfl (by omega) (by omega) (by simp; omega) ?_; intro g cap' W2 r1 r2 r3; have hp2 := (grown_block r2 (k := W1.heap.size) (by simp; omega) (fun e => by have := (own_lt HG.out.row _ e).1; omega)).trans ((Below.heap_alloc _ _ _ hpl).trans HG.out.all); have m3 : W2.cell? ⟨W1.heap.size, 0, none⟩ = some (.slice A2 k cap2) := cell_of_row _ _ 0 _ _ _ hp2; have f3 := frozen_of_row W2 W1.heap.size 0 _ _ hp2; have HPP := Lib.hid (HPU.out W2 g cap' r1 r2 r3); clear r1 r2 r3 hp2)
    rw [← HP.out]
    exact HPP.out
  case done =>
    rintro D W rfl ⟨-, ⟨lo, hi', b, v, hG⟩, hbt, hsW⟩ hK
    obtain ⟨A2, cap2, g, rfl, hA2, hAl⟩ := hG.alive
    have HAL := Lib.hid hAl
    have hpz : W.cell? ⟨W1.heap.size, 0, none⟩ = some (.slice A2 N cap2) := by rw [cell_of_row _ _ _ _ _ _ hG.all]; rfl
    have HPZ := Lib.hid hpz
    have HKZ := Lib.hid hK
    have HRZ := Lib.hid ((hbt.block (w.heap.size + 1) (by omega) (by omega)).trans HR0.out)
    have HDZ := Lib.hid ((hbt.block w.heap.size (by omega) (by omega)).trans HDD0.out)
    have BZ := Lib.hid (BW0.out.trans (hbt.old BW0.out.size (by omega)))
    have HLZ := Lib.hid (G.out.below BZ.out)
    have HA2 := Lib.hid hA2
    have hmax : max trees 0 = (N : Int) := by omega
    have hmax' : (if trees < 0 then 0 else trees) = (N : Int) := by split <;> omega
    clear hG hbt hAl hK HP0 HAT BW0 HR0 HDD0 hi hz0 hz1 hz2 hA2 hN
    gi_wp2
    gi_loopw [10] (fun I wr => ∃ (i : Nat) (c : Nat → Nat), I = .int .i64 (i : Int) ∧ i ≤ N ∧ Fresh back N i c ∧ Alive W wr (W0.heap.size + 2) g N T lo hi' b F c) (fun i _ => N - (intOf i).toNat)
    case atStart => exact ⟨0, fun _ => 0, rfl, by omega, fun _ _ _ => rfl, HAL.out⟩
    case round =>
      clear HAL hmax hmax'
      obtain ⟨i, c, rfl, hil, hO, hA⟩ := hrel
      have HO := Lib.hid hO
      have HA := Lib.hid hA
      clear hO hA
      have hsr := HA.out.old.size
      have pz := (HA.out.old.cell (p := ⟨W1.heap.size, 0, none⟩) (by show W1.heap.size < _; omega)).trans HPZ.out
      by_cases hlt : i < N
      · obtain rfl := HA2.out (by omega)
        obtain ⟨kk, hkN, hkv, hck, hnx⟩ := fresh_kk HO.out hlt
        have HNX := Lib.hid hnx
        have dz0 := (HA.out.old.cell (p := ⟨w.heap.size, 0, none⟩) (by show w.heap.size < _; omega)).trans ((cell_of_row _ _ 0 _ _ _ HDZ.out).trans (show _ = some (Value.bool sc) from rfl))
        have dz1 := (HA.out.old.cell (p := ⟨w.heap.size, 1, none⟩) (by show w.heap.size < _; omega)).trans ((cell_of_row _ _ 1 _ _ _ HDZ.out).trans (show _ = some (Value.int .u64 s) from rfl))
        have dz2 := (HA.out.old.cell (p := ⟨w.heap.size, 2, none⟩) (by show w.heap.size < _; omega)).trans ((cell_of_row _ _ 2 _ _ _ HDZ.out).trans (show _ = some (Value.slice A len cap) from rfl))
        have KR := refOf_any sc s A len cap xs (kk : Int) trees wr ((HLZ.out.below (HA.out.old.mono (by omega))).more (by omega)) (by omega) (by omega)
        rw [show Sm.strF sc s xs (kk : Int) trees = F kk from by rw [HFE.out]] at KR
        have HKR := Lib.hid KR
        have HCK := Lib.hid hck
        clear hnx KR hck HO
        cases back with
        | true =>
          have hkv' : (N : Int) - 1 - (i : Int) = (kk : Int) := hkv
          clear hkv
          gi_wp2_with fail
          refine ⟨trivial, ?_⟩
          refine (callsIn_wide.2 HKR.out).mono ?_
          rintro _ W2 ⟨m, rfl, hm, hrd, hb2⟩
          have HB : Hid (Both W W2 (W0.heap.size + 2) g N T lo hi' b F c c kk m W2.heap.size 0) := ⟨HA.out.below hb2 (by omega), hrd, HCK.out, fun _ _ => rfl⟩
          have HLT : Hid (∀ j, j < N → hi' j ≤ m) := Lib.hid (fun j hj => Nat.le_trans (HA.out.bas j hj).size hm)
          have HGM : Hid (g < m) := Lib.hid (Nat.lt_of_lt_of_le (cell_block_lt (HA.out.row 0 (by omega))) hm)
          clear hrd hb2 HA HKR HCK pz dz0 dz1 dz2
          gi_wp2
          gi_loopw [13] (fun J wr2 => ∃ (j : Nat) (c2 : Nat → Nat), J = .int .i64 (j : Int) ∧ j ≤ 5 ∧ Both W wr2 (W0.heap.size + 2) g N T lo hi' b F c c2 kk m W2.heap.size j) (fun j _ => 5 - (intOf j).toNat)
          case atStart => exact ⟨0, c, rfl, by omega, HB.out⟩
          case round =>
            clear HB
            obtain ⟨j, c2, rfl, hj5, hB⟩ := hrel
            have HB := Lib.hid hB
            clear hB
            have hsr2 := HB.out.a.old.size
            by_cases hj : j < 5
            · have pz := (HB.out.a.old.cell (p := ⟨W1.heap.size, 0, none⟩) (by show W1.heap.size < _; omega)).trans HPZ.out
              have rk := HB.out.a.row kk hkN
              have K1 := bas_draw (HB.out.a.bas kk hkN)
              obtain ⟨x, hx⟩ : ∃ x, x = Rm.dr (F kk) j 0 := ⟨_, rfl⟩
              rw [HB.out.k, ← hx] at K1
              have HK1 := Lib.hid K1
              have HX := Lib.hid hx
              obtain ⟨m1, m2, m3⟩ := (HB.out.a.bas kk hkN).meth
              obtain ⟨bk, hbk⟩ : ∃ bk, bk = b kk := ⟨_, rfl⟩
              have HBK := Lib.hid hbk
              rw [← hbk] at rk HK1
              clear K1 hbk hx
              gi_wp2_with fail
              refine ⟨trivial, ?_⟩
              refine (callsIn_wide.2 HK1.out).mono ?_
              rintro _ U1 ⟨rfl, hc1, hb1⟩
              have HA1 := Lib.hid (HB.out.a.draw hkN (by rw [HB.out.k, ← HBK.out]; exact hc1) hb1 (by omega))
              have HR1 := Lib.hid (HB.out.r.other hb1 (.inr (HLT.out kk hkN)))
              have K2 := refDraw_any HR1.out (by omega)
              rw [← HX.out] at K2
              have HK2 := Lib.hid K2
              have sU : wr.heap.size ≤ U1.heap.size := hb1.size
              clear hc1 hb1 HK1 rk pz m1 m2 m3 K2
              gi_wp2_with fail
              refine ⟨trivial, ?_⟩
              refine (callsIn_wide.2 HK2.out).mono ?_
              rintro _ U2 ⟨rfl, hr2, hb2⟩
              have HB2 : Hid (Both W U2 (W0.heap.size + 2) g N T lo hi' b F c (fun q => if q = kk then c2 kk + 1 else c2 q) kk m W2.heap.size (j + 1)) :=
                ⟨HA1.out.other hb2 (by omega) HLT.out (fun _ => HGM.out) (by omega) (by have := HR1.out.lt; have := HR1.out.size; omega), by rw [Rm.dr_dr] at hr2; exact hr2, by simp only [if_pos]; rw [HB.out.k], fun q hq => by simp only [if_neg hq]; exact HB.out.o q hq⟩
              clear hr2 hb2 HK2 HA1 HR1 HB
              gi_wp2
              go_roundw
              case rel => exact ⟨j + 1, _, congrArg (Value.int .i64) (by omega), by omega, HB2.out⟩
              case measure => simp [intOf]; omega
            · have HF2 := Lib.hid (HNX.out c2 HB.out.o)
              have HA3 := Lib.hid HB.out.a
              clear HB
              gi_wp2
              go_roundw
              case rel => exact ⟨i + 1, c2, congrArg (Value.int .i64) (by omega), by omega, HF2.out, HA3.out⟩
              case measure => simp [intOf]; omega
        | false =>
          obtain rfl : i = kk := by have : (i : Int) = (kk : Int) := hkv; omega
          clear hkv
          gi_wp2_with fail
          refine ⟨trivial, ?_⟩
          refine (callsIn_wide.2 HKR.out).mono ?_
          rintro _ W2 ⟨m, rfl, hm, hrd, hb2⟩
          have HB : Hid (Both W W2 (W0.heap.size + 2) g N T lo hi' b F c c i m W2.heap.size 0) := ⟨HA.out.below hb2 (by omega), hrd, HCK.out, fun _ _ => rfl⟩
          have HLT : Hid (∀ j, j < N → hi' j ≤ m) := Lib.hid (fun j hj => Nat.le_trans (HA.out.bas j hj).size hm)
          have HGM : Hid (g < m) := Lib.hid (Nat.lt_of_lt_of_le (cell_block_lt (HA.out.row 0 (by omega))) hm)
          clear hrd hb2 HA HKR HCK pz dz0 dz1 dz2
          gi_wp2
          gi_loopw [13] (fun J wr2 => ∃ (j : Nat) (c2 : Nat → Nat), J = .int .i64 (j : Int) ∧ j ≤ 5 ∧ Both W wr2 (W0.heap.size + 2) g N T lo hi' b F c c2 i m W2.heap.size j) (fun j _ => 5 - (intOf j).toNat)
          case atStart => exact ⟨0, c, rfl, by omega, HB.out⟩
          case round =>
            clear HB
            obtain ⟨j, c2, rfl, hj5, hB⟩ := hrel
            have HB := Lib.hid hB
            clear hB
            have hsr2 := HB.out.a.old.size
            by_cases hj : j < 5
            · have pz := (HB.out.a.old.cell (p := ⟨W1.heap.size, 0, none⟩) (by show W1.heap.size < _; omega)).trans HPZ.out
              have rk := HB.out.a.row i hkN
              have K1 := bas_draw (HB.out.a.bas i hkN)
              obtain ⟨x, hx⟩ : ∃ x, x = Rm.dr (F i) j 0 := ⟨_, rfl⟩
              rw [HB.out.k, ← hx] at K1
              have HK1 := Lib.hid K1
              have HX := Lib.hid hx
              obtain ⟨m1, m2, m3⟩ := (HB.out.a.bas i hkN).meth
              obtain ⟨bk, hbk⟩ : ∃ bk, bk = b i := ⟨_, rfl⟩
              have HBK := Lib.hid hbk
              rw [← hbk] at rk HK1
              clear K1 hbk hx
              gi_wp2_with fail
              refine ⟨trivial, ?_⟩
              refine (callsIn_wide.2 HK1.out).mono ?_
              rintro _ U1 ⟨rfl, hc1, hb1⟩
              have HA1 := Lib.hid (HB.out.a.draw hkN (by rw [HB.out.k, ← HBK.out]; exact hc1) hb1 (by omega))
              have HR1 := Lib.hid (HB.out.r.other hb1 (.inr (HLT.out i hkN)))
              have K2 := refDraw_any HR1.out (by omega)
              rw [← HX.out] at K2
              have HK2 := Lib.hid K2
              have sU : wr.heap.size ≤ U1.heap.size := hb1.size
              clear hc1 hb1 HK1 rk pz m1 m2 m3 K2
              gi_wp2_with fail
              refine ⟨trivial, ?_⟩
              refine (callsIn_wide.2 HK2.out).mono ?_
              rintro _ U2 ⟨rfl, hr2, hb2⟩
              have HB2 : Hid (Both W U2 (W0.heap.size + 2) g N T lo hi' b F c (fun q => if q = i then c2 i + 1 else c2 q) i m W2.heap.size (j + 1)) :=
                ⟨HA1.out.other hb2 (by omega) HLT.out (fun _ => HGM.out) (by omega) (by have := HR1.out.lt; have := HR1.out.size; omega), by rw [Rm.dr_dr] at hr2; exact hr2, by simp only [if_pos]; rw [HB.out.k], fun q hq => by simp only [if_neg hq]; exact HB.out.o q hq⟩
              clear hr2 hb2 HK2 HA1 HR1 HB
              gi_wp2
              go_roundw
              case rel => exact ⟨j + 1, _, congrArg (Value.int .i64) (by omega), by omega, HB2.out⟩
              case measure => simp [intOf]; omega
            · have HF2 := Lib.hid (HNX.out c2 HB.out.o)
              have HA3 := Lib.hid HB.out.a
              clear HB
              gi_wp2
              go_roundw
              case rel => exact ⟨i + 1, c2, congrArg (Value.int .i64) (by omega), by omega, HF2.out, HA3.out⟩
              case measure => simp [intOf]; omega
      · have hr2 := (HA.out.old.block (w.heap.size + 1) (by omega)).trans HRZ.out
        have hk2 := (HA.out.old.block W0.heap.size (by omega)).trans HKZ.out
        have cr : wr.cell? ⟨w.heap.size + 1, 0, none⟩ = some (.bool false) := by rw [cell_of_row _ _ _ _ _ _ hr2]; rfl
        have fr := frozen_of_row wr (w.heap.size + 1) 0 _ _ hr2
        have hr3 := heap_set_one (u := .bool true) hr2
        have hk3 := (heap_setCell_other wr ⟨w.heap.size + 1, 0, none⟩ W0.heap.size (.bool true) (by show W0.heap.size ≠ w.heap.size + 1; omega)).trans hk2
        have HU := Lib.hid ((BZ.out.trans (HA.out.old.mono (by omega))).setCell (p := ⟨w.heap.size + 1, 0, none⟩) (by show _ ≤ w.heap.size + 1; omega) (.bool true))
        have HR3 := Lib.hid hr3
        have HK3 := Lib.hid hk3
        have h0 : w.heap.size + 1 < W0.heap.size := by omega
        clear HA HO hr2 hk2 hr3 hk3
        gi_wp2
        refine ⟨by simp, .inl ⟨_, _, rfl, run_takeDeferred HK3.out, ?_⟩⟩
        refine ⟨_, result_bool rfl _ _ (w.heap.size + 1) true rfl ?_, rfl, HU.out.trans (below_put' (by omega) _)⟩
        rw [cell_of_row _ _ _ _ _ _ ((World.putObj_heap_other (by omega)).trans HR3.out)]
        rfl
  case stop =>
    rintro D c W hD h hK
    exact h.elim

theorem own : ownKnob Try.prog.godebug = none := by kernel_rfl
theorem laidOut : laidOutB Try.prog = true := by kernel_rfl
set_option maxRecDepth 100000 in
theorem lifted (os : Os) (started : os.Started) (H : Type) (enc : TypeId × Value → H) :
    ReturnsInHanded {} Try.checked os 4 .any (Rows.streamAllSpec.pre6 enc Try.prog Try.f4 Rows.streamAllRow.domain false) (Rows.streamAllSpec.post enc Try.prog Try.f4 false true false false) := by
  refine returnsInHanded_of_change (C := Try.checked) own started (by kernel_rfl) Try.func4
    (ChangeSpec.witness6 (enc := enc) (C := Try.checked) false ⟨#[], #[.agg #[.bool false, .int .u64 0, .slice none 0 0], .int .i64 0, .bool false], []⟩ 8 (by kernel_rfl) (by kernel_rfl) (by kernel_rfl) (by kernel_rfl)) ?_
  intro W base args ds gs before hval0 hW hcnd _
  have hval : ∀ (j : Nat) t v, Try.f4.params[j]? = some t → args[j]? = some v → Value.okWide Try.prog W .any base t v := hval0
  have hW' := hW
  obtain ⟨p, q, hA0, hV, rfl, hfz, hnd⟩ := hW
  have hA : DataW.TrodAll enc Try.prog W 0 (fun _ => true) true Try.f4.params.toList args.toList ds p := hA0
  rw [Try.params4] at hA hval
  obtain ⟨v0, vs0, d0, ds0, p0, q0, hargs, rfl, rfl, h0, r0⟩ := trodAll_cons hA
  obtain ⟨v1, vs1, d1, ds1, p1, q1, rfl, rfl, rfl, h1, r1⟩ := trodAll_cons r0
  obtain ⟨v2, vs2, d2, ds2, p2, q2, rfl, rfl, rfl, h2, r2⟩ := trodAll_cons r1
  obtain ⟨rfl, rfl, rfl⟩ := trodAll_nil r2
  obtain rfl : args = #[v0, v1, v2] := by cases args; simp_all
  obtain ⟨rfl, rfl⟩ := trodVars_none hV
  have k0 := h0
  have lt0 : ∀ x ∈ p0, x.block < W.heap.size := by obtain ⟨m, hm⟩ := k0; exact DataW.trod_lt m _ _ _ hm
  obtain ⟨s0, e0, a0, len0, cap0, z0, g0, w0⟩ : ∃ (sc : Bool) (se : Int) (a : Option Addr) (len cap : Nat) (zs : List Int), v0 = .agg #[.bool sc, .int .u64 se, .slice a len cap] ∧ (Lit.int .u64 se).wf = true ∧ IsRow .u64 W a len cap zs := by
    obtain ⟨u0, u1, u2, y0, y1, y2, n, rfl, -, -, t0, t1, t2⟩ := open_agg3 Try.underlying25 (by kernel_rfl) (by kernel_rfl) (hval 0 25 v0 rfl rfl) h0
    obtain ⟨sc, hsc, -⟩ := DataW.trod_bool Try.underlying4 t0
    obtain ⟨se, hse, -, hw⟩ := DataW.trod_int Try.underlying22 t1
    simp at hsc hse
    subst hsc
    subst hse
    rcases open_ints Try.underlying23 Try.underlying22 (by kernel_rfl) t2 with ⟨hcs, _⟩ | ⟨x, l, c, zs, hcs, _, hl, hm, hz, _, hcell, hwz⟩
    · simp at hcs
      subst hcs
      exact ⟨sc, se, none, 0, 0, [], rfl, hw, .inl ⟨rfl, rfl, rfl, rfl⟩⟩
    · simp at hcs
      subst hcs
      exact ⟨sc, se, some x, l, c, zs, rfl, hw, .inr ⟨_, rfl, hl, hm, by simpa using hz, hcell, hwz⟩⟩
  subst g0
  obtain ⟨a1, rfl, rfl, rfl, w1⟩ := open_int Try.underlying3 (hval 1 3 v1 rfl rfl) h1
  obtain ⟨a2, rfl, rfl, rfl⟩ := open_bool Try.underlying4 (hval 2 4 v2 rfl rfl) h2
  clear hA0 hval0
  refine (walk s0 e0 a0 len0 cap0 z0 a1 a2 W w0 w1).mono fun e W' ⟨he, bel⟩ => ?_
  subst he
  exact ⟨_, rfl, _, _, _, [], _, [], hW', trodAll_mk1 (shut_bool Try.underlying4 _), (trodAll_cons_mk (Below.trod laidOut (by kernel_rfl) (of_decide_eq_true (by kernel_rfl)) k0 bel lt0) (trodAll_cons_mk (shut_int Try.underlying3 w1) (trodAll_cons_mk (shut_bool Try.underlying4 a2) trodAll_mk0))), rfl, bel.frame _, fun h => by cases h⟩
theorem over : Rows.streamAllRow.holds Try.pinned (OpenSpec.ofChange Rows.streamAllSpec) :=
  OpenClaim.holds_of_wide 4 Try.f4 rfl rfl rfl rfl rfl rfl rfl ⟨rfl, rfl, rfl, rfl, rfl⟩ rfl rfl rfl rfl rfl (by kernel_rfl) Try.func4 (by kernel_rfl)
    (of_decide_eq_true (by kernel_rfl)) (by unfold Func.isWrapper; first | (rw [if_pos (by decide +kernel)]; kernel_rfl) | (rw [if_neg (by decide +kernel)]; exact ⟨rfl, rfl⟩))
    (fun os started H enc _ => lifted os started H enc)
/-- the statement -/
theorem proved : Rows.StreamAllSaid := over
#print axioms proved
end streamAll
end Go.Proofs.Ytggbclkinndpnaa
