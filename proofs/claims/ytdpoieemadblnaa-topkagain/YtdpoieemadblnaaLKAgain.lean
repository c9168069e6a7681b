/-
  TopkAgain: what is kept, offered again to a selector of as much, is kept as it is; of all that was told nothing is changed. No condition.
-/
import Derived.Test.YtdpoieemadblnaaKAwk
import Derived.Test.YtdpoieemadblnaaKLivR
import Derived.Test.YtdpoieemadblnaaKLem
import Derived.Test.YtdpoieemadblnaaOReadR
import Derived.Test.YtdpoieemadblnaaOArg
import Derived.Lib.SmallJoins
import Derived.OpenShut
namespace Go.Proofs.Ytdpoieemadblnaa
open Go.RowKit Go.Joins Go.ChangeShapes Go.WideShapes Go.Deep
namespace topkAgain

theorem info0 : (Try.prog.info? 42).map (fun i => (i.zero, i.size, i.bytes)) = some (some (.agg #[.int .i64 0, .int .i64 0]), 2, 16) := by kernel_rfl
theorem base {w W W' : World} {t : TypeId} {v : Value} {n : Nat} {cs : List Value} (h : Below w.heap.size w W) (ho : W.ownsRow w.heap.size t 2 v n cs) (hg : W.grownBy W' v.ownBlock) : Below w.heap.size w W' := h.grown hg h.size (own_block2 ho)
/-- a row of some results -/
def Rsl (W : World) (r n : Nat) : Prop := ∃ l : List Om.E, l.length = n ∧ BlkE 42 W r l
theorem Rsl.set {W : World} {r n : Nat} (h : Rsl W r n) (i : Nat) (x : Int) (hi : i < n) : Rsl (W.setCell ⟨r, i * 2, none⟩ (.int .i64 x)) r n := by
  obtain ⟨l, hl, hb⟩ := h
  obtain ⟨y, hy⟩ : ∃ y, l[i]? = some y := ⟨_, List.getElem?_eq_getElem (by omega)⟩
  refine ⟨l.set i (x, y.2), by simpa using hl, ?_⟩
  unfold BlkE at hb ⊢
  rw [heap_setCell_same _ _ _ _ _ _ hb, ← cel_set l i (x, y.2)]
  congr 2
  refine Array.ext' ?_
  have h2 := cel_snd l i y hy
  have e : ((cel l).set (2 * i) (.int .i64 x))[2 * i + 1]? = some (.int .i64 y.2) := by rw [List.getElem?_set_ne (by omega)]; exact h2
  obtain ⟨hlt, he⟩ := List.getElem?_eq_some_iff.1 e
  simp only [Array.toList_setIfInBounds]
  rw [Nat.mul_comm i 2]
  conv => rhs; rw [← he]
  exact (List.set_getElem_self _).symm

set_option maxHeartbeats 1600000 in
set_option maxRecDepth 100000 in
theorem walk (a0 : Option Addr) (len0 cap0 : Nat) (l : List Om.E) (k : Int) (w : World) (w0 : VecE w a0 len0 l ∧ len0 ≤ cap0 ∧ (a0 = none → cap0 = 0)) (w1 : (Lit.int .u8 k).wf = true) :
    Calls Try.prog 7 #[.slice a0 len0 cap0, .int .u8 k] w fun e w' => e = .returned (.bool true) ∧ Below w.heap.size w w' := by
  obtain ⟨i0, hi, hz0, hz1, hz2⟩ := info_parts info0
  have HV := Lib.hid w0.1
  have HVA := Lib.hid w0.2.2
  have bk := bounds_u8 w1
  clear w0 w1
  go_enter Try.func7, Try.ntmps7
  go_wp2_with fail
  refine (awake_any _).mono ?_
  rintro _ W1 ⟨rfl, b1⟩
  have B1 := Lib.hid b1
  clear b1
  by_cases g0 : 100 < len0
  · have d0 : decide (100 < (len0 : Int)) = true := by simp; omega
    go_wp2
    go_ret
    exact ⟨rfl, B1.out⟩
  have d0 : decide (100 < (len0 : Int)) = false := by simp; omega
  have n0 : len0 ≤ 100 := by omega
  clear g0
  obtain ⟨KA, hKA⟩ : ∃ KA, Km.fst Om.near k l = KA := ⟨_, rfl⟩
  obtain ⟨n, hn⟩ : ∃ n, KA.length = n := ⟨_, rfl⟩
  have hnk : n = min k.toNat len0 := by rw [← hn, ← hKA, Km.fst_length, HV.out.length]
  have bn : n ≤ 100 := by omega
  have nk : (n : Int) ≤ k := by omega
  have HAG := Lib.hid (show Km.fst Om.near k KA.reverse = KA from by rw [← hKA]; exact Km.fst_again Om.near_ord Km.near_eq k l)
  have HKA := Lib.hid hKA
  have HN := Lib.hid hn
  clear hKA hn hnk
  go_wp2_with fail
  refine (valsR a0 len0 cap0 _).mono ?_
  rintro _ X5 ⟨rfl, hx5⟩
  have bx5 : Below W1.heap.size W1 X5 := by rw [hx5]; exact (Below.refl _ W1).alloc (Nat.le_refl _) _
  have qx5 : X5.heap[W1.heap.size]? = some (.cells #[.slice a0 len0 cap0] 39 (0, 0)) := by rw [hx5]; exact heap_alloc_new W1 _
  have ho5 := ofR k a0 len0 cap0 _ _ X5 qx5 ((HV.out.below B1.out).below bx5) (by omega)
  rw [HKA.out, HN.out] at ho5
  have HO5 := Lib.hid ho5
  have BX5 := Lib.hid bx5
  clear hx5 bx5 qx5 ho5
  go_wp2_with fail
  refine HO5.out.mono ?_
  rintro _ Y5 ⟨g5, rfl, hg5, hy5, by5⟩
  have BW5 := Lib.hid (show Below W1.heap.size W1 Y5 from BX5.out.trans (by5.mono BX5.out.size))
  have BY5 := Lib.hid (show Below w.heap.size w Y5 from B1.out.trans (BW5.out.mono B1.out.size))
  have HY5 := Lib.hid (hy5.vec HN.out)
  clear hy5 by5 hg5 HO5 BX5
  have A0 := Lib.hid (own_none2 (base := Y5.heap.size) (heap_alloc_new Y5 (.cells #[] 42)) (Nat.le_refl _))
  have AB := Lib.hid ((Below.refl _ Y5).alloc (Nat.le_refl _) (.cells #[] 42))
  go_wp2_with (at_builtin; first
    | (refine append_vec _ rfl (.tmp 21) (.tmp 22) 39 rfl Y5.heap.size 42 i0 (.agg #[.int .i64 0, .int .i64 0]) 16 Try.underlying39 hi hz0 hz1 hz2 rfl (.slice (some ⟨Y5.heap.size, 0, none⟩) 0 0) 0 [] rfl A0.out (some ⟨g5, 0, none⟩) n n KA rfl (fun h => by cases h) (HY5.out.below AB.out) (by unfold maxLen; omega) (by omega) AB.out.size ?_; intro v3 W6 q1 q2; rw [Nat.zero_add, List.nil_append] at q1; have Q1 := Lib.hid q1; have Q2 := Lib.hid (base AB.out A0.out q2); clear q1 q2)
    | fail)
  obtain ⟨A6, c6, rfl, -, -⟩ := own_form2 Q1.out
  have V6 := Lib.hid (VecE.of_own Q1.out)
  have U6 := Lib.hid (HY5.out.below Q2.out)
  have B6 := Lib.hid (show Below w.heap.size w W6 from BY5.out.trans (Q2.out.mono BY5.out.size))
  clear Q1 Q2 A0 AB HY5 BY5 BW5 hi hz0 hz1 hz2
  refine (LivR.new k W6).mono ?_
  rintro _ W7 ⟨s, rfl, h7⟩
  have H7 := Lib.hid h7
  clear h7
  go_wp2
  go_loopw [8] (fun I wr => ∃ j : Nat, I = .int .i64 ((n : Int) - 1 - (j : Int)) ∧ j ≤ n ∧ LivR W6 wr s k j (Km.fst Om.near k (KA.reverse.take j))) (fun I _ => (intOf I + 1).toNat)
  case atStart => exact ⟨0, by simp, by omega, by simpa [Km.fst_nil] using H7.out⟩
  case round =>
    clear H7
    obtain ⟨j, rfl, hjn, hlv⟩ := hrel
    by_cases hj : j < n
    · obtain ⟨x, hx⟩ : ∃ x, KA[n - 1 - j]? = some x := ⟨_, List.getElem?_eq_getElem (by rw [HN.out]; omega)⟩
      obtain ⟨x1, x2⟩ := x
      have hrx : KA.reverse[j]? = some (x1, x2) := by rw [List.getElem?_reverse (by rw [HN.out]; exact hj), HN.out]; exact hx
      obtain ⟨b, off, e, hb, c1, c2⟩ := (U6.out.below hlv.base).at_ hx
      obtain ⟨rfl, rfl⟩ : g5 = b ∧ 0 = off := by simpa using e
      rw [Nat.zero_add] at c1 c2
      have hlen : (Km.fst Om.near k (KA.reverse.take j)).length = j := by rw [Km.fst_length, List.length_take, List.length_reverse, HN.out]; omega
      have hof := hlv.offer (by omega) x1 x2
      have hst := Km.fst_off Om.near_ord k (KA.reverse.take j) (x1, x2)
      have e1 : KA.reverse.take (j + 1) = KA.reverse.take j ++ [(x1, x2)] := by rw [List.take_add_one, hrx]; rfl
      rw [hst, ← e1] at hof
      have h2 : (Km.off Om.near k (Km.fst Om.near k (KA.reverse.take j)) (x1, x2)).2 = true := by rw [Km.off_room (by rw [hlen]; omega)]
      rw [h2] at hof
      have HOF := Lib.hid hof
      have ei : (n : Int) - 1 - (j : Int) = ((n - 1 - j : Nat) : Int) := by omega
      obtain ⟨p, hp⟩ : ∃ p, p = n - 1 - j := ⟨_, rfl⟩
      rw [← hp] at ei c1 c2
      rw [ei]
      have pn : p < n := by omega
      have HPP := Lib.hid hp
      clear hx hrx e hlen hof hst e1 h2 hlv ei hp hb
      go_wp2_with fail
      refine HOF.out.mono ?_
      rintro _ V ⟨rfl, hl2, -⟩
      have HL2 := Lib.hid hl2
      clear hl2 HOF c1 c2
      go_wp2
      go_roundw
      case rel => exact ⟨j + 1, congrArg (Value.int .i64) (by have := HPP.out; omega), by omega, HL2.out⟩
      case measure => have := HPP.out; simp [intOf]
    · obtain rfl : j = n := by omega
      have e0 : KA.reverse.take j = KA.reverse := List.take_of_length_le (by rw [List.length_reverse, HN.out]; exact Nat.le_refl _)
      rw [e0, HAG.out] at hlv
      have hls := hlv.list (by omega)
      rw [HN.out] at hls
      have HLS := Lib.hid hls
      have ei : (j : Int) - 1 - (j : Int) = -1 := by omega
      rw [ei]
      have sB := hlv.base.size
      have HLV := Lib.hid hlv
      clear hlv hls e0 hj hjn ei
      go_wp2_with fail
      refine HLS.out.mono ?_
      rintro _ V ⟨rfl, hbl, hlr⟩
      have HBL := Lib.hid hbl
      have HLR := Lib.hid hlr
      have hs := sameR (some ⟨g5, 0, none⟩) (some ⟨wr.heap.size, 0, none⟩) j j j j KA KA V (U6.out.below hlr.liv.base) (hbl.vec HN.out) (by omega) (by omega)
      rw [decide_eq_true rfl] at hs
      have HS := Lib.hid hs
      clear hbl hlr hs HLS
      go_wp2_with fail
      refine HS.out.mono ?_
      rintro _ V2 ⟨rfl, bv⟩
      have HLR2 := Lib.hid (HLR.out.below bv)
      have HR2 := Lib.hid (show Rsl V2 wr.heap.size j from ⟨KA, HN.out, HBL.out.below bv⟩)
      clear bv HS HLR HBL HLV
      generalize wr.heap.size = rr at *
      go_wp2
      go_loopw [51, 10] (fun I _ wq => ∃ i : Nat, I = .int .i64 (i : Int) ∧ i ≤ j ∧ LvrR W6 wq rr s k j KA ∧ Rsl wq rr j) (fun I _ _ => j - (intOf I).toNat)
      case atStart => exact ⟨0, rfl, by omega, HLR2.out, HR2.out⟩
      case round =>
        clear HLR2 HR2
        obtain ⟨i, rfl, hij, hlr, hrs⟩ := hrel
        by_cases hi : i < j
        · obtain ⟨l2, hl2, hb2⟩ := hrs
          obtain ⟨y, hy⟩ : ∃ y, l2[i]? = some y := ⟨_, List.getElem?_eq_getElem (by omega)⟩
          obtain ⟨y1, y2⟩ := y
          have c1 := hb2.fst hy
          have f1 := hb2.frozen (i * 2)
          have HNX := Lib.hid (show ∀ x, LvrR W6 (wr.setCell ⟨rr, i * 2, none⟩ (.int .i64 x)) rr s k j KA ∧ Rsl (wr.setCell ⟨rr, i * 2, none⟩ (.int .i64 x)) rr j from fun x => ⟨hlr.set sB _ _, Rsl.set ⟨l2, hl2, hb2⟩ i x hi⟩)
          clear hlr hl2 hb2 hy
          go_wp2
          go_roundw
          case rel => exact ⟨i + 1, congrArg (Value.int .i64) (by omega), by omega, HNX.out _⟩
          case measure => simp [intOf]; omega
        · obtain rfl : i = j := by omega
          have hbse := hlr.liv.base
          have hs := sameR (some ⟨g5, 0, none⟩) A6 i i i c6 KA KA wr (U6.out.below hbse) (V6.out.below hbse) (by omega) (by omega)
          rw [decide_eq_true rfl] at hs
          have HS := Lib.hid hs
          have HL := Lib.hid hlr.liv
          clear hs hlr hrs hbse
          go_wp2_with fail
          refine HS.out.mono ?_
          rintro _ Z ⟨rfl, bz⟩
          have hls := (HL.out.below bz).list (by omega)
          rw [HN.out] at hls
          have HLS := Lib.hid hls
          clear bz hls HS HL
          go_wp2_with fail
          refine HLS.out.mono ?_
          rintro _ Z2 ⟨rfl, hbl, hlr⟩
          have hbse := hlr.liv.base
          have hs := sameR (some ⟨Z.heap.size, 0, none⟩) A6 i i i c6 KA KA Z2 (hbl.vec HN.out) (V6.out.below hbse) (by omega) (by omega)
          rw [decide_eq_true rfl] at hs
          have HS := Lib.hid hs
          have BZ := Lib.hid (show Below w.heap.size w Z2 from B6.out.trans (hbse.mono B6.out.size))
          clear hbl hlr hbse hs HLS
          go_wp2_with fail
          refine HS.out.mono ?_
          rintro _ Z3 ⟨rfl, bz⟩
          have BZ3 := Lib.hid (show Below w.heap.size w Z3 from BZ.out.trans (bz.mono BZ.out.size))
          clear bz HS
          go_wp2
          go_ret
          exact ⟨rfl, BZ3.out⟩
theorem own : ownKnob Try.prog.godebug = none := by kernel_rfl
theorem laidOut : laidOutB Try.prog = true := by kernel_rfl
set_option maxRecDepth 100000 in
theorem lifted (os : Os) (started : os.Started) (H : Type) (enc : TypeId × Value → H) :
    ReturnsInHanded {} Try.checked os 7 .any (Rows.topkAgainSpec.pre6 enc Try.prog Try.f7 Rows.topkAgainRow.domain false) (Rows.topkAgainSpec.post enc Try.prog Try.f7 false true false false) := by
  refine returnsInHanded_of_change (C := Try.checked) own started (by kernel_rfl) Try.func7
    (ChangeSpec.witness6 (enc := enc) (C := Try.checked) false ⟨#[], #[.slice none 0 0, .int .u8 0], []⟩ 8 (by kernel_rfl) (by kernel_rfl) (by kernel_rfl) (by kernel_rfl)) ?_
  intro W base args ds gs before hval0 hW hcnd _
  have hval : ∀ (j : Nat) t v, Try.f7.params[j]? = some t → args[j]? = some v → Value.okWide Try.prog W .any base t v := hval0
  have hW' := hW
  obtain ⟨p, q, hA0, hV, rfl, hfz, hnd⟩ := hW
  have hA : DataW.TrodAll enc Try.prog W 0 (fun _ => true) true Try.f7.params.toList args.toList ds p := hA0
  rw [Try.params7] at hA hval
  obtain ⟨v0, vs0, d0, ds0, p0, q0, hargs, rfl, rfl, h0, r0⟩ := trodAll_cons hA
  obtain ⟨v1, vs1, d1, ds1, p1, q1, rfl, rfl, rfl, h1, r1⟩ := trodAll_cons r0
  obtain ⟨rfl, rfl, rfl⟩ := trodAll_nil r1
  obtain rfl : args = #[v0, v1] := by cases args; simp_all
  obtain ⟨rfl, rfl⟩ := trodVars_none hV
  obtain ⟨a0, len0, cap0, rfl⟩ := okWide_slice Try.underlying39 (hval 0 39 v0 rfl rfl)
  have k0 := h0
  have lt0 : ∀ x ∈ p0, x.block < W.heap.size := by obtain ⟨m, hm⟩ := k0; exact DataW.trod_lt m _ _ _ hm
  obtain ⟨z0, w0⟩ : ∃ l, VecE W a0 len0 l ∧ len0 ≤ cap0 ∧ (a0 = none → cap0 = 0) := by
    obtain ⟨fuel, hf⟩ := h0
    rcases Go.Deep.open_slice_pairs Try.underlying39 Try.underlying42 (by kernel_rfl) rfl rfl (by kernel_rfl) (by kernel_rfl) hf with ⟨hcs, _⟩ | ⟨x, len, cap, m, n, V0, V1, D0, D1, P0, P1, hcs, _, hl, _, hmm, _, hcell⟩
    · simp [Value.cells] at hcs
      obtain ⟨rfl, rfl, rfl⟩ := hcs
      exact ⟨[], VecE.nil_ _ _, Nat.le_refl _, fun _ => rfl⟩
    · simp [Value.cells] at hcs
      obtain ⟨rfl, rfl, rfl⟩ := hcs
      obtain ⟨l, hv⟩ := VecE.of_each (w := W) (x := x) len0 (fun j hj => by
        obtain ⟨h1, h2, h3, h4⟩ := hcell j (by simp at hmm; omega)
        obtain ⟨p, hp, -⟩ := DataW.trod_int Try.underlying3 h3
        obtain ⟨q, hq, -⟩ := DataW.trod_int Try.underlying2 h4
        simp at hp hq
        exact ⟨(p, q), by rw [h1, hp], by rw [h2, hq]⟩)
      exact ⟨l, hv, hl, fun h => by cases h⟩
  obtain ⟨a1, rfl, rfl, rfl, w1⟩ := open_int Try.underlying5 (hval 1 5 v1 rfl rfl) h1
  clear hA0 hval0
  refine (walk a0 len0 cap0 z0 a1 W w0 w1).mono fun e W' ⟨he, bel⟩ => ?_
  subst he
  exact ⟨_, rfl, _, _, _, [], _, [], hW', trodAll_mk1 (shut_bool Try.underlying4 _), (trodAll_cons_mk (Below.trod laidOut (by kernel_rfl) (of_decide_eq_true (by kernel_rfl)) k0 bel lt0) (trodAll_cons_mk (shut_int Try.underlying5 w1) trodAll_mk0)), rfl, bel.frame _, fun h => by cases h⟩
theorem over : Rows.topkAgainRow.holds Try.pinned (OpenSpec.ofChange Rows.topkAgainSpec) :=
  OpenClaim.holds_of_wide 7 Try.f7 rfl rfl rfl rfl rfl rfl rfl ⟨rfl, rfl, rfl, rfl, rfl⟩ rfl rfl rfl rfl rfl (by kernel_rfl) Try.func7 (by kernel_rfl)
    (of_decide_eq_true (by kernel_rfl)) (by unfold Func.isWrapper; first | (rw [if_pos (by decide +kernel)]; kernel_rfl) | (rw [if_neg (by decide +kernel)]; exact ⟨rfl, rfl⟩))
    (fun os started H enc _ => lifted os started H enc)
/-- the statement -/
theorem proved : Rows.TopkAgainSaid := over
#print axioms proved
end topkAgain
end Go.Proofs.Ytdpoieemadblnaa
