/-
  TopkOffers: whatever is offered, one by one: what is kept is just the document's, and so is whether the newest one is. No condition.
-/
import Derived.Test.YtdpoieemadblnaaKAwk
import Derived.Test.YtdpoieemadblnaaKGd
import Derived.Test.YtdpoieemadblnaaOEqP
import Derived.Test.YtdpoieemadblnaaOReadP
import Derived.Test.YtdpoieemadblnaaOArg
import Derived.Lib.SmallJoins
import Derived.OpenShut
import Derived.Deep.QuietTactic
namespace Go.Proofs.Ytdpoieemadblnaa
open Go.RowKit Go.Joins Go.ChangeShapes Go.WideShapes Go.Deep
namespace topkOffers

set_option maxHeartbeats 6400000 in
set_option maxRecDepth 100000 in
theorem walk (a0 : Option Addr) (len0 cap0 : Nat) (zs0 : List Int) (k : Int) (w : World) (w0 : IsRow .i64 w a0 len0 cap0 zs0) (w1 : (Lit.int .i64 k).wf = true) :
    Calls Try.prog 3 #[.slice a0 len0 cap0, .int .i64 k] w fun e w' => e = .returned (.bool true) ∧ Below w.heap.size w w' := by
  obtain ⟨l0, -, -, -, -⟩ := w0.lst
  obtain ⟨z, hz⟩ : ∃ z, z = zs0.take len0 := ⟨_, rfl⟩
  rw [← hz] at l0
  have HLS := Lib.hid l0
  have HZL := Lib.hid (show z.length = len0 from by have := l0.1; simpa using this)
  clear w0 w1 l0 hz
  go_enter Try.func3, Try.ntmps3
  go_wp2_with fail
  refine (awake_any _).mono ?_
  rintro _ W1 ⟨rfl, b1⟩
  have B1 := Lib.hid b1
  clear b1
  by_cases g0 : 100 < len0
  · have d0 : decide (100 < (len0 : Int)) = true := by simp; omega
    go_wp2
    go_ret
    exact ⟨rfl, B1.out⟩
  have d0 : decide (100 < (len0 : Int)) = false := by simp; omega
  have n0 : len0 ≤ 100 := by omega
  clear g0
  go_wp2_with fail
  refine (Gd.new k W1).mono ?_
  rintro _ W2 ⟨s, rfl, h2⟩
  have H2 := Lib.hid h2
  have HP := Lib.hid (pairs_any a0 len0 cap0 z W2 (((HLS.out.below (B1.out.trans (h2.base.mono B1.out.size))).more (Nat.le_trans B1.out.size h2.base.size))) (by omega))
  clear h2
  go_wp2_with fail
  refine HP.out.mono ?_
  rintro _ W3 ⟨A, cp, rfl, hv, hb, hg, hcp⟩
  obtain ⟨p, hp⟩ : ∃ p, p = Om.tag z 0 := ⟨_, rfl⟩
  have HTG := Lib.hid (show ∀ i x m, p[i]? = some x → x ∉ Km.fst Om.less m (p.take i) from fun i x m hx => by rw [hp] at hx ⊢; exact Km.tag_fresh hx)
  have HPL := Lib.hid (show p.length = len0 from by rw [hp, Om.tag_length]; exact HZL.out)
  rw [← hp] at hv
  have H3 := Lib.hid (H2.out.add hb hv hg)
  clear hv hb hg hp H2 HP HLS HZL
  go_wp2
  go_loopw [7, 8, 9, 10, 11, 12, 13] (fun I _ _ _ _ _ _ wr => ∃ (i : Nat) (K : List Om.E), I = .int .i64 (i : Int) ∧ i ≤ len0 ∧ K = Km.fst Om.less k (p.take i) ∧ Gd W1 wr s k i K [(A, len0, p)]) (fun I _ _ _ _ _ _ _ => len0 - (intOf I).toNat)
  case atStart => exact ⟨0, [], rfl, by omega, by rw [List.take_zero, Km.fst_nil], H3.out⟩
  case round =>
    clear H3
    obtain ⟨i, K, rfl, hin, hK, hgd⟩ := hrel
    by_cases hi : i < len0
    · obtain ⟨x, hx⟩ : ∃ x, p[i]? = some x := ⟨_, List.getElem?_eq_getElem (by rw [HPL.out]; exact hi)⟩
      obtain ⟨x1, x2⟩ := x
      obtain ⟨b, off, rfl, hb, c1, c2⟩ := (hgd.vec (A := A) (n := len0) (l := p) (List.mem_singleton.2 rfl)).at_ hx
      have hfr := HTG.out i _ k hx
      rw [← hK] at hfr
      have hof := hgd.offer (by omega) x1 x2
      rw [Km.off_in hfr] at hof
      have hK' := Km.fst_off Om.less_ord k (p.take i) (x1, x2)
      rw [← hK, ← Km.take_snoc hx] at hK'
      obtain ⟨K', hKK⟩ : ∃ K', K' = (Km.off Om.less k K (x1, x2)).1 := ⟨_, rfl⟩
      rw [← hKK] at hof hK'
      obtain ⟨nk, hnk⟩ : ∃ nk, decide ((x1, x2) ∈ K') = nk := ⟨_, rfl⟩
      rw [hnk] at hof
      have HNK := Lib.hid hnk
      have HK' := Lib.hid hK'
      have HX := Lib.hid hx
      have HOF := Lib.hid hof
      clear hof hK' hKK hfr hK hgd hx hnk
      go_wp2_with fail
      refine HOF.out.mono ?_
      rintro _ V ⟨rfl, hg1⟩
      have hi1 : i + 1 ≤ len0 := hi
      have ic : i + 1 ≤ cp := by omega
      have hpr := (hg1.vec (A := some ⟨b, off, none⟩) (n := len0) (l := p) (List.mem_singleton.2 rfl)).take hi1
      have hfi := first_any (some ⟨b, off, none⟩) (i + 1) cp (p.take (i + 1)) k V hpr (by omega)
      rw [← HK'.out] at hfi
      have HFI := Lib.hid hfi
      have HG1 := Lib.hid hg1
      have ew : IntKind.i64.wrap ((i : Int) + 1) = ((i + 1 : Nat) : Int) := by rw [IntWalk.i64_in _ (by omega)]; omega
      clear hfi hpr hg1 HOF c1 c2 hb
      go_wp2_with fail
      refine HFI.out.mono ?_
      rintro _ V2 ⟨B, q, cw, rfl, hvw, hbw, hgw⟩
      have HQ := Lib.hid hvw.length
      have hg2 := HG1.out.add hbw hvw hgw
      have hq1 : q ≤ 101 := by have := hg2.length; have := hvw.length; omega
      have HG2 := Lib.hid hg2
      clear hvw hbw hgw hg2 HG1 HFI
      go_wp2
      go_loopw [10, 11] (fun N J wu => ∃ (j : Nat) (nb : Bool), J = .int .i64 (j : Int) ∧ N = .bool nb ∧ j ≤ q ∧ nb = decide ((x1, x2) ∈ K'.take j) ∧ Gd W1 wu s k (i + 1) K' [(B, q, K'), (some ⟨b, off, none⟩, len0, p)]) (fun _ J _ => q - (intOf J).toNat)
      case atStart => exact ⟨0, false, rfl, rfl, by omega, by simp, HG2.out⟩
      case round =>
        clear HG2
        obtain ⟨j, nb, rfl, rfl, hj, hnb, hgj⟩ := hrel
        by_cases hjq : j < q
        · obtain ⟨y, hy⟩ : ∃ y, K'[j]? = some y := ⟨_, List.getElem?_eq_getElem (by rw [HQ.out]; exact hjq)⟩
          obtain ⟨y1, y2⟩ := y
          obtain ⟨bw, fw, rfl, hbw, e1, e2⟩ := (hgj.vec (A := B) (n := q) (l := K') (by simp)).at_ hy
          obtain ⟨b', off', eb, hb', c1, c2⟩ := (hgj.vec (A := some ⟨b, off, none⟩) (n := len0) (l := p) (by simp)).at_ HX.out
          obtain ⟨rfl, rfl⟩ : b = b' ∧ off = off' := by simpa using eb
          have eq1 := fun W => eqlP y1 y2 x1 x2 W
          have gd1 := fun op x y W => guardP op x y y1 y2 x1 x2 W
          have HTK := Lib.hid (Km.take_snoc hy)
          have HGJ := Lib.hid hgj
          have HNB := Lib.hid hnb
          clear hgj hy hbw hb' eb hnb
          by_cases hxy : y1 = x1 ∧ y2 = x2
          · rw [decide_eq_true hxy] at eq1
            go_wp2
            go_quiet (fail)
            have HG3 := Lib.hid (HGJ.out.drewN nq)
            clear HGJ e1 e2 c1 c2 eq1 gd1
            go_wp2
            go_roundw
            case rel => exact ⟨j + 1, true, congrArg (Value.int .i64) (by omega), rfl, by omega, by rw [HTK.out, ← hxy.1, ← hxy.2]; simp, HG3.out⟩
            case measure => simp [intOf]; omega
          · rw [decide_eq_false hxy] at eq1
            go_wp2
            go_quiet (fail)
            have HG3 := Lib.hid (HGJ.out.drewN nq)
            clear HGJ e1 e2 c1 c2 eq1 gd1
            go_wp2
            go_roundw
            case rel => exact ⟨j + 1, nb, congrArg (Value.int .i64) (by omega), rfl, by omega, by rw [HTK.out, HNB.out]; simp only [List.mem_append, List.mem_singleton, Prod.mk.injEq]; congr 1; exact propext ⟨.inl, fun h => h.elim id fun h => absurd ⟨h.1.symm, h.2.symm⟩ hxy⟩, HG3.out⟩
            case measure => simp [intOf]; omega
        · obtain rfl : j = q := by omega
          obtain rfl : nb = nk := by rw [hnb, List.take_of_length_le (by rw [HQ.out]; omega)]; exact HNK.out
          obtain ⟨q, hqj⟩ : ∃ q, q = j := ⟨_, rfl⟩
          subst hqj
          have hle := hgj.len
          rw [HQ.out] at hle
          have HLE := Lib.hid hle
          have HGJ := Lib.hid hgj
          clear hgj hle hnb
          by_cases h4 : (i : Int) % 4 = 3
          · have hls := HGJ.out.list (by omega)
            rw [HQ.out] at hls
            have HLS := Lib.hid hls
            clear hls
            go_wp2_with fail
            refine HLE.out.mono ?_
            rintro _ U1 ⟨rfl, hU1⟩
            subst U1
            go_wp2_with fail
            refine HLS.out.mono ?_
            rintro _ U2 ⟨rfl, hv2, hg2⟩
            have hsm := (by have := sameP (some ⟨_, 0, none⟩) B q q q cw K' K' U2 hv2 (hg2.vec (A := B) (n := q) (l := K') (by simp)) (by omega) (by omega); rw [decide_eq_true rfl] at this; exact this)
            have HSM := Lib.hid hsm
            have HG2 := Lib.hid hg2
            clear hv2 hg2 hsm HLS HLE HGJ
            go_wp2_with fail
            refine HSM.out.mono ?_
            rintro _ U ⟨rfl, hbu⟩
            have HGU := Lib.hid (HG2.out.below hbu)
            clear hbu HG2 HSM
            rcases List.eq_nil_or_concat K' with hK0 | ⟨K1, y, hK0⟩
            · subst hK0
              obtain rfl : q = 0 := by simpa using HQ.out.symm
              have HLA := Lib.hid HGU.out.last
              go_wp2_with fail
              refine HLA.out.mono ?_
              rintro _ V3 ⟨rfl, hl3⟩
              have HL4 := Lib.hid (hl3.below ((Below.refl _ V3).alloc (Nat.le_refl _) (.cells #[.int .i64 0, .int .i64 0] 27)))
              have nq1 := fun W => neqP 0 0 0 0 W
              have gd1 := fun op x y W => guardP op x y 0 0 0 0 W
              rw [show (!decide ((0 : Int) = 0 ∧ (0 : Int) = 0)) = false from by simp] at nq1
              clear hl3 HLA HGU
              go_wp2
              go_quiet (fail)
              have HL5 := Lib.hid ((HL4.out.drewN nq).few (T' := [(some ⟨b, off, none⟩, len0, p)]) (fun t ht => List.mem_cons_of_mem _ ht))
              clear HL4 nq1 gd1
              go_wp2
              go_roundw
              case rel => exact ⟨i + 1, _, congrArg (Value.int .i64) (by omega), by omega, HK'.out, HL5.out⟩
              case measure => simp [intOf]; omega
            · rw [List.concat_eq_append] at hK0
              subst hK0
              obtain ⟨y1, y2⟩ := y
              obtain ⟨r, hr⟩ : ∃ r, r = K1.length := ⟨_, rfl⟩
              have eq0 : q = r + 1 := by rw [← HQ.out, hr]; simp
              have e1 : (q : Int) - 1 = (r : Int) := by omega
              have e2 : IntKind.i64.wrap (r : Int) = (r : Int) := IntWalk.i64_in _ (by omega)
              have ln : r < q := by omega
              have ln0 : 0 < q := by omega
              have lnd : decide (0 < (q : Int)) = true := by simp; omega
              have hla := HGU.out.last
              rw [show (K1 ++ [(y1, y2)]).getLast?.getD (0, 0) = (y1, y2) from by simp, show decide (0 < (K1 ++ [(y1, y2)]).length) = true from by simp] at hla
              have HLA := Lib.hid hla
              have HR := Lib.hid (show (K1 ++ [(y1, y2)])[r]? = some (y1, y2) from by rw [hr]; simp)
              clear hla hr eq0 HGU
              go_wp2_with fail
              refine HLA.out.mono ?_
              rintro _ V3 ⟨rfl, hl3⟩
              have hl4 := hl3.below ((Below.refl _ V3).alloc (Nat.le_refl _) (.cells #[.int .i64 y1, .int .i64 y2] 27))
              obtain ⟨bw, fw, rfl, hbw, c1, c2⟩ := (hl4.vec (A := B) (n := q) (l := K1 ++ [(y1, y2)]) (by simp)).at_ HR.out
              have HL4 := Lib.hid hl4
              have nq1 := fun W => neqP y1 y2 y1 y2 W
              have gd1 := fun op x y W => guardP op x y y1 y2 y1 y2 W
              rw [show (!decide (y1 = y1 ∧ y2 = y2)) = false from by simp] at nq1
              clear hl3 hl4 HLA HR hbw
              go_wp2
              go_quiet (fail)
              have HL5 := Lib.hid ((HL4.out.drewN nq).few (T' := [(some ⟨b, off, none⟩, len0, p)]) (fun t ht => List.mem_cons_of_mem _ ht))
              clear c1 c2 HL4 nq1 gd1 e1 e2 ln ln0 lnd
              go_wp2
              go_roundw
              case rel => exact ⟨i + 1, _, congrArg (Value.int .i64) (by omega), by omega, HK'.out, HL5.out⟩
              case measure => simp [intOf]; omega
          · go_wp2_with fail
            refine HLE.out.mono ?_
            rintro _ U ⟨rfl, hU⟩
            rw [← hU] at HGJ
            have HGU := Lib.hid HGJ.out
            clear HGJ HLE hU
            rcases List.eq_nil_or_concat K' with hK0 | ⟨K1, y, hK0⟩
            · subst hK0
              obtain rfl : q = 0 := by simpa using HQ.out.symm
              have HLA := Lib.hid HGU.out.last
              go_wp2_with fail
              refine HLA.out.mono ?_
              rintro _ V3 ⟨rfl, hl3⟩
              have HL4 := Lib.hid (hl3.below ((Below.refl _ V3).alloc (Nat.le_refl _) (.cells #[.int .i64 0, .int .i64 0] 27)))
              have nq1 := fun W => neqP 0 0 0 0 W
              have gd1 := fun op x y W => guardP op x y 0 0 0 0 W
              rw [show (!decide ((0 : Int) = 0 ∧ (0 : Int) = 0)) = false from by simp] at nq1
              clear hl3 HLA HGU
              go_wp2
              go_quiet (fail)
              have HL5 := Lib.hid ((HL4.out.drewN nq).few (T' := [(some ⟨b, off, none⟩, len0, p)]) (fun t ht => List.mem_cons_of_mem _ ht))
              clear HL4 nq1 gd1
              go_wp2
              go_roundw
              case rel => exact ⟨i + 1, _, congrArg (Value.int .i64) (by omega), by omega, HK'.out, HL5.out⟩
              case measure => simp [intOf]; omega
            · rw [List.concat_eq_append] at hK0
              subst hK0
              obtain ⟨y1, y2⟩ := y
              obtain ⟨r, hr⟩ : ∃ r, r = K1.length := ⟨_, rfl⟩
              have eq0 : q = r + 1 := by rw [← HQ.out, hr]; simp
              have e1 : (q : Int) - 1 = (r : Int) := by omega
              have e2 : IntKind.i64.wrap (r : Int) = (r : Int) := IntWalk.i64_in _ (by omega)
              have ln : r < q := by omega
              have ln0 : 0 < q := by omega
              have lnd : decide (0 < (q : Int)) = true := by simp; omega
              have hla := HGU.out.last
              rw [show (K1 ++ [(y1, y2)]).getLast?.getD (0, 0) = (y1, y2) from by simp, show decide (0 < (K1 ++ [(y1, y2)]).length) = true from by simp] at hla
              have HLA := Lib.hid hla
              have HR := Lib.hid (show (K1 ++ [(y1, y2)])[r]? = some (y1, y2) from by rw [hr]; simp)
              clear hla hr eq0 HGU
              go_wp2_with fail
              refine HLA.out.mono ?_
              rintro _ V3 ⟨rfl, hl3⟩
              have hl4 := hl3.below ((Below.refl _ V3).alloc (Nat.le_refl _) (.cells #[.int .i64 y1, .int .i64 y2] 27))
              obtain ⟨bw, fw, rfl, hbw, c1, c2⟩ := (hl4.vec (A := B) (n := q) (l := K1 ++ [(y1, y2)]) (by simp)).at_ HR.out
              have HL4 := Lib.hid hl4
              have nq1 := fun W => neqP y1 y2 y1 y2 W
              have gd1 := fun op x y W => guardP op x y y1 y2 y1 y2 W
              rw [show (!decide (y1 = y1 ∧ y2 = y2)) = false from by simp] at nq1
              clear hl3 hl4 HLA HR hbw
              go_wp2
              go_quiet (fail)
              have HL5 := Lib.hid ((HL4.out.drewN nq).few (T' := [(some ⟨b, off, none⟩, len0, p)]) (fun t ht => List.mem_cons_of_mem _ ht))
              clear c1 c2 HL4 nq1 gd1 e1 e2 ln ln0 lnd
              go_wp2
              go_roundw
              case rel => exact ⟨i + 1, _, congrArg (Value.int .i64) (by omega), by omega, HK'.out, HL5.out⟩
              case measure => simp [intOf]; omega
    · obtain rfl : i = len0 := by omega
      rw [List.take_of_length_le (by rw [HPL.out]; omega)] at hK
      have hkl : K.length ≤ 100 := by have := hgd.length; omega
      obtain ⟨q, hq⟩ : ∃ q, q = K.length := ⟨_, rfl⟩
      rw [← hq] at hkl
      have hls := hgd.list (by omega)
      rw [← hq] at hls
      have HLS := Lib.hid hls
      have HK := Lib.hid hK
      have HQ := Lib.hid hq
      clear hls hgd hK hq
      go_wp2_with fail
      refine HLS.out.mono ?_
      rintro _ U1 ⟨rfl, hv1, hg1⟩
      have hfi := first_any A i cp p k U1 (hg1.vec (A := A) (n := i) (l := p) (List.mem_singleton.2 rfl)) (by omega)
      rw [← HK.out] at hfi
      have HFI := Lib.hid hfi
      have HV1 := Lib.hid hv1
      have HG1 := Lib.hid hg1
      clear hfi hv1 hg1 HLS
      go_wp2_with fail
      refine HFI.out.mono ?_
      rintro _ U2 ⟨A2, q2, c2, rfl, hv2, hb2, -⟩
      have hsm := sameP (some ⟨wr.heap.size, 0, none⟩) A2 q q2 q c2 K K U2 (HV1.out.below hb2) hv2 (by omega) (by have := hv2.length; rw [← HQ.out] at this; omega)
      rw [decide_eq_true rfl] at hsm
      have HSM := Lib.hid hsm
      have HG2 := Lib.hid (HG1.out.below hb2)
      clear hv2 hb2 hsm HV1 HG1 HFI
      go_wp2_with fail
      refine HSM.out.mono ?_
      rintro _ U3 ⟨rfl, hb3⟩
      have hg3 := HG2.out.below hb3
      have hls := hg3.list (by omega)
      rw [← HQ.out] at hls
      have HLS := Lib.hid hls
      clear hb3 hg3 hls HG2 HSM
      go_wp2_with fail
      refine HLS.out.mono ?_
      rintro _ U4 ⟨rfl, hv1, hg1⟩
      have hfi := first_any A i cp p k U4 (hg1.vec (A := A) (n := i) (l := p) (List.mem_singleton.2 rfl)) (by omega)
      rw [← HK.out] at hfi
      have HFI := Lib.hid hfi
      have HV1 := Lib.hid hv1
      have HG1 := Lib.hid hg1
      clear hfi hv1 hg1 HLS
      go_wp2_with fail
      refine HFI.out.mono ?_
      rintro _ U5 ⟨A3, q3, c3, rfl, hv2, hb2, -⟩
      have hsm := sameP (some ⟨U3.heap.size, 0, none⟩) A3 q q3 q c3 K K U5 (HV1.out.below hb2) hv2 (by omega) (by have := hv2.length; rw [← HQ.out] at this; omega)
      rw [decide_eq_true rfl] at hsm
      have HSM := Lib.hid hsm
      have HG2 := Lib.hid (HG1.out.below hb2)
      clear hv2 hb2 hsm HV1 HG1 HFI
      go_wp2_with fail
      refine HSM.out.mono ?_
      rintro _ U6 ⟨rfl, hb3⟩
      have HB := Lib.hid (show Below w.heap.size w U6 from B1.out.trans ((HG2.out.below hb3).base.mono B1.out.size))
      clear hb3 HG2 HSM
      go_wp2
      go_ret
      exact ⟨rfl, HB.out⟩
theorem own : ownKnob Try.prog.godebug = none := by kernel_rfl
theorem laidOut : laidOutB Try.prog = true := by kernel_rfl
set_option maxRecDepth 100000 in
theorem lifted (os : Os) (started : os.Started) (H : Type) (enc : TypeId × Value → H) :
    ReturnsInHanded {} Try.checked os 3 .any (Rows.topkOffersSpec.pre6 enc Try.prog Try.f3 Rows.topkOffersRow.domain false) (Rows.topkOffersSpec.post enc Try.prog Try.f3 false true false false) := by
  refine returnsInHanded_of_change (C := Try.checked) own started (by kernel_rfl) Try.func3
    (ChangeSpec.witness6 (enc := enc) (C := Try.checked) false ⟨#[], #[.slice none 0 0, .int .i64 0], []⟩ 8 (by kernel_rfl) (by kernel_rfl) (by kernel_rfl) (by kernel_rfl)) ?_
  intro W base args ds gs before hval0 hW hcnd _
  have hval : ∀ (j : Nat) t v, Try.f3.params[j]? = some t → args[j]? = some v → Value.okWide Try.prog W .any base t v := hval0
  have hW' := hW
  obtain ⟨p, q, hA0, hV, rfl, hfz, hnd⟩ := hW
  have hA : DataW.TrodAll enc Try.prog W 0 (fun _ => true) true Try.f3.params.toList args.toList ds p := hA0
  rw [Try.params3] at hA hval
  obtain ⟨v0, vs0, d0, ds0, p0, q0, hargs, rfl, rfl, h0, r0⟩ := trodAll_cons hA
  obtain ⟨v1, vs1, d1, ds1, p1, q1, rfl, rfl, rfl, h1, r1⟩ := trodAll_cons r0
  obtain ⟨rfl, rfl, rfl⟩ := trodAll_nil r1
  obtain rfl : args = #[v0, v1] := by cases args; simp_all
  obtain ⟨rfl, rfl⟩ := trodVars_none hV
  obtain ⟨a0, len0, cap0, rfl⟩ := okWide_slice Try.underlying22 (hval 0 22 v0 rfl rfl)
  have k0 := h0
  have lt0 : ∀ x ∈ p0, x.block < W.heap.size := by obtain ⟨m, hm⟩ := k0; exact DataW.trod_lt m _ _ _ hm
  obtain ⟨z0, w0⟩ : ∃ zs, IsRow .i64 W a0 len0 cap0 zs := by
    obtain ⟨fuel, hf⟩ := h0
    rcases open_ints Try.underlying22 Try.underlying3 (by kernel_rfl) hf with ⟨hcs, _⟩ | ⟨x, l, c, zs, hcs, _, hl, hm, hz, _, hcell, hwz⟩
    · simp [Value.cells] at hcs
      obtain ⟨rfl, rfl, rfl⟩ := hcs
      exact ⟨[], .inl ⟨rfl, rfl, rfl, rfl⟩⟩
    · simp [Value.cells] at hcs
      obtain ⟨rfl, rfl, rfl⟩ := hcs
      exact ⟨zs, .inr ⟨_, rfl, hl, hm, by simpa using hz, hcell, hwz⟩⟩
  obtain ⟨a1, rfl, rfl, rfl, w1⟩ := open_int Try.underlying3 (hval 1 3 v1 rfl rfl) h1
  clear hA0 hval0
  refine (walk a0 len0 cap0 z0 a1 W w0 w1).mono fun e W' ⟨he, bel⟩ => ?_
  subst he
  exact ⟨_, rfl, _, _, _, [], _, [], hW', trodAll_mk1 (shut_bool Try.underlying4 _), (trodAll_cons_mk (Below.trod laidOut (by kernel_rfl) (of_decide_eq_true (by kernel_rfl)) k0 bel lt0) (trodAll_cons_mk (shut_int Try.underlying3 w1) trodAll_mk0)), rfl, bel.frame _, fun h => by cases h⟩
theorem over : Rows.topkOffersRow.holds Try.pinned (OpenSpec.ofChange Rows.topkOffersSpec) :=
  OpenClaim.holds_of_wide 3 Try.f3 rfl rfl rfl rfl rfl rfl rfl ⟨rfl, rfl, rfl, rfl, rfl⟩ rfl rfl rfl rfl rfl (by kernel_rfl) Try.func3 (by kernel_rfl)
    (of_decide_eq_true (by kernel_rfl)) (by unfold Func.isWrapper; first | (rw [if_pos (by decide +kernel)]; kernel_rfl) | (rw [if_neg (by decide +kernel)]; exact ⟨rfl, rfl⟩))
    (fun os started H enc _ => lifted os started H enc)
/-- the statement -/
theorem proved : Rows.TopkOffersSaid := over
#print axioms proved
end topkOffers
end Go.Proofs.Ytdpoieemadblnaa
