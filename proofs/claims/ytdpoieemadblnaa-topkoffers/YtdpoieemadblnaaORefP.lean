/-
  Layer 4 (order): the document's own sort, at one type of elements.
-/
import Derived.Test.YtdpoieemadblnaaOInfoP
import Derived.Test.YtdpoieemadblnaaOReadP
import Derived.Deep.RegionHeld3
import Derived.Deep.DeepCutAuto
namespace Go.Proofs.Ytdpoieemadblnaa
open Go.RowKit

set_option maxRecDepth 100000 in
set_option maxHeartbeats 1600000 in
theorem refP_at (A : Option Addr) (n c : Nat) (l : List Om.E) (w : World) (h : VecE w A n l) (hn : n ≤ 50000) :
    Calls Try.prog 33 #[.slice A n c] w fun e w' => ∃ A' c', e = .returned (.slice A' n c') ∧ VecE w' A' n (Om.isort Om.less l) ∧ Below w.heap.size w w' ∧ (∀ g f, A' = some ⟨g, f, none⟩ → w.heap.size ≤ g) ∧ n ≤ c' := by
  obtain ⟨i0, hi, hz0, hz1, hz2⟩ := info_parts Try.infoP
  have HL := Lib.hid h.length
  have H := Lib.hid h
  clear h
  go_enter Try.func33, Try.ntmps33
  go_wp2
  go_loopw [3, 4] (fun v I wr => ∃ (i cc : Nat) (AA : Option Addr), I = .int .i64 (i : Int) ∧ i ≤ n ∧ v = .slice AA i cc ∧ (AA = none → i = 0 ∧ cc = 0) ∧ (i = 0 → AA = none ∧ cc = 0) ∧ i ≤ cc ∧ VecE wr AA i (Om.isort Om.less (l.take i)) ∧ Below w.heap.size w wr ∧ (∀ g f, AA = some ⟨g, f, none⟩ → w.heap.size ≤ g)) (fun _ I _ => n - (intOf I).toNat)
  case atStart => exact ⟨0, 0, none, rfl, Nat.zero_le _, rfl, fun _ => ⟨rfl, rfl⟩, fun _ => ⟨rfl, rfl⟩, Nat.le_refl _, VecE.nil_ _ _, Below.refl _ _, fun _ _ h => by cases h⟩
  case round =>
    obtain ⟨i, cc, AA, rfl, hin, rfl, hA0, hA1, hic, hV, hb, hgo⟩ := hrel
    have HGO := Lib.hid hgo
    clear hgo
    have HA0 := Lib.hid hA0
    have HA1 := Lib.hid hA1
    have HV := Lib.hid hV
    have Hb := Lib.hid hb
    clear hA0 hA1 hV hb
    by_cases hlt : i < n
    · obtain ⟨x, hx⟩ : ∃ x, l[i]? = some x := ⟨_, List.getElem?_eq_getElem (by rw [HL.out]; omega)⟩
      obtain ⟨b, off, rfl, hbb, hc1, hc2⟩ := H.out.at_ hx
      obtain ⟨x1, x2⟩ := x
      have HC1 := Lib.hid hc1
      have HC2 := Lib.hid hc2
      have hl : (Om.isort Om.less (l.take i)).length = i := by rw [Om.isort_length]; simp; rw [HL.out]; omega
      have HE := Lib.hid (fun q (hq : q ≤ i) (h1 : q < i → Om.less (x1, x2) ((Om.isort Om.less (l.take i))[q]?.getD (0, 0)) = true) (h2 : 0 < q → Om.less (x1, x2) ((Om.isort Om.less (l.take i))[q - 1]?.getD (0, 0)) = false) => Om.put_end Om.less_ord hx hq h1 h2)
      obtain ⟨Sd, hSd⟩ : ∃ Sd, Sd = Om.isort Om.less (l.take i) := ⟨_, rfl⟩
      rw [← hSd] at HV hl HE
      have Hl := Lib.hid hl
      clear hx hSd hl hc1 hc2
      go_wp2
      go_loopw [5] (fun K ws => ∃ q : Nat, K = .int .i64 (q : Int) ∧ q ≤ i ∧ (q < i → Om.less (x1, x2) (Sd[q]?.getD (0, 0)) = true) ∧ VecE ws AA i Sd ∧ Below w.heap.size w ws) (fun K _ => (intOf K).toNat)
      case atStart => exact ⟨i, rfl, Nat.le_refl _, fun h => absurd h (by omega), HV.out, Hb.out⟩
      case round =>
        obtain ⟨q, rfl, hq, h3, hV3, hb3⟩ := hrel
        have H3 := Lib.hid h3
        have HV3 := Lib.hid hV3
        have Hb3 := Lib.hid hb3
        clear h3 hV3 hb3 HV Hb
        have hdone : ∀ (hq1 : 0 < q → Om.less (x1, x2) (Sd[q - 1]?.getD (0, 0)) = false), Om.ins Sd q (x1, x2) = Om.isort Om.less (l.take (i + 1)) := fun hq1 => HE.out q hq H3.out hq1
        have HDN := Lib.hid hdone
        clear hdone
        by_cases q0 : q = 0
        · have HF := Lib.hid (HDN.out (fun h => absurd h (by omega)))
          have g1 : decide ((0 : Int) < (q : Int)) = false := by simp; omega
          have g2 : decide (0 < q) = false := by simp; omega
          have HQ0 := Lib.hid q0
          clear q0
          go_wp2
          go_quiet (fail)
          go_wp2
          obtain ⟨ww, hww⟩ : ∃ ww, ww = wr.drewN nq := ⟨_, rfl⟩
          rw [← hww]
          have HVw : Hid (VecE ww AA i Sd) := by rw [hww]; exact HV3.out.drewN nq
          have HBw : Hid (Below w.heap.size w ww) := by rw [hww]; exact below_drewN Hb3.out nq
          clear hww HV3 Hb3 g1 g2
          by_cases i00 : i = 0
          · obtain ⟨rfl, rfl⟩ := HA1.out i00
            have HI0 := Lib.hid i00
            obtain rfl := HQ0.out
            clear i00
            have hsz := HBw.out.size
            have oa := Lib.hid (show (ww.alloc (.cells #[] 27)).drew.ownsRow ww.heap.size 27 2 (.slice (some ⟨ww.heap.size, 0, none⟩) 0 0) 0 (cel []) from own_none2 (heap_alloc_new ww _) (Nat.le_refl _))
            have ba := Lib.hid (show Below ww.heap.size ww (ww.alloc (.cells #[] 27)).drew from ((Below.refl _ ww).alloc (Nat.le_refl _) _).drew)
            have ob := Lib.hid (show ((ww.alloc (.cells #[] 27)).alloc (.cells #[.int .i64 x1, .int .i64 x2] 27)).drew.ownsRow ww.heap.size 27 2 (.slice (some ⟨ww.heap.size, 0, none⟩) 0 0) 0 (cel []) from own_heap2 ((own_none2 (heap_alloc_new ww _) (Nat.le_refl _)).alloc _) rfl)
            have bb := Lib.hid (show Below ww.heap.size ww ((ww.alloc (.cells #[] 27)).alloc (.cells #[.int .i64 x1, .int .i64 x2] 27)).drew from (((Below.refl _ ww).alloc (Nat.le_refl _) _).alloc (by simp) _).drew)
            have xb := Lib.hid (show ((ww.alloc (.cells #[] 27)).alloc (.cells #[.int .i64 x1, .int .i64 x2] 27)).drew.heap[ww.heap.size + 1]? = some (.cells #[.int .i64 x1, .int .i64 x2] 27 (0, 0)) from heap_next ww _ _)
            have oc := Lib.hid (show ((ww.alloc (.cells #[.int .i64 x1, .int .i64 x2] 27)).alloc (.cells #[] 27)).drew.ownsRow ww.heap.size 27 2 (.slice (some ⟨ww.heap.size + 1, 0, none⟩) 0 0) 0 (cel []) from own_none2 (heap_next ww _ _) (by omega))
            have bc := Lib.hid (show Below ww.heap.size ww ((ww.alloc (.cells #[.int .i64 x1, .int .i64 x2] 27)).alloc (.cells #[] 27)).drew from (((Below.refl _ ww).alloc (Nat.le_refl _) _).alloc (by simp) _).drew)
            have xc := Lib.hid (show ((ww.alloc (.cells #[.int .i64 x1, .int .i64 x2] 27)).alloc (.cells #[] 27)).drew.heap[ww.heap.size]? = some (.cells #[.int .i64 x1, .int .i64 x2] 27 (0, 0)) from heap_first ww _ _)
            have c1 : ww.cell? ⟨b, off + i * 2, none⟩ = some (.int .i64 x1) := (HBw.out.cell hbb).trans HC1.out
            have c2 : ww.cell? ⟨b, off + i * 2 + 1, none⟩ = some (.int .i64 x2) := (HBw.out.cell hbb).trans HC2.out
            have k1 : (0 : Int) ≤ (i : Int) := by omega
            have k2 : (i : Int) < (n : Int) := by omega
            have k3 : (i : Int) ≤ (n : Int) := by omega
            have HBO := Lib.hid (fun (W : World) (hW : Below ww.heap.size ww W) => HBw.out.trans (hW.mono hsz))
            go_region_held3 (fun w' => w'.cell? ⟨b, off + i * 2, none⟩ = some (.int .i64 x1) ∧ w'.cell? ⟨b, off + i * 2 + 1, none⟩ = some (.int .i64 x2)) (go_keep) (first | (refine step_append_vec rfl (.tmp 30) (.tmp 33) 29 rfl ww.heap.size 27 i0 (.agg #[.int .i64 0, .int .i64 0]) 16 Try.underlying29 hi hz0 hz1 hz2 rfl (.slice (some ⟨ww.heap.size, 0, none⟩) 0 0) 0 [] (by simp [Act.eval, Act.put]) oa.out none 0 0 [] (by simp [Act.eval, Act.put]) (fun _ => rfl) (VecE.nil_ _ _) (by unfold maxLen; omega) (by omega) ba.out.size ?_; intro v1 w2 ho hg; have HB2 := Lib.hid (ba.out.grown hg ba.out.size (own_block2 oa.out)); have HOY := Lib.hid (ho.alloc (.cells #[.int .i64 x1, .int .i64 x2] 27)); have HVX := Lib.hid (VecE.one (t := 27) (heap_alloc_new w2 (.cells #[.int .i64 x1, .int .i64 x2] 27))); have HBY := Lib.hid (HB2.out.alloc (Nat.le_trans ba.out.size hg.size) (.cells #[.int .i64 x1, .int .i64 x2] 27)); have e1 := ((HBO.out _ HB2.out).cell hbb).trans HC1.out; have e2 := ((HBO.out _ HB2.out).cell hbb).trans HC2.out; clear ho hg) | (refine step_append_vec rfl (.tmp 30) (.tmp 33) 29 rfl ww.heap.size 27 i0 (.agg #[.int .i64 0, .int .i64 0]) 16 Try.underlying29 hi hz0 hz1 hz2 rfl (.slice (some ⟨ww.heap.size, 0, none⟩) 0 0) 0 [] (by simp [Act.eval, Act.put]) ob.out none 0 0 [] (by simp [Act.eval, Act.put]) (fun _ => rfl) (VecE.nil_ _ _) (by unfold maxLen; omega) (by omega) bb.out.size ?_; intro v1 w2 ho hg; have HB2 := Lib.hid (bb.out.grown hg bb.out.size (own_block2 ob.out)); have HOY := Lib.hid ho; have HVX := Lib.hid (VecE.one (t := 27) ((hg.block (ww.heap.size + 1) (lt_of_block xb.out) (by simp [Value.ownBlock])).trans xb.out)); have HBY := HB2; have e1 := ((HBO.out _ HB2.out).cell hbb).trans HC1.out; have e2 := ((HBO.out _ HB2.out).cell hbb).trans HC2.out; clear ho hg) | (refine step_append_vec rfl (.tmp 30) (.tmp 33) 29 rfl ww.heap.size 27 i0 (.agg #[.int .i64 0, .int .i64 0]) 16 Try.underlying29 hi hz0 hz1 hz2 rfl (.slice (some ⟨(ww.heap.size + 1), 0, none⟩) 0 0) 0 [] (by simp [Act.eval, Act.put]) oc.out none 0 0 [] (by simp [Act.eval, Act.put]) (fun _ => rfl) (VecE.nil_ _ _) (by unfold maxLen; omega) (by omega) bc.out.size ?_; intro v1 w2 ho hg; have HB2 := Lib.hid (bc.out.grown hg bc.out.size (own_block2 oc.out)); have HOY := Lib.hid ho; have HVX := Lib.hid (VecE.one (t := 27) ((hg.block ww.heap.size (lt_of_block xc.out) (by simp [Value.ownBlock])).trans xc.out)); have HBY := HB2; have e1 := ((HBO.out _ HB2.out).cell hbb).trans HC1.out; have e2 := ((HBO.out _ HB2.out).cell hbb).trans HC2.out; clear ho hg) | (refine step_append_vec rfl (.tmp 34) (.tmp 39) 29 rfl ww.heap.size 27 i0 (.agg #[.int .i64 0, .int .i64 0]) 16 Try.underlying29 hi hz0 hz1 hz2 rfl v1 (0 + 0) ([] ++ []) (by simp [Act.eval, Act.put]) HOY.out _ 1 1 [(x1, x2)] (by simp [Act.eval, Act.put]) (fun h => by cases h) HVX.out (by unfold maxLen; omega) (by omega) HBY.out.size ?_; intro v2 w3 ho hg; have HB3 := Lib.hid (HBY.out.grown hg HBY.out.size (own_block2 HOY.out)); have HO3 := Lib.hid ho; have f1 := ((HBO.out _ HB3.out).cell hbb).trans HC1.out; have f2 := ((HBO.out _ HB3.out).cell hbb).trans HC2.out; clear ho hg) | (refine step_append_vec rfl (.tmp 40) (.tmp 43) 29 rfl ww.heap.size 27 i0 (.agg #[.int .i64 0, .int .i64 0]) 16 Try.underlying29 hi hz0 hz1 hz2 rfl v2 (0 + 0 + 1) ([] ++ [] ++ [(x1, x2)]) (by simp [Act.eval, Act.put]) HO3.out none 0 0 [] (by simp [Act.eval, Act.put]) (fun _ => rfl) (VecE.nil_ _ _) (by unfold maxLen; omega) (by omega) HB3.out.size ?_; intro v3 w4 ho hg; have HB4 := Lib.hid (HBO.out _ (HB3.out.grown hg HB3.out.size (own_block2 HO3.out))); have HO4 := Lib.hid ho; have d1 := (HB4.out.cell hbb).trans HC1.out; have d2 := (HB4.out.cell hbb).trans HC2.out; clear ho hg))
            all_goals
              have hO := HO4.out
              rw [(show 0 + 0 + 1 + 0 = i + 1 from by have := HI0.out; omega), show ([] ++ [] ++ [(x1, x2)] ++ []) = Om.isort Om.less (l.take (i + 1)) from by rw [← HF.out, show Sd = [] from List.length_eq_zero_iff.1 (by rw [Hl.out]; exact HI0.out)]; simp [Om.ins]] at hO
              obtain ⟨A', c', hv, hn', hc'⟩ := own_form2 hO
              subst hv
              have HV5 := Lib.hid (VecE.of_own hO)
              have HG5 : Hid (∀ g f, A' = some ⟨g, f, none⟩ → w.heap.size ≤ g) := fun g f e => Nat.le_trans HBw.out.size (own_block2 hO g (by rw [e]; rfl))
              have HN5 : Hid (A' = none → i + 1 = 0 ∧ c' = 0) := by intro h; subst h; obtain ⟨_, _, h', _⟩ := HV5.out.2 (by omega); cases h'
              clear hO HO4 hn' HB3 HO3 HBY HOY HVX HB2 e1 e2 f1 f2 d1 d2 oa ba ob bb xb oc bc xc c1 c2 HBO
              go_simp
              go_wp2
              go_roundw
              case rel => exact ⟨i + 1, c', A', congrArg (Value.int .i64) (by omega), by omega, rfl, HN5.out, fun h => absurd h (by omega), hc', HV5.out, HB4.out, HG5.out⟩
              case measure => simp [intOf]; omega
          · obtain ⟨b', off', hAA, hbb2, -⟩ := HVw.out.2 (by omega)
            subst hAA
            clear i00
            have hsz := HBw.out.size
            have oa := Lib.hid (show (ww.alloc (.cells #[] 27)).drew.ownsRow ww.heap.size 27 2 (.slice (some ⟨ww.heap.size, 0, none⟩) 0 0) 0 (cel []) from own_none2 (heap_alloc_new ww _) (Nat.le_refl _))
            have ba := Lib.hid (show Below ww.heap.size ww (ww.alloc (.cells #[] 27)).drew from ((Below.refl _ ww).alloc (Nat.le_refl _) _).drew)
            have ob := Lib.hid (show ((ww.alloc (.cells #[] 27)).alloc (.cells #[.int .i64 x1, .int .i64 x2] 27)).drew.ownsRow ww.heap.size 27 2 (.slice (some ⟨ww.heap.size, 0, none⟩) 0 0) 0 (cel []) from own_heap2 ((own_none2 (heap_alloc_new ww _) (Nat.le_refl _)).alloc _) rfl)
            have bb := Lib.hid (show Below ww.heap.size ww ((ww.alloc (.cells #[] 27)).alloc (.cells #[.int .i64 x1, .int .i64 x2] 27)).drew from (((Below.refl _ ww).alloc (Nat.le_refl _) _).alloc (by simp) _).drew)
            have xb := Lib.hid (show ((ww.alloc (.cells #[] 27)).alloc (.cells #[.int .i64 x1, .int .i64 x2] 27)).drew.heap[ww.heap.size + 1]? = some (.cells #[.int .i64 x1, .int .i64 x2] 27 (0, 0)) from heap_next ww _ _)
            have oc := Lib.hid (show ((ww.alloc (.cells #[.int .i64 x1, .int .i64 x2] 27)).alloc (.cells #[] 27)).drew.ownsRow ww.heap.size 27 2 (.slice (some ⟨ww.heap.size + 1, 0, none⟩) 0 0) 0 (cel []) from own_none2 (heap_next ww _ _) (by omega))
            have bc := Lib.hid (show Below ww.heap.size ww ((ww.alloc (.cells #[.int .i64 x1, .int .i64 x2] 27)).alloc (.cells #[] 27)).drew from (((Below.refl _ ww).alloc (Nat.le_refl _) _).alloc (by simp) _).drew)
            have xc := Lib.hid (show ((ww.alloc (.cells #[.int .i64 x1, .int .i64 x2] 27)).alloc (.cells #[] 27)).drew.heap[ww.heap.size]? = some (.cells #[.int .i64 x1, .int .i64 x2] 27 (0, 0)) from heap_first ww _ _)
            have c1 : ww.cell? ⟨b, off + i * 2, none⟩ = some (.int .i64 x1) := (HBw.out.cell hbb).trans HC1.out
            have c2 : ww.cell? ⟨b, off + i * 2 + 1, none⟩ = some (.int .i64 x2) := (HBw.out.cell hbb).trans HC2.out
            have k1 : (0 : Int) ≤ (i : Int) := by omega
            have k2 : (i : Int) < (n : Int) := by omega
            have k3 : (i : Int) ≤ (n : Int) := by omega
            have k4 : (0 : Int) ≤ (q : Int) := by omega
            have k5 : (q : Int) ≤ (i : Int) := by omega
            have k6 : (q : Int) ≤ (cc : Int) := by omega
            have k7 : (i : Int) ≤ (cc : Int) := by omega
            have HBO := Lib.hid (fun (W : World) (hW : Below ww.heap.size ww W) => HBw.out.trans (hW.mono hsz))
            have S1v := Lib.hid (HVw.out.take (k := q) (by omega))
            have S3v : Hid (VecE ww (if cc = q then some ⟨b', off', none⟩ else some ⟨b', off' + q * 2, none⟩) (i - q) (Sd.drop q)) := HVw.out.cut (by omega) hic
            have S3n : Hid ((if cc = q then some ⟨b', off', none⟩ else some ⟨b', off' + q * 2, none⟩ : Option Addr) = none → cc - q = 0) := by intro h; split at h <;> cases h
            go_region_held3 (fun w' => w'.cell? ⟨b, off + i * 2, none⟩ = some (.int .i64 x1) ∧ w'.cell? ⟨b, off + i * 2 + 1, none⟩ = some (.int .i64 x2)) (go_keep) (first | (refine step_append_vec rfl (.tmp 30) (.tmp 33) 29 rfl ww.heap.size 27 i0 (.agg #[.int .i64 0, .int .i64 0]) 16 Try.underlying29 hi hz0 hz1 hz2 rfl (.slice (some ⟨ww.heap.size, 0, none⟩) 0 0) 0 [] (by simp [Act.eval, Act.put]) oa.out (some ⟨b', off', none⟩) q cc (Sd.take q) (by simp [Act.eval, Act.put]) (fun h => by cases h) (S1v.out.below ba.out) (by unfold maxLen; omega) (by omega) ba.out.size ?_; intro v1 w2 ho hg; have HB2 := Lib.hid (ba.out.grown hg ba.out.size (own_block2 oa.out)); have HOY := Lib.hid (ho.alloc (.cells #[.int .i64 x1, .int .i64 x2] 27)); have HVX := Lib.hid (VecE.one (t := 27) (heap_alloc_new w2 (.cells #[.int .i64 x1, .int .i64 x2] 27))); have HBY := Lib.hid (HB2.out.alloc (Nat.le_trans ba.out.size hg.size) (.cells #[.int .i64 x1, .int .i64 x2] 27)); have e1 := ((HBO.out _ HB2.out).cell hbb).trans HC1.out; have e2 := ((HBO.out _ HB2.out).cell hbb).trans HC2.out; clear ho hg) | (refine step_append_vec rfl (.tmp 30) (.tmp 33) 29 rfl ww.heap.size 27 i0 (.agg #[.int .i64 0, .int .i64 0]) 16 Try.underlying29 hi hz0 hz1 hz2 rfl (.slice (some ⟨ww.heap.size, 0, none⟩) 0 0) 0 [] (by simp [Act.eval, Act.put]) ob.out (some ⟨b', off', none⟩) q cc (Sd.take q) (by simp [Act.eval, Act.put]) (fun h => by cases h) (S1v.out.below bb.out) (by unfold maxLen; omega) (by omega) bb.out.size ?_; intro v1 w2 ho hg; have HB2 := Lib.hid (bb.out.grown hg bb.out.size (own_block2 ob.out)); have HOY := Lib.hid ho; have HVX := Lib.hid (VecE.one (t := 27) ((hg.block (ww.heap.size + 1) (lt_of_block xb.out) (by simp [Value.ownBlock])).trans xb.out)); have HBY := HB2; have e1 := ((HBO.out _ HB2.out).cell hbb).trans HC1.out; have e2 := ((HBO.out _ HB2.out).cell hbb).trans HC2.out; clear ho hg) | (refine step_append_vec rfl (.tmp 30) (.tmp 33) 29 rfl ww.heap.size 27 i0 (.agg #[.int .i64 0, .int .i64 0]) 16 Try.underlying29 hi hz0 hz1 hz2 rfl (.slice (some ⟨(ww.heap.size + 1), 0, none⟩) 0 0) 0 [] (by simp [Act.eval, Act.put]) oc.out (some ⟨b', off', none⟩) q cc (Sd.take q) (by simp [Act.eval, Act.put]) (fun h => by cases h) (S1v.out.below bc.out) (by unfold maxLen; omega) (by omega) bc.out.size ?_; intro v1 w2 ho hg; have HB2 := Lib.hid (bc.out.grown hg bc.out.size (own_block2 oc.out)); have HOY := Lib.hid ho; have HVX := Lib.hid (VecE.one (t := 27) ((hg.block ww.heap.size (lt_of_block xc.out) (by simp [Value.ownBlock])).trans xc.out)); have HBY := HB2; have e1 := ((HBO.out _ HB2.out).cell hbb).trans HC1.out; have e2 := ((HBO.out _ HB2.out).cell hbb).trans HC2.out; clear ho hg) | (refine step_append_vec rfl (.tmp 34) (.tmp 39) 29 rfl ww.heap.size 27 i0 (.agg #[.int .i64 0, .int .i64 0]) 16 Try.underlying29 hi hz0 hz1 hz2 rfl v1 (0 + q) ([] ++ (Sd.take q)) (by simp [Act.eval, Act.put]) HOY.out _ 1 1 [(x1, x2)] (by simp [Act.eval, Act.put]) (fun h => by cases h) HVX.out (by unfold maxLen; omega) (by omega) HBY.out.size ?_; intro v2 w3 ho hg; have HB3 := Lib.hid (HBY.out.grown hg HBY.out.size (own_block2 HOY.out)); have HO3 := Lib.hid ho; have f1 := ((HBO.out _ HB3.out).cell hbb).trans HC1.out; have f2 := ((HBO.out _ HB3.out).cell hbb).trans HC2.out; clear ho hg) | (refine step_append_vec rfl (.tmp 40) (.tmp 43) 29 rfl ww.heap.size 27 i0 (.agg #[.int .i64 0, .int .i64 0]) 16 Try.underlying29 hi hz0 hz1 hz2 rfl v2 (0 + q + 1) ([] ++ (Sd.take q) ++ [(x1, x2)]) (by simp [Act.eval, Act.put]) HO3.out (if cc = q then some ⟨b', off', none⟩ else some ⟨b', off' + q * 2, none⟩) (i - q) (cc - q) (Sd.drop q) (by simp [Act.eval, Act.put]) S3n.out (S3v.out.below HB3.out) (by unfold maxLen; omega) (by omega) HB3.out.size ?_; intro v3 w4 ho hg; have HB4 := Lib.hid (HBO.out _ (HB3.out.grown hg HB3.out.size (own_block2 HO3.out))); have HO4 := Lib.hid ho; have d1 := (HB4.out.cell hbb).trans HC1.out; have d2 := (HB4.out.cell hbb).trans HC2.out; clear ho hg))
            all_goals
              have hO := HO4.out
              rw [(show 0 + q + 1 + (i - q) = i + 1 from by omega), show ([] ++ (Sd.take q) ++ [(x1, x2)] ++ (Sd.drop q)) = Om.isort Om.less (l.take (i + 1)) from by rw [← HF.out]; simp [Om.ins]] at hO
              obtain ⟨A', c', hv, hn', hc'⟩ := own_form2 hO
              subst hv
              have HV5 := Lib.hid (VecE.of_own hO)
              have HG5 : Hid (∀ g f, A' = some ⟨g, f, none⟩ → w.heap.size ≤ g) := fun g f e => Nat.le_trans HBw.out.size (own_block2 hO g (by rw [e]; rfl))
              have HN5 : Hid (A' = none → i + 1 = 0 ∧ c' = 0) := by intro h; subst h; obtain ⟨_, _, h', _⟩ := HV5.out.2 (by omega); cases h'
              clear hO HO4 hn' HB3 HO3 HBY HOY HVX HB2 e1 e2 f1 f2 d1 d2 oa ba ob bb xb oc bc xc c1 c2 HBO S1v S3v S3n
              go_simp
              go_wp2
              go_roundw
              case rel => exact ⟨i + 1, c', A', congrArg (Value.int .i64) (by omega), by omega, rfl, HN5.out, fun h => absurd h (by omega), hc', HV5.out, HB4.out, HG5.out⟩
              case measure => simp [intOf]; omega
        · have q1 : 0 < q := by omega
          clear q0
          obtain ⟨y, hy⟩ : ∃ y, Sd[q - 1]? = some y := ⟨_, List.getElem?_eq_getElem (by rw [Hl.out]; omega)⟩
          obtain ⟨b', off', hAA, hbb', hc3, hc4⟩ := HV3.out.at_ hy
          subst hAA
          have c1 : wr.cell? ⟨b, off + i * 2, none⟩ = some (.int .i64 x1) := (Hb3.out.cell hbb).trans HC1.out
          have c2 : wr.cell? ⟨b, off + i * 2 + 1, none⟩ = some (.int .i64 x2) := (Hb3.out.cell hbb).trans HC2.out
          have HY := Lib.hid hy
          obtain ⟨y1, y2⟩ := y
          have g1 : decide ((0 : Int) < (q : Int)) = true := by simp; omega
          have g2 : decide (0 < q) = true := by simp; omega
          have v2 : (1 : Int) ≤ (q : Int) := by omega
          have v5 : (0 : Int) < (q : Int) := by omega
          have v4 : (q : Int) - 1 < (i : Int) := by omega
          have v3 : ((q : Int) - 1).toNat = q - 1 := by omega
          have v1 : IntKind.i64.wrap ((q : Int) - 1) = (q : Int) - 1 := IntWalk.i64_in _ (by omega)
          have h0 := fun w => less_any x1 x2 y1 y2 w
          clear hy
          cases hf : Om.less (x1, x2) (y1, y2) with
          | true =>
            rw [hf] at h0
            have HF := Lib.hid hf
            clear hf
            go_wp2
            go_still_tail 12, (by kernel_rfl)
            change wpList _ _ _ _ _ wr.drew
            obtain ⟨W, hW⟩ : ∃ W, W = wr.drew := ⟨_, rfl⟩
            rw [← hW]
            have HBW : Hid (Below w.heap.size w W) := by rw [hW]; exact Hb3.out.drew
            have HVW : Hid (VecE W (some ⟨b', off', none⟩) i Sd) := by rw [hW]; exact HV3.out.drew
            clear hW Hb3 HV3 c1 c2 hc3 hc4 v1 v3
            go_wp2_with fail
            refine (h0 _).mono ?_
            rintro _ w1 ⟨rfl, hb1⟩
            have HB4 := Lib.hid (HBW.out.trans (hb1.mono HBW.out.size))
            have HV4 := Lib.hid (HVW.out.below hb1)
            clear hb1 HBW HVW h0
            go_wp2
            go_roundw
            case rel => exact ⟨q - 1, congrArg (Value.int .i64) (by omega), by omega, fun _ => by rw [HY.out]; exact HF.out, HV4.out, HB4.out⟩
            case measure => simp [intOf]; omega
          | false =>
            rw [hf] at h0
            have HF0 := Lib.hid hf
            have HF := Lib.hid (HDN.out (fun _ => by rw [HY.out]; exact HF0.out))
            clear hf
            go_wp2
            go_still_tail 12, (by kernel_rfl)
            change wpList _ _ _ _ _ wr.drew
            obtain ⟨W, hW⟩ : ∃ W, W = wr.drew := ⟨_, rfl⟩
            rw [← hW]
            have HBW : Hid (Below w.heap.size w W) := by rw [hW]; exact Hb3.out.drew
            have HVW : Hid (VecE W (some ⟨b', off', none⟩) i Sd) := by rw [hW]; exact HV3.out.drew
            clear hW Hb3 HV3 c1 c2 hc3 hc4 v1 v3
            go_wp2_with fail
            refine (h0 _).mono ?_
            rintro _ ww ⟨rfl, hb1⟩
            have HBw := Lib.hid (HBW.out.trans (hb1.mono HBW.out.size))
            have HVw := Lib.hid (HVW.out.below hb1)
            clear hb1 HBW HVW h0
            go_wp2
            clear g1 g2
            have hsz := HBw.out.size
            have oa := Lib.hid (show (ww.alloc (.cells #[] 27)).drew.ownsRow ww.heap.size 27 2 (.slice (some ⟨ww.heap.size, 0, none⟩) 0 0) 0 (cel []) from own_none2 (heap_alloc_new ww _) (Nat.le_refl _))
            have ba := Lib.hid (show Below ww.heap.size ww (ww.alloc (.cells #[] 27)).drew from ((Below.refl _ ww).alloc (Nat.le_refl _) _).drew)
            have ob := Lib.hid (show ((ww.alloc (.cells #[] 27)).alloc (.cells #[.int .i64 x1, .int .i64 x2] 27)).drew.ownsRow ww.heap.size 27 2 (.slice (some ⟨ww.heap.size, 0, none⟩) 0 0) 0 (cel []) from own_heap2 ((own_none2 (heap_alloc_new ww _) (Nat.le_refl _)).alloc _) rfl)
            have bb := Lib.hid (show Below ww.heap.size ww ((ww.alloc (.cells #[] 27)).alloc (.cells #[.int .i64 x1, .int .i64 x2] 27)).drew from (((Below.refl _ ww).alloc (Nat.le_refl _) _).alloc (by simp) _).drew)
            have xb := Lib.hid (show ((ww.alloc (.cells #[] 27)).alloc (.cells #[.int .i64 x1, .int .i64 x2] 27)).drew.heap[ww.heap.size + 1]? = some (.cells #[.int .i64 x1, .int .i64 x2] 27 (0, 0)) from heap_next ww _ _)
            have oc := Lib.hid (show ((ww.alloc (.cells #[.int .i64 x1, .int .i64 x2] 27)).alloc (.cells #[] 27)).drew.ownsRow ww.heap.size 27 2 (.slice (some ⟨ww.heap.size + 1, 0, none⟩) 0 0) 0 (cel []) from own_none2 (heap_next ww _ _) (by omega))
            have bc := Lib.hid (show Below ww.heap.size ww ((ww.alloc (.cells #[.int .i64 x1, .int .i64 x2] 27)).alloc (.cells #[] 27)).drew from (((Below.refl _ ww).alloc (Nat.le_refl _) _).alloc (by simp) _).drew)
            have xc := Lib.hid (show ((ww.alloc (.cells #[.int .i64 x1, .int .i64 x2] 27)).alloc (.cells #[] 27)).drew.heap[ww.heap.size]? = some (.cells #[.int .i64 x1, .int .i64 x2] 27 (0, 0)) from heap_first ww _ _)
            have c1 : ww.cell? ⟨b, off + i * 2, none⟩ = some (.int .i64 x1) := (HBw.out.cell hbb).trans HC1.out
            have c2 : ww.cell? ⟨b, off + i * 2 + 1, none⟩ = some (.int .i64 x2) := (HBw.out.cell hbb).trans HC2.out
            have k1 : (0 : Int) ≤ (i : Int) := by omega
            have k2 : (i : Int) < (n : Int) := by omega
            have k3 : (i : Int) ≤ (n : Int) := by omega
            have k4 : (0 : Int) ≤ (q : Int) := by omega
            have k5 : (q : Int) ≤ (i : Int) := by omega
            have k6 : (q : Int) ≤ (cc : Int) := by omega
            have k7 : (i : Int) ≤ (cc : Int) := by omega
            have HBO := Lib.hid (fun (W : World) (hW : Below ww.heap.size ww W) => HBw.out.trans (hW.mono hsz))
            have S1v := Lib.hid (HVw.out.take (k := q) (by omega))
            have S3v : Hid (VecE ww (if cc = q then some ⟨b', off', none⟩ else some ⟨b', off' + q * 2, none⟩) (i - q) (Sd.drop q)) := HVw.out.cut (by omega) hic
            have S3n : Hid ((if cc = q then some ⟨b', off', none⟩ else some ⟨b', off' + q * 2, none⟩ : Option Addr) = none → cc - q = 0) := by intro h; split at h <;> cases h
            go_region_held3 (fun w' => w'.cell? ⟨b, off + i * 2, none⟩ = some (.int .i64 x1) ∧ w'.cell? ⟨b, off + i * 2 + 1, none⟩ = some (.int .i64 x2)) (go_keep) (first | (refine step_append_vec rfl (.tmp 30) (.tmp 33) 29 rfl ww.heap.size 27 i0 (.agg #[.int .i64 0, .int .i64 0]) 16 Try.underlying29 hi hz0 hz1 hz2 rfl (.slice (some ⟨ww.heap.size, 0, none⟩) 0 0) 0 [] (by simp [Act.eval, Act.put]) oa.out (some ⟨b', off', none⟩) q cc (Sd.take q) (by simp [Act.eval, Act.put]) (fun h => by cases h) (S1v.out.below ba.out) (by unfold maxLen; omega) (by omega) ba.out.size ?_; intro v1 w2 ho hg; have HB2 := Lib.hid (ba.out.grown hg ba.out.size (own_block2 oa.out)); have HOY := Lib.hid (ho.alloc (.cells #[.int .i64 x1, .int .i64 x2] 27)); have HVX := Lib.hid (VecE.one (t := 27) (heap_alloc_new w2 (.cells #[.int .i64 x1, .int .i64 x2] 27))); have HBY := Lib.hid (HB2.out.alloc (Nat.le_trans ba.out.size hg.size) (.cells #[.int .i64 x1, .int .i64 x2] 27)); have e1 := ((HBO.out _ HB2.out).cell hbb).trans HC1.out; have e2 := ((HBO.out _ HB2.out).cell hbb).trans HC2.out; clear ho hg) | (refine step_append_vec rfl (.tmp 30) (.tmp 33) 29 rfl ww.heap.size 27 i0 (.agg #[.int .i64 0, .int .i64 0]) 16 Try.underlying29 hi hz0 hz1 hz2 rfl (.slice (some ⟨ww.heap.size, 0, none⟩) 0 0) 0 [] (by simp [Act.eval, Act.put]) ob.out (some ⟨b', off', none⟩) q cc (Sd.take q) (by simp [Act.eval, Act.put]) (fun h => by cases h) (S1v.out.below bb.out) (by unfold maxLen; omega) (by omega) bb.out.size ?_; intro v1 w2 ho hg; have HB2 := Lib.hid (bb.out.grown hg bb.out.size (own_block2 ob.out)); have HOY := Lib.hid ho; have HVX := Lib.hid (VecE.one (t := 27) ((hg.block (ww.heap.size + 1) (lt_of_block xb.out) (by simp [Value.ownBlock])).trans xb.out)); have HBY := HB2; have e1 := ((HBO.out _ HB2.out).cell hbb).trans HC1.out; have e2 := ((HBO.out _ HB2.out).cell hbb).trans HC2.out; clear ho hg) | (refine step_append_vec rfl (.tmp 30) (.tmp 33) 29 rfl ww.heap.size 27 i0 (.agg #[.int .i64 0, .int .i64 0]) 16 Try.underlying29 hi hz0 hz1 hz2 rfl (.slice (some ⟨(ww.heap.size + 1), 0, none⟩) 0 0) 0 [] (by simp [Act.eval, Act.put]) oc.out (some ⟨b', off', none⟩) q cc (Sd.take q) (by simp [Act.eval, Act.put]) (fun h => by cases h) (S1v.out.below bc.out) (by unfold maxLen; omega) (by omega) bc.out.size ?_; intro v1 w2 ho hg; have HB2 := Lib.hid (bc.out.grown hg bc.out.size (own_block2 oc.out)); have HOY := Lib.hid ho; have HVX := Lib.hid (VecE.one (t := 27) ((hg.block ww.heap.size (lt_of_block xc.out) (by simp [Value.ownBlock])).trans xc.out)); have HBY := HB2; have e1 := ((HBO.out _ HB2.out).cell hbb).trans HC1.out; have e2 := ((HBO.out _ HB2.out).cell hbb).trans HC2.out; clear ho hg) | (refine step_append_vec rfl (.tmp 34) (.tmp 39) 29 rfl ww.heap.size 27 i0 (.agg #[.int .i64 0, .int .i64 0]) 16 Try.underlying29 hi hz0 hz1 hz2 rfl v1 (0 + q) ([] ++ (Sd.take q)) (by simp [Act.eval, Act.put]) HOY.out _ 1 1 [(x1, x2)] (by simp [Act.eval, Act.put]) (fun h => by cases h) HVX.out (by unfold maxLen; omega) (by omega) HBY.out.size ?_; intro v2 w3 ho hg; have HB3 := Lib.hid (HBY.out.grown hg HBY.out.size (own_block2 HOY.out)); have HO3 := Lib.hid ho; have f1 := ((HBO.out _ HB3.out).cell hbb).trans HC1.out; have f2 := ((HBO.out _ HB3.out).cell hbb).trans HC2.out; clear ho hg) | (refine step_append_vec rfl (.tmp 40) (.tmp 43) 29 rfl ww.heap.size 27 i0 (.agg #[.int .i64 0, .int .i64 0]) 16 Try.underlying29 hi hz0 hz1 hz2 rfl v2 (0 + q + 1) ([] ++ (Sd.take q) ++ [(x1, x2)]) (by simp [Act.eval, Act.put]) HO3.out (if cc = q then some ⟨b', off', none⟩ else some ⟨b', off' + q * 2, none⟩) (i - q) (cc - q) (Sd.drop q) (by simp [Act.eval, Act.put]) S3n.out (S3v.out.below HB3.out) (by unfold maxLen; omega) (by omega) HB3.out.size ?_; intro v3 w4 ho hg; have HB4 := Lib.hid (HBO.out _ (HB3.out.grown hg HB3.out.size (own_block2 HO3.out))); have HO4 := Lib.hid ho; have d1 := (HB4.out.cell hbb).trans HC1.out; have d2 := (HB4.out.cell hbb).trans HC2.out; clear ho hg))
            all_goals
              have hO := HO4.out
              rw [(show 0 + q + 1 + (i - q) = i + 1 from by omega), show ([] ++ (Sd.take q) ++ [(x1, x2)] ++ (Sd.drop q)) = Om.isort Om.less (l.take (i + 1)) from by rw [← HF.out]; simp [Om.ins]] at hO
              obtain ⟨A', c', hv, hn', hc'⟩ := own_form2 hO
              subst hv
              have HV5 := Lib.hid (VecE.of_own hO)
              have HG5 : Hid (∀ g f, A' = some ⟨g, f, none⟩ → w.heap.size ≤ g) := fun g f e => Nat.le_trans HBw.out.size (own_block2 hO g (by rw [e]; rfl))
              have HN5 : Hid (A' = none → i + 1 = 0 ∧ c' = 0) := by intro h; subst h; obtain ⟨_, _, h', _⟩ := HV5.out.2 (by omega); cases h'
              clear hO HO4 hn' HB3 HO3 HBY HOY HVX HB2 e1 e2 f1 f2 d1 d2 oa ba ob bb xb oc bc xc c1 c2 HBO S1v S3v S3n
              go_simp
              go_wp2
              go_roundw
              case rel => exact ⟨i + 1, c', A', congrArg (Value.int .i64) (by omega), by omega, rfl, HN5.out, fun h => absurd h (by omega), hc', HV5.out, HB4.out, HG5.out⟩
              case measure => simp [intOf]; omega
    · obtain rfl : i = n := by omega
      have HV5 : Hid (VecE wr AA i (Om.isort Om.less l)) := by
        have := HV.out
        rw [List.take_of_length_le (by rw [HL.out]; omega)] at this
        exact this
      go_wp2
      go_ret
      exact ⟨AA, cc, rfl, HV5.out, Hb.out, HGO.out, by omega⟩
theorem refP (A : Option Addr) (n c : Nat) (l : List Om.E) (w : World) (h : VecE w A n l) (hn : n ≤ 50000) :
    Calls Try.prog 33 #[.slice A n c] w fun e w' => ∃ A' c', e = .returned (.slice A' n c') ∧ VecE w' A' n (Om.isort Om.less l) ∧ Below w.heap.size w w' :=
  (refP_at A n c l w h hn).mono fun e w' ⟨A', c', h1, h2, h3, _⟩ => ⟨A', c', h1, h2, h3⟩
end Go.Proofs.Ytdpoieemadblnaa
