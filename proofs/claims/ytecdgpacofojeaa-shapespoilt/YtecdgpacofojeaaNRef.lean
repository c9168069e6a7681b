/-
  Layer 9 (marks): the document's own functions, by contracts: Same, Unique.
-/
import Derived.Test.YtecdgpacofojeaaNMem
import Derived.WalkKit
namespace Go.Proofs.Ytecdgpacofojeaa
open Go.RowKit

theorem take_step {l l' : List Int} {i : Nat} {x : Int} (h : l.take i = l'.take i) (h1 : l[i]? = some x) (h2 : l'[i]? = some x) : l.take (i + 1) = l'.take (i + 1) := by rw [List.take_add_one, List.take_add_one, h, h1, h2]
theorem refSame (A A' : Option Addr) (n c n' c' : Nat) (l l' : List Int) (w : World) (h : Sl w A n c l) (h' : Sl w A' n' c' l') (hn : n ≤ 1000000) :
    Calls Try.prog 16 #[.slice A n c, .slice A' n' c'] w fun e w' => e = .returned (.bool (decide (l = l'))) ∧ Below w.heap.size w w' := by
  have hl := h.length
  have hl' := h'.length
  by_cases hnn : n = n'
  · subst hnn
    have HS := Lib.hid h
    have HS' := Lib.hid h'
    have HL := Lib.hid hl
    have HL' := Lib.hid hl'
    clear h h' hl hl'
    go_enter Try.func16, Try.ntmps16
    go_wp2
    go_loopw [5] (fun p wr => ∃ k : Nat, p = .int .i64 (k : Int) ∧ k ≤ n ∧ l.take k = l'.take k ∧ Below w.heap.size w wr) (fun p _ => n - (intOf p).toNat)
    case atStart => exact ⟨0, rfl, Nat.zero_le _, rfl, Below.refl _ _⟩
    case round =>
      obtain ⟨k, rfl, hk, ht, hb⟩ := hrel
      have HT := Lib.hid ht
      have HB := Lib.hid hb
      clear ht hb
      by_cases hlt : k < n
      · obtain ⟨x, hx⟩ := HS.out.get hlt
        obtain ⟨y, hy⟩ := HS'.out.get hlt
        obtain ⟨b, off, rfl, hbl, c1⟩ := HS.out.at_ hx
        obtain ⟨b', off', rfl, hbl', c2⟩ := HS'.out.at_ hy
        replace c1 := (HB.out.cell (p := ⟨b, off + k, none⟩) hbl).trans c1
        replace c2 := (HB.out.cell (p := ⟨b', off' + k, none⟩) hbl').trans c2
        have HX := Lib.hid hx
        have HY := Lib.hid hy
        clear hx hy hbl hbl'
        by_cases hxy : x = y
        · subst hxy
          go_wp2
          go_quiet (fail)
          have HB2 := Lib.hid (bdrew HB.out nq)
          go_wp2
          go_roundw
          case rel => exact ⟨k + 1, congrArg (Value.int .i64) (by omega), by omega, take_step HT.out HX.out HY.out, HB2.out⟩
          case measure => simp [intOf]; omega
        · have g : (x != y) = true := by simp [hxy]
          have HNE := Lib.hid (show l ≠ l' from fun e => hxy (by have h1 := HX.out; have h2 := HY.out; rw [e, h2] at h1; injection h1 with h1; exact h1.symm))
          clear hxy
          go_wp2
          go_quiet (fail)
          have HB2 := Lib.hid (bdrew HB.out nq)
          go_wp2
          go_ret
          exact ⟨by rw [show decide (l = l') = false from by simp [HNE.out]]; rfl, HB2.out⟩
      · have HE := Lib.hid (show l = l' from by have := HT.out; rw [show k = n by omega, List.take_of_length_le (by rw [HL.out]; exact Nat.le_refl _), List.take_of_length_le (by rw [HL'.out]; exact Nat.le_refl _)] at this; exact this)
        go_wp2
        go_ret
        exact ⟨by rw [show decide (l = l') = true from by simp [HE.out]]; rfl, HB.out⟩
  · have hne : l ≠ l' := fun e => hnn (by rw [← hl, ← hl', e])
    have HNE := Lib.hid hne
    clear h h' hl hl' hne
    go_enter Try.func16, Try.ntmps16
    go_wp2
    go_ret
    exact ⟨by rw [show decide (l = l') = false from by simp [HNE.out]]; rfl, Below.refl _ _⟩
theorem step_lt {S : List Int} {q : Nat} {x y : Int} (h : ∀ j, j < q → S.getD j 0 < x) (hy : S[q]? = some y) (hlt : y < x) : ∀ j, j < q + 1 → S.getD j 0 < x := by
  intro j hj
  by_cases e : j = q
  · subst e; rw [List.getD_eq_getElem?_getD, hy]; exact hlt
  · exact h j (by omega)
set_option maxRecDepth 100000 in
set_option maxHeartbeats 1600000 in
theorem refUniq (A : Option Addr) (n c : Nat) (l : List Int) (w : World) (h : Sl w A n c l) (hn : n ≤ 1000000) :
    Calls Try.prog 43 #[.slice A n c] w fun e w' => ∃ A' c', e = .returned (.slice A' (Nm.uq l).length c') ∧ Sl w' A' (Nm.uq l).length c' (Nm.uq l) ∧ Below w.heap.size w w' := by
  obtain ⟨i0, hi, hz0, hz1, hz2⟩ := info_parts Try.infoI
  have HL := Lib.hid h.length
  have H := Lib.hid h
  clear h
  go_enter Try.func43, Try.ntmps43
  go_wp2
  go_loopw [3, 4] (fun v I wr => ∃ (i m cc : Nat) (AA : Option Addr), I = .int .i64 (i : Int) ∧ i ≤ n ∧ v = .slice AA m cc ∧ (m = 0 → AA = none ∧ cc = 0) ∧ Sl wr AA m cc (Nm.uq (l.take i)) ∧ Below w.heap.size w wr) (fun _ I _ => n - (intOf I).toNat)
  case atStart => exact ⟨0, 0, 0, none, rfl, Nat.zero_le _, rfl, fun _ => ⟨rfl, rfl⟩, Sl.none_ _, Below.refl _ _⟩
  case round =>
    obtain ⟨i, m, cc, AA, rfl, hin, rfl, hAn, hV, hb⟩ := hrel
    have HAN := Lib.hid hAn
    have HV := Lib.hid hV
    have Hb := Lib.hid hb
    have hm : m ≤ i := by have := hV.length; have h2 := Nm.uq_len (l.take i); rw [this] at h2; simp at h2; omega
    clear hV hb hAn
    by_cases hlt : i < n
    · obtain ⟨x, hx⟩ := H.out.get hlt
      obtain ⟨b, off, rfl, hbb, hc1⟩ := H.out.at_ hx
      have HC1 := Lib.hid hc1
      have hnx : Nm.uq (l.take (i + 1)) = Nm.ins (Nm.uq (l.take i)) x := by rw [List.take_add_one, hx]; exact Nm.uq_snoc _ _
      obtain ⟨Sd, hSd⟩ : ∃ Sd, Sd = Nm.uq (l.take i) := ⟨_, rfl⟩
      rw [← hSd] at HV hnx
      have HNX := Lib.hid hnx.symm
      have Hl := Lib.hid HV.out.length
      clear hx hSd hc1 hnx
      go_wp2
      go_loopw [5] (fun K ws => ∃ q : Nat, K = .int .i64 (q : Int) ∧ q ≤ m ∧ (∀ j, j < q → Sd.getD j 0 < x) ∧ Sl ws AA m cc Sd ∧ Below w.heap.size w ws) (fun K _ => m - (intOf K).toNat)
      case atStart => exact ⟨0, rfl, Nat.zero_le _, fun j h => absurd h (by omega), HV.out, Hb.out⟩
      case round =>
        obtain ⟨q, rfl, hq, h3, hV3, hb3⟩ := hrel
        have H3 := Lib.hid h3
        have HV3 := Lib.hid hV3
        have Hb3 := Lib.hid hb3
        clear h3 hV3 hb3 HV Hb
        by_cases hqm : q < m
        · obtain ⟨y, hy⟩ := HV3.out.get hqm
          obtain ⟨b', off', hAA, hbb', hc3⟩ := HV3.out.at_ hy
          subst hAA
          have c1 : wr.cell? ⟨b, off + i, none⟩ = some (.int .i64 x) := (Hb3.out.cell hbb).trans HC1.out
          have c3 : wr.cell? ⟨b', off' + q, none⟩ = some (.int .i64 y) := hc3
          have g1 : decide ((q : Int) < (m : Int)) = true := by simp; omega
          have g2 : decide (q < m) = true := by simp; omega
          have HY := Lib.hid hy
          have HAT := Lib.hid (fun (hge : ¬ y < x) => Nm.ins_at Sd x q (by rw [Hl.out]; exact hq) H3.out (fun _ => by rw [List.getD_eq_getElem?_getD, HY.out]; exact hge))
          clear hy hc3
          by_cases hyx : y < x
          · have g3 : decide (y < x) = true := by simp [hyx]
            have HST := Lib.hid (step_lt H3.out HY.out hyx)
            clear hyx
            go_wp2
            go_quiet (fail)
            go_wp2
            go_roundw
            case rel => exact ⟨q + 1, congrArg (Value.int .i64) (by omega), by omega, HST.out, HV3.out.drewN nq, bdrew Hb3.out nq⟩
            case measure => simp [intOf]; omega
          · have g3 : decide (y < x) = false := by simp; omega
            by_cases hye : y = x
            · subst hye
              have g4 : (y == y) = true := by simp
              have HF := Lib.hid (show Nm.ins Sd y = Sd from by rw [HAT.out hyx, if_pos]; exact ⟨by rw [Hl.out]; exact hqm, by rw [List.getD_eq_getElem?_getD, HY.out]; rfl⟩)
              clear hyx
              go_wp2
              go_quiet (fail)
              go_wp2
              obtain ⟨ww, hww⟩ : ∃ ww, ww = wr.drewN nq := ⟨_, rfl⟩
              rw [← hww]
              have HVw : Hid (Sl ww (some ⟨b', off', none⟩) m cc Sd) := by rw [hww]; exact HV3.out.drewN nq
              have HBw : Hid (Below w.heap.size w ww) := by rw [hww]; exact bdrew Hb3.out nq
              have c1w : ww.cell? ⟨b, off + i, none⟩ = some (.int .i64 y) := (HBw.out.cell hbb).trans HC1.out
              have c3w : ww.cell? ⟨b', off' + q, none⟩ = some (.int .i64 y) := by obtain ⟨b2, o2, e, _, hc⟩ := HVw.out.at_ HY.out; injection e with e; injection e with e1 e2; subst e1; subst e2; exact hc
              clear hww HV3 Hb3 c1 c3
              go_quiet (fail)
              go_wp2
              go_roundw
              case rel => exact ⟨i + 1, m, cc, _, congrArg (Value.int .i64) (by omega), by omega, rfl, HAN.out, by rw [← HNX.out, HF.out]; exact HVw.out.drewN _, bdrew HBw.out _⟩
              case measure => simp [intOf]; omega
            · have g4 : (y == x) = false := by simp [hye]
              have HF := Lib.hid (show Nm.ins Sd x = Sd.take q ++ x :: Sd.drop q from by rw [HAT.out hyx, if_neg]; intro h; apply hye; have := h.2; rw [List.getD_eq_getElem?_getD, HY.out] at this; exact this)
              clear hyx hye
              go_wp2
              go_quiet (fail)
              go_wp2
              obtain ⟨ww, hww⟩ : ∃ ww, ww = wr.drewN nq := ⟨_, rfl⟩
              rw [← hww]
              have HVw : Hid (Sl ww (some ⟨b', off', none⟩) m cc Sd) := by rw [hww]; exact HV3.out.drewN nq
              have HBw : Hid (Below w.heap.size w ww) := by rw [hww]; exact bdrew Hb3.out nq
              have c1w : ww.cell? ⟨b, off + i, none⟩ = some (.int .i64 x) := (HBw.out.cell hbb).trans HC1.out
              have c3w : ww.cell? ⟨b', off' + q, none⟩ = some (.int .i64 y) := by obtain ⟨b2, o2, e, _, hc⟩ := HVw.out.at_ HY.out; injection e with e; injection e with e1 e2; subst e1; subst e2; exact hc
              clear hww HV3 Hb3 c1 c3
              go_quiet (fail)
              go_wp2
              obtain ⟨wz, hwz⟩ : ∃ wz, wz = ww.drewN nq := ⟨_, rfl⟩
              rw [← hwz]
              have HVz : Hid (Sl wz (some ⟨b', off', none⟩) m cc Sd) := by rw [hwz]; exact HVw.out.drewN nq
              have HBz : Hid (Below w.heap.size w wz) := by rw [hwz]; exact bdrew HBw.out nq
              have c1z : wz.cell? ⟨b, off + i, none⟩ = some (.int .i64 x) := (HBz.out.cell hbb).trans HC1.out
              clear hwz HVw HBw c1w c3w
              have S1v := Lib.hid (lst_take HVz.out.lst (k := q) (by omega))
              have S3v := Lib.hid (lst_cut HVz.out.lst (k := q) (c := cc) (by omega) HVz.out.cap)
              have S3n : Hid ((if cc = q then some ⟨b', off', none⟩ else some ⟨b', off' + q, none⟩ : Option Addr) = none → cc - q = 0) := by intro h; split at h <;> cases h
              have hsz := HBz.out.size
              have oa := Lib.hid (show (wz.alloc (.cells #[] 3)).drew.ownsRow wz.heap.size 3 1 (.slice (some ⟨wz.heap.size, 0, none⟩) 0 0) 0 [] from own_none (heap_alloc_new wz _) (Nat.le_refl _))
              have ba := Lib.hid (show Below wz.heap.size wz (wz.alloc (.cells #[] 3)).drew from ((Below.refl _ wz).alloc (Nat.le_refl _) _).drew)
              have ob := Lib.hid (show ((wz.alloc (.cells #[] 3)).alloc (.cells #[.int .i64 x] 3)).drew.ownsRow wz.heap.size 3 1 (.slice (some ⟨wz.heap.size, 0, none⟩) 0 0) 0 [] from own_none (heap_first wz _ _) (Nat.le_refl _))
              have bb := Lib.hid (show Below wz.heap.size wz ((wz.alloc (.cells #[] 3)).alloc (.cells #[.int .i64 x] 3)).drew from (((Below.refl _ wz).alloc (Nat.le_refl _) _).alloc (by simp) _).drew)
              have xb := Lib.hid (show ((wz.alloc (.cells #[] 3)).alloc (.cells #[.int .i64 x] 3)).drew.heap[wz.heap.size + 1]? = some (.cells #[.int .i64 x] 3 (0, 0)) from heap_next wz _ _)
              have oc := Lib.hid (show ((wz.alloc (.cells #[.int .i64 x] 3)).alloc (.cells #[] 3)).drew.ownsRow wz.heap.size 3 1 (.slice (some ⟨wz.heap.size + 1, 0, none⟩) 0 0) 0 [] from own_none (heap_next wz _ _) (by omega))
              have bc := Lib.hid (show Below wz.heap.size wz ((wz.alloc (.cells #[.int .i64 x] 3)).alloc (.cells #[] 3)).drew from (((Below.refl _ wz).alloc (Nat.le_refl _) _).alloc (by simp) _).drew)
              have xc := Lib.hid (show ((wz.alloc (.cells #[.int .i64 x] 3)).alloc (.cells #[] 3)).drew.heap[wz.heap.size]? = some (.cells #[.int .i64 x] 3 (0, 0)) from heap_first wz _ _)
              have k1 : (0 : Int) ≤ (i : Int) := by omega
              have k2 : (i : Int) < (n : Int) := by omega
              have k4 : (0 : Int) ≤ (q : Int) := by omega
              have k5 : (q : Int) ≤ (m : Int) := by omega
              have k6 : (q : Int) ≤ (cc : Int) := by have := HVz.out.cap; omega
              have k7 : (m : Int) ≤ (cc : Int) := by have := HVz.out.cap; omega
              have HBO := Lib.hid (fun (W : World) (hW : Below wz.heap.size wz W) => HBz.out.trans (hW.mono hsz))
              go_region_held3 (fun w' => w'.cell? ⟨b, off + i, none⟩ = some (.int .i64 x)) (go_keep) (first | (refine step_append_lst rfl (.tmp 44) (.tmp 47) 42 rfl wz.heap.size 3 i0 (.int .i64 0) 8 Try.underlying42 hi hz0 hz1 hz2 rfl (.slice (some ⟨wz.heap.size, 0, none⟩) 0 0) 0 [] (by simp [Act.eval, Act.put]) oa.out wz.heap.size (some ⟨b', off', none⟩) q cc (ci (Sd.take q)) (by simp [Act.eval, Act.put]) (fun h => by cases h) (S1v.out.below ba.out) (ints_one .i64 _) (by unfold maxLen; omega) (by omega) ba.out.size ?_; intro v1 w2 ho hg; have HB2 := Lib.hid (ba.out.grown hg ba.out.size (own_block oa.out)); have HOY := Lib.hid (ho.alloc (.cells #[.int .i64 x] 3)); have HVX := Lib.hid (lst_one (t := 3) (heap_alloc_new w2 (.cells #[.int .i64 x] 3))); have HBY := Lib.hid (HB2.out.alloc (Nat.le_trans ba.out.size hg.size) (.cells #[.int .i64 x] 3)); have e1 := ((HBO.out _ HB2.out).cell hbb).trans HC1.out; clear ho hg) | (refine step_append_lst rfl (.tmp 44) (.tmp 47) 42 rfl wz.heap.size 3 i0 (.int .i64 0) 8 Try.underlying42 hi hz0 hz1 hz2 rfl (.slice (some ⟨wz.heap.size, 0, none⟩) 0 0) 0 [] (by simp [Act.eval, Act.put]) ob.out wz.heap.size (some ⟨b', off', none⟩) q cc (ci (Sd.take q)) (by simp [Act.eval, Act.put]) (fun h => by cases h) (S1v.out.below bb.out) (ints_one .i64 _) (by unfold maxLen; omega) (by omega) bb.out.size ?_; intro v1 w2 ho hg; have HB2 := Lib.hid (bb.out.grown hg bb.out.size (own_block ob.out)); have HOY := Lib.hid ho; have HVX := Lib.hid (lst_one (t := 3) ((hg.block (wz.heap.size + 1) (lt_of_block xb.out) (by simp [Value.ownBlock])).trans xb.out)); have HBY := HB2; have e1 := ((HBO.out _ HB2.out).cell hbb).trans HC1.out; clear ho hg) | (refine step_append_lst rfl (.tmp 44) (.tmp 47) 42 rfl wz.heap.size 3 i0 (.int .i64 0) 8 Try.underlying42 hi hz0 hz1 hz2 rfl (.slice (some ⟨(wz.heap.size + 1), 0, none⟩) 0 0) 0 [] (by simp [Act.eval, Act.put]) oc.out wz.heap.size (some ⟨b', off', none⟩) q cc (ci (Sd.take q)) (by simp [Act.eval, Act.put]) (fun h => by cases h) (S1v.out.below bc.out) (ints_one .i64 _) (by unfold maxLen; omega) (by omega) bc.out.size ?_; intro v1 w2 ho hg; have HB2 := Lib.hid (bc.out.grown hg bc.out.size (own_block oc.out)); have HOY := Lib.hid ho; have HVX := Lib.hid (lst_one (t := 3) ((hg.block wz.heap.size (lt_of_block xc.out) (by simp [Value.ownBlock])).trans xc.out)); have HBY := HB2; have e1 := ((HBO.out _ HB2.out).cell hbb).trans HC1.out; clear ho hg) | (refine step_append_lst rfl (.tmp 48) (.tmp 53) 42 rfl wz.heap.size 3 i0 (.int .i64 0) 8 Try.underlying42 hi hz0 hz1 hz2 rfl v1 (0 + q) ([] ++ (ci (Sd.take q))) (by simp [Act.eval, Act.put]) HOY.out _ _ 1 1 (ci [x]) (by simp [Act.eval, Act.put]) (fun h => by cases h) HVX.out (ints_one .i64 _) (by unfold maxLen; omega) (by omega) HBY.out.size ?_; intro v2 w3 ho hg; have HB3 := Lib.hid (HBY.out.grown hg HBY.out.size (own_block HOY.out)); have HO3 := Lib.hid ho; have f1 := ((HBO.out _ HB3.out).cell hbb).trans HC1.out; clear ho hg) | (refine step_append_lst rfl (.tmp 54) (.tmp 57) 42 rfl wz.heap.size 3 i0 (.int .i64 0) 8 Try.underlying42 hi hz0 hz1 hz2 rfl v2 (0 + q + 1) ([] ++ (ci (Sd.take q)) ++ ci [x]) (by simp [Act.eval, Act.put]) HO3.out wz.heap.size (if cc = q then some ⟨b', off', none⟩ else some ⟨b', off' + q, none⟩) (m - q) (cc - q) (ci (Sd.drop q)) (by simp [Act.eval, Act.put]) S3n.out (S3v.out.below HB3.out) (ints_one .i64 _) (by unfold maxLen; omega) (by omega) HB3.out.size ?_; intro v3 w4 ho hg; have HB4 := Lib.hid (HBO.out _ (HB3.out.grown hg HB3.out.size (own_block HO3.out))); have HO4 := Lib.hid ho; have d1 := (HB4.out.cell hbb).trans HC1.out; clear ho hg))
              all_goals
                have hO := HO4.out
                rw [(show 0 + q + 1 + (m - q) = m + 1 from by omega), show ([] ++ (ci (Sd.take q)) ++ ci [x] ++ (ci (Sd.drop q))) = ci (Nm.uq (l.take (i + 1))) from by rw [← HNX.out, HF.out]; simp [ci]] at hO
                obtain ⟨A', c', hv, hn', hc'⟩ := own_form hO
                subst hv
                have HV5 := Lib.hid (Sl.of_own hO)
                clear hO HO4 hn' hc' HB3 HO3 HBY HOY HVX HB2 e1 f1 d1 oa ba ob bb xb oc bc xc c1z HBO S1v S3v S3n
                go_simp
                go_wp2
                go_roundw
                case rel => exact ⟨i + 1, m + 1, c', A', congrArg (Value.int .i64) (by omega), by omega, rfl, fun h => absurd h (by omega), HV5.out, HB4.out⟩
                case measure => simp [intOf]; omega
        · obtain rfl : q = m := by omega
          have HF := Lib.hid (show Nm.ins Sd x = Sd ++ [x] from by rw [Nm.ins_at Sd x q (by rw [Hl.out]; exact hq) H3.out (fun h => absurd h (by rw [Hl.out]; omega)), if_neg (fun h => absurd h.1 (by rw [Hl.out]; omega)), List.take_of_length_le (by rw [Hl.out]; exact Nat.le_refl _), List.drop_eq_nil_of_le (by rw [Hl.out]; exact Nat.le_refl _)])
          have c1 : wr.cell? ⟨b, off + i, none⟩ = some (.int .i64 x) := (Hb3.out.cell hbb).trans HC1.out
          clear hqm
          go_wp2
          go_quiet (fail)
          go_wp2
          obtain ⟨ww, hww⟩ : ∃ ww, ww = wr.drewN nq := ⟨_, rfl⟩
          rw [← hww]
          have HVw : Hid (Sl ww AA q cc Sd) := by rw [hww]; exact HV3.out.drewN nq
          have HBw : Hid (Below w.heap.size w ww) := by rw [hww]; exact bdrew Hb3.out nq
          have c1w : ww.cell? ⟨b, off + i, none⟩ = some (.int .i64 x) := (HBw.out.cell hbb).trans HC1.out
          clear hww HV3 Hb3 c1
          go_quiet (fail)
          go_wp2
          obtain ⟨wz, hwz⟩ : ∃ wz, wz = ww.drewN nq := ⟨_, rfl⟩
          rw [← hwz]
          have HVz : Hid (Sl wz AA q cc Sd) := by rw [hwz]; exact HVw.out.drewN nq
          have HBz : Hid (Below w.heap.size w wz) := by rw [hwz]; exact bdrew HBw.out nq
          have c1z : wz.cell? ⟨b, off + i, none⟩ = some (.int .i64 x) := (HBz.out.cell hbb).trans HC1.out
          clear hwz HVw HBw c1w
          by_cases hq0 : q = 0
          · obtain ⟨rfl, rfl⟩ := HAN.out hq0
            have hS0 : Sd = [] := List.length_eq_zero_iff.1 (by rw [Hl.out]; exact hq0)
            have HS0 := Lib.hid hS0
            clear hS0
            subst hq0
            have hsz := HBz.out.size
            have oa := Lib.hid (show (wz.alloc (.cells #[] 3)).drew.ownsRow wz.heap.size 3 1 (.slice (some ⟨wz.heap.size, 0, none⟩) 0 0) 0 [] from own_none (heap_alloc_new wz _) (Nat.le_refl _))
            have ba := Lib.hid (show Below wz.heap.size wz (wz.alloc (.cells #[] 3)).drew from ((Below.refl _ wz).alloc (Nat.le_refl _) _).drew)
            have ob := Lib.hid (show ((wz.alloc (.cells #[] 3)).alloc (.cells #[.int .i64 x] 3)).drew.ownsRow wz.heap.size 3 1 (.slice (some ⟨wz.heap.size, 0, none⟩) 0 0) 0 [] from own_none (heap_first wz _ _) (Nat.le_refl _))
            have bb := Lib.hid (show Below wz.heap.size wz ((wz.alloc (.cells #[] 3)).alloc (.cells #[.int .i64 x] 3)).drew from (((Below.refl _ wz).alloc (Nat.le_refl _) _).alloc (by simp) _).drew)
            have xb := Lib.hid (show ((wz.alloc (.cells #[] 3)).alloc (.cells #[.int .i64 x] 3)).drew.heap[wz.heap.size + 1]? = some (.cells #[.int .i64 x] 3 (0, 0)) from heap_next wz _ _)
            have oc := Lib.hid (show ((wz.alloc (.cells #[.int .i64 x] 3)).alloc (.cells #[] 3)).drew.ownsRow wz.heap.size 3 1 (.slice (some ⟨wz.heap.size + 1, 0, none⟩) 0 0) 0 [] from own_none (heap_next wz _ _) (by omega))
            have bc := Lib.hid (show Below wz.heap.size wz ((wz.alloc (.cells #[.int .i64 x] 3)).alloc (.cells #[] 3)).drew from (((Below.refl _ wz).alloc (Nat.le_refl _) _).alloc (by simp) _).drew)
            have xc := Lib.hid (show ((wz.alloc (.cells #[.int .i64 x] 3)).alloc (.cells #[] 3)).drew.heap[wz.heap.size]? = some (.cells #[.int .i64 x] 3 (0, 0)) from heap_first wz _ _)
            have k1 : (0 : Int) ≤ (i : Int) := by omega
            have k2 : (i : Int) < (n : Int) := by omega
            have HBO := Lib.hid (fun (W : World) (hW : Below wz.heap.size wz W) => HBz.out.trans (hW.mono hsz))
            go_region_held3 (fun w' => w'.cell? ⟨b, off + i, none⟩ = some (.int .i64 x)) (go_keep) (first | (refine step_append_lst rfl (.tmp 44) (.tmp 47) 42 rfl wz.heap.size 3 i0 (.int .i64 0) 8 Try.underlying42 hi hz0 hz1 hz2 rfl (.slice (some ⟨wz.heap.size, 0, none⟩) 0 0) 0 [] (by simp [Act.eval, Act.put]) oa.out wz.heap.size none 0 0 [] (by simp [Act.eval, Act.put]) (fun _ => rfl) ((fun {W : World} (_ : Below wz.heap.size wz W) => Lst.nil W wz.heap.size none) ba.out) (fun u hu => by cases hu) (by unfold maxLen; omega) (by omega) ba.out.size ?_; intro v1 w2 ho hg; have HB2 := Lib.hid (ba.out.grown hg ba.out.size (own_block oa.out)); have HOY := Lib.hid (ho.alloc (.cells #[.int .i64 x] 3)); have HVX := Lib.hid (lst_one (t := 3) (heap_alloc_new w2 (.cells #[.int .i64 x] 3))); have HBY := Lib.hid (HB2.out.alloc (Nat.le_trans ba.out.size hg.size) (.cells #[.int .i64 x] 3)); have e1 := ((HBO.out _ HB2.out).cell hbb).trans HC1.out; clear ho hg) | (refine step_append_lst rfl (.tmp 44) (.tmp 47) 42 rfl wz.heap.size 3 i0 (.int .i64 0) 8 Try.underlying42 hi hz0 hz1 hz2 rfl (.slice (some ⟨wz.heap.size, 0, none⟩) 0 0) 0 [] (by simp [Act.eval, Act.put]) ob.out wz.heap.size none 0 0 [] (by simp [Act.eval, Act.put]) (fun _ => rfl) ((fun {W : World} (_ : Below wz.heap.size wz W) => Lst.nil W wz.heap.size none) bb.out) (fun u hu => by cases hu) (by unfold maxLen; omega) (by omega) bb.out.size ?_; intro v1 w2 ho hg; have HB2 := Lib.hid (bb.out.grown hg bb.out.size (own_block ob.out)); have HOY := Lib.hid ho; have HVX := Lib.hid (lst_one (t := 3) ((hg.block (wz.heap.size + 1) (lt_of_block xb.out) (by simp [Value.ownBlock])).trans xb.out)); have HBY := HB2; have e1 := ((HBO.out _ HB2.out).cell hbb).trans HC1.out; clear ho hg) | (refine step_append_lst rfl (.tmp 44) (.tmp 47) 42 rfl wz.heap.size 3 i0 (.int .i64 0) 8 Try.underlying42 hi hz0 hz1 hz2 rfl (.slice (some ⟨(wz.heap.size + 1), 0, none⟩) 0 0) 0 [] (by simp [Act.eval, Act.put]) oc.out wz.heap.size none 0 0 [] (by simp [Act.eval, Act.put]) (fun _ => rfl) ((fun {W : World} (_ : Below wz.heap.size wz W) => Lst.nil W wz.heap.size none) bc.out) (fun u hu => by cases hu) (by unfold maxLen; omega) (by omega) bc.out.size ?_; intro v1 w2 ho hg; have HB2 := Lib.hid (bc.out.grown hg bc.out.size (own_block oc.out)); have HOY := Lib.hid ho; have HVX := Lib.hid (lst_one (t := 3) ((hg.block wz.heap.size (lt_of_block xc.out) (by simp [Value.ownBlock])).trans xc.out)); have HBY := HB2; have e1 := ((HBO.out _ HB2.out).cell hbb).trans HC1.out; clear ho hg) | (refine step_append_lst rfl (.tmp 48) (.tmp 53) 42 rfl wz.heap.size 3 i0 (.int .i64 0) 8 Try.underlying42 hi hz0 hz1 hz2 rfl v1 (0 + 0) ([] ++ []) (by simp [Act.eval, Act.put]) HOY.out _ _ 1 1 (ci [x]) (by simp [Act.eval, Act.put]) (fun h => by cases h) HVX.out (ints_one .i64 _) (by unfold maxLen; omega) (by omega) HBY.out.size ?_; intro v2 w3 ho hg; have HB3 := Lib.hid (HBY.out.grown hg HBY.out.size (own_block HOY.out)); have HO3 := Lib.hid ho; have f1 := ((HBO.out _ HB3.out).cell hbb).trans HC1.out; clear ho hg) | (refine step_append_lst rfl (.tmp 54) (.tmp 57) 42 rfl wz.heap.size 3 i0 (.int .i64 0) 8 Try.underlying42 hi hz0 hz1 hz2 rfl v2 (0 + 0 + 1) ([] ++ [] ++ ci [x]) (by simp [Act.eval, Act.put]) HO3.out wz.heap.size none 0 0 [] (by simp [Act.eval, Act.put]) (fun _ => rfl) ((fun {W : World} (_ : Below wz.heap.size wz W) => Lst.nil W wz.heap.size none) HB3.out) (fun u hu => by cases hu) (by unfold maxLen; omega) (by omega) HB3.out.size ?_; intro v3 w4 ho hg; have HB4 := Lib.hid (HBO.out _ (HB3.out.grown hg HB3.out.size (own_block HO3.out))); have HO4 := Lib.hid ho; have d1 := (HB4.out.cell hbb).trans HC1.out; clear ho hg))
            all_goals
              have hO := HO4.out
              rw [(show 0 + 0 + 1 + 0 = 0 + 1 from rfl), show ([] ++ [] ++ ci [x] ++ []) = ci (Nm.uq (l.take (i + 1))) from by rw [← HNX.out, HF.out, HS0.out]; simp [ci]] at hO
              obtain ⟨A', c', hv, hn', hc'⟩ := own_form hO
              subst hv
              have HV5 := Lib.hid (Sl.of_own hO)
              clear hO HO4 hn' hc' HB3 HO3 HBY HOY HVX HB2 e1 f1 d1 oa ba ob bb xb oc bc xc c1z HBO 
              go_simp
              go_wp2
              go_roundw
              case rel => exact ⟨i + 1, 0 + 1, c', A', congrArg (Value.int .i64) (by omega), by omega, rfl, fun h => absurd h (by omega), HV5.out, HB4.out⟩
              case measure => simp [intOf]; omega
          · obtain ⟨b', off', rfl, _⟩ := HVz.out.lst.2 (by omega)
            have HQ0 := Lib.hid hq0
            clear hq0
            have S1v := Lib.hid (lst_take HVz.out.lst (k := q) (by omega))
            have S3v := Lib.hid (lst_cut HVz.out.lst (k := q) (c := cc) (by omega) HVz.out.cap)
            have S3n : Hid ((if cc = q then some ⟨b', off', none⟩ else some ⟨b', off' + q, none⟩ : Option Addr) = none → cc - q = 0) := by intro h; split at h <;> cases h
            have hsz := HBz.out.size
            have oa := Lib.hid (show (wz.alloc (.cells #[] 3)).drew.ownsRow wz.heap.size 3 1 (.slice (some ⟨wz.heap.size, 0, none⟩) 0 0) 0 [] from own_none (heap_alloc_new wz _) (Nat.le_refl _))
            have ba := Lib.hid (show Below wz.heap.size wz (wz.alloc (.cells #[] 3)).drew from ((Below.refl _ wz).alloc (Nat.le_refl _) _).drew)
            have ob := Lib.hid (show ((wz.alloc (.cells #[] 3)).alloc (.cells #[.int .i64 x] 3)).drew.ownsRow wz.heap.size 3 1 (.slice (some ⟨wz.heap.size, 0, none⟩) 0 0) 0 [] from own_none (heap_first wz _ _) (Nat.le_refl _))
            have bb := Lib.hid (show Below wz.heap.size wz ((wz.alloc (.cells #[] 3)).alloc (.cells #[.int .i64 x] 3)).drew from (((Below.refl _ wz).alloc (Nat.le_refl _) _).alloc (by simp) _).drew)
            have xb := Lib.hid (show ((wz.alloc (.cells #[] 3)).alloc (.cells #[.int .i64 x] 3)).drew.heap[wz.heap.size + 1]? = some (.cells #[.int .i64 x] 3 (0, 0)) from heap_next wz _ _)
            have oc := Lib.hid (show ((wz.alloc (.cells #[.int .i64 x] 3)).alloc (.cells #[] 3)).drew.ownsRow wz.heap.size 3 1 (.slice (some ⟨wz.heap.size + 1, 0, none⟩) 0 0) 0 [] from own_none (heap_next wz _ _) (by omega))
            have bc := Lib.hid (show Below wz.heap.size wz ((wz.alloc (.cells #[.int .i64 x] 3)).alloc (.cells #[] 3)).drew from (((Below.refl _ wz).alloc (Nat.le_refl _) _).alloc (by simp) _).drew)
            have xc := Lib.hid (show ((wz.alloc (.cells #[.int .i64 x] 3)).alloc (.cells #[] 3)).drew.heap[wz.heap.size]? = some (.cells #[.int .i64 x] 3 (0, 0)) from heap_first wz _ _)
            have k1 : (0 : Int) ≤ (i : Int) := by omega
            have k2 : (i : Int) < (n : Int) := by omega
            have k4 : (0 : Int) ≤ (q : Int) := by omega
            have k5 : (q : Int) ≤ (q : Int) := by omega
            have k6 : (q : Int) ≤ (cc : Int) := by have := HVz.out.cap; omega
            have k7 : (q : Int) ≤ (cc : Int) := by have := HVz.out.cap; omega
            have HBO := Lib.hid (fun (W : World) (hW : Below wz.heap.size wz W) => HBz.out.trans (hW.mono hsz))
            go_region_held3 (fun w' => w'.cell? ⟨b, off + i, none⟩ = some (.int .i64 x)) (go_keep) (first | (refine step_append_lst rfl (.tmp 44) (.tmp 47) 42 rfl wz.heap.size 3 i0 (.int .i64 0) 8 Try.underlying42 hi hz0 hz1 hz2 rfl (.slice (some ⟨wz.heap.size, 0, none⟩) 0 0) 0 [] (by simp [Act.eval, Act.put]) oa.out wz.heap.size (some ⟨b', off', none⟩) q cc (ci (Sd.take q)) (by simp [Act.eval, Act.put]) (fun h => by cases h) (S1v.out.below ba.out) (ints_one .i64 _) (by unfold maxLen; omega) (by omega) ba.out.size ?_; intro v1 w2 ho hg; have HB2 := Lib.hid (ba.out.grown hg ba.out.size (own_block oa.out)); have HOY := Lib.hid (ho.alloc (.cells #[.int .i64 x] 3)); have HVX := Lib.hid (lst_one (t := 3) (heap_alloc_new w2 (.cells #[.int .i64 x] 3))); have HBY := Lib.hid (HB2.out.alloc (Nat.le_trans ba.out.size hg.size) (.cells #[.int .i64 x] 3)); have e1 := ((HBO.out _ HB2.out).cell hbb).trans HC1.out; clear ho hg) | (refine step_append_lst rfl (.tmp 44) (.tmp 47) 42 rfl wz.heap.size 3 i0 (.int .i64 0) 8 Try.underlying42 hi hz0 hz1 hz2 rfl (.slice (some ⟨wz.heap.size, 0, none⟩) 0 0) 0 [] (by simp [Act.eval, Act.put]) ob.out wz.heap.size (some ⟨b', off', none⟩) q cc (ci (Sd.take q)) (by simp [Act.eval, Act.put]) (fun h => by cases h) (S1v.out.below bb.out) (ints_one .i64 _) (by unfold maxLen; omega) (by omega) bb.out.size ?_; intro v1 w2 ho hg; have HB2 := Lib.hid (bb.out.grown hg bb.out.size (own_block ob.out)); have HOY := Lib.hid ho; have HVX := Lib.hid (lst_one (t := 3) ((hg.block (wz.heap.size + 1) (lt_of_block xb.out) (by simp [Value.ownBlock])).trans xb.out)); have HBY := HB2; have e1 := ((HBO.out _ HB2.out).cell hbb).trans HC1.out; clear ho hg) | (refine step_append_lst rfl (.tmp 44) (.tmp 47) 42 rfl wz.heap.size 3 i0 (.int .i64 0) 8 Try.underlying42 hi hz0 hz1 hz2 rfl (.slice (some ⟨(wz.heap.size + 1), 0, none⟩) 0 0) 0 [] (by simp [Act.eval, Act.put]) oc.out wz.heap.size (some ⟨b', off', none⟩) q cc (ci (Sd.take q)) (by simp [Act.eval, Act.put]) (fun h => by cases h) (S1v.out.below bc.out) (ints_one .i64 _) (by unfold maxLen; omega) (by omega) bc.out.size ?_; intro v1 w2 ho hg; have HB2 := Lib.hid (bc.out.grown hg bc.out.size (own_block oc.out)); have HOY := Lib.hid ho; have HVX := Lib.hid (lst_one (t := 3) ((hg.block wz.heap.size (lt_of_block xc.out) (by simp [Value.ownBlock])).trans xc.out)); have HBY := HB2; have e1 := ((HBO.out _ HB2.out).cell hbb).trans HC1.out; clear ho hg) | (refine step_append_lst rfl (.tmp 48) (.tmp 53) 42 rfl wz.heap.size 3 i0 (.int .i64 0) 8 Try.underlying42 hi hz0 hz1 hz2 rfl v1 (0 + q) ([] ++ (ci (Sd.take q))) (by simp [Act.eval, Act.put]) HOY.out _ _ 1 1 (ci [x]) (by simp [Act.eval, Act.put]) (fun h => by cases h) HVX.out (ints_one .i64 _) (by unfold maxLen; omega) (by omega) HBY.out.size ?_; intro v2 w3 ho hg; have HB3 := Lib.hid (HBY.out.grown hg HBY.out.size (own_block HOY.out)); have HO3 := Lib.hid ho; have f1 := ((HBO.out _ HB3.out).cell hbb).trans HC1.out; clear ho hg) | (refine step_append_lst rfl (.tmp 54) (.tmp 57) 42 rfl wz.heap.size 3 i0 (.int .i64 0) 8 Try.underlying42 hi hz0 hz1 hz2 rfl v2 (0 + q + 1) ([] ++ (ci (Sd.take q)) ++ ci [x]) (by simp [Act.eval, Act.put]) HO3.out wz.heap.size (if cc = q then some ⟨b', off', none⟩ else some ⟨b', off' + q, none⟩) (q - q) (cc - q) (ci (Sd.drop q)) (by simp [Act.eval, Act.put]) S3n.out (S3v.out.below HB3.out) (ints_one .i64 _) (by unfold maxLen; omega) (by omega) HB3.out.size ?_; intro v3 w4 ho hg; have HB4 := Lib.hid (HBO.out _ (HB3.out.grown hg HB3.out.size (own_block HO3.out))); have HO4 := Lib.hid ho; have d1 := (HB4.out.cell hbb).trans HC1.out; clear ho hg))
            all_goals
              have hO := HO4.out
              rw [(show 0 + q + 1 + (q - q) = q + 1 from by omega), show ([] ++ (ci (Sd.take q)) ++ ci [x] ++ (ci (Sd.drop q))) = ci (Nm.uq (l.take (i + 1))) from by rw [← HNX.out, HF.out, List.take_of_length_le (by rw [Hl.out]; exact Nat.le_refl _), List.drop_eq_nil_of_le (by rw [Hl.out]; exact Nat.le_refl _)]; simp [ci]] at hO
              obtain ⟨A', c', hv, hn', hc'⟩ := own_form hO
              subst hv
              have HV5 := Lib.hid (Sl.of_own hO)
              clear hO HO4 hn' hc' HB3 HO3 HBY HOY HVX HB2 e1 f1 d1 oa ba ob bb xb oc bc xc c1z HBO S1v S3v S3n
              go_simp
              go_wp2
              go_roundw
              case rel => exact ⟨i + 1, q + 1, c', A', congrArg (Value.int .i64) (by omega), by omega, rfl, fun h => absurd h (by omega), HV5.out, HB4.out⟩
              case measure => simp [intOf]; omega
    · obtain rfl : i = n := by omega
      have HV5 : Hid (Sl wr AA m cc (Nm.uq l)) := by
        have := HV.out
        rw [List.take_of_length_le (by rw [HL.out]; exact Nat.le_refl _)] at this
        exact this
      go_wp2
      go_ret
      have e := HV5.out.length
      rw [e]
      exact ⟨AA, cc, rfl, HV5.out, Hb.out⟩
end Go.Proofs.Ytecdgpacofojeaa
