/-
  Layer 4 (order): Merge, at one type of elements.
-/
import Derived.Test.YtfefhandlkbeoaaOSortP
import Derived.Test.YtfefhandlkbeoaaOReadP
import Derived.Deep.RegionLaw
import Derived.Deep.AppendLies
namespace Go.Proofs.Ytfefhandlkbeoaa
open Go.RowKit

/-- what make answers, of none but with room -/
theorem roomP (n m : Nat) (hn : n + m ≤ 100000) (W : World) : ∃ M : Array Value, M.size = (n + m) * 2 ∧
    (Instr.makeSlice 37 (.int .i64 0) (.int .i64 ((n : Int) + (m : Int)))).run Try.prog W = .ok (.slice (some ⟨W.heap.size, 0, none⟩) 0 (n + m)) (W.alloc (.cells M 39)) := by
  obtain ⟨i0, hi, hz0, hz1, hz2⟩ := info_parts Try.infoP
  obtain ⟨M, hM⟩ : ∃ M, M = madeCells (Value.agg #[.int .i64 0, .int .i64 0]).cells (((n : Int) + (m : Int)).toNat * i0.size) := ⟨_, rfl⟩
  have ht : ((n : Int) + (m : Int)).toNat = n + m := by omega
  refine ⟨M, by rw [hM, size_madeCells, hz1, ht], ?_⟩
  have h := run_make (P := Try.prog) W 37 39 i0 (.agg #[.int .i64 0, .int .i64 0]) Try.underlying37 hi hz0 .i64 .i64 0 ((n : Int) + (m : Int)) (by omega) (by omega) (by rw [hz2]; omega) (by omega)
  rw [← hM, ht] at h
  simpa using h

set_option maxHeartbeats 1600000 in
theorem mergeP (A B : Option Addr) (n m c d : Nat) (l r : List Om.E) (w : World) (h : VecE w A n l) (h' : VecE w B m r) (hA : A = none → c = 0) (hB : B = none → d = 0) (hn : n ≤ 40000) (hm : m ≤ 40000) (hc : n ≤ c) (hd : m ≤ d) :
    Calls Try.prog 21 #[.func (.func 16) #[] #[], .slice A n c, .slice B m d] w fun e w' => ∃ A' c', e = .returned (.slice A' (n + m) c') ∧ VecE w' A' (n + m) (Om.merge Om.less l r) ∧ (A' = none → c' = 0) ∧ n + m ≤ c' ∧ Below w.heap.size w w' := by
  obtain ⟨i0, hi, hz0, hz1, hz2⟩ := info_parts Try.infoP
  obtain ⟨M, hM, hmk⟩ := roomP n m (by omega) w
  have HO : Hid ((w.alloc (.cells M 39)).ownsRow w.heap.size 39 2 (.slice (some ⟨w.heap.size, 0, none⟩) 0 (n + m)) 0 (cel [])) :=
    ⟨rfl, .inr ⟨w.heap.size, n + m, M, rfl, Nat.le_refl _, heap_alloc_new w _, Nat.zero_le _, by unfold maxLen; omega, hM, rfl⟩⟩
  have H := Lib.hid h
  have H' := Lib.hid h'
  have HA := Lib.hid hA
  have HBB := Lib.hid hB
  clear h h' hM hA hB
  go_enter Try.func21, Try.ntmps21
  go_wp2
  clear hmk
  obtain ⟨N, hN⟩ : ∃ N, N = n + m := ⟨_, rfl⟩
  have HN := Lib.hid hN
  have N8 : N ≤ 80000 := by omega
  go_loopw [1, 2, 7] (fun I J v wr => ∃ (A B : Option Addr) (n m c d k : Nat) (xs ys acc : List Om.E), I = .slice A n c ∧ J = .slice B m d ∧ VecE w A n xs ∧ VecE w B m ys ∧ (A = none → c = 0) ∧ (B = none → d = 0) ∧ n ≤ c ∧ m ≤ d ∧ k + n + m = N ∧ wr.ownsRow w.heap.size 39 2 v k (cel acc) ∧ acc ++ Om.merge Om.less xs ys = Om.merge Om.less l r ∧ Below w.heap.size w wr) (fun I J _ _ => lenV I + lenV J)
  case atStart => exact ⟨A, B, n, m, c, d, 0, l, r, [], rfl, rfl, H.out, H'.out, HA.out, HBB.out, hc, hd, by omega, HO.out, rfl, (Below.refl _ w).alloc (Nat.le_refl _) _⟩
  case round =>
    clear hn hm hc hd hN H H' HA HBB HO
    obtain ⟨A, B, n, m, c, d, k, xs, ys, acc, rfl, rfl, hV, hV', hA, hB, hc, hd, hk, hown, hT, hb⟩ := hrel
    have H := Lib.hid hV
    have H' := Lib.hid hV'
    have HA := Lib.hid hA
    have HBB := Lib.hid hB
    have HO := Lib.hid hown
    have HT := Lib.hid hT
    have Hb := Lib.hid hb
    have HK := Lib.hid hk
    have nN : n ≤ 80000 := by omega
    clear hV hV' hA hB hown hT hb hk
    by_cases hlt : 0 < n ∧ 0 < m
    · obtain ⟨n0, m0⟩ := hlt
      obtain ⟨x, xs', hxs⟩ : ∃ x xs', xs = x :: xs' := by
        cases xs with
        | nil => have := H.out.1; simp at this; omega
        | cons x xs' => exact ⟨x, xs', rfl⟩
      obtain ⟨y, ys', hys⟩ : ∃ y ys', ys = y :: ys' := by
        cases ys with
        | nil => have := H'.out.1; simp at this; omega
        | cons y ys' => exact ⟨y, ys', rfl⟩
      subst hxs
      subst hys
      obtain ⟨b, off, rfl, hbb, hc1, hc2⟩ := H.out.at_ (k := 0) rfl
      obtain ⟨b', off', rfl, hbb', hc3, hc4⟩ := H'.out.at_ (k := 0) rfl
      obtain ⟨x1, x2⟩ := x
      obtain ⟨y1, y2⟩ := y
      rw [Nat.zero_mul, Nat.add_zero] at hc1 hc2 hc3 hc4
      have c1 : wr.cell? ⟨b, off, none⟩ = some (.int .i64 x1) := (Hb.out.cell hbb).trans hc1
      have c2 : wr.cell? ⟨b, off + 1, none⟩ = some (.int .i64 x2) := (Hb.out.cell hbb).trans hc2
      have c3 : wr.cell? ⟨b', off', none⟩ = some (.int .i64 y1) := (Hb.out.cell hbb').trans hc3
      have c4 : wr.cell? ⟨b', off' + 1, none⟩ = some (.int .i64 y2) := (Hb.out.cell hbb').trans hc4
      have v1 : (0 : Int) < (n : Int) := by omega
      have v2 : (0 : Int) < (m : Int) := by omega
      have v3 : (1 : Int) ≤ (n : Int) := by omega
      have v4 : (1 : Int) ≤ (m : Int) := by omega
      have h0 := fun w => less_any y1 y2 x1 x2 w
      cases hf : Om.less (y1, y2) (x1, x2) with
      | true =>
        rw [hf] at h0
        have HF := Lib.hid hf
        clear hf
        go_wp2
        go_still_tail 7, (by kernel_rfl)
        change wpList _ _ _ _ _ wr.drew
        obtain ⟨W, hW⟩ : ∃ W, W = wr.drew := ⟨_, rfl⟩
        rw [← hW]
        have HBW : Hid (Below w.heap.size w W) := by rw [hW]; exact Hb.out.drew
        have HOW : Hid (W.ownsRow w.heap.size 39 2 u7 k (cel acc)) := by rw [hW]; exact own_heap2 HO.out rfl
        clear hW Hb HO c1 c2 c3 c4
        go_wp2_with fail
        refine (h0 _).mono ?_
        rintro _ w1 ⟨rfl, hb1⟩
        have HB4 := Lib.hid (HBW.out.trans (hb1.mono HBW.out.size))
        have HO4 : Hid (w1.ownsRow w.heap.size 39 2 u7 k (cel acc)) := own_below2 HOW.out hb1
        have c1 : w1.cell? ⟨b, off, none⟩ = some (.int .i64 x1) := (HB4.out.cell hbb).trans hc1
        have c2 : w1.cell? ⟨b, off + 1, none⟩ = some (.int .i64 x2) := (HB4.out.cell hbb).trans hc2
        have c3 : w1.cell? ⟨b', off', none⟩ = some (.int .i64 y1) := (HB4.out.cell hbb').trans hc3
        have c4 : w1.cell? ⟨b', off' + 1, none⟩ = some (.int .i64 y2) := (HB4.out.cell hbb').trans hc4
        have hz := HB4.out.size
        obtain ⟨A2, hA2⟩ : ∃ A2, (if d = 1 then some ⟨b', off', none⟩ else some ⟨b', off' + 2, none⟩ : Option Addr) = A2 := ⟨_, rfl⟩
        have HA2 := Lib.hid hA2
        have HV2 : Hid (VecE w A2 (m - 1) ys') := by
          show VecE w A2 (m - 1) ys'
          rw [← hA2]
          split
          · exact H'.out.tail.2 _ (by omega)
          · exact H'.out.tail.1
        have HN2 : Hid (A2 = none → d - 1 = 0) := by
          show A2 = none → d - 1 = 0
          rw [← hA2]
          intro h
          split at h <;> cases h
        clear hA2
        clear hb1 HBW HOW h0 hc1 hc2 hc3 hc4
        go_wp2
        have HwO := Lib.hid (show ∀ W : World, W.heap = (w1.alloc (.cells #[.int .i64 y1, .int .i64 y2] 39)).heap → W.ownsRow w.heap.size 39 2 u7 k (cel acc) from fun W e => own_heap2 (HO4.out.alloc _) e)
        have HwN := Lib.hid (show ∀ W : World, W.heap = (w1.alloc (.cells #[.int .i64 y1, .int .i64 y2] 39)).heap → ∀ j u, (cel [(y1, y2)])[j]? = some u → W.cell? ((⟨w1.heap.size, 0, none⟩ : Addr).add j) = some u from fun W e j u hu => by
          rw [cell_heap e]; exact cell_two_new _ _ _ _ j u hu)
        go_region_law (refine step_append_lies _ rfl (.tmp 30) (.tmp 34) 37 rfl w.heap.size 39 i0 (.agg #[.int .i64 0, .int .i64 0]) 2 16 Try.underlying37 hi hz0 hz1 hz2 rfl (by decide) u7 k _ (by simp [Act.eval, Act.put]) (HwO.out _ rfl) ⟨w1.heap.size, 0, none⟩ 1 1 (cel [(y1, y2)]) (by simp [Act.eval, Act.put]) rfl (HwN.out _ rfl) (cel_one _) (by omega) (by unfold maxLen; have := HK.out; omega) (by have := HK.out; omega) (by simp; omega) _ rfl ?_; intro g cap w2 hown1 hgrow hat hltg)
        all_goals
          have HO5 : Hid (w2.ownsRow w.heap.size 39 2 (.slice (some ⟨g, 0, none⟩) (k + 1) cap) (k + 1) (cel (acc ++ [(y1, y2)]))) := by
            show w2.ownsRow w.heap.size 39 2 (.slice (some ⟨g, 0, none⟩) (k + 1) cap) (k + 1) (cel (acc ++ [(y1, y2)]))
            rw [cel_append]; exact hown1
          have HB5 := Lib.hid ((show Below w.heap.size w _ from (HB4.out.alloc hz (.cells #[.int .i64 y1, .int .i64 y2] 39)).drew).grown hgrow (by simp; omega) (own_block2 HO4.out))
          clear hown1 hgrow hat hltg HwO HwN HO4 HB4 c1 c2 c3 c4
          rw [HA2.out]
          go_simp
          go_wp2
          go_roundw
          case rel => exact ⟨some ⟨b, off, none⟩, A2, n, m - 1, c, d - 1, k + 1, (x1, x2) :: xs', ys', acc ++ [(y1, y2)], rfl, rfl, H.out, HV2.out, HA.out, HN2.out, hc, by omega, by have := HK.out; omega, HO5.out, by rw [← HT.out, Om.merge_yes HF.out]; simp, HB5.out⟩
          case measure => simp [lenV]; omega
      | false =>
        rw [hf] at h0
        have HF := Lib.hid hf
        clear hf
        go_wp2
        go_still_tail 7, (by kernel_rfl)
        change wpList _ _ _ _ _ wr.drew
        obtain ⟨W, hW⟩ : ∃ W, W = wr.drew := ⟨_, rfl⟩
        rw [← hW]
        have HBW : Hid (Below w.heap.size w W) := by rw [hW]; exact Hb.out.drew
        have HOW : Hid (W.ownsRow w.heap.size 39 2 u7 k (cel acc)) := by rw [hW]; exact own_heap2 HO.out rfl
        clear hW Hb HO c1 c2 c3 c4
        go_wp2_with fail
        refine (h0 _).mono ?_
        rintro _ w1 ⟨rfl, hb1⟩
        have HB4 := Lib.hid (HBW.out.trans (hb1.mono HBW.out.size))
        have HO4 : Hid (w1.ownsRow w.heap.size 39 2 u7 k (cel acc)) := own_below2 HOW.out hb1
        have c1 : w1.cell? ⟨b, off, none⟩ = some (.int .i64 x1) := (HB4.out.cell hbb).trans hc1
        have c2 : w1.cell? ⟨b, off + 1, none⟩ = some (.int .i64 x2) := (HB4.out.cell hbb).trans hc2
        have c3 : w1.cell? ⟨b', off', none⟩ = some (.int .i64 y1) := (HB4.out.cell hbb').trans hc3
        have c4 : w1.cell? ⟨b', off' + 1, none⟩ = some (.int .i64 y2) := (HB4.out.cell hbb').trans hc4
        have hz := HB4.out.size
        obtain ⟨A2, hA2⟩ : ∃ A2, (if c = 1 then some ⟨b, off, none⟩ else some ⟨b, off + 2, none⟩ : Option Addr) = A2 := ⟨_, rfl⟩
        have HA2 := Lib.hid hA2
        have HV2 : Hid (VecE w A2 (n - 1) xs') := by
          show VecE w A2 (n - 1) xs'
          rw [← hA2]
          split
          · exact H.out.tail.2 _ (by omega)
          · exact H.out.tail.1
        have HN2 : Hid (A2 = none → c - 1 = 0) := by
          show A2 = none → c - 1 = 0
          rw [← hA2]
          intro h
          split at h <;> cases h
        clear hA2
        clear hb1 HBW HOW h0 hc1 hc2 hc3 hc4
        go_wp2
        have HwO := Lib.hid (show ∀ W : World, W.heap = (w1.alloc (.cells #[.int .i64 x1, .int .i64 x2] 39)).heap → W.ownsRow w.heap.size 39 2 u7 k (cel acc) from fun W e => own_heap2 (HO4.out.alloc _) e)
        have HwN := Lib.hid (show ∀ W : World, W.heap = (w1.alloc (.cells #[.int .i64 x1, .int .i64 x2] 39)).heap → ∀ j u, (cel [(x1, x2)])[j]? = some u → W.cell? ((⟨w1.heap.size, 0, none⟩ : Addr).add j) = some u from fun W e j u hu => by
          rw [cell_heap e]; exact cell_two_new _ _ _ _ j u hu)
        go_region_law (refine step_append_lies _ rfl (.tmp 38) (.tmp 42) 37 rfl w.heap.size 39 i0 (.agg #[.int .i64 0, .int .i64 0]) 2 16 Try.underlying37 hi hz0 hz1 hz2 rfl (by decide) u7 k _ (by simp [Act.eval, Act.put]) (HwO.out _ rfl) ⟨w1.heap.size, 0, none⟩ 1 1 (cel [(x1, x2)]) (by simp [Act.eval, Act.put]) rfl (HwN.out _ rfl) (cel_one _) (by omega) (by unfold maxLen; have := HK.out; omega) (by have := HK.out; omega) (by simp; omega) _ rfl ?_; intro g cap w2 hown1 hgrow hat hltg)
        all_goals
          have HO5 : Hid (w2.ownsRow w.heap.size 39 2 (.slice (some ⟨g, 0, none⟩) (k + 1) cap) (k + 1) (cel (acc ++ [(x1, x2)]))) := by
            show w2.ownsRow w.heap.size 39 2 (.slice (some ⟨g, 0, none⟩) (k + 1) cap) (k + 1) (cel (acc ++ [(x1, x2)]))
            rw [cel_append]; exact hown1
          have HB5 := Lib.hid ((show Below w.heap.size w _ from (HB4.out.alloc hz (.cells #[.int .i64 x1, .int .i64 x2] 39)).drew).grown hgrow (by simp; omega) (own_block2 HO4.out))
          clear hown1 hgrow hat hltg HwO HwN HO4 HB4 c1 c2 c3 c4
          rw [HA2.out]
          go_simp
          go_wp2
          go_roundw
          case rel => exact ⟨A2, some ⟨b', off', none⟩, n - 1, m, c - 1, d, k + 1, xs', (y1, y2) :: ys', acc ++ [(x1, x2)], rfl, rfl, HV2.out, H'.out, HN2.out, HBB.out, by omega, hd, by have := HK.out; omega, HO5.out, by rw [← HT.out, Om.merge_no HF.out]; simp, HB5.out⟩
          case measure => simp [lenV]; omega
    · have HTT : Hid (acc ++ (xs ++ ys) = Om.merge Om.less l r) := by
        show acc ++ (xs ++ ys) = Om.merge Om.less l r
        rw [← HT.out]
        rcases (show n = 0 ∨ m = 0 from by omega) with h0 | h0
        · obtain rfl : xs = [] := List.length_eq_zero_iff.1 (by rw [H.out.1]; exact h0)
          rw [Om.nil_merge]; rfl
        · obtain rfl : ys = [] := List.length_eq_zero_iff.1 (by rw [H'.out.1]; exact h0)
          rw [Om.merge_nil, List.append_nil]
      have hz := Hb.out.size
      rcases (show (0 < n ∧ ¬ 0 < m) ∨ ¬ 0 < n from by omega) with ⟨q1, q2⟩ | q1
      all_goals
        clear hlt
        go_wp2_with (first
          | (at_builtin; refine append_vec _ rfl (.tmp 46) (.tmp 47) 37 rfl w.heap.size 39 i0 (.agg #[.int .i64 0, .int .i64 0]) 16 Try.underlying37 hi hz0 hz1 hz2 rfl u7 k acc rfl HO.out A n c xs rfl HA.out (H.out.below Hb.out) (by unfold maxLen; have := HK.out; omega) (by have := HK.out; omega) hz ?_; intro v1 w2 hown1 hg1; have HB2 := Lib.hid (Hb.out.grown hg1 hz (own_block2 HO.out)); have HO2 := Lib.hid hown1; have hzb := HB2.out.size; clear hown1 hg1)
          | (at_builtin; refine append_vec _ rfl (.tmp 48) (.tmp 49) 37 rfl w.heap.size 39 i0 (.agg #[.int .i64 0, .int .i64 0]) 16 Try.underlying37 hi hz0 hz1 hz2 rfl v1 (k + n) (acc ++ xs) rfl HO2.out B m d ys rfl HBB.out (H'.out.below HB2.out) (by unfold maxLen; have := HK.out; omega) (by have := HK.out; omega) hzb ?_; intro v2 w3 hown2 hg2; have HB3 := Lib.hid (HB2.out.grown hg2 hzb (own_block2 HO2.out)); obtain ⟨A', c', hv2, hn', hc'⟩ := own_form2 hown2; subst hv2; have HO3 := Lib.hid (VecE.of_own hown2); have HN' := Lib.hid hn'; clear hown2 hg2 hn'))
        go_wp2
        go_ret
        exact ⟨A', c', congrArg (fun q => Ending.returned (.slice A' q c')) (by have := HK.out; have := HN.out; omega), by rw [← HTT.out, ← List.append_assoc, ← HN.out, ← HK.out]; exact HO3.out, HN'.out, by have := HK.out; have := HN.out; omega, HB3.out⟩
end Go.Proofs.Ytfefhandlkbeoaa
