/-
  Layer 9 (marks): the document's own Covers, by contract.
-/
import Derived.Test.YtecdgpacofojeaaMN
import Derived.Test.YtecdgpacofojeaaNRef
namespace Go.Proofs.Ytecdgpacofojeaa
open Go.RowKit

theorem flat_len {L : List (List Int)} {k : Nat} {l : List Int} (h : L[k]? = some l) : (L.take k).flatten.length + l.length ≤ L.flatten.length := by
  have hk := List.getElem?_eq_some_iff.1 h
  have e1 : L = L.take k ++ l :: L.drop (k + 1) := by rw [← hk.2, ← List.drop_eq_getElem_cons, List.take_append_drop]
  have : L.flatten.length = (L.take k ++ l :: L.drop (k + 1)).flatten.length := by rw [← e1]
  rw [this, List.flatten_append, List.flatten_cons, List.length_append, List.length_append]
  omega
theorem take_flat {L : List (List Int)} {k : Nat} {l : List Int} (h : L[k]? = some l) : (L.take (k + 1)).flatten = (L.take k).flatten ++ l := by rw [List.take_add_one, h, List.flatten_append]; simp
theorem bne_f {a b : Int} (h : a = b) : (a != b) = false := by simp [h]
theorem bne_t {a b : Int} (h : a ≠ b) : (a != b) = true := by simp [h]
theorem beq_f {a b : Int} (h : a ≠ b) : (a == b) = false := by simp [h]
theorem beq_t {a b : Int} (h : a = b) : (a == b) = true := by simp [h]
theorem getD_of {l : List Int} {k : Nat} {x : Int} (h : l[k]? = some x) : l.getD k 0 = x := by rw [List.getD_eq_getElem?_getD, h]; rfl

set_option maxRecDepth 100000 in
set_option maxHeartbeats 1600000 in
theorem refCov (n : Int) (A : Option Addr) (nn c : Nat) (L : List (List Int)) (w : World) (h : Ls w A nn c L) (hnn : nn ≤ 1000000) (hin : L.flatten.length ≤ 1000000) (hn : -9223372036854775808 ≤ n ∧ n ≤ 1000000000) :
    Calls Try.prog 28 #[.int .i64 n, .slice A nn c] w fun e w' => e = .returned (.bool (Nm.cov n L.flatten)) ∧ Below w.heap.size w w' := by
  obtain ⟨i0, hi, hz0, hz1, hz2⟩ := info_parts Try.infoI
  obtain ⟨m, hm⟩ : ∃ m : Nat, n.toNat = m := ⟨_, rfl⟩
  have hmx : (m : Int) = max n 0 := by omega
  have HC := Lib.hid (Nm.cov_ref n L.flatten m hmx)
  have HL := Lib.hid h
  have HIN := Lib.hid hin
  have m9 : m ≤ 1000000000 := by omega
  clear h hin hmx
  go_enter Try.func28, Try.ntmps28
  by_cases g0 : n < 0
  · have hm0 : m = 0 := by omega
    have HF := Lib.hid hm0
    go_wp2
    go_loopw [5, 6] (fun v I wr => ∃ i : Nat, I = .int .i64 (i : Int) ∧ i ≤ nn ∧ wr.ownsRow w.heap.size 3 1 v (L.take i).flatten.length (ci (L.take i).flatten) ∧ Below w.heap.size w wr) (fun _ I _ => nn - (intOf I).toNat)
    case atStart => exact ⟨0, rfl, Nat.zero_le _, World.ownsRow_nil _ _ _ _, Below.refl _ _⟩
    case round =>
      obtain ⟨i, rfl, hil, hown, hb⟩ := hrel
      have HO := Lib.hid hown
      have HB := Lib.hid hb
      clear hown hb
      by_cases hlt : i < nn
      · obtain ⟨l, hl⟩ := HL.out.get hlt
        obtain ⟨b, off, rfl, hbb, A', n', c', hc0, hs⟩ := HL.out.at_ i l hl
        have c1 := (HB.out.cell (p := ⟨b, off + i, none⟩) hbb).trans hc0
        have hfl := flat_len hl
        have hsl := hs.length
        have HTK := Lib.hid (take_flat hl)
        have HS := Lib.hid (hs.below HB.out)
        have hIN := HIN.out
        obtain ⟨k, hk⟩ : ∃ k, (L.take i).flatten.length = k := ⟨_, rfl⟩
        rw [hk] at HO
        have HK := Lib.hid hk
        have hkn : k + n' ≤ 1000000 := by omega
        clear hc0 hbb hs hl hfl hsl hIN hk
        go_wp2_with (at_builtin; refine append_lst _ rfl (.tmp 16) (.tmp 20) 42 rfl w.heap.size 3 i0 (.int .i64 0) 8 Try.underlying42 hi hz0 hz1 hz2 rfl _ k _ rfl HO.out wr.heap.size A' n' c' (ci l) rfl HS.out.nil HS.out.lst (ints_one .i64 l) (by unfold maxLen; omega) (by omega) HB.out.size ?_; intro v1 w2 q1 q2; have Q1 := Lib.hid q1; have Q2 := Lib.hid (HB.out.grown q2 HB.out.size (own_block HO.out)); clear q1 q2)
        go_roundw
        case rel =>
          refine ⟨i + 1, congrArg (Value.int .i64) (by omega), by omega, ?_, Q2.out⟩
          have q := Q1.out
          rw [ci_app, ← HTK.out, ← HK.out, ← HS.out.length, ← List.length_append, ← HTK.out] at q
          exact q
        case measure => simp [intOf]; omega
      · obtain rfl : i = nn := by omega
        rw [List.take_of_length_le (by rw [HL.out.len]; exact Nat.le_refl _)] at HO
        obtain ⟨N, hN⟩ : ∃ N, L.flatten.length = N := ⟨_, rfl⟩
        rw [hN] at HO HIN
        have HNN := Lib.hid hN
        obtain ⟨A1, c1, rfl, hA1, hc1⟩ := own_form HO.out
        have HU := Lib.hid (refUniq A1 N c1 L.flatten wr (Sl.of_own HO.out) HIN.out)
        have hN1 := HIN.out
        clear hN hA1 hc1
        go_wp2_with fail
        refine HU.out.mono ?_
        rintro _ W2 ⟨A2, c2, rfl, hs2, hb2⟩
        obtain ⟨U, hU⟩ : ∃ U, (Nm.uq L.flatten).length = U := ⟨_, rfl⟩
        have hUN : U ≤ N := by rw [← hU, ← HNN.out]; exact Nm.uq_len _
        rw [hU] at hs2 ⊢
        have hcv := HC.out
        rw [hU, HNN.out] at hcv
        have HB2 := Lib.hid (HB.out.trans (hb2.mono HB.out.size))
        have HS2 := Lib.hid hs2
        have HCV := Lib.hid hcv
        clear hs2 hb2 hcv HU HC hU
        by_cases e1 : U = N
        · have g1 : ((U : Int) != (N : Int)) = false := by simp [e1]
          by_cases e2 : U = m
          · have g2 : ((U : Int) != (0 : Int)) = false := bne_f (by have := HF.out; omega)
            have HE1 := Lib.hid e1
            have HE2 := Lib.hid e2
            by_cases e3 : m = 0
            · have g3 : ((0 : Int) == (0 : Int)) = true := beq_t (by have := HF.out; omega)
              have HE3 := Lib.hid e3
              clear e1 e2 e3
              go_wp2
              go_ret
              refine ⟨?_, HB2.out⟩
              rw [HCV.out, decide_eq_true (show U = N ∧ U = m ∧ _ from ⟨HE1.out, HE2.out, .inl HE3.out⟩)]; rfl
            · exact absurd hm0 e3
          · have g2 : ((U : Int) != (0 : Int)) = true := bne_t (by have := HF.out; omega)
            have HE2 := Lib.hid e2
            clear e1 e2
            go_wp2
            go_ret
            refine ⟨?_, HB2.out⟩
            rw [HCV.out, decide_eq_false (fun h => HE2.out h.2.1)]; rfl
        · have g1 : ((U : Int) != (N : Int)) = true := bne_t (by omega)
          have HE1 := Lib.hid e1
          clear e1
          go_wp2
          go_ret
          refine ⟨?_, HB2.out⟩
          rw [HCV.out, decide_eq_false (fun h => HE1.out h.1)]; rfl
  · have hm1 : n = (m : Int) := by omega
    have HF := Lib.hid hm1
    have g0' : decide (n < 0) = false := decide_eq_false g0
    clear hm1 g0 hm
    go_wp2
    go_loopw [5, 6] (fun v I wr => ∃ i : Nat, I = .int .i64 (i : Int) ∧ i ≤ nn ∧ wr.ownsRow w.heap.size 3 1 v (L.take i).flatten.length (ci (L.take i).flatten) ∧ Below w.heap.size w wr) (fun _ I _ => nn - (intOf I).toNat)
    case atStart => exact ⟨0, rfl, Nat.zero_le _, World.ownsRow_nil _ _ _ _, Below.refl _ _⟩
    case round =>
      obtain ⟨i, rfl, hil, hown, hb⟩ := hrel
      have HO := Lib.hid hown
      have HB := Lib.hid hb
      clear hown hb
      by_cases hlt : i < nn
      · obtain ⟨l, hl⟩ := HL.out.get hlt
        obtain ⟨b, off, rfl, hbb, A', n', c', hc0, hs⟩ := HL.out.at_ i l hl
        have c1 := (HB.out.cell (p := ⟨b, off + i, none⟩) hbb).trans hc0
        have hfl := flat_len hl
        have hsl := hs.length
        have HTK := Lib.hid (take_flat hl)
        have HS := Lib.hid (hs.below HB.out)
        have hIN := HIN.out
        obtain ⟨k, hk⟩ : ∃ k, (L.take i).flatten.length = k := ⟨_, rfl⟩
        rw [hk] at HO
        have HK := Lib.hid hk
        have hkn : k + n' ≤ 1000000 := by omega
        clear hc0 hbb hs hl hfl hsl hIN hk
        go_wp2_with (at_builtin; refine append_lst _ rfl (.tmp 16) (.tmp 20) 42 rfl w.heap.size 3 i0 (.int .i64 0) 8 Try.underlying42 hi hz0 hz1 hz2 rfl _ k _ rfl HO.out wr.heap.size A' n' c' (ci l) rfl HS.out.nil HS.out.lst (ints_one .i64 l) (by unfold maxLen; omega) (by omega) HB.out.size ?_; intro v1 w2 q1 q2; have Q1 := Lib.hid q1; have Q2 := Lib.hid (HB.out.grown q2 HB.out.size (own_block HO.out)); clear q1 q2)
        go_roundw
        case rel =>
          refine ⟨i + 1, congrArg (Value.int .i64) (by omega), by omega, ?_, Q2.out⟩
          have q := Q1.out
          rw [ci_app, ← HTK.out, ← HK.out, ← HS.out.length, ← List.length_append, ← HTK.out] at q
          exact q
        case measure => simp [intOf]; omega
      · obtain rfl : i = nn := by omega
        rw [List.take_of_length_le (by rw [HL.out.len]; exact Nat.le_refl _)] at HO
        obtain ⟨N, hN⟩ : ∃ N, L.flatten.length = N := ⟨_, rfl⟩
        rw [hN] at HO HIN
        have HNN := Lib.hid hN
        obtain ⟨A1, c1, rfl, hA1, hc1⟩ := own_form HO.out
        have HU := Lib.hid (refUniq A1 N c1 L.flatten wr (Sl.of_own HO.out) HIN.out)
        have hN1 := HIN.out
        clear hN hA1 hc1
        go_wp2_with fail
        refine HU.out.mono ?_
        rintro _ W2 ⟨A2, c2, rfl, hs2, hb2⟩
        obtain ⟨U, hU⟩ : ∃ U, (Nm.uq L.flatten).length = U := ⟨_, rfl⟩
        have hUN : U ≤ N := by rw [← hU, ← HNN.out]; exact Nm.uq_len _
        rw [hU] at hs2 ⊢
        have hcv := HC.out
        rw [hU, HNN.out] at hcv
        have HB2 := Lib.hid (HB.out.trans (hb2.mono HB.out.size))
        have HS2 := Lib.hid hs2
        have HCV := Lib.hid hcv
        clear hs2 hb2 hcv HU HC hU
        by_cases e1 : U = N
        · have g1 : ((U : Int) != (N : Int)) = false := by simp [e1]
          by_cases e2 : U = m
          · have g2 : ((U : Int) != n) = false := bne_f (by have := HF.out; omega)
            have HE1 := Lib.hid e1
            have HE2 := Lib.hid e2
            by_cases e3 : m = 0
            · have g3 : (n == (0 : Int)) = true := beq_t (by have := HF.out; omega)
              have HE3 := Lib.hid e3
              clear e1 e2 e3
              go_wp2
              go_ret
              refine ⟨?_, HB2.out⟩
              rw [HCV.out, decide_eq_true (show U = N ∧ U = m ∧ _ from ⟨HE1.out, HE2.out, .inl HE3.out⟩)]; rfl
            · obtain ⟨x, hx⟩ := HS2.out.get (k := 0) (by omega)
              obtain ⟨y, hy⟩ := HS2.out.get (k := U - 1) (by omega)
              obtain ⟨b0, o0, rfl, hb0, p0⟩ := HS2.out.at_ hx
              obtain ⟨b1, o1, e4, hb1, p1⟩ := HS2.out.at_ hy
              injection e4 with e4
              injection e4 with e4 e5
              subst e4
              subst e5
              have g3 : (n == (0 : Int)) = false := beq_f (by have := HF.out; omega)
              have g4 : IntKind.i64.wrap (n - 1) = (m : Int) - 1 := by have := HF.out; rw [IntWalk.i64_in _ (by omega)]; omega
              have g5 : (m : Int) - 1 < (U : Int) := by omega
              have g6 : (0 : Int) ≤ (m : Int) - 1 := by omega
              have g7 : ((m : Int) - 1).toNat = U - 1 := by omega
              have g8 : 0 < U := by omega
              rw [Nat.add_zero] at p0
              have hDX := getD_of hx
              have hDY := getD_of hy
              have HR := Lib.hid (show Nm.cov n L.flatten = decide (x = 0 ∧ y = (m : Int) - 1) from by rw [HCV.out, decide_eq_decide]; rw [e2] at hDY; rw [hDX, hDY]; constructor; (· rintro ⟨_, _, h | h⟩; (· exact absurd h e3); exact h); (· exact fun h => ⟨e1, e2, .inr h⟩))
              clear e1 e2 e3 hx hy hb0 hb1 hDX hDY
              by_cases f1 : x = 0
              · have q1 : (x == (0 : Int)) = true := beq_t f1
                by_cases f2 : y = (m : Int) - 1
                · have q2 : (y == (m : Int) - 1) = true := beq_t f2
                  have HQ := Lib.hid (And.intro f1 f2)
                  clear f1 f2
                  go_wp2
                  go_ret
                  refine ⟨?_, HB2.out⟩
                  rw [HR.out, decide_eq_true HQ.out]; rfl
                · have q2 : (y == (m : Int) - 1) = false := beq_f f2
                  have HQ := Lib.hid f2
                  clear f1 f2
                  go_wp2
                  go_ret
                  refine ⟨?_, HB2.out⟩
                  rw [HR.out, decide_eq_false (fun h => HQ.out h.2)]; rfl
              · have q1 : (x == (0 : Int)) = false := beq_f f1
                have HQ := Lib.hid f1
                clear f1
                go_wp2
                go_ret
                refine ⟨?_, HB2.out⟩
                rw [HR.out, decide_eq_false (fun h => HQ.out h.1)]; rfl
          · have g2 : ((U : Int) != n) = true := bne_t (by have := HF.out; omega)
            have HE2 := Lib.hid e2
            clear e1 e2
            go_wp2
            go_ret
            refine ⟨?_, HB2.out⟩
            rw [HCV.out, decide_eq_false (fun h => HE2.out h.2.1)]; rfl
        · have g1 : ((U : Int) != (N : Int)) = true := bne_t (by omega)
          have HE1 := Lib.hid e1
          clear e1
          go_wp2
          go_ret
          refine ⟨?_, HB2.out⟩
          rw [HCV.out, decide_eq_false (fun h => HE1.out h.1)]; rfl
end Go.Proofs.Ytecdgpacofojeaa
