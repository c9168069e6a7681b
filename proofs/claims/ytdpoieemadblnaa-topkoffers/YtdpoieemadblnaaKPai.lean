/-
  Layer 8 (topk): the law's own helpers: numbers and where they stand, and the document's first few of them, by contract.
-/
import Derived.Test.YtdpoieemadblnaaOTag
import Derived.Test.YtdpoieemadblnaaOSlc
import Derived.Test.YtdpoieemadblnaaORefP
import Derived.Test.YtdpoieemadblnaaKMath
import Derived.WalkSmall
namespace Go.Proofs.Ytdpoieemadblnaa
open Go.RowKit

set_option maxHeartbeats 1600000 in
theorem pairs_any (A : Option Addr) (n c : Nat) (z : List Int) (w : World) (h : Lst w w.heap.size A n (z.map (Value.int .i64))) (hn : n ≤ 1000) :
    Calls Try.prog 11 #[.slice A n c] w fun e w' => ∃ A' c', e = .returned (.slice A' n c') ∧ VecE w' A' n (Om.tag z 0) ∧ Below w.heap.size w w' ∧ (∀ g f, A' = some ⟨g, f, none⟩ → w.heap.size ≤ g) ∧ n ≤ c' := by
  obtain ⟨i0, hi, hz0, hz1, hz2⟩ := info_parts Try.infoP
  have K0 := Lib.hid (show z.length = n from by have := h.1; simpa using this)
  have L0 := Lib.hid h
  clear h
  go_enter Try.func11, Try.ntmps11
  go_wp2
  go_loopw [3, 4] (fun v I wr => ∃ k : Nat, I = .int .i64 (k : Int) ∧ k ≤ n ∧ wr.ownsRow w.heap.size 27 2 v k (cel (Om.tag (z.take k) 0)) ∧ Below w.heap.size w wr) (fun _ I _ => n - (intOf I).toNat)
  case atStart => exact ⟨0, rfl, Nat.zero_le _, by simpa [Om.tag, cel_nil] using World.ownsRow_nil _ _ _ _, Below.refl _ _⟩
  case round =>
    obtain ⟨k, rfl, hk, hown, hb⟩ := hrel
    have O := Lib.hid hown
    have Bk := Lib.hid hb
    have szk := hb.size
    clear hown hb
    by_cases hlt : k < n
    · obtain ⟨x, hx⟩ : ∃ x, z[k]? = some x := ⟨_, List.getElem?_eq_getElem (by rw [K0.out]; omega)⟩
      obtain ⟨b, off, rfl, hbb, hc⟩ := L0.out.2 (by omega)
      have c1 : wr.cell? ⟨b, off + k, none⟩ = some (.int .i64 x) := (Bk.out.cell hbb).trans (hc k _ (by rw [List.getElem?_map, hx]; rfl))
      have TS := Lib.hid (Om.tag_snoc (o := 0) hx)
      have E1 := Lib.hid (O.out.alloc (.cells #[.int .i64 x, .int .i64 (k : Int)] 27))
      have V1 := Lib.hid (VecE.one (t := 27) (heap_alloc_new wr (.cells #[.int .i64 x, .int .i64 (k : Int)] 27)))
      have BA := Lib.hid (Bk.out.alloc szk (.cells #[.int .i64 x, .int .i64 (k : Int)] 27))
      clear hx hc
      go_wp2_with (at_builtin; refine append_vec _ rfl (.tmp 11) (.tmp 18) 29 rfl w.heap.size 27 i0 (.agg #[.int .i64 0, .int .i64 0]) 16 Try.underlying29 hi hz0 hz1 hz2 rfl u3 k (Om.tag (z.take k) 0) rfl E1.out (some ⟨wr.heap.size, 0, none⟩) 1 1 [(x, (k : Int))] rfl (fun h => by cases h) V1.out (by unfold maxLen; omega) (by omega) BA.out.size ?_; intro v1 w2 hown1 hg1; have B2 := Lib.hid (BA.out.grown hg1 BA.out.size (own_block2 E1.out)); have O2 := Lib.hid hown1; clear hown1 hg1 c1)
      have O3 : Hid (w2.ownsRow w.heap.size 27 2 v1 (k + 1) (cel (Om.tag (z.take (k + 1)) 0))) := by
        show w2.ownsRow w.heap.size 27 2 v1 (k + 1) (cel (Om.tag (z.take (k + 1)) 0))
        rw [TS.out, Int.zero_add]; exact O2.out
      go_roundw
      case rel => exact ⟨k + 1, congrArg (Value.int .i64) (by omega), by omega, O3.out, B2.out⟩
      case measure => simp [intOf]; omega
    · obtain rfl : k = n := by omega
      have hO := O.out
      rw [List.take_of_length_le (by rw [K0.out]; omega)] at hO
      obtain ⟨Al, cl, hvl, hnl, hcl⟩ := own_form2 hO
      have VL := Lib.hid (show VecE wr Al k (Om.tag z 0) from by rw [hvl] at hO; exact VecE.of_own hO)
      have OB := Lib.hid (show ∀ g f, Al = some ⟨g, f, none⟩ → w.heap.size ≤ g from by
        intro g f e
        refine own_block2 hO g ?_
        rw [hvl, e]; rfl)
      subst hvl
      clear hO O
      go_wp2
      go_ret
      exact ⟨Al, cl, rfl, VL.out, Bk.out, OB.out, hcl⟩

set_option maxHeartbeats 1600000 in
set_option maxRecDepth 100000 in
theorem first_any (A : Option Addr) (n c : Nat) (l : List Om.E) (m : Int) (w : World) (h : VecE w A n l) (hn : n ≤ 1000) :
    Calls Try.prog 13 #[.slice A n c, .int .i64 m] w fun e w' => ∃ A' k c', e = .returned (.slice A' k c') ∧ VecE w' A' k (Km.fst Om.less m l) ∧ Below w.heap.size w w' ∧ ∀ g f, A' = some ⟨g, f, none⟩ → w.heap.size ≤ g := by
  have HL := Lib.hid h.length
  have HR := Lib.hid (refP_at A n c l w h (by omega))
  clear h
  go_enter Try.func13, Try.ntmps13
  go_wp2_with fail
  refine HR.out.mono ?_
  rintro _ w1 ⟨A', c', rfl, hv, hb, hg, hc⟩
  have V := Lib.hid hv
  have B := Lib.hid hb
  have G := Lib.hid hg
  clear hv hb hg HR
  by_cases m0 : m < 0
  · have E := Lib.hid (show Km.fst Om.less m l = [] from by unfold Km.fst; rw [show m.toNat = 0 from by omega]; rfl)
    have d0 : decide (m < 0) = true := by simp; omega
    go_wp2
    go_ret
    exact ⟨none, 0, 0, rfl, by rw [E.out]; exact VecE.nil_ _ _, B.out, fun g f e => by cases e⟩
  have d0 : decide (m < 0) = false := by simp; omega
  by_cases m1 : (n : Int) < m
  · have E := Lib.hid (show Km.fst Om.less m l = Om.isort Om.less l from by unfold Km.fst; rw [List.take_of_length_le (by rw [Om.isort_length, HL.out]; omega)])
    have d1 : decide ((n : Int) < m) = true := by simp; omega
    go_wp2
    go_ret
    exact ⟨A', n, c', rfl, by rw [E.out]; exact V.out, B.out, G.out⟩
  have d1 : decide ((n : Int) < m) = false := by simp; omega
  obtain ⟨k, hk⟩ : ∃ k : Nat, m = (k : Int) := ⟨m.toNat, by omega⟩
  subst hk
  have hkn : k ≤ n := by omega
  have hkc : k ≤ c' := by omega
  have E := Lib.hid (show Km.fst Om.less (k : Int) l = (Om.isort Om.less l).take k from by unfold Km.fst; rw [Int.toNat_natCast])
  clear m0 m1
  go_wp2
  go_ret
  exact ⟨A', k, c', rfl, by rw [E.out]; exact V.out.take hkn, B.out, G.out⟩
end Go.Proofs.Ytdpoieemadblnaa
