/-
  Layer 4 (order): Compare at one type of elements.
-/
import Derived.Test.YtfefhandlkbeoaaOLeaf
namespace Go.Proofs.Ytfefhandlkbeoaa
open Go.RowKit

theorem compareT (x1 x2 y1 y2 : Int) (w : World) :
    Calls Try.prog 23 #[.func (.func 10) #[] #[], .agg #[.int .i64 x1, .int .i64 x2], .agg #[.int .i64 y1, .int .i64 y2]] w fun e w' => e = .returned (.int .i64 (Om.cmp Om.ahead (x1, x2) (y1, y2))) ∧ Below w.heap.size w w' := by
  cases hxy : Om.ahead (x1, x2) (y1, y2) with
  | true =>
    have e := Lib.hid (show (-1 : Int) = Om.cmp Om.ahead (x1, x2) (y1, y2) from by simp [Om.cmp, hxy])
    have h0 := fun w => ahead_any x1 x2 y1 y2 w
    rw [hxy] at h0
    clear hxy
    go_enter Try.func23, Try.ntmps23
    go_wp2_with fail
    refine (h0 _).mono ?_
    rintro _ w1 ⟨rfl, hb⟩
    obtain ⟨c0, c1, c2, c3, hs, hb'⟩ := boxes hb
    have HB := Lib.hid hb'
    clear hb hb' h0
    go_wp2
    go_ret
    exact ⟨ret_int e.out, HB.out⟩
  | false =>
    have h0 := fun w => ahead_any x1 x2 y1 y2 w
    rw [hxy] at h0
    have h1 := fun w => ahead_any y1 y2 x1 x2 w
    cases hyx : Om.ahead (y1, y2) (x1, x2) with
    | true =>
      have e := Lib.hid (show (1 : Int) = Om.cmp Om.ahead (x1, x2) (y1, y2) from by simp [Om.cmp, hxy, hyx])
      rw [hyx] at h1
      clear hxy hyx
      go_enter Try.func23, Try.ntmps23
      go_wp2_with fail
      refine (h0 _).mono ?_
      rintro _ w1 ⟨rfl, hb⟩
      obtain ⟨c0, c1, c2, c3, hs, hb'⟩ := boxes hb
      have HB := Lib.hid hb'
      clear hb hb' h0
      go_wp2_with fail
      refine (h1 _).mono ?_
      rintro _ w2 ⟨rfl, hb⟩
      have HB2 := Lib.hid (HB.out.trans (hb.mono HB.out.size))
      clear hb h1 HB
      go_wp2
      go_ret
      exact ⟨ret_int e.out, HB2.out⟩
    | false =>
      have e := Lib.hid (show (0 : Int) = Om.cmp Om.ahead (x1, x2) (y1, y2) from by simp [Om.cmp, hxy, hyx])
      rw [hyx] at h1
      clear hxy hyx
      go_enter Try.func23, Try.ntmps23
      go_wp2_with fail
      refine (h0 _).mono ?_
      rintro _ w1 ⟨rfl, hb⟩
      obtain ⟨c0, c1, c2, c3, hs, hb'⟩ := boxes hb
      have HB := Lib.hid hb'
      clear hb hb' h0
      go_wp2_with fail
      refine (h1 _).mono ?_
      rintro _ w2 ⟨rfl, hb⟩
      have HB2 := Lib.hid (HB.out.trans (hb.mono HB.out.size))
      clear hb h1 HB
      go_wp2
      go_ret
      exact ⟨ret_int e.out, HB2.out⟩

end Go.Proofs.Ytfefhandlkbeoaa
