/-
  Layer 4 (order): Compare at one type of elements.
-/
import Derived.Test.YtdpoieemadblnaaOLeaf
namespace Go.Proofs.Ytdpoieemadblnaa
open Go.RowKit

theorem compareR (x1 x2 y1 y2 : Int) (w : World) :
    Calls Try.prog 38 #[.func (.func 19) #[] #[], .agg #[.int .i64 x1, .int .i64 x2], .agg #[.int .i64 y1, .int .i64 y2]] w fun e w' => e = .returned (.int .i64 (Om.cmp Om.near (x1, x2) (y1, y2))) ∧ Below w.heap.size w w' := by
  cases hxy : Om.near (x1, x2) (y1, y2) with
  | true =>
    have e := Lib.hid (show (-1 : Int) = Om.cmp Om.near (x1, x2) (y1, y2) from by simp [Om.cmp, hxy])
    have h0 := fun w => near_any x1 x2 y1 y2 w
    rw [hxy] at h0
    clear hxy
    go_enter Try.func38, Try.ntmps38
    go_wp2_with fail
    refine (h0 _).mono ?_
    rintro _ w1 ⟨rfl, hb⟩
    obtain ⟨c0, c1, c2, c3, hs, hb'⟩ := boxes hb
    have HB := Lib.hid hb'
    clear hb hb' h0
    go_wp2
    go_ret
    exact ⟨ret_int e.out, HB.out⟩
  | false =>
    have h0 := fun w => near_any x1 x2 y1 y2 w
    rw [hxy] at h0
    have h1 := fun w => near_any y1 y2 x1 x2 w
    cases hyx : Om.near (y1, y2) (x1, x2) with
    | true =>
      have e := Lib.hid (show (1 : Int) = Om.cmp Om.near (x1, x2) (y1, y2) from by simp [Om.cmp, hxy, hyx])
      rw [hyx] at h1
      clear hxy hyx
      go_enter Try.func38, Try.ntmps38
      go_wp2_with fail
      refine (h0 _).mono ?_
      rintro _ w1 ⟨rfl, hb⟩
      obtain ⟨c0, c1, c2, c3, hs, hb'⟩ := boxes hb
      have HB := Lib.hid hb'
      clear hb hb' h0
      go_wp2_with fail
      refine (h1 _).mono ?_
      rintro _ w2 ⟨rfl, hb⟩
      have HB2 := Lib.hid (HB.out.trans (hb.mono HB.out.size))
      clear hb h1 HB
      go_wp2
      go_ret
      exact ⟨ret_int e.out, HB2.out⟩
    | false =>
      have e := Lib.hid (show (0 : Int) = Om.cmp Om.near (x1, x2) (y1, y2) from by simp [Om.cmp, hxy, hyx])
      rw [hyx] at h1
      clear hxy hyx
      go_enter Try.func38, Try.ntmps38
      go_wp2_with fail
      refine (h0 _).mono ?_
      rintro _ w1 ⟨rfl, hb⟩
      obtain ⟨c0, c1, c2, c3, hs, hb'⟩ := boxes hb
      have HB := Lib.hid hb'
      clear hb hb' h0
      go_wp2_with fail
      refine (h1 _).mono ?_
      rintro _ w2 ⟨rfl, hb⟩
      have HB2 := Lib.hid (HB.out.trans (hb.mono HB.out.size))
      clear hb h1 HB
      go_wp2
      go_ret
      exact ⟨ret_int e.out, HB2.out⟩

theorem closureR (B : Nat) (x1 x2 y1 y2 : Int) (w : World) (hB : B < w.heap.size) (hc : w.cell? ⟨B, 0, none⟩ = some (.func (.func 19) #[] #[])) :
    Calls Try.prog 37 #[.agg #[.int .i64 x1, .int .i64 x2], .agg #[.int .i64 y1, .int .i64 y2], .pointer (some ⟨B, 0, none⟩)] w fun e w' => e = .returned (.int .i64 (Om.cmp Om.near (x1, x2) (y1, y2))) ∧ Below w.heap.size w w' := by
  have hc' : ((w.alloc (.cells #[.int .i64 x1, .int .i64 x2] 42)).alloc (.cells #[.int .i64 y1, .int .i64 y2] 42)).cell? ⟨B, 0, none⟩ = some (.func (.func 19) #[] #[]) := ((below_two w _ _).cell hB).trans hc
  go_enter Try.func37, Try.ntmps37
  go_wp2_with fail
  refine (compareR _ _ _ _ _).mono ?_
  rintro _ w1 ⟨rfl, hb⟩
  obtain ⟨-, -, -, -, -, hb'⟩ := boxes hb
  have HB := Lib.hid hb'
  clear hb hb' hc'
  go_wp2
  go_ret
  exact ⟨rfl, HB.out⟩
/-- the comparison that Sort hands on: its variable lies in block B -/
def CmpR (B : Nat) (w : World) : Prop := B < w.heap.size ∧ w.cell? ⟨B, 0, none⟩ = some (.func (.func 19) #[] #[])
theorem closureR_yes {B : Nat} {x1 x2 y1 y2 : Int} (w : World) (h : CmpR B w) (hf : Om.near (x1, x2) (y1, y2) = true) :
    Calls Try.prog 37 #[.agg #[.int .i64 x1, .int .i64 x2], .agg #[.int .i64 y1, .int .i64 y2], .pointer (some ⟨B, 0, none⟩)] w fun e w' => e = .returned (.int .i64 (-1)) ∧ Below w.heap.size w w' :=
  (closureR B x1 x2 y1 y2 w h.1 h.2).mono fun e w' ⟨he, hb⟩ => ⟨by rw [he]; simp [Om.cmp, hf], hb⟩
theorem closureR_no {B : Nat} {x1 x2 y1 y2 : Int} (w : World) (h : CmpR B w) (hf : Om.near (x1, x2) (y1, y2) = false) :
    Calls Try.prog 37 #[.agg #[.int .i64 x1, .int .i64 x2], .agg #[.int .i64 y1, .int .i64 y2], .pointer (some ⟨B, 0, none⟩)] w fun e w' => ∃ z : Int, 0 ≤ z ∧ e = .returned (.int .i64 z) ∧ Below w.heap.size w w' :=
  (closureR B x1 x2 y1 y2 w h.1 h.2).mono fun e w' ⟨he, hb⟩ => ⟨_, by simp only [Om.cmp, hf]; split <;> simp_all <;> split <;> simp, he, hb⟩
end Go.Proofs.Ytdpoieemadblnaa
