/-
  Layer 4 (order): the document's examples hold ('awake' answers true).
-/
import Derived.Test.YtfefhandlkbeoaaOReadP
namespace Go.Proofs.Ytfefhandlkbeoaa
open Go.RowKit

theorem awake_any (w : World) : Calls Try.prog 7 #[] w fun e w' => e = .returned (.bool true) ∧ Below w.heap.size w w' := by
  have h0 := fun w => near_any 1 5 2 5 w
  rw [show Om.near (1, 5) (2, 5) = true from by decide] at h0
  have h1 := fun w => ahead_any 7 3 6 0 w
  rw [show Om.ahead (7, 3) (6, 0) = true from by decide] at h1
  have h2 := fun w => compareP 1 0 2 0 w
  rw [show Om.cmp Om.less (1, 0) (2, 0) = -1 from by decide] at h2
  have h3 := fun w => sortedP none 0 0 [] true w (VecE.nil_ _ _) (by omega) ⟨fun _ j x y h => absurd h (by omega), fun _ => rfl⟩
  go_enter Try.func7, Try.ntmps7
  go_wp2_with fail
  refine (h0 _).mono ?_
  rintro _ w1 ⟨rfl, hb1⟩
  have HB1 := Lib.hid hb1
  clear hb1 h0
  go_wp2_with fail
  refine (h1 _).mono ?_
  rintro _ w2 ⟨rfl, hb2⟩
  have HB2 := Lib.hid (HB1.out.trans (hb2.mono HB1.out.size))
  clear hb2 h1 HB1
  go_wp2_with fail
  refine (h2 _).mono ?_
  rintro _ w3 ⟨rfl, hb3⟩
  have HB3 := Lib.hid (HB2.out.trans (hb3.mono HB2.out.size))
  clear hb3 h2 HB2
  go_wp2_with fail
  refine (h3 _).mono ?_
  rintro _ w4 ⟨rfl, hb4⟩
  have HB4 := Lib.hid (HB3.out.trans (hb4.mono HB3.out.size))
  clear hb4 h3 HB3
  go_wp2
  go_ret
  exact ⟨rfl, HB4.out⟩
end Go.Proofs.Ytfefhandlkbeoaa
