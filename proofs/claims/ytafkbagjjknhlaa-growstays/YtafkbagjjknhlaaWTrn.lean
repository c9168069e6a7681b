/-
  Layer 13 (grow): Tree of the program, where there is none, by a contract.
-/
import Derived.Test.YtafkbagjjknhlaaWPrg
namespace Go.Proofs.Ytafkbagjjknhlaa
open Go.RowKit
section
variable {w : World} {Sx : Nat → Prop} {s : Nat} {d : Int} {L : List (List Int)} {tr sd : Int} {sc : Bool} {pA : Option Addr} {pn pc : Nat}
set_option maxRecDepth 100000 in
theorem treeW_nil {lf dp : Int} {v : Value} (x : It w Sx s d L) (hc : Wm.chk tr lf dp ≠ 0 ∨ L = []) :
    Calls Try.prog 12 #[.pointer (some ⟨s, 0, none⟩), .agg #[.int .i64 tr, .int .i64 lf, .int .i64 dp, .bool sc, .int .u64 sd, .slice pA pn pc], v] w fun e w' => ∃ A' c',
      e = .returned (.tuple #[.slice A' 0 c', .int .i64 (if Wm.chk tr lf dp = 0 then 15 else Wm.chk tr lf dp)]) ∧ (A' = none → c' = 0) ∧ Below w.heap.size w w' := by
  obtain ⟨W0, hW0⟩ : ∃ W0, W0 = w.alloc (.cells #[.int .i64 tr, .int .i64 lf, .int .i64 dp, .bool sc, .int .u64 sd, .slice pA pn pc] 28) := ⟨_, rfl⟩
  have hb0 : Below w.heap.size w W0 := by rw [hW0]; exact (Below.refl _ w).alloc (Nat.le_refl _) _
  have HI := Lib.hid (x.below hb0)
  have HB0 := Lib.hid hb0
  have HW0 := Lib.hid hW0
  obtain ⟨ck, hck⟩ : ∃ ck, ck = Wm.chk tr lf dp := ⟨_, rfl⟩
  rw [← hck] at hc ⊢
  have HCK := Lib.hid hck
  clear x hb0 hW0 hck
  by_cases h0 : ck = 0
  · have hL : L = [] := hc.resolve_left (fun h => h h0)
    have HL := Lib.hid hL
    clear hc hL
    go_enter Try.func12, Try.ntmps12
    go_wp2_with fail
    rw [← HW0.out]
    clear HW0
    refine (chkW tr lf dp sc sd pA pn pc W0).mono ?_
    rintro _ w1 ⟨rfl, hb1⟩
    rw [← HCK.out, h0]
    have FL := lenD (HI.out.below hb1)
    rw [HL.out] at FL
    have FLN := Lib.hid FL
    have B1 := Lib.hid (HB0.out.trans (hb1.mono HB0.out.size))
    clear FL hb1
    go_wp2_with fail
    refine FLN.out.mono ?_
    rintro _ _ ⟨rfl, rfl⟩
    clear FLN
    go_wp2
    go_ret2
    exact ⟨none, 0, rfl, fun _ => rfl, B1.out⟩
  · have hq : (ck != 0) = true := by simpa using h0
    rw [if_neg h0]
    clear hc
    go_enter Try.func12, Try.ntmps12
    go_wp2_with fail
    rw [← HW0.out]
    clear HW0
    refine (chkW tr lf dp sc sd pA pn pc W0).mono ?_
    rintro _ w1 ⟨rfl, hb1⟩
    rw [← HCK.out]
    have B1 := Lib.hid (HB0.out.trans (hb1.mono HB0.out.size))
    clear hb1
    go_wp2
    go_ret2
    exact ⟨none, 0, rfl, fun _ => rfl, B1.out⟩
end
end Go.Proofs.Ytafkbagjjknhlaa
