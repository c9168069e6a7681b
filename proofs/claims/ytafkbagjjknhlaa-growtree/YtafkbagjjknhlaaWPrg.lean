/-
  Layer 13 (grow): Check, Tree and Bound of the program, by contracts.
-/
import Derived.Test.YtafkbagjjknhlaaWTre
import Derived.Test.YtafkbagjjknhlaaRPair
import Derived.Test.YtafkbagjjknhlaaDRef
import Derived.Test.YtafkbagjjknhlaaDArg
import Derived.Test.YtafkbagjjknhlaaDOf
namespace Go.Proofs.Ytafkbagjjknhlaa
open Go.RowKit

theorem Wm.held_le {t : Wm.Nd} {T : List Wm.Nd} (h : t ∈ T) : t.ids.length ≤ (Wm.held T).length := by
  induction T with
  | nil => cases h
  | cons a T ih =>
    rw [Wm.held_cons, List.length_append]
    rcases List.mem_cons.1 h with rfl | h
    · omega
    · have := ih h; omega
section
variable {w : World} {S : Nat → Prop} {s : Nat} {d : Int} {L : List (List Int)} {tr sd : Int} {sc : Bool} {pA : Option Addr} {pn pc : Nat}
theorem chkW (tr lf dp : Int) (sc : Bool) (sd : Int) (pA : Option Addr) (pn pc : Nat) (w : World) : Calls Try.prog 14 #[.agg #[.int .i64 tr, .int .i64 lf, .int .i64 dp, .bool sc, .int .u64 sd, .slice pA pn pc]] w fun e w' => e = .returned (.int .i64 (Wm.chk tr lf dp)) ∧ Below w.heap.size w w' := by
  obtain ⟨W, hW⟩ : ∃ W, W = w.alloc (.cells #[.int .i64 tr, .int .i64 lf, .int .i64 dp, .bool sc, .int .u64 sd, .slice pA pn pc] 28) := ⟨_, rfl⟩
  have hb : Below w.heap.size w W := by rw [hW]; exact (Below.refl _ w).alloc (Nat.le_refl _) _
  have hp : Prx W w.heap.size tr lf dp sc sd pA pn pc := by rw [hW]; exact Prx.new w _ _ _ _ _ _ _ _
  have k0 := hp.c0
  have k1 := hp.c1
  have k2 := hp.c2
  have HW := Lib.hid hW
  have HB := Lib.hid hb
  have HC := Lib.hid (show Wm.chk tr lf dp = if lf < 1 ∨ 1024 < lf ∨ dp < 0 ∨ 64 < dp then 1 else if tr < 1 ∨ 256 < tr then 5 else 0 from rfl)
  clear hW hb hp
  by_cases g1 : lf < 1
  · go_enter Try.func14, Try.ntmps14
    go_wp2
    rw [← HW.out]
    go_ret
    exact ⟨by rw [HC.out, if_pos (.inl g1)]; rfl, HB.out⟩
  by_cases g2 : 1024 < lf
  · go_enter Try.func14, Try.ntmps14
    go_wp2
    rw [← HW.out]
    go_ret
    exact ⟨by rw [HC.out, if_pos (.inr (.inl g2))]; rfl, HB.out⟩
  by_cases g3 : dp < 0
  · go_enter Try.func14, Try.ntmps14
    go_wp2
    rw [← HW.out]
    go_ret
    exact ⟨by rw [HC.out, if_pos (.inr (.inr (.inl g3)))]; rfl, HB.out⟩
  by_cases g4 : 64 < dp
  · go_enter Try.func14, Try.ntmps14
    go_wp2
    rw [← HW.out]
    go_ret
    exact ⟨by rw [HC.out, if_pos (.inr (.inr (.inr g4)))]; rfl, HB.out⟩
  have g5 : ¬ (lf < 1 ∨ 1024 < lf ∨ dp < 0 ∨ 64 < dp) := by omega
  by_cases g6 : tr < 1
  · go_enter Try.func14, Try.ntmps14
    go_wp2
    rw [← HW.out]
    go_ret
    exact ⟨by rw [HC.out, if_neg g5, if_pos (.inl g6)]; rfl, HB.out⟩
  by_cases g7 : 256 < tr
  · go_enter Try.func14, Try.ntmps14
    go_wp2
    rw [← HW.out]
    go_ret
    exact ⟨by rw [HC.out, if_neg g5, if_pos (.inr g7)]; rfl, HB.out⟩
  · go_enter Try.func14, Try.ntmps14
    go_wp2
    rw [← HW.out]
    go_ret
    exact ⟨by rw [HC.out, if_neg g5, if_neg (by omega)]; rfl, HB.out⟩
theorem boundW {n : Nat} (hn : n ≤ 1000000) : Calls Try.prog 20 #[.int .i64 (n : Int)] w fun e w' => e = .returned (.int .i64 ((8 * (n - 1) : Nat) : Int)) ∧ Below w.heap.size w w' := by
  have HB := Lib.hid (Below.refl w.heap.size w)
  by_cases h : n = 0
  · subst h
    go_enter Try.func20, Try.ntmps20
    go_wp2
    go_ret
    exact ⟨rfl, HB.out⟩
  · obtain ⟨m, rfl⟩ : ∃ m, n = m + 1 := ⟨n - 1, by omega⟩
    have e : ((m + 1 : Nat) : Int) = (m : Int) + 1 := rfl
    rw [e]
    go_enter Try.func20, Try.ntmps20
    go_wp2
    go_ret
    exact ⟨by simp, HB.out⟩
/-- the tree of all items -/
abbrev growT (L : List (List Int)) (d : Int) (lim dp : Nat) (f : Nat → Int) : List Wm.Nd × Nat := Wm.grow L d.toNat lim dp (Wm.upto L.length) 0 f
end
end Go.Proofs.Ytafkbagjjknhlaa
