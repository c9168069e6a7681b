/-
  Layer 5 (rng): Draws, and what it hands back, by contracts.
-/
import Derived.Test.YtnhlicfjdnmjcaaRRange
import Derived.Test.YtnhlicfjdnmjcaaRArg
namespace Go.Proofs.Ytnhlicfjdnmjcaa
open Go.RowKit Go.Shelf
attribute [local go_sem] Oper.semAt_some

theorem draws_any (v : Value) (T : Nat) (n : Int) (w : World) :
    Calls Try.prog 19 #[.iface T v, .int .i64 n] w fun e w' => e = .returned (.func (.func 23) #[] #[.pointer (some ⟨w.heap.size + 1, 0, none⟩), .pointer (some ⟨w.heap.size, 0, none⟩)]) ∧ w' = (w.alloc (.cells #[.iface T v] 29)).alloc (.cells #[.int .i64 n] 3) := by
  go_enter Try.func19, Try.ntmps19
  go_wp2
  go_ret
  exact ⟨rfl, rfl⟩

/-- the iterator: it draws, and yields, so many times -/
theorem iter_in {m l bn bs b T : Nat} (N : Nat) (n : Int) (hs : N ≤ 1000000) (hn : n ≤ N) (hN : N = 0 ∨ n = N) (x : Nat → Int) (I M : Nat → World → Prop) (Y : World → Prop) (me : Meth T (mOf T))
    (hc : ∀ k W, I k W → W.cell? ⟨bn, 0, none⟩ = some (.int .i64 n) ∧ W.cell? ⟨bs, 0, none⟩ = some (.iface T (.pointer (some ⟨b, 0, none⟩))))
    (hD : ∀ k W, I k W → k < N → Calls Try.prog (mOf T) #[.pointer (some ⟨b, 0, none⟩)] W fun e W' => e = .returned (.int .u64 (x k)) ∧ M k W')
    (hY : ∀ k W, M k W → k < N → YieldAt Fence.wide (m - 1) Try.prog l #[.int .u64 (x k)] W fun e W' => (e = .returned (.bool true) ∧ I (k + 1) W') ∨ (e = .returned (.bool false) ∧ Y W'))
    (W : World) (h0 : I 0 W) :
    CallsIn Fence.wide m Try.prog 23 #[.func (.yield l) #[] #[], .pointer (some ⟨bn, 0, none⟩), .pointer (some ⟨bs, 0, none⟩)] W fun e W' => (∃ v, e = .returned v) ∧ (I N W' ∨ Y W') := by
  have HC := Lib.hid hc
  have HD := Lib.hid hD
  have HY := Lib.hid hY
  have H0 := Lib.hid h0
  obtain ⟨c1, -⟩ := hc 0 W h0
  obtain ⟨m1, m2, m3⟩ := me
  clear hc hD hY h0
  refine callsIn_of_wp Try.func23 rfl trivial ?_ rfl
  simp only [Try.ntmps23, List.size_toArray, List.length_cons, List.length_nil, Nat.reduceAdd, Nat.reduceSub, Array.replicate_succ, Array.replicate_zero, List.push_toArray, List.append_toArray, List.nil_append, List.cons_append]
  gi_wp2
  gi_loopw [5] (fun p wr => ∃ k : Nat, p = .int .i64 (k : Int) ∧ k ≤ N ∧ I k wr) (fun p _ => N - (intOf p).toNat)
  case atStart => exact ⟨0, rfl, by omega, H0.out⟩
  case round =>
    clear H0 c1
    obtain ⟨k, rfl, hk, hi⟩ := hrel
    have HI := Lib.hid hi
    clear hi
    by_cases hlt : k < N
    · obtain ⟨c1, c2⟩ := HC.out k wr HI.out
      have hkn : (k : Int) < n := by omega
      gi_wp2_with fail
      refine ⟨trivial, (fun h => by cases h), ?_⟩
      refine (callsIn_wide.2 (HD.out k wr HI.out hlt)).mono ?_
      rintro _ W1 ⟨rfl, hM⟩
      obtain ⟨fn, tmps, assign, body, hy, hR⟩ := HY.out k W1 hM hlt
      have HR := Lib.hid hR
      clear hR hM c1 c2 HI
      gi_wp2
      refine ⟨(fun h => by cases h), ?_⟩
      refine HR.out.mono ?_
      rintro e W3 (⟨rfl, hI3⟩ | ⟨rfl, hY3⟩)
      · have HI3 := Lib.hid hI3
        clear hI3 HR hy
        gi_wp2
        go_roundw
        case rel => exact ⟨k + 1, congrArg (Value.int .i64) (by omega), by omega, HI3.out⟩
        case measure => simp [intOf]; omega
      · have HY3 := Lib.hid hY3
        clear hY3 HR hy
        gi_wp2
        refine bodyPost_ret (results_none rfl _ _ _) rfl ?_
        exact ⟨⟨_, rfl⟩, .inr HY3.out⟩
    · have hkn : ¬ (k : Int) < n := by omega
      obtain rfl : k = N := by omega
      gi_wp2
      go_end0
      exact ⟨⟨_, rfl⟩, .inl HI.out⟩
end Go.Proofs.Ytnhlicfjdnmjcaa
