/-
  MarksCover: whether any lists have each id just once is just the document's. No condition.
-/
import Derived.Test.YthjpjeflgnkgpaaNAwk
import Derived.Test.YthjpjeflgnkgpaaNRefC
import Derived.Test.YthjpjeflgnkgpaaNArg
import Derived.Lib.SmallJoins
import Derived.ProofKit
import Derived.OpenShut
import Derived.ShutString
import Derived.ChangeOld
import Derived.WalkSmall
namespace Go.Proofs.Ythjpjeflgnkgpaa
open Go.RowKit Go.Joins Go.ChangeShapes Go.WideShapes Go.Deep
namespace marksCover

theorem flat_le : ∀ (L : List (List Int)) (c : Nat), (∀ l ∈ L, l.length ≤ c) → L.flatten.length ≤ L.length * c
  | [], c, _ => by simp
  | l :: r, c, h => by
    have h1 := flat_le r c fun x hx => h x (by simp [hx])
    have h2 := h l (by simp)
    rw [List.flatten_cons, List.length_append, List.length_cons, Nat.add_mul]
    omega
set_option maxHeartbeats 1600000 in
set_option maxRecDepth 100000 in
theorem walk (a : Int) (a0 : Option Addr) (len0 cap0 : Nat) (z0 : List (List Int)) (w : World) (wa : (Lit.int .i64 a).wf = true) (w0 : Ls w a0 len0 cap0 z0) :
    Calls Try.prog 4 #[.int .i64 a, .slice a0 len0 cap0] w fun e w' => e = .returned (.bool true) ∧ Below w.heap.size w w' := by
  have ba : -9223372036854775808 ≤ a ∧ a ≤ 9223372036854775807 := by simp [Lit.wf, IntKind.min, IntKind.max, IntKind.signed, IntKind.bits] at wa; omega
  have V := Lib.hid w0
  clear w0 wa
  go_enter Try.func4, Try.ntmps4
  go_wp2_with fail
  refine (awake_any _).mono ?_
  rintro _ W1 ⟨rfl, b1⟩
  have B1 := Lib.hid b1
  clear b1
  by_cases g0 : 5000 < a
  · have d0 : decide (5000 < a) = true := decide_eq_true g0
    go_wp2
    go_ret
    exact ⟨rfl, B1.out⟩
  have d0 : decide (5000 < a) = false := decide_eq_false g0
  by_cases g1 : 100 < len0
  · have d1 : decide (100 < (len0 : Int)) = true := by simp; omega
    clear g0
    go_wp2
    go_ret
    exact ⟨rfl, B1.out⟩
  have d1 : decide (100 < (len0 : Int)) = false := by simp; omega
  have n0 : len0 ≤ 100 := by omega
  have ha : -9223372036854775808 ≤ a ∧ a ≤ 1000000000 := by omega
  have HA := Lib.hid ha
  clear g0 g1 ba ha
  go_wp2
  go_loopw [5] (fun I wr => ∃ i : Nat, I = .int .i64 (i : Int) ∧ i ≤ len0 ∧ (∀ l ∈ z0.take i, l.length ≤ 100) ∧ wr = W1) (fun I _ => len0 - (intOf I).toNat)
  case atStart => exact ⟨0, rfl, Nat.zero_le _, by simp, rfl⟩
  case round =>
    obtain ⟨i, rfl, hil, hall, rfl⟩ := hrel
    have HALL := Lib.hid hall
    clear hall
    by_cases hlt : i < len0
    · obtain ⟨l, hl⟩ := V.out.get hlt
      obtain ⟨b, off, rfl, hbb, A', n', c', hc0, hs⟩ := V.out.at_ i l hl
      have c1 := (B1.out.cell (p := ⟨b, off + i, none⟩) hbb).trans hc0
      have hsl := hs.length
      by_cases g : 100 < n'
      · have dg : decide (100 < (n' : Int)) = true := by simp; omega
        clear hl hbb hc0 hs hsl g
        go_wp2
        go_ret
        exact ⟨rfl, B1.out⟩
      · have dg : decide (100 < (n' : Int)) = false := by simp; omega
        have HN := Lib.hid (show ∀ x ∈ z0.take (i + 1), x.length ≤ 100 from fun x hx => by
          rw [List.take_add_one, hl, List.mem_append] at hx
          rcases hx with hx | hx
          · exact HALL.out x hx
          · simp at hx; subst hx; omega)
        clear hl hbb hc0 hs hsl g
        go_wp2
        go_roundw
        case rel => exact ⟨i + 1, congrArg (Value.int .i64) (by omega), by omega, HN.out, by simp⟩
        case measure => simp [intOf]; omega
    · obtain rfl : i = len0 := by omega
      have hz : z0.take i = z0 := List.take_of_length_le (by rw [V.out.len]; exact Nat.le_refl _)
      have hall := HALL.out
      rw [hz] at hall
      have hfl := flat_le z0 100 hall
      have hlen := V.out.len
      have hfl2 : z0.flatten.length ≤ 1000000 := by rw [hlen] at hfl; omega
      have HFL := Lib.hid hfl2
      have HAL := Lib.hid hall
      clear hz hall hfl hlen hfl2 HALL
      go_wp2_with fail
      refine (valsL a0 i cap0 _).mono ?_
      rintro _ W2 ⟨rfl, hw2⟩
      have b2 : Below wr.heap.size wr W2 := by rw [hw2]; exact (Below.refl _ wr).alloc (Nat.le_refl _) _
      have q2 : W2.heap[wr.heap.size]? = some (.cells #[.slice a0 i cap0] 28 (0, 0)) := by rw [hw2]; exact heap_new wr _ _
      have B2 := Lib.hid (B1.out.trans (b2.mono B1.out.size))
      have hcv := coversL a _ _ _ _ z0 W2 HA.out.2 q2 (V.out.below B2.out) (by omega) (fun l hl => by have := HAL.out l hl; omega)
      have HCV := Lib.hid hcv
      clear hw2 b2 q2 hcv
      go_wp2_with fail
      refine HCV.out.mono ?_
      rintro _ W3 ⟨rfl, b3⟩
      have B3 := Lib.hid (B2.out.trans (b3.mono B2.out.size))
      clear b3 HCV
      go_wp2_with fail
      refine (refCov a a0 i cap0 z0 W3 (V.out.below B3.out) (by omega) HFL.out HA.out).mono ?_
      rintro _ W4 ⟨rfl, b4⟩
      have B4 := Lib.hid (B3.out.trans (b4.mono B3.out.size))
      clear b4
      have e0 : (Nm.cov a z0.flatten == Nm.cov a z0.flatten) = true := by simp
      go_wp2
      go_ret
      exact ⟨by simp, B4.out⟩
theorem own : ownKnob Try.prog.godebug = none := by kernel_rfl
theorem laidOut : laidOutB Try.prog = true := by kernel_rfl
set_option maxRecDepth 100000 in
theorem lifted (os : Os) (started : os.Started) (H : Type) (enc : TypeId × Value → H) :
    ReturnsInHanded {} Try.checked os 4 .any (Rows.marksCoverSpec.pre6 enc Try.prog Try.f4 Rows.marksCoverRow.domain false) (Rows.marksCoverSpec.post enc Try.prog Try.f4 false true false false) := by
  refine returnsInHanded_of_change (C := Try.checked) own started (by kernel_rfl) Try.func4
    (ChangeSpec.witness6 (enc := enc) (C := Try.checked) false ⟨#[], #[.int .i64 0, .slice none 0 0], []⟩ 8 (by kernel_rfl) (by kernel_rfl) (by kernel_rfl) (by kernel_rfl)) ?_
  intro W base args ds gs before hval0 hW hcnd _
  have hval : ∀ (j : Nat) t v, Try.f4.params[j]? = some t → args[j]? = some v → Value.okWide Try.prog W .any base t v := hval0
  have hW' := hW
  obtain ⟨p, q, hA0, hV, rfl, hfz, hnd⟩ := hW
  have hA : DataW.TrodAll enc Try.prog W 0 (fun _ => true) true Try.f4.params.toList args.toList ds p := hA0
  rw [Try.params4] at hA hval
  obtain ⟨v0, vs0, d0, ds0, p0, q0, hargs, rfl, rfl, h0, r0⟩ := trodAll_cons hA
  obtain ⟨v1, vs1, d1, ds1, p1, q1, rfl, rfl, rfl, h1, r1⟩ := trodAll_cons r0
  obtain ⟨rfl, rfl, rfl⟩ := trodAll_nil r1
  obtain rfl : args = #[v0, v1] := by cases args; simp_all
  obtain ⟨rfl, rfl⟩ := trodVars_none hV
  obtain ⟨a0, rfl, rfl, rfl, w0⟩ := open_int Try.underlying3 (hval 0 3 v0 rfl rfl) h0
  obtain ⟨a1, len1, cap1, rfl⟩ := okWide_slice Try.underlying28 (hval 1 28 v1 rfl rfl)
  have k1 := h1
  have lt1 : ∀ x ∈ p1, x.block < W.heap.size := by obtain ⟨m, hm⟩ := k1; exact DataW.trod_lt m _ _ _ hm
  obtain ⟨z1, w1⟩ : ∃ L, Ls W a1 len1 cap1 L := by
    obtain ⟨fuel, hf⟩ := h1
    rcases Go.Deep.open_int_rows Try.underlying28 Try.underlying22 Try.underlying3 (by kernel_rfl) (by kernel_rfl) hf with ⟨hcs, _⟩ | ⟨x, l, c, _, _, _, _, hcs, _, hl, _, _, hx⟩
    · simp [Value.cells] at hcs
      obtain ⟨rfl, rfl, rfl⟩ := hcs
      exact ⟨[], Ls.nil_ _⟩
    · simp [Value.cells] at hcs
      obtain ⟨rfl, rfl, rfl⟩ := hcs
      exact ⟨_, Ls.of_rows hl hx⟩
  clear hA0 hval0
  refine (walk a0 a1 len1 cap1 z1 W w0 w1).mono fun e W' ⟨he, bel⟩ => ?_
  subst he
  exact ⟨_, rfl, _, _, _, [], _, [], hW', trodAll_mk1 (shut_bool Try.underlying4 _), (trodAll_cons_mk (shut_int Try.underlying3 w0) (trodAll_cons_mk (Below.trod laidOut (by kernel_rfl) (of_decide_eq_true (by kernel_rfl)) k1 bel lt1) trodAll_mk0)), rfl, bel.frame _, fun h => by cases h⟩
theorem over : Rows.marksCoverRow.holds Try.pinned (OpenSpec.ofChange Rows.marksCoverSpec) :=
  OpenClaim.holds_of_wide 4 Try.f4 rfl rfl rfl rfl rfl rfl rfl ⟨rfl, rfl, rfl, rfl, rfl⟩ rfl rfl rfl rfl rfl (by kernel_rfl) Try.func4 (by kernel_rfl)
    (of_decide_eq_true (by kernel_rfl)) (by unfold Func.isWrapper; first | (rw [if_pos (by decide +kernel)]; kernel_rfl) | (rw [if_neg (by decide +kernel)]; exact ⟨rfl, rfl⟩))
    (fun os started H enc _ => lifted os started H enc)
/-- the statement -/
theorem proved : Rows.MarksCoverSaid := over
#print axioms proved
end marksCover
end Go.Proofs.Ythjpjeflgnkgpaa
