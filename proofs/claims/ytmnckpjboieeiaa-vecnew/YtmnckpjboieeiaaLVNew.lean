/-
  VecNew holds for every input: what is answered is new memory: written into it leaves what was handed in as it was. No condition.
-/
import Derived.Test.YtmnckpjboieeiaaVAll
import Derived.ProofKit
import Derived.OpenShut
import Derived.ShutString
import Derived.ChangeOld
import Derived.WalkSmall
namespace Go.Proofs.Ytmnckpjboieeiaa.vecNew
open Go.ChangeShapes Go.WideShapes Go.ChangeAt Go.RowKit
open Go.ChangeMaps (open_string shut_string)
set_option linter.unusedVariables false

theorem grown_below {w0 w w' : World} {B : Nat} {row : Option Nat} (hb : Below B w0 w) (hg : w.grownBy w' row) (hB : B ≤ w.heap.size) (hr : ∀ k, row = some k → B ≤ k) : Below B w0 w' := hb.grown hg hB hr
theorem built_ge {B b : Nat} (h : B ≤ b) : ∀ k, (Value.slice (some ⟨b, 0, none⟩) 0 0).ownBlock = some k → B ≤ k := by
  intro k hk
  simp [Value.ownBlock] at hk
  omega

/-- a row of some numbers, at a block -/
def Ints (w : World) (g n : Nat) : Prop := ∃ C : Array Value, w.heap[g]? = some (.cells C 21 (0, 0)) ∧ C.size = n ∧ ∀ j, j < n → ∃ z, C[j]? = some (.int .i32 z)
theorem Ints.of_blk {w : World} {g n : Nat} {l : List Int} (h : Blk w g l) (hl : l.length = n) : Ints w g n :=
  ⟨_, h, by simpa using hl, fun j hj => ⟨l[j]'(by omega), by simp [hl, hj]⟩⟩
theorem Ints.cell {w : World} {g n k : Nat} (h : Ints w g n) (hk : k < n) : ∃ z, w.cell? ⟨g, k, none⟩ = some (.int .i32 z) ∧ w.frozen? ⟨g, k, none⟩ = false := by
  obtain ⟨C, h1, h2, h3⟩ := h
  obtain ⟨z, hz⟩ := h3 k hk
  exact ⟨z, by rw [cell_of_row _ _ _ _ _ _ h1, hz], frozen_of_row _ _ _ _ _ h1⟩
theorem Ints.set {w : World} {g n k : Nat} (h : Ints w g n) (z : Int) : Ints (w.setCell ⟨g, k, none⟩ (.int .i32 z)) g n := by
  obtain ⟨C, h1, h2, h3⟩ := h
  refine ⟨C.setIfInBounds k (.int .i32 z), heap_setCell_same _ _ _ _ _ _ h1, by simpa using h2, fun j hj => ?_⟩
  rw [Array.getElem?_setIfInBounds]
  by_cases e : k = j
  · subst e; exact ⟨z, by rw [if_pos rfl, if_pos (by omega)]⟩
  · rw [if_neg e]; exact h3 j hj
theorem Ints.other {w : World} {g g' n k : Nat} (h : Ints w g n) (hne : g' ≠ g) (v : Value) : Ints (w.setCell ⟨g', k, none⟩ v) g n := by
  obtain ⟨C, h1, h2, h3⟩ := h
  exact ⟨C, by rw [heap_setCell_other _ _ _ _ (by first | exact hne | exact hne.symm)]; exact h1, h2, h3⟩
theorem of_own {w : World} {base : Nat} {A : Option Addr} {n c : Nat} {l : List Int} (h : w.ownsRow base 21 1 (.slice A n c) n (l.map (Value.int .i32)))
    (hl : ∀ x ∈ l, -2147483648 ≤ x ∧ x ≤ 2147483647) : Vec w A n l := ⟨Lst.of_own h, hl⟩

set_option maxHeartbeats 1600000 in
set_option maxRecDepth 100000 in
theorem walk (a0 : Option Addr) (len0 cap0 : Nat) (z0 : List Int) (a1 : Option Addr) (len1 cap1 : Nat) (z1 : List Int) (w : World) (w0 : IsRow .i32 w a0 len0 cap0 z0) (w1 : IsRow .i32 w a1 len1 cap1 z1) :
    Calls Try.prog 6 #[.slice a0 len0 cap0, .slice a1 len1 cap1] w fun e w' => e = .returned (.bool true) ∧ Below w.heap.size w w' := by
  obtain ⟨l, hV, m0, hA0⟩ := w0.vec
  obtain ⟨r, hV', m1, hA1⟩ := w1.vec
  have V0 := Lib.hid hV
  have V1 := Lib.hid hV'
  have A0 := Lib.hid hA0
  have A1 := Lib.hid hA1
  clear w0 w1 hV hV' hA0 hA1
  by_cases g : 1100 < len0 ∨ 1100 < len1
  · go_enter Try.func6, Try.ntmps6
    go_wp2_with fail
    refine (awake_any _).mono ?_
    rintro e w1 ⟨rfl, hb1⟩
    have HB1 := Lib.hid hb1
    clear hb1
    go_wp2_with fail
    refine (few_no _ _ _ _ _ _ _ g).mono ?_
    rintro e w2 ⟨rfl, rfl⟩
    go_wp2
    go_ret
    exact ⟨rfl, HB1.out⟩
  have l0 : len0 ≤ 1100 := by omega
  have l1 : len1 ≤ 1100 := by omega
  clear g
  obtain ⟨i0, hi, hz0, hz1, hz2⟩ := info_parts Try.infoI32
  go_enter Try.func6, Try.ntmps6
  go_wp2_with fail
  refine (awake_any _).mono ?_
  rintro e w1 ⟨rfl, hb1⟩
  have HB1 := Lib.hid hb1
  have hs1 := hb1.size
  clear hb1
  go_wp2_with fail
  refine (few_yes _ _ _ _ _ _ _ l0 l1).mono ?_
  rintro e w2 ⟨rfl, rfl⟩
  have HBE := Lib.hid (HB1.out.alloc hs1 (.cells #[] 21))
  go_wp2_with (first
    | (at_builtin; refine append_lst _ rfl (.tmp 17) (.tmp 18) 22 rfl w1.heap.size 21 i0 (.int .i32 0) 4 Try.underlying22 hi hz0 hz1 hz2 rfl (.slice (some ⟨w1.heap.size, 0, none⟩) 0 0) 0 [] rfl (own_empty w1 21) w.heap.size a0 len0 cap0 (l.map (Value.int .i32)) rfl A0.out (V0.out.1.below HBE.out) (ints_one .i32 l) (by unfold maxLen; omega) (by omega) (by simp) ?_; intro v1 w2 hown1 hg1; have HB2 := Lib.hid (grown_below HBE.out hg1 (by simp; omega) (built_ge hs1)); rw [Nat.zero_add, List.nil_append] at hown1; obtain ⟨A, c, hv1⟩ := own_form hown1; subst hv1; have W2 := Lib.hid (of_own hown1 V0.out.2); have hs2 := HB2.out.size; have HBE2 := Lib.hid (HB2.out.alloc hs2 (.cells #[] 21)); have HBW2 := Lib.hid ((Below.refl _ w2).alloc (Nat.le_refl _) (.cells #[] 21)); clear hown1 hg1)
    | (at_builtin; refine append_lst _ rfl (.tmp 20) (.tmp 21) 22 rfl w2.heap.size 21 i0 (.int .i32 0) 4 Try.underlying22 hi hz0 hz1 hz2 rfl (.slice (some ⟨w2.heap.size, 0, none⟩) 0 0) 0 [] rfl (own_empty w2 21) w.heap.size a1 len1 cap1 (r.map (Value.int .i32)) rfl A1.out (V1.out.1.below HBE2.out) (ints_one .i32 r) (by unfold maxLen; omega) (by omega) (by simp) ?_; intro v2 w3 hown2 hg2; have HB3 := Lib.hid (grown_below HBE2.out hg2 (by simp; omega) (built_ge hs2)); have HBW3 := Lib.hid (grown_below HBW2.out hg2 (by simp) (built_ge (Nat.le_refl _))); rw [Nat.zero_add, List.nil_append] at hown2; obtain ⟨A', c', hv2⟩ := own_form hown2; subst hv2; have R3 := Lib.hid (of_own hown2 V1.out.2); have W3 := Lib.hid (W2.out.below HBW3.out); have hs3 := HB3.out.size; clear hown2 hg2 W2 HBW2 HBW3 HBE2 HB2 HBE HB1))
  have U0 := Lib.hid (V0.out.below HB3.out)
  have U1 := Lib.hid (V1.out.below HB3.out)
  clear V0 V1 A0 A1 hi hz0 hz1 hz2 hs1 hs2
  refine (clone_c U0.out (Below.refl _ _) (by omega)).mono ?_
  rintro e w4 ⟨g, rfl, hg3, -, hk4, -, hb4, -⟩
  have HK4 := Lib.hid hk4
  have HB4 := Lib.hid hb4
  have hg4 := lt_of_block hk4
  clear hk4 hb4
  go_wp2_with fail
  refine (less_c U0.out U1.out HB4.out (by omega) (by omega)).mono ?_
  rintro e w5 ⟨g', rfl, hg3', hgg, hk5, -, hb5, hb45⟩
  obtain ⟨N, hN⟩ : ∃ N, N = min len0 len1 := ⟨_, rfl⟩
  rw [← hN]
  have HI := Lib.hid (Ints.of_blk (HK4.out.below hb45) U0.out.length)
  have HI' : Hid (Ints w5 g' N) := by
    refine Ints.of_blk hk5 ?_
    rw [Vm.less_length, hN]; unfold Vm.both; rw [U0.out.length, U1.out.length]
  have HB5 := Lib.hid hb5
  have lN : N ≤ 1100 := by omega
  have hgne : g ≠ g' := by omega
  clear hk5 hb5 hb45 HK4 HB4 hN
  go_wp2_with fail
  go_loopw [9] (fun i wr => ∃ k : Nat, k ≤ len0 ∧ i = .int .i64 k ∧ Ints wr g len0 ∧ Ints wr g' N ∧ Below w3.heap.size w3 wr) (fun i _ => len0 - (intOf i).toNat)
  case atStart => exact ⟨0, Nat.zero_le _, rfl, HI.out, HI'.out, HB5.out⟩
  case round =>
    obtain ⟨k, hk, rfl, hI, hI', hB⟩ := hrel
    have QI := Lib.hid hI
    have QI' := Lib.hid hI'
    have QB := Lib.hid hB
    clear hI' hB HI HI' HB5
    by_cases hlt : k < len0
    · obtain ⟨z, hc, hf⟩ := hI.cell hlt
      clear hI
      go_wp2
      go_roundw
      case rel => exact ⟨k + 1, by omega, by go_num, QI.out.set _, QI'.out.other hgne _, QB.out.setCell hg3 _⟩
      case measure => simp [intOf]; omega
    · clear hI
      go_wp2_with fail
      go_loopw [10] (fun i wr2 => ∃ q : Nat, q ≤ N ∧ i = .int .i64 q ∧ Ints wr2 g' N ∧ Below w3.heap.size w3 wr2) (fun i _ => N - (intOf i).toNat)
      case atStart => exact ⟨0, Nat.zero_le _, rfl, QI'.out, QB.out⟩
      case round =>
        obtain ⟨q, hq, rfl, hI', hB⟩ := hrel
        have PI' := Lib.hid hI'
        have PB := Lib.hid hB
        clear hB QI QI' QB
        by_cases hlq : q < N
        · obtain ⟨z, hc, hf⟩ := hI'.cell hlq
          clear hI'
          go_wp2
          go_roundw
          case rel => exact ⟨q + 1, by omega, by go_num, PI'.out.set _, PB.out.setCell hg3' _⟩
          case measure => simp [intOf]; omega
        · clear hI'
          go_wp2_with fail
          refine (refSame_c U0.out W3.out PB.out (by omega) (by omega)).mono ?_
          rintro e x1 ⟨rfl, hb⟩
          have C1 := Lib.hid hb
          clear hb
          go_wp2_with fail
          refine (refSame_c U1.out R3.out C1.out (by omega) (by omega)).mono ?_
          rintro e x2 ⟨rfl, hb⟩
          have C2 := Lib.hid hb
          clear hb C1
          go_wp2
          go_ret
          exact ⟨ret_bool (by simp), HB3.out.trans (C2.out.mono hs3)⟩
theorem own : ownKnob Try.prog.godebug = none := by kernel_rfl
theorem laidOut : laidOutB Try.prog = true := by kernel_rfl
set_option maxRecDepth 100000 in
theorem lifted (os : Os) (started : os.Started) (H : Type) (enc : TypeId × Value → H) :
    ReturnsInHanded {} Try.checked os 6 .any (Rows.vecNewSpec.pre6 enc Try.prog Try.f6 Rows.vecNewRow.domain false) (Rows.vecNewSpec.post enc Try.prog Try.f6 false true false false) := by
  refine returnsInHanded_of_change (C := Try.checked) own started (by kernel_rfl) Try.func6
    (ChangeSpec.witness6 (enc := enc) (C := Try.checked) false ⟨#[], #[.slice none 0 0, .slice none 0 0], []⟩ 8 (by kernel_rfl) (by kernel_rfl) (by kernel_rfl) (by kernel_rfl)) ?_
  intro W base args ds gs before hval0 hW hcnd _
  have hval : ∀ (j : Nat) t v, Try.f6.params[j]? = some t → args[j]? = some v → Value.okWide Try.prog W .any base t v := hval0
  have hW' := hW
  obtain ⟨p, q, hA0, hV, rfl, hfz, hnd⟩ := hW
  have hA : DataW.TrodAll enc Try.prog W 0 (fun _ => true) true Try.f6.params.toList args.toList ds p := hA0
  rw [Try.params6] at hA hval
  obtain ⟨v0, vs0, d0, ds0, p0, q0, hargs, rfl, rfl, h0, r0⟩ := trodAll_cons hA
  obtain ⟨v1, vs1, d1, ds1, p1, q1, rfl, rfl, rfl, h1, r1⟩ := trodAll_cons r0
  obtain ⟨rfl, rfl, rfl⟩ := trodAll_nil r1
  obtain rfl : args = #[v0, v1] := by cases args; simp_all
  obtain ⟨rfl, rfl⟩ := trodVars_none hV
  obtain ⟨a0, len0, cap0, rfl⟩ := okWide_slice Try.underlying22 (hval 0 22 v0 rfl rfl)
  have k0 := h0
  have lt0 : ∀ x ∈ p0, x.block < W.heap.size := by obtain ⟨m, hm⟩ := k0; exact DataW.trod_lt m _ _ _ hm
  obtain ⟨z0, w0⟩ : ∃ zs, IsRow .i32 W a0 len0 cap0 zs := by
    obtain ⟨fuel, hf⟩ := h0
    rcases open_ints Try.underlying22 Try.underlying21 (by kernel_rfl) hf with ⟨hcs, _⟩ | ⟨x, l, c, zs, hcs, _, hl, hm, hz, _, hcell, hwz⟩
    · simp [Value.cells] at hcs
      obtain ⟨rfl, rfl, rfl⟩ := hcs
      exact ⟨[], .inl ⟨rfl, rfl, rfl, rfl⟩⟩
    · simp [Value.cells] at hcs
      obtain ⟨rfl, rfl, rfl⟩ := hcs
      exact ⟨zs, .inr ⟨_, rfl, hl, hm, by simpa using hz, hcell, hwz⟩⟩
  obtain ⟨a1, len1, cap1, rfl⟩ := okWide_slice Try.underlying22 (hval 1 22 v1 rfl rfl)
  have k1 := h1
  have lt1 : ∀ x ∈ p1, x.block < W.heap.size := by obtain ⟨m, hm⟩ := k1; exact DataW.trod_lt m _ _ _ hm
  obtain ⟨z1, w1⟩ : ∃ zs, IsRow .i32 W a1 len1 cap1 zs := by
    obtain ⟨fuel, hf⟩ := h1
    rcases open_ints Try.underlying22 Try.underlying21 (by kernel_rfl) hf with ⟨hcs, _⟩ | ⟨x, l, c, zs, hcs, _, hl, hm, hz, _, hcell, hwz⟩
    · simp [Value.cells] at hcs
      obtain ⟨rfl, rfl, rfl⟩ := hcs
      exact ⟨[], .inl ⟨rfl, rfl, rfl, rfl⟩⟩
    · simp [Value.cells] at hcs
      obtain ⟨rfl, rfl, rfl⟩ := hcs
      exact ⟨zs, .inr ⟨_, rfl, hl, hm, by simpa using hz, hcell, hwz⟩⟩
  clear hA0 hval0
  refine (walk a0 len0 cap0 z0 a1 len1 cap1 z1 W w0 w1).mono fun e W' ⟨he, bel⟩ => ?_
  subst he
  exact ⟨_, rfl, _, _, _, [], _, [], hW', trodAll_mk1 (shut_bool Try.underlying4 _), (trodAll_cons_mk (Below.trod laidOut (by kernel_rfl) (of_decide_eq_true (by kernel_rfl)) k0 bel lt0) (trodAll_cons_mk (Below.trod laidOut (by kernel_rfl) (of_decide_eq_true (by kernel_rfl)) k1 bel lt1) trodAll_mk0)), rfl, bel.frame _, fun h => by cases h⟩
theorem over : Rows.vecNewRow.holds Try.pinned (OpenSpec.ofChange Rows.vecNewSpec) :=
  OpenClaim.holds_of_wide 6 Try.f6 rfl rfl rfl rfl rfl rfl rfl ⟨rfl, rfl, rfl, rfl, rfl⟩ rfl rfl rfl rfl rfl (by kernel_rfl) Try.func6 (by kernel_rfl)
    (of_decide_eq_true (by kernel_rfl)) (by unfold Func.isWrapper; first | (rw [if_pos (by decide +kernel)]; kernel_rfl) | (rw [if_neg (by decide +kernel)]; exact ⟨rfl, rfl⟩))
    (fun os started H enc _ => lifted os started H enc)
/-- the statement -/
theorem proved : Rows.VecNewSaid := over
#print axioms proved
end Go.Proofs.Ytmnckpjboieeiaa.vecNew
