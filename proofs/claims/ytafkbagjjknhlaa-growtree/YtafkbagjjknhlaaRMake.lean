/-
  Layer 5 (rng): sources made: slices.Clone, Script, Mix, Count, and 'of' of the statements, by contracts.
-/
import Derived.Test.YtafkbagjjknhlaaRLeaf
namespace Go.Proofs.Ytafkbagjjknhlaa
open Go.RowKit

theorem Try.infoU64 : (Try.prog.info? 23).map (fun i => (i.zero, i.size, i.bytes)) = some (some (.int .u64 0), 1, 8) := by kernel_rfl
theorem rown_form {w : World} {base : Nat} {e : TypeId} {v : Value} {n : Nat} {xs : List Value} (h : w.ownsRow base e 1 v n xs) : ∃ A c, v = .slice A n c ∧ n ≤ c := by
  rcases h.2 with ⟨rfl, rfl⟩ | ⟨g, cap, cur, rfl, _, _, hc, _⟩
  · exact ⟨none, 0, rfl, Nat.le_refl _⟩
  · exact ⟨_, cap, rfl, hc⟩
theorem own_nil {w : World} {base n c : Nat} {A : Option Addr} {e : TypeId} {xs : List Value} (h : w.ownsRow base e 1 (.slice A n c) n xs) : A = none → c = 0 := by
  rintro rfl
  rcases h.2 with ⟨h1, _⟩ | ⟨g, cap, cur, h1, _⟩
  · injection h1
  · injection h1 with h1; cases h1
theorem built_ge {B b : Nat} (h : B ≤ b) : ∀ k, (Value.slice (some ⟨b, 0, none⟩) 0 0).ownBlock = some k → B ≤ k := by
  intro k hk
  simp [Value.ownBlock] at hk
  omega
theorem Lsr.of_own {w : World} {base n c : Nat} {A : Option Addr} {xs : List Int} (h : w.ownsRow base 23 1 (.slice A n c) n (xs.map (Value.int .u64))) : Lsr w base w.heap.size A n xs := by
  have hl := Lst.of_own h
  refine ⟨by have := hl.1; simpa using this, fun hn => ?_⟩
  obtain ⟨b, off, e, hb, hc⟩ := hl.2 hn
  refine ⟨b, off, e, ?_, hb, fun j u hu => hc j _ (by rw [List.getElem?_map, hu]; rfl)⟩
  rcases h.2 with ⟨_, h0⟩ | ⟨g, cap, cur, hv, hg, _⟩
  · omega
  · have : A = some ⟨g, 0, none⟩ := by injection hv
    rw [e] at this
    injection this with this
    injection this with this
    omega

theorem clone_none (c : Nat) (w : World) :
    Calls Try.prog 26 #[.slice none 0 c] w fun e w' => e = .returned (.slice none 0 0) ∧ w' = w := by
  have qT : ∀ (w : World) (a : Option Addr) (n c n' c' : Nat), (binOp .eql 24 (.slice a n c) (.slice none n' c')).run Try.prog w = .ok (.bool a.isNone) w := fun w a n c n' c' => Lib.run_eql_slice_nil w _ _ a n c n' c' Try.underlying24
  go_enter Try.func26, Try.ntmps26
  go_wp2
  go_ret
  exact ⟨rfl, rfl⟩
set_option maxHeartbeats 800000 in
theorem rclone_any (A : Option Addr) (n c : Nat) (xs : List Int) (w : World) (h : Lst w w.heap.size A n (xs.map (Value.int .u64))) (hA : A = none → c = 0) (hn : n ≤ 1000) :
    Calls Try.prog 26 #[.slice A n c] w fun e w' => ∃ A' c', e = .returned (.slice A' n c') ∧ n ≤ c' ∧ Lsr w' w.heap.size w'.heap.size A' n xs ∧ Below w.heap.size w w' ∧ (A' = none → c' = 0) := by
  have qT : ∀ (w : World) (a : Option Addr) (n c n' c' : Nat), (binOp .eql 24 (.slice a n c) (.slice none n' c')).run Try.prog w = .ok (.bool a.isNone) w := fun w a n c n' c' => Lib.run_eql_slice_nil w _ _ a n c n' c' Try.underlying24
  have H := Lib.hid h
  clear h
  cases A with
  | none =>
    obtain rfl : n = 0 := by
      rcases Nat.eq_zero_or_pos n with h0 | h0
      · exact h0
      · obtain ⟨_, _, hc, _⟩ := H.out.2 h0; cases hc
    obtain rfl : xs = [] := by have := H.out.1; simpa using this
    refine (clone_none c w).mono ?_
    rintro _ _ ⟨rfl, rfl⟩
    exact ⟨none, 0, rfl, Nat.le_refl _, ⟨rfl, fun h => absurd h (by omega)⟩, Below.refl _ _, fun _ => rfl⟩
  | some ad =>
    obtain ⟨i0, hi, hz0, hz1, hz2⟩ := info_parts Try.infoU64
    have HB := Lib.hid ((Below.refl w.heap.size w).alloc (Nat.le_refl _) (.cells #[] 23))
    have HL := Lib.hid (H.out.below HB.out)
    clear H hA
    go_enter Try.func26, Try.ntmps26
    go_wp2_with (at_builtin; refine append_lst _ rfl (.tmp 5) (.tmp 6) 24 rfl w.heap.size 23 i0 (.int .u64 0) 8 Try.underlying24 hi hz0 hz1 hz2 rfl (.slice (some ⟨w.heap.size, 0, none⟩) 0 0) 0 [] rfl (own_empty w 23) w.heap.size (some ad) n c (xs.map (Value.int .u64)) rfl (fun h => by cases h) HL.out (ints_one .u64 xs) (by unfold maxLen; omega) (by omega) (by simp) ?_; intro v1 w2 hown1 hg1; have HB2 := Lib.hid (HB.out.grown hg1 HB.out.size (built_ge (Nat.le_refl _))); rw [Nat.zero_add, List.nil_append] at hown1; obtain ⟨A', c', hv1, hc1⟩ := rown_form hown1; subst hv1; have R := Lib.hid (Lsr.of_own hown1); have RN := Lib.hid (own_nil hown1); clear hown1 hg1)
    go_ret
    exact ⟨A', c', rfl, hc1, R.out, HB2.out, RN.out⟩
theorem dr_bound {xs : List Int} (h : ∀ x ∈ xs, 0 ≤ x ∧ x < 18446744073709551616) (k : Nat) : 0 ≤ xs[k]?.getD 0 ∧ xs[k]?.getD 0 < 18446744073709551616 := by
  cases e : xs[k]? with
  | none => simp
  | some x => simpa using h x (List.mem_of_getElem? e)
/-- a script of a list: its draws -/
def lstF (xs : List Int) : Nat → Int := fun k => xs[k]?.getD 0
theorem rheap_new (w : World) (cs : Array Value) (t : TypeId) : (w.alloc (.cells cs t)).heap[w.heap.size]? = some (.cells cs t (0, 0)) := heap_alloc_new w _

theorem script_new (A : Option Addr) (n c : Nat) (xs : List Int) (w : World) (h : Lst w w.heap.size A n (xs.map (Value.int .u64))) (hA : A = none → c = 0) (hn : n ≤ 1000) (hx : ∀ x ∈ xs, 0 ≤ x ∧ x < 18446744073709551616) :
    Calls Try.prog 11 #[.slice A n c] w fun e w' => ∃ b, e = .returned (.iface 72 (.pointer (some ⟨b, 0, none⟩))) ∧ Bas 72 w' w.heap.size w'.heap.size b (lstF xs) ∧ Below w.heap.size w w' := by
  have hK := Lib.hid (rclone_any A n c xs w h hA hn)
  have HX := Lib.hid hx
  clear h hA hx
  go_enter Try.func11, Try.ntmps11
  go_wp2_with fail
  refine hK.out.mono ?_
  rintro _ w1 ⟨A', c', rfl, hc, hl, hb, -⟩
  have HC := Lib.hid hc
  have HL := Lib.hid hl
  have HB := Lib.hid hb
  have hs := hb.size
  clear hc hl hb
  go_wp2
  go_ret
  refine ⟨w1.heap.size, rfl, ⟨hs, by simp, Nat.le_refl _, dr_bound HX.out, .inl ⟨rfl, A', n, c', xs, rheap_new _ _ _, ?_, HC.out, fun _ => rfl⟩⟩, HB.out.alloc hs _⟩
  exact (HL.out).keep fun p _ q => World.cell?_of_block (Below.heap_alloc _ _ _ q)
theorem mix_new (s : Int) (w : World) (h0 : 0 ≤ s) (h1 : s < 18446744073709551616) :
    Calls Try.prog 18 #[.int .u64 s] w fun e w' => ∃ b, e = .returned (.iface 80 (.pointer (some ⟨b, 0, none⟩))) ∧ Bas 80 w' w.heap.size w'.heap.size b (Rm.mixAt s) ∧ Below w.heap.size w w' := by
  have H0 := Lib.hid h0
  have H1 := Lib.hid h1
  clear h0 h1
  go_enter Try.func18, Try.ntmps18
  go_wp2
  go_ret
  exact ⟨w.heap.size, rfl, ⟨Nat.le_refl _, by simp, Nat.le_refl _, Rm.mixAt_in s, .inr ⟨rfl, s, rheap_new _ _ _, H0.out, H1.out, fun _ => rfl⟩⟩, (Below.refl _ _).alloc (Nat.le_refl _) _⟩
theorem count_new {T lo b : Nat} {w : World} {f : Nat → Int} (h : Bas T w lo w.heap.size b f) :
    Calls Try.prog 10 #[.iface T (.pointer (some ⟨b, 0, none⟩))] w fun e w' => ∃ q, e = .returned (.pointer (some ⟨q, 0, none⟩)) ∧ Ctr w' lo w'.heap.size q f 0 ∧ Below w.heap.size w w' := by
  have H := Lib.hid h
  clear h
  go_enter Try.func10, Try.ntmps10
  go_wp2
  go_ret
  exact ⟨w.heap.size, rfl, ⟨T, b, H.out.below ((Below.refl _ _).alloc (Nat.le_refl _) _), by simp, Nat.le_refl _, rheap_new _ _ _⟩, (Below.refl _ _).alloc (Nat.le_refl _) _⟩
/-- the draws of 'of' -/
def ofF (mixed : Bool) (s : Int) (xs : List Int) : Nat → Int := if mixed then Rm.mixAt s else lstF xs
def ofT (mixed : Bool) : Nat := if mixed then 80 else 72
end Go.Proofs.Ytafkbagjjknhlaa
