/-
  MarksPlay: whatever ids are met, of however many: which is met for the first time, which were, and how many, is just the document's. No condition but that the table math/bits.deBruijn64tab holds what its initialiser lays, which the card ties to the program's text.
-/
import Derived.Test.YthjpjeflgnkgpaaDoorNAwk
import Derived.Test.YthjpjeflgnkgpaaDoorNGat
import Derived.Test.YthjpjeflgnkgpaaDoorNRef
import Derived.Test.YthjpjeflgnkgpaaDoorNRefS
import Derived.Test.YthjpjeflgnkgpaaDoorCards
import Derived.Test.YthjpjeflgnkgpaaDoorTie
import Derived.Lib.SmallJoins
import Derived.Lib.LaidTab
import Derived.ProofKit
import Derived.LaidMore
import Derived.OpenShut
import Derived.ShutString
import Derived.ChangeOld
import Derived.WalkSmall
import Derived.Stop.Joined
import Derived.SevenTiedAt
namespace Go.Proofs.YthjpjeflgnkgpaaDoor
open Go.RowKit Go.Joins Go.ChangeShapes Go.WideShapes Go.Deep Go.Shelf
namespace marksPlay
attribute [local go_sem] Oper.semAt_some

/-- both sets, apart: the program's (s, b) has met L1, the document's (r) has met L2; all made since w -/
structure Sta (w : World) (s b m r : Nat) (a : Int) (L1 L2 : List Int) (W : World) : Prop where
  mine : Mk W s b m L1
  ref : Rs W r a L2
  be : Below w.heap.size w W
  rs : s < r ∧ b < r
  old : w.heap.size ≤ s ∧ w.heap.size ≤ b
section
variable {w W W' : World} {s b m r : Nat} {a x : Int} {L1 L2 : List Int}
theorem Sta.below (h : Sta w s b m r a L1 L2 W) (hb : Below W.heap.size W W') : Sta w s b m r a L1 L2 W' := ⟨h.mine.below hb, h.ref.below hb, h.be.trans (hb.mono h.be.size), h.rs, h.old⟩
theorem Sta.drewN (h : Sta w s b m r a L1 L2 W) (d : Nat) : Sta w s b m r a L1 L2 (W.drewN d) := h.below (bdrew (Below.refl _ W) d)
theorem Sta.mine_add {L : List Int} (h : Sta w s b m r a L1 L2 W) (hm : Mk W' s b m L) (hk : Kept (fun q => q = s ∨ q = b) W W') : Sta w s b m r a L L2 W' := by
  have := h.rs
  have := h.old
  exact ⟨hm, h.ref.other hk (fun j hj => by omega), h.be.trans (hk.old h.be.size fun j hj => by omega), h.rs, h.old⟩
theorem Sta.ref_add {L : List Int} (h : Sta w s b m r a L1 L2 W) (hr : Rs W' r a L) (hk : Kept (fun q => q = r) W W') : Sta w s b m r a L1 L W' := by
  have := h.rs
  have := h.old
  exact ⟨h.mine.other hk (by omega) (by omega), hr, h.be.trans (hk.old h.be.size fun j hj => by omega), h.rs, h.old⟩
end
theorem add_same {m : Nat} {a x : Int} {L : List Int} (hm : m = a.toNat) : Nm.add (m : Int) L x = Nm.add a L x ∧ decide (0 ≤ x ∧ x < (m : Int) ∧ x ∉ L) = decide (0 ≤ x ∧ x < a ∧ x ∉ L) := by
  have e : (0 ≤ x ∧ x < (m : Int) ∧ x ∉ L) ↔ (0 ≤ x ∧ x < a ∧ x ∉ L) := by
    constructor
    · rintro ⟨h1, h2, h3⟩; exact ⟨h1, by omega, h3⟩
    · rintro ⟨h1, h2, h3⟩; exact ⟨h1, by omega, h3⟩
  refine ⟨?_, decide_eq_decide.2 e⟩
  unfold Nm.add
  by_cases h : 0 ≤ x ∧ x < a ∧ x ∉ L
  · rw [if_pos h, if_pos (e.2 h)]
  · rw [if_neg h, if_neg (fun q => h (e.1 q))]
theorem add_len (n : Int) (L : List Int) (x : Int) : (Nm.add n L x).length ≤ L.length + 1 := by unfold Nm.add; split <;> simp

/-- a stronger word on the worlds serves from here on -/
theorem wpAnyH_imp {P : Program} {md : Region.Mode} {ops : Array Oper} {Q : Exit → Act → World → Prop} {S S' : World → Prop} (hS : ∀ w, S' w → S w) : ∀ {fuel : Nat} {listed : Array Bool} {a : Act} {w : World}, wpAnyH P md ops Q S' fuel listed a w → wpAnyH P md ops Q S fuel listed a w
  | 0, _, _, _, h => h
  | _ + 1, _, _, _, h => ⟨h.1, fun i hi => wpOp_mono (fun _ _ h' => ⟨hS _ h'.1, wpAnyH_imp hS h'.2⟩) (h.2 i hi)⟩
set_option maxHeartbeats 3200000 in
set_option maxRecDepth 100000 in
theorem walk (a : Int) (a0 : Option Addr) (len0 cap0 : Nat) (z0 : List Int) (w : World) (wa : (Lit.int .i64 a).wf = true) (w0 : IsRow .i64 w a0 len0 cap0 z0) (hT : TabAt 0 Lib.deBruijn64tab w) :
    Calls Tryd.prog 3 #[.int .i64 a, .slice a0 len0 cap0] w fun e w' => e = .returned (.bool true) ∧ Below w.heap.size w w' := by
  obtain ⟨i0, hi, hz0, hz1, hz2⟩ := info_parts Tryd.infoI
  have hV := Sl.of_row w0
  obtain ⟨l, hl⟩ : ∃ l, z0.take len0 = l := ⟨_, rfl⟩
  rw [hl] at hV
  have V := Lib.hid hV
  have HT := Lib.hid hT
  clear w0 wa hl hV hT
  refine (callsIn_wide (n := 6)).1 ?_
  refine callsIn_of_wp_marks Tryd.func3 rfl trivial ?_ rfl
  simp only [Tryd.ntmps3, List.size_toArray, List.length_cons, List.length_nil, Nat.reduceAdd, Nat.reduceSub, Array.replicate_succ, Array.replicate_zero, List.push_toArray, List.append_toArray, List.nil_append, List.cons_append]
  gi_wp2_with fail
  refine ⟨trivial, ?_⟩
  refine (callsIn_wide.2 (awake_any _)).mono ?_
  rintro _ W1 ⟨rfl, b1⟩
  have B1 := Lib.hid b1
  clear b1
  by_cases g0 : 5000 < a
  · have d0 : decide (5000 < a) = true := decide_eq_true g0
    gi_wp2
    exact ⟨_, results_tmp rfl _ _ _, rfl, B1.out⟩
  have d0 : decide (5000 < a) = false := decide_eq_false g0
  by_cases g1 : 200 < len0
  · have d1 : decide (200 < (len0 : Int)) = true := by simp; omega
    gi_wp2
    exact ⟨_, results_tmp rfl _ _ _, rfl, B1.out⟩
  have d1 : decide (200 < (len0 : Int)) = false := by simp; omega
  have n0 : len0 ≤ 200 := by omega
  have ha : a ≤ 1000000000 := by omega
  clear g0 g1
  gi_wp2_with fail
  refine ⟨trivial, ?_⟩
  refine (callsIn_wide.2 (newS a ha _)).mono ?_
  rintro _ W2 ⟨s, b, rfl, h2, hs2, hb2, b2⟩
  obtain ⟨m, hm⟩ : ∃ m, m = a.toNat := ⟨_, rfl⟩
  rw [← hm] at h2
  have HM := Lib.hid hm
  obtain ⟨W3, hW3⟩ : ∃ W3, W3 = W2.alloc (.cells #[.int .i64 a, .slice none 0 0] 28) := ⟨_, rfl⟩
  have b3 : Below W2.heap.size W2 W3 := by rw [hW3]; exact (Below.refl _ W2).alloc (Nat.le_refl _) _
  have hb1 := B1.out.size
  have lts := h2.lts
  have ltb := h2.ltb
  have HST := Lib.hid (show Sta w s b m W2.heap.size a [] [] W3 from ⟨h2.below b3, ⟨none, 0, 0, by rw [hW3]; exact heap_new W2 _ _, Sl.none_ _, fun b off q => by cases q⟩, B1.out.trans ((b2.mono hb1).trans (b3.mono (by have := b2.size; omega))), ⟨lts, ltb⟩, by omega⟩)
  have HW3 := Lib.hid hW3
  have hs3 : W3.heap.size = W2.heap.size + 1 := by rw [hW3]; simp
  clear h2 b2 hW3 b3 hm
  gi_wp2
  rw [← HW3.out]
  gi_loopw [7] (fun p wr => ∃ (i : Nat) (L : List Int), p = .int .i64 (i : Int) ∧ i ≤ len0 ∧ L.length ≤ i ∧ Sta w s b m W2.heap.size a L L wr) (fun p _ => len0 - (Go.RowKit.intOf p).toNat)
  case atStart => exact ⟨0, [], rfl, Nat.zero_le _, Nat.le_refl _, HST.out⟩
  case round =>
    obtain ⟨i, L, rfl, hil, hLl, hst⟩ := hrel
    clear HST
    by_cases hlt : i < len0
    · obtain ⟨x, hx⟩ := V.out.get hlt
      obtain ⟨bb, off, rfl, hbb, c0⟩ := V.out.at_ hx
      have T0 := Lib.hid (hst.below (Below.refl _ wr).drew)
      obtain ⟨L', hL'⟩ : ∃ L', Nm.add (m : Int) L x = L' := ⟨_, rfl⟩
      have hL2 := (add_same (m := m) (a := a) (x := x) (L := L) HM.out).1.symm.trans hL'
      obtain ⟨γ, hγ⟩ : ∃ γ, decide (0 ≤ x ∧ x < (m : Int) ∧ x ∉ L) = γ := ⟨_, rfl⟩
      have hγ2 := (add_same (m := m) (a := a) (x := x) (L := L) HM.out).2.symm.trans hγ
      obtain ⟨β, hβ⟩ : ∃ β, decide (x ∈ L) = β := ⟨_, rfl⟩
      obtain ⟨β', hβ'⟩ : ∃ β', decide (x ∈ L') = β' := ⟨_, rfl⟩
      obtain ⟨N', hN'⟩ : ∃ N', L'.length = N' := ⟨_, rfl⟩
      have hll : L'.length ≤ L.length + 1 := by rw [← hL']; exact add_len _ _ _
      have f1 := fun W (h : Mk W s b m L) => hasS s b m L x W h
      have f2 := fun W (h : Rs W W2.heap.size a L) => refHas W2.heap.size a L x W h (by omega)
      have f3 := fun W (h : Mk W s b m L) => addS s b m L x W h
      have f4 := fun W (h : Rs W W2.heap.size a L) => refAdd W2.heap.size a L x W h (by omega)
      have f5 := fun W (h : Mk W s b m L') => lenS s b m L' W h
      have f6 := fun W (h : Mk W s b m L') => hasS s b m L' x W h
      have f7 := fun W (h : Rs W W2.heap.size a L') => refHas W2.heap.size a L' x W h (by omega)
      rw [hβ] at f1 f2
      rw [hL', hγ] at f3
      rw [hL2, hγ2] at f4
      rw [hN'] at f5
      rw [hβ'] at f6 f7
      have F1 := Lib.hid f1
      have F2 := Lib.hid f2
      have F3 := Lib.hid f3
      have F4 := Lib.hid f4
      have F5 := Lib.hid f5
      have F6 := Lib.hid f6
      have F7 := Lib.hid f7
      have HC := Lib.hid (show ∀ (L1 L2 : List Int) (W : World), Sta w s b m W2.heap.size a L1 L2 W → W.cell? ⟨bb, off + i, none⟩ = some (.int .i64 x) from fun _ _ _ h => (h.be.cell (p := ⟨bb, off + i, none⟩) hbb).trans c0)
      have c1 : wr.cell? ⟨bb, off + i, none⟩ = some (.int .i64 x) := HC.out _ _ _ hst
      have HR := Lib.hid (show ∀ (L1 : List Int) (W : World), Sta w s b m W2.heap.size a L1 L' W → ∃ A c, W.cell? ⟨W2.heap.size, 1, none⟩ = some (.slice A N' c) from fun _ _ h => by
        obtain ⟨A, k, c, h1, h2, -⟩ := h.ref.ex
        have := h2.length
        rw [hN'] at this
        subst this
        exact ⟨A, c, by rw [cell_of_row _ _ _ _ _ _ h1]; rfl⟩)
      have HLL := Lib.hid (show L'.length ≤ i + 1 by omega)
      clear hst c0 hx hbb hL' hL2 hγ hγ2 hβ hβ' hN' hll f1 f2 f3 f4 f5 f6 f7
      gi_wp2
      refine wpIn_mono (?_ : Code.wpIn _ _ _ _ (NoPanic _) _ _) NoPanic.imp
      refine wpIn_wide.2 ?_
      refine wp_region_held_drew (S := fun w' => w'.cell? ⟨bb, off + i, none⟩ = some (.int .i64 x)) (by kernel_rfl) (HC.out _ _ _ T0.out) (fun hHeld => ?_)
      refine wpAnyH_take (i := 0) (v := ?_) (List.getElem?_toArray.trans rfl) (by kernel_rfl) (by kernel_rfl) (by kernel_rfl) (fun _ _ _ h => h) (Or.inl ⟨by rfl, ?_⟩) (by assumption) ?_
      rotate_left
      · intro w hSw; (try dsimp only at hSw); go_simp; try (with_reducible rfl)
      try simp only [Act.put, List.setIfInBounds_toArray, List.set_cons_zero, List.set_cons_succ]
      refine wpAnyH_take (i := 1) (v := ?_) (List.getElem?_toArray.trans rfl) (by kernel_rfl) (by kernel_rfl) (by kernel_rfl) (fun _ _ _ h => h) (Or.inl ⟨by rfl, ?_⟩) (by assumption) ?_
      rotate_left
      · intro w hSw; (try dsimp only at hSw); go_simp; try (with_reducible rfl)
      try simp only [Act.put, List.setIfInBounds_toArray, List.set_cons_zero, List.set_cons_succ]
      refine wpAnyH_take (i := 2) (v := ?_) (List.getElem?_toArray.trans rfl) (by kernel_rfl) (by kernel_rfl) (by kernel_rfl) (fun _ _ _ h => h) (Or.inl ⟨by rfl, ?_⟩) (by assumption) ?_
      rotate_left
      · intro w hSw; (try dsimp only at hSw); go_simp; try (with_reducible rfl)
      try simp only [Act.put, List.setIfInBounds_toArray, List.set_cons_zero, List.set_cons_succ]
      refine wpAnyH_take (i := 3) (v := ?_) (List.getElem?_toArray.trans rfl) (by kernel_rfl) (by kernel_rfl) (by kernel_rfl) (fun _ _ _ h => h) (Or.inl ⟨by rfl, ?_⟩) (by assumption) ?_
      rotate_left
      · intro w hSw; (try dsimp only at hSw); go_simp; try (with_reducible rfl)
      try simp only [Act.put, List.setIfInBounds_toArray, List.set_cons_zero, List.set_cons_succ]
      refine wpAnyH_take (i := 4) (v := ?_) (List.getElem?_toArray.trans rfl) (by kernel_rfl) (by kernel_rfl) (by kernel_rfl) (fun _ _ _ h => h) (Or.inl ⟨by rfl, ?_⟩) (by assumption) ?_
      rotate_left
      · intro w hSw; (try dsimp only at hSw); go_simp; try (with_reducible rfl)
      try simp only [Act.put, List.setIfInBounds_toArray, List.set_cons_zero, List.set_cons_succ]
      refine wpAnyH_take (i := 6) (v := ?_) (List.getElem?_toArray.trans rfl) (by kernel_rfl) (by kernel_rfl) (by kernel_rfl) (fun _ _ _ h => h) (Or.inl ⟨by rfl, ?_⟩) (by assumption) ?_
      rotate_left
      · intro w hSw; (try dsimp only at hSw); go_simp; try (with_reducible rfl)
      try simp only [Act.put, List.setIfInBounds_toArray, List.set_cons_zero, List.set_cons_succ]
      refine wpAnyH_take (i := 7) (v := ?_) (List.getElem?_toArray.trans rfl) (by kernel_rfl) (by kernel_rfl) (by kernel_rfl) (fun _ _ _ h => h) (Or.inl ⟨by rfl, ?_⟩) (by assumption) ?_
      rotate_left
      · intro w hSw; (try dsimp only at hSw); go_simp; try (with_reducible rfl)
      try simp only [Act.put, List.setIfInBounds_toArray, List.set_cons_zero, List.set_cons_succ]
      refine wpAnyH_take (i := 8) (v := ?_) (List.getElem?_toArray.trans rfl) (by kernel_rfl) (by kernel_rfl) (by kernel_rfl) (fun _ _ _ h => h) (Or.inl ⟨by rfl, ?_⟩) (by assumption) ?_
      rotate_left
      · intro w hSw; (try dsimp only at hSw); go_simp; try (with_reducible rfl)
      try simp only [Act.put, List.setIfInBounds_toArray, List.set_cons_zero, List.set_cons_succ]
      refine wpAnyH_take (i := 9) (v := ?_) (List.getElem?_toArray.trans rfl) (by kernel_rfl) (by kernel_rfl) (by kernel_rfl) (fun _ _ _ h => h) (Or.inl ⟨by rfl, ?_⟩) (by assumption) ?_
      rotate_left
      · intro w hSw; (try dsimp only at hSw); go_simp; try (with_reducible rfl)
      try simp only [Act.put, List.setIfInBounds_toArray, List.set_cons_zero, List.set_cons_succ]
      refine wpAnyH_take (i := 10) (v := ?_) (List.getElem?_toArray.trans rfl) (by kernel_rfl) (by kernel_rfl) (by kernel_rfl) (fun _ _ _ h => h) (Or.inl ⟨by rfl, ?_⟩) (by assumption) ?_
      rotate_left
      · intro w hSw; (try dsimp only at hSw); go_simp; try (with_reducible rfl)
      try simp only [Act.put, List.setIfInBounds_toArray, List.set_cons_zero, List.set_cons_succ]
      refine wpAnyH_ready (rs := [5]) (by kernel_rfl) (by simp) ?_
      refine AllReadyH.cons (List.getElem?_toArray.trans rfl) (fun K hK => ?_) AllReadyH.nil
      go_simp
      go_at_call 8
      refine (F1.out _ T0.out.mine).mono ?_
      rintro _ U1 ⟨rfl, d1, hd1⟩
      have T1 : Hid (Sta w s b m W2.heap.size a L L U1) := by rw [hd1]; exact T0.out.drewN d1
      clear hd1
      go_wp2_with fail
      clear hHeld
      refine hK.out _ _ (HC.out _ _ _ T1.out) (fun hHeld => ?_)
      clear hK K
      try simp only [Act.put, List.setIfInBounds_toArray, List.set_cons_zero, List.set_cons_succ]
      refine wpAnyH_ready (rs := [11]) (by kernel_rfl) (by simp) ?_
      refine AllReadyH.cons (List.getElem?_toArray.trans rfl) (fun K hK => ?_) AllReadyH.nil
      go_simp
      go_at_call 9
      refine (F2.out _ T1.out.ref).mono ?_
      rintro _ U2 ⟨rfl, hd2⟩
      have T2 : Hid (Sta w s b m W2.heap.size a L L U2) := by rw [hd2]; exact T1.out
      clear hd2
      go_wp2_with fail
      clear hHeld
      refine hK.out _ _ (HC.out _ _ _ T2.out) (fun hHeld => ?_)
      clear hK K
      try simp only [Act.put, List.setIfInBounds_toArray, List.set_cons_zero, List.set_cons_succ]
      refine wpAnyH_take (i := 12) (v := ?_) (List.getElem?_toArray.trans rfl) (by kernel_rfl) (by kernel_rfl) (by kernel_rfl) (fun _ _ _ h => h) (Or.inl ⟨by rfl, ?_⟩) (by assumption) ?_
      rotate_left
      · intro w hSw; (try dsimp only at hSw); go_simp; try (with_reducible rfl)
      try simp only [Act.put, List.setIfInBounds_toArray, List.set_cons_zero, List.set_cons_succ]
      refine wpAnyH_take (i := 13) (v := ?_) (List.getElem?_toArray.trans rfl) (by kernel_rfl) (by kernel_rfl) (by kernel_rfl) (fun _ _ _ h => h) (Or.inl ⟨by rfl, ?_⟩) (by assumption) ?_
      rotate_left
      · intro w hSw; (try dsimp only at hSw); go_simp; try (with_reducible rfl)
      try simp only [Act.put, List.setIfInBounds_toArray, List.set_cons_zero, List.set_cons_succ]
      refine wpAnyH_take (i := 14) (v := ?_) (List.getElem?_toArray.trans rfl) (by kernel_rfl) (by kernel_rfl) (by kernel_rfl) (fun _ _ _ h => h) (Or.inl ⟨by rfl, ?_⟩) (by assumption) ?_
      rotate_left
      · intro w hSw; (try dsimp only at hSw); go_simp; try (with_reducible rfl)
      try simp only [Act.put, List.setIfInBounds_toArray, List.set_cons_zero, List.set_cons_succ]
      refine wpAnyH_take (i := 15) (v := ?_) (List.getElem?_toArray.trans rfl) (by kernel_rfl) (by kernel_rfl) (by kernel_rfl) (fun _ _ _ h => h) (Or.inl ⟨by rfl, ?_⟩) (by assumption) ?_
      rotate_left
      · intro w hSw; (try dsimp only at hSw); go_simp; try (with_reducible rfl)
      try simp only [Act.put, List.setIfInBounds_toArray, List.set_cons_zero, List.set_cons_succ]
      refine wpAnyH_take (i := 16) (v := ?_) (List.getElem?_toArray.trans rfl) (by kernel_rfl) (by kernel_rfl) (by kernel_rfl) (fun _ _ _ h => h) (Or.inl ⟨by rfl, ?_⟩) (by assumption) ?_
      rotate_left
      · intro w hSw; (try dsimp only at hSw); go_simp; try (with_reducible rfl)
      try simp only [Act.put, List.setIfInBounds_toArray, List.set_cons_zero, List.set_cons_succ]
      refine wpAnyH_take (i := 17) (v := ?_) (List.getElem?_toArray.trans rfl) (by kernel_rfl) (by kernel_rfl) (by kernel_rfl) (fun _ _ _ h => h) (Or.inl ⟨by rfl, ?_⟩) (by assumption) ?_
      rotate_left
      · intro w hSw; (try dsimp only at hSw); go_simp; try (with_reducible rfl)
      try simp only [Act.put, List.setIfInBounds_toArray, List.set_cons_zero, List.set_cons_succ]
      refine wpAnyH_take (i := 18) (v := ?_) (List.getElem?_toArray.trans rfl) (by kernel_rfl) (by kernel_rfl) (by kernel_rfl) (fun _ _ _ h => h) (Or.inl ⟨by rfl, ?_⟩) (by assumption) ?_
      rotate_left
      · intro w hSw; (try dsimp only at hSw); go_simp; try (with_reducible rfl)
      try simp only [Act.put, List.setIfInBounds_toArray, List.set_cons_zero, List.set_cons_succ]
      refine wpAnyH_take (i := 20) (v := ?_) (List.getElem?_toArray.trans rfl) (by kernel_rfl) (by kernel_rfl) (by kernel_rfl) (fun _ _ _ h => h) (Or.inl ⟨by rfl, ?_⟩) (by assumption) ?_
      rotate_left
      · intro w hSw; (try dsimp only at hSw); go_simp; try (with_reducible rfl)
      try simp only [Act.put, List.setIfInBounds_toArray, List.set_cons_zero, List.set_cons_succ]
      refine wpAnyH_take (i := 21) (v := ?_) (List.getElem?_toArray.trans rfl) (by kernel_rfl) (by kernel_rfl) (by kernel_rfl) (fun _ _ _ h => h) (Or.inl ⟨by rfl, ?_⟩) (by assumption) ?_
      rotate_left
      · intro w hSw; (try dsimp only at hSw); go_simp; try (with_reducible rfl)
      try simp only [Act.put, List.setIfInBounds_toArray, List.set_cons_zero, List.set_cons_succ]
      refine wpAnyH_take (i := 22) (v := ?_) (List.getElem?_toArray.trans rfl) (by kernel_rfl) (by kernel_rfl) (by kernel_rfl) (fun _ _ _ h => h) (Or.inl ⟨by rfl, ?_⟩) (by assumption) ?_
      rotate_left
      · intro w hSw; (try dsimp only at hSw); go_simp; try (with_reducible rfl)
      try simp only [Act.put, List.setIfInBounds_toArray, List.set_cons_zero, List.set_cons_succ]
      refine wpAnyH_take (i := 23) (v := ?_) (List.getElem?_toArray.trans rfl) (by kernel_rfl) (by kernel_rfl) (by kernel_rfl) (fun _ _ _ h => h) (Or.inl ⟨by rfl, ?_⟩) (by assumption) ?_
      rotate_left
      · intro w hSw; (try dsimp only at hSw); go_simp; try (with_reducible rfl)
      try simp only [Act.put, List.setIfInBounds_toArray, List.set_cons_zero, List.set_cons_succ]
      refine wpAnyH_take (i := 24) (v := ?_) (List.getElem?_toArray.trans rfl) (by kernel_rfl) (by kernel_rfl) (by kernel_rfl) (fun _ _ _ h => h) (Or.inl ⟨by rfl, ?_⟩) (by assumption) ?_
      rotate_left
      · intro w hSw; (try dsimp only at hSw); go_simp; try (with_reducible rfl)
      try simp only [Act.put, List.setIfInBounds_toArray, List.set_cons_zero, List.set_cons_succ]
      refine wpAnyH_ready (rs := [19]) (by kernel_rfl) (by simp) ?_
      refine AllReadyH.cons (List.getElem?_toArray.trans rfl) (fun K hK => ?_) AllReadyH.nil
      go_simp
      go_at_call 10
      refine (F3.out _ T2.out.mine).mono ?_
      rintro _ U3 ⟨rfl, hm3, hk3⟩
      have T3 := Lib.hid (T2.out.mine_add hm3 hk3)
      clear hm3 hk3
      go_wp2_with fail
      clear hHeld
      refine hK.out _ _ (HC.out _ _ _ T3.out) (fun hHeld => ?_)
      clear hK K
      try simp only [Act.put, List.setIfInBounds_toArray, List.set_cons_zero, List.set_cons_succ]
      refine wpAnyH_ready (rs := [25]) (by kernel_rfl) (by simp) ?_
      refine AllReadyH.cons (List.getElem?_toArray.trans rfl) (fun K hK => ?_) AllReadyH.nil
      go_simp
      go_at_call 11
      refine (F4.out _ T3.out.ref).mono ?_
      rintro _ U4 ⟨rfl, hm4, hk4⟩
      have T4 := Lib.hid (T3.out.ref_add hm4 hk4)
      obtain ⟨A4, c4, n4⟩ := HR.out _ _ T4.out
      have N4 := Lib.hid n4
      clear hm4 hk4 n4
      go_wp2_with fail
      clear hHeld
      refine hK.out _ _ (HC.out _ _ _ T4.out) (fun hHeld => ?_)
      clear hK K
      try simp only [Act.put, List.setIfInBounds_toArray, List.set_cons_zero, List.set_cons_succ]
      refine wpAnyH_imp (S' := fun w' => w'.cell? ⟨bb, off + i, none⟩ = some (.int .i64 x) ∧ w'.cell? ⟨W2.heap.size, 1, none⟩ = some (.slice A4 N' c4)) (fun _ h => h.1) ?_
      have hHeld2 := And.intro hHeld N4.out
      clear hHeld; have hHeld := hHeld2; clear hHeld2
      refine wpAnyH_take (i := 26) (v := ?_) (List.getElem?_toArray.trans rfl) (by kernel_rfl) (by kernel_rfl) (by kernel_rfl) (fun _ _ _ h => h) (Or.inl ⟨by rfl, ?_⟩) (by assumption) ?_
      rotate_left
      · intro w hSw; (try dsimp only at hSw); go_simp; try (with_reducible rfl)
      try simp only [Act.put, List.setIfInBounds_toArray, List.set_cons_zero, List.set_cons_succ]
      refine wpAnyH_take (i := 27) (v := ?_) (List.getElem?_toArray.trans rfl) (by kernel_rfl) (by kernel_rfl) (by kernel_rfl) (fun _ _ _ h => h) (Or.inl ⟨by rfl, ?_⟩) (by assumption) ?_
      rotate_left
      · intro w hSw; (try dsimp only at hSw); go_simp; try (with_reducible rfl)
      try simp only [Act.put, List.setIfInBounds_toArray, List.set_cons_zero, List.set_cons_succ]
      refine wpAnyH_take (i := 28) (v := ?_) (List.getElem?_toArray.trans rfl) (by kernel_rfl) (by kernel_rfl) (by kernel_rfl) (fun _ _ _ h => h) (Or.inl ⟨by rfl, ?_⟩) (by assumption) ?_
      rotate_left
      · intro w hSw; (try dsimp only at hSw); go_simp; try (with_reducible rfl)
      try simp only [Act.put, List.setIfInBounds_toArray, List.set_cons_zero, List.set_cons_succ]
      refine wpAnyH_take (i := 29) (v := ?_) (List.getElem?_toArray.trans rfl) (by kernel_rfl) (by kernel_rfl) (by kernel_rfl) (fun _ _ _ h => h) (Or.inl ⟨by rfl, ?_⟩) (by assumption) ?_
      rotate_left
      · intro w hSw; (try dsimp only at hSw); go_simp; try (with_reducible rfl)
      try simp only [Act.put, List.setIfInBounds_toArray, List.set_cons_zero, List.set_cons_succ]
      refine wpAnyH_take (i := 31) (v := ?_) (List.getElem?_toArray.trans rfl) (by kernel_rfl) (by kernel_rfl) (by kernel_rfl) (fun _ _ _ h => h) (Or.inl ⟨by rfl, ?_⟩) (by assumption) ?_
      rotate_left
      · intro w hSw; (try dsimp only at hSw); go_simp; try (with_reducible rfl)
      try simp only [Act.put, List.setIfInBounds_toArray, List.set_cons_zero, List.set_cons_succ]
      refine wpAnyH_take (i := 32) (v := ?_) (List.getElem?_toArray.trans rfl) (by kernel_rfl) (by kernel_rfl) (by kernel_rfl) (fun _ _ _ h => h) (Or.inl ⟨by rfl, ?_⟩) (by assumption) ?_
      rotate_left
      · intro w hSw; (try dsimp only at hSw); go_simp; try (with_reducible rfl)
      try simp only [Act.put, List.setIfInBounds_toArray, List.set_cons_zero, List.set_cons_succ]
      refine wpAnyH_take (i := 33) (v := ?_) (List.getElem?_toArray.trans rfl) (by kernel_rfl) (by kernel_rfl) (by kernel_rfl) (fun _ _ _ h => h) (Or.inl ⟨by rfl, ?_⟩) (by assumption) ?_
      rotate_left
      · intro w hSw; (try dsimp only at hSw); go_simp; try (with_reducible rfl)
      try simp only [Act.put, List.setIfInBounds_toArray, List.set_cons_zero, List.set_cons_succ]
      refine wpAnyH_take (i := 34) (v := ?_) (List.getElem?_toArray.trans rfl) (by kernel_rfl) (by kernel_rfl) (by kernel_rfl) (fun _ _ _ h => h) (Or.inl ⟨by rfl, ?_⟩) (by assumption) ?_
      rotate_left
      · intro w hSw; (try dsimp only at hSw); go_simp; try (with_reducible rfl)
      try simp only [Act.put, List.setIfInBounds_toArray, List.set_cons_zero, List.set_cons_succ]
      refine wpAnyH_take (i := 35) (v := ?_) (List.getElem?_toArray.trans rfl) (by kernel_rfl) (by kernel_rfl) (by kernel_rfl) (fun _ _ _ h => h) (Or.inl ⟨by rfl, ?_⟩) (by assumption) ?_
      rotate_left
      · intro w hSw; (try dsimp only at hSw); go_simp; try (with_reducible rfl)
      try simp only [Act.put, List.setIfInBounds_toArray, List.set_cons_zero, List.set_cons_succ]
      refine wpAnyH_ready (rs := [30]) (by kernel_rfl) (by simp) ?_
      refine AllReadyH.cons (List.getElem?_toArray.trans rfl) (fun K hK => ?_) AllReadyH.nil
      go_simp
      go_at_call 12
      refine (F5.out _ T4.out.mine).mono ?_
      rintro _ U5 ⟨rfl, hd5⟩
      have T5 : Hid (Sta w s b m W2.heap.size a L' L' U5) := by rw [hd5]; exact T4.out
      have N5 : Hid (U5.cell? ⟨W2.heap.size, 1, none⟩ = some (.slice A4 N' c4)) := by rw [hd5]; exact N4.out
      clear hd5
      go_wp2_with fail
      clear hHeld
      refine hK.out _ _ (⟨HC.out _ _ _ T5.out, N5.out⟩) (fun hHeld => ?_)
      clear hK K
      try simp only [Act.put, List.setIfInBounds_toArray, List.set_cons_zero, List.set_cons_succ]
      refine wpAnyH_take (i := 36) (v := ?_) (List.getElem?_toArray.trans rfl) (by kernel_rfl) (by kernel_rfl) (by kernel_rfl) (fun _ _ _ h => h) (Or.inl ⟨by rfl, ?_⟩) (by assumption) ?_
      rotate_left
      · intro w hSw; (try dsimp only at hSw); go_simp; try (with_reducible rfl)
      try simp only [Act.put, List.setIfInBounds_toArray, List.set_cons_zero, List.set_cons_succ]
      refine wpAnyH_take (i := 37) (v := ?_) (List.getElem?_toArray.trans rfl) (by kernel_rfl) (by kernel_rfl) (by kernel_rfl) (fun _ _ _ h => h) (Or.inl ⟨by rfl, ?_⟩) (by assumption) ?_
      rotate_left
      · intro w hSw; (try dsimp only at hSw); go_simp; try (with_reducible rfl)
      try simp only [Act.put, List.setIfInBounds_toArray, List.set_cons_zero, List.set_cons_succ]
      refine wpAnyH_take (i := 38) (v := ?_) (List.getElem?_toArray.trans rfl) (by kernel_rfl) (by kernel_rfl) (by kernel_rfl) (fun _ _ _ h => h) (Or.inl ⟨by rfl, ?_⟩) (by assumption) ?_
      rotate_left
      · intro w hSw; (try dsimp only at hSw); go_simp; try (with_reducible rfl)
      try simp only [Act.put, List.setIfInBounds_toArray, List.set_cons_zero, List.set_cons_succ]
      refine wpAnyH_take (i := 39) (v := ?_) (List.getElem?_toArray.trans rfl) (by kernel_rfl) (by kernel_rfl) (by kernel_rfl) (fun _ _ _ h => h) (Or.inl ⟨by rfl, ?_⟩) (by assumption) ?_
      rotate_left
      · intro w hSw; (try dsimp only at hSw); go_simp; try (with_reducible rfl)
      try simp only [Act.put, List.setIfInBounds_toArray, List.set_cons_zero, List.set_cons_succ]
      refine wpAnyH_take (i := 40) (v := ?_) (List.getElem?_toArray.trans rfl) (by kernel_rfl) (by kernel_rfl) (by kernel_rfl) (fun _ _ _ h => h) (Or.inl ⟨by rfl, ?_⟩) (by assumption) ?_
      rotate_left
      · intro w hSw; (try dsimp only at hSw); go_simp; try (with_reducible rfl)
      try simp only [Act.put, List.setIfInBounds_toArray, List.set_cons_zero, List.set_cons_succ]
      refine wpAnyH_take (i := 41) (v := ?_) (List.getElem?_toArray.trans rfl) (by kernel_rfl) (by kernel_rfl) (by kernel_rfl) (fun _ _ _ h => h) (Or.inl ⟨by rfl, ?_⟩) (by assumption) ?_
      rotate_left
      · intro w hSw; (try dsimp only at hSw); go_simp; try (with_reducible rfl)
      try simp only [Act.put, List.setIfInBounds_toArray, List.set_cons_zero, List.set_cons_succ]
      refine wpAnyH_take (i := 42) (v := ?_) (List.getElem?_toArray.trans rfl) (by kernel_rfl) (by kernel_rfl) (by kernel_rfl) (fun _ _ _ h => h) (Or.inl ⟨by rfl, ?_⟩) (by assumption) ?_
      rotate_left
      · intro w hSw; (try dsimp only at hSw); go_simp; try (with_reducible rfl)
      try simp only [Act.put, List.setIfInBounds_toArray, List.set_cons_zero, List.set_cons_succ]
      refine wpAnyH_take (i := 43) (v := ?_) (List.getElem?_toArray.trans rfl) (by kernel_rfl) (by kernel_rfl) (by kernel_rfl) (fun _ _ _ h => h) (Or.inl ⟨by rfl, ?_⟩) (by assumption) ?_
      rotate_left
      · intro w hSw; (try dsimp only at hSw); go_simp; try (with_reducible rfl)
      try simp only [Act.put, List.setIfInBounds_toArray, List.set_cons_zero, List.set_cons_succ]
      refine wpAnyH_take (i := 45) (v := ?_) (List.getElem?_toArray.trans rfl) (by kernel_rfl) (by kernel_rfl) (by kernel_rfl) (fun _ _ _ h => h) (Or.inl ⟨by rfl, ?_⟩) (by assumption) ?_
      rotate_left
      · intro w hSw; (try dsimp only at hSw); go_simp; try (with_reducible rfl)
      try simp only [Act.put, List.setIfInBounds_toArray, List.set_cons_zero, List.set_cons_succ]
      refine wpAnyH_take (i := 46) (v := ?_) (List.getElem?_toArray.trans rfl) (by kernel_rfl) (by kernel_rfl) (by kernel_rfl) (fun _ _ _ h => h) (Or.inl ⟨by rfl, ?_⟩) (by assumption) ?_
      rotate_left
      · intro w hSw; (try dsimp only at hSw); go_simp; try (with_reducible rfl)
      try simp only [Act.put, List.setIfInBounds_toArray, List.set_cons_zero, List.set_cons_succ]
      refine wpAnyH_take (i := 47) (v := ?_) (List.getElem?_toArray.trans rfl) (by kernel_rfl) (by kernel_rfl) (by kernel_rfl) (fun _ _ _ h => h) (Or.inl ⟨by rfl, ?_⟩) (by assumption) ?_
      rotate_left
      · intro w hSw; (try dsimp only at hSw); go_simp; try (with_reducible rfl)
      try simp only [Act.put, List.setIfInBounds_toArray, List.set_cons_zero, List.set_cons_succ]
      refine wpAnyH_take (i := 48) (v := ?_) (List.getElem?_toArray.trans rfl) (by kernel_rfl) (by kernel_rfl) (by kernel_rfl) (fun _ _ _ h => h) (Or.inl ⟨by rfl, ?_⟩) (by assumption) ?_
      rotate_left
      · intro w hSw; (try dsimp only at hSw); go_simp; try (with_reducible rfl)
      try simp only [Act.put, List.setIfInBounds_toArray, List.set_cons_zero, List.set_cons_succ]
      refine wpAnyH_take (i := 49) (v := ?_) (List.getElem?_toArray.trans rfl) (by kernel_rfl) (by kernel_rfl) (by kernel_rfl) (fun _ _ _ h => h) (Or.inl ⟨by rfl, ?_⟩) (by assumption) ?_
      rotate_left
      · intro w hSw; (try dsimp only at hSw); go_simp; try (with_reducible rfl)
      try simp only [Act.put, List.setIfInBounds_toArray, List.set_cons_zero, List.set_cons_succ]
      refine wpAnyH_ready (rs := [44]) (by kernel_rfl) (by simp) ?_
      refine AllReadyH.cons (List.getElem?_toArray.trans rfl) (fun K hK => ?_) AllReadyH.nil
      go_simp
      go_at_call 8
      refine (F6.out _ T5.out.mine).mono ?_
      rintro _ U6 ⟨rfl, d6, hd6⟩
      have T6 : Hid (Sta w s b m W2.heap.size a L' L' U6) := by rw [hd6]; exact T5.out.drewN d6
      have N6 : Hid (U6.cell? ⟨W2.heap.size, 1, none⟩ = some (.slice A4 N' c4)) := (World.cell?_of_block (by rw [hd6, heap_drewN])).trans N5.out
      clear hd6
      go_wp2_with fail
      clear hHeld
      refine hK.out _ _ (⟨HC.out _ _ _ T6.out, N6.out⟩) (fun hHeld => ?_)
      clear hK K
      try simp only [Act.put, List.setIfInBounds_toArray, List.set_cons_zero, List.set_cons_succ]
      refine wpAnyH_ready (rs := [50]) (by kernel_rfl) (by simp) ?_
      refine AllReadyH.cons (List.getElem?_toArray.trans rfl) (fun K hK => ?_) AllReadyH.nil
      go_simp
      go_at_call 9
      refine (F7.out _ T6.out.ref).mono ?_
      rintro _ U7 ⟨rfl, hd7⟩
      have T7 : Hid (Sta w s b m W2.heap.size a L' L' U7) := by rw [hd7]; exact T6.out
      have N7 : Hid (U7.cell? ⟨W2.heap.size, 1, none⟩ = some (.slice A4 N' c4)) := by rw [hd7]; exact N6.out
      clear hd7
      go_wp2_with fail
      clear hHeld
      refine hK.out _ _ (⟨HC.out _ _ _ T7.out, N7.out⟩) (fun hHeld => ?_)
      clear hK K
      try simp only [Act.put, List.setIfInBounds_toArray, List.set_cons_zero, List.set_cons_succ]
      refine wpAnyH_take (i := 51) (v := ?_) (List.getElem?_toArray.trans rfl) (by kernel_rfl) (by kernel_rfl) (by kernel_rfl) (fun _ _ _ h => h) (Or.inl ⟨by rfl, ?_⟩) (by assumption) ?_
      rotate_left
      · intro w hSw; (try dsimp only at hSw); go_simp; try (with_reducible rfl)
      try simp only [Act.put, List.setIfInBounds_toArray, List.set_cons_zero, List.set_cons_succ]
      refine wpAnyH_take (i := 52) (v := ?_) (List.getElem?_toArray.trans rfl) (by kernel_rfl) (by kernel_rfl) (by kernel_rfl) (fun _ _ _ h => h) (Or.inl ⟨by rfl, ?_⟩) (by assumption) ?_
      rotate_left
      · intro w hSw; (try dsimp only at hSw); go_simp; try (with_reducible rfl)
      try simp only [Act.put, List.setIfInBounds_toArray, List.set_cons_zero, List.set_cons_succ]
      refine wpAnyH_done (by kernel_rfl) ?_ _
      refine NoPanic.normal ?_
      clear hHeld T0 T1 T2 T3 T4 T5 T6 F1 F2 F3 F4 F5 F6 F7 HC HR c1 N4 N5 N6 N7
      go_simp
      gi_wp2
      go_roundw
      case rel => exact ⟨i + 1, L', congrArg (Value.int .i64) (by omega), by omega, HLL.out, T7.out⟩
      case measure => simp [Go.RowKit.intOf]; omega
    · obtain rfl : i = len0 := by omega
      have T := Lib.hid hst
      clear hst
      obtain ⟨W4, hW4⟩ : ∃ W4, W4 = wr.alloc (.cells #[.slice none 0 0] 22) := ⟨_, rfl⟩
      have s4 : W4.heap.size = wr.heap.size + 1 := by rw [hW4]; simp
      have r4 : W4.heap[wr.heap.size]? = some (.cells #[.slice none 0 0] 22 (0, 0)) := by rw [hW4]; exact heap_new wr _ _
      have b4 : Below wr.heap.size wr W4 := by rw [hW4]; exact (Below.refl _ wr).alloc (Nat.le_refl _) _
      have T4 := Lib.hid (T.out.below b4)
      have HAL := Lib.hid (allS s b m L W4 T4.out.mine)
      have HW4 := Lib.hid hW4
      have R4 := Lib.hid r4
      have HB4 := Lib.hid b4
      clear hW4 r4 b4
      gi_wp2_with fail
      rw [← HW4.out]
      refine ⟨trivial, ?_⟩
      refine (callsIn_wide.2 HAL.out).mono ?_
      rintro _ W5 ⟨g1, g2, rfl, ha5, b5⟩
      have T5 := Lib.hid (T4.out.below b5)
      have HA := Lib.hid ha5
      have HTr := Lib.hid (tab_below HT.out T.out.be)
      have B5 := Lib.hid (show Below wr.heap.size wr W5 from HB4.out.trans (b5.mono (by omega)))
      have R5 := Lib.hid ((b5.block _ (by omega)).trans R4.out)
      have s5 := b5.size
      clear ha5 b5 HAL
      gi_wp2
      obtain ⟨LL, hLL⟩ : ∃ LL, LL = Nm.uq L := ⟨_, rfl⟩
      rw [← hLL] at HA
      have HLL := Lib.hid hLL
      have hn : LL.length ≤ 1000000 := by rw [hLL]; have := Nm.uq_len L; omega
      clear hLL
      have hp : wr.heap.size < W5.heap.size := by omega
      have hw : wr.heap.size ≤ wr.heap.size := Nat.le_refl _
      refine range_keeps (n := 6) rfl (by omega) (gf := 26) (lb := #[.pointer (some ⟨g1, 0, none⟩), .pointer (some ⟨g2, 0, none⟩)]) rfl trivial (enters_of Tryd.func26 (by kernel_rfl) rfl)
        (fun k W => ∃ v, GatV wr W5 wr.heap.size LL k v W)
        (fun k vs W => ∃ x v, LL[k]? = some x ∧ vs = #[.int .i64 x] ∧ GatV wr W5 wr.heap.size LL k v W)
        (fun W => ∃ v, GatV wr W5 wr.heap.size LL LL.length v W)
        (fun _ _ => False)
        (fun vs t => (t.setIfInBounds 87 (vs.getD 0 undef)).setIfInBounds 9 (vs.getD 0 undef))
        (fun k W W' h ho => by obtain ⟨v, h⟩ := h; exact ⟨v, h.off hp hw ho⟩) (fun k vs W W' h ho => by obtain ⟨x, v, h1, h2, h3⟩ := h; exact ⟨x, v, h1, h2, h3.off hp hw ho⟩) (fun W W' h ho => by obtain ⟨v, h⟩ := h; exact ⟨v, h.off hp hw ho⟩)
        (fun c W W' h hb => h) (fun k vs W h => by obtain ⟨x, v, h1, h2, h3⟩ := h; rw [h2]; rfl)
        (fun W hb hs => ⟨.slice none 0 0, (hb.block _ (by omega)).trans R5.out, World.ownsRow_nil _ _ _ _, B5.out.trans (hb.mono B5.out.size), by omega, Kept.of_below hb⟩) ?iter ?assign ?body ?done ?stop
      case iter =>
        intro y Kk Y hK hY W hI hKW
        exact iterA (m := 4) HA.out (fun k W => ∃ v, GatV wr W5 wr.heap.size LL k v W) Kk Y (fun k W h => by obtain ⟨v, h⟩ := h; exact ⟨⟨h.kp.os, h.kp.tape, h.kp.output, h.kp.size, fun j hj hn => h.kp.block j hj (fun e => hn (by omega))⟩, tab_below HTr.out h.be⟩) (fun k x W hx hI hKW => hY k _ W (by obtain ⟨v, h⟩ := hI; exact ⟨x, v, hx, rfl, h⟩) hKW) W hI hKW
      case assign =>
        rintro y k vs W K ⟨x, v, -, rfl, -⟩ hK
        gi_wp2
        exact hK
      case body =>
        rintro y k vs W ⟨x, v, hx, rfl, hg⟩
        have hkl : k < LL.length := (List.getElem?_eq_some_iff.1 hx).1
        have hpc := hg.cell
        have hpf := frozen_of_row W wr.heap.size 0 _ _ hg.var
        have HG := Lib.hid hg
        have HPU := Lib.hid (fun (W2 : World) (g cap : Nat) => hg.push (W2 := W2) (g := g) (cap := cap) hp hw hx)
        generalize hP : leftBy W5.heap.size _ _ W = Pst
        have HP := Lib.hid hP
        have hsz := hg.sz
        clear hP hg hx
        gi_wp2_with (gi_at_builtin; refine push_in _ rfl (.tmp 88) (.tmp 90) 22 rfl (W5.heap.size + 2) 3 i0 (.int .i64 0) 8 Tryd.underlying22 hi hz0 hz1 hz2 rfl v k (ci (LL.take k)) rfl (own_below HG.out.row ((Below.refl _ W).alloc (Nat.le_refl _) _)) W.heap.size (.int .i64 x) rfl (heap_new _ _ _) rfl (by omega) (by omega) (by simp; omega) ?_; intro g cap' W2 r1 r2 r3; obtain ⟨m3, f3, p1, p2⟩ := HPU.out W2 g cap' r1 r2; have HPP := Lib.hid (And.intro p2 p1); clear r1 r2 r3 p1 p2)
        rw [← HP.out]
        exact ⟨HPP.out.1, _, HPP.out.2⟩
      case done =>
        rintro D W rfl ⟨v, hg⟩ hK
        have hown := hg.row
        rw [List.take_length] at hown
        obtain ⟨A6, c6, rfl, -, -⟩ := own_form hown
        have hpc := hg.cell
        have TW := Lib.hid (T.out.below hg.be)
        obtain ⟨A7, k7, c7, h71, h72, -⟩ := TW.out.ref.ex
        have hrc : W.cell? ⟨W2.heap.size, 1, none⟩ = some (.slice A7 k7 c7) := by rw [cell_of_row _ _ _ _ _ _ h71]; rfl
        have hk7 := h72.length
        have hdw : Below W.heap.size W W.drew := (Below.refl _ W).drew
        have huq := refUniq A7 k7 c7 L W.drew (h72.below hdw) (by omega)
        rw [← HLL.out] at huq
        have HUQ := Lib.hid huq
        have HSA := Lib.hid ((Sl.of_own hown).below hdw)
        have HBW := Lib.hid (TW.out.be.drew)
        have HKD := Lib.hid (show W.drew.heap[W5.heap.size]? = some (.deferred (some [])) from hK)
        have HPC := Lib.hid (show W.drew.cell? ⟨wr.heap.size, 0, none⟩ = some (.slice A6 LL.length c6) from hpc)
        have hpl := lt_of_block hg.var
        have hll : LL.length ≤ 1000000 := hn
        have hsw := T.out.be.size
        clear hg hK hown h71 h72 hdw huq TW
        gi_wp2
        refine wpIn_mono (?_ : Code.wpIn _ _ _ _ (NoPanic _) _ _) NoPanic.imp
        gi_region_with (first
          | (refine ⟨trivial, ?_⟩; refine (callsIn_wide.2 HUQ.out).mono ?_; rintro _ U1 ⟨A8, c8, rfl, hs8, hb8⟩; have Z8 := Lib.hid hs8; have Y8 := Lib.hid (HSA.out.below hb8); have q8 : U1.cell? ⟨wr.heap.size, 0, none⟩ = some (.slice A6 LL.length c6) := (hb8.cell (p := ⟨wr.heap.size, 0, none⟩) hpl).trans HPC.out; have B8 := Lib.hid (HBW.out.trans (hb8.mono HBW.out.size)); have K8 := Lib.hid ((hb8.block _ (lt_of_block HKD.out)).trans HKD.out); clear hs8 hb8)
          | (refine ⟨trivial, ?_⟩; refine (callsIn_wide.2 (refSame A6 A8 LL.length c6 LL.length c8 LL LL U1 Y8.out Z8.out hll)).mono ?_; rintro _ U2 ⟨he, hb9⟩; rw [decide_eq_true rfl] at he; subst he; have B9 := Lib.hid (B8.out.trans (hb9.mono B8.out.size)); have K9 := Lib.hid ((hb9.block _ (lt_of_block K8.out)).trans K8.out); clear hb9))
        all_goals
          refine NoPanic.normal ?_
          clear q8 hpc hrc HUQ HSA Z8 Y8
          go_simp
          gi_wp2
          refine ⟨by simp, .inl ⟨_, _, rfl, run_takeDeferred K9.out, ?_⟩⟩
          exact ⟨_, results_tmp rfl _ _ _, rfl, B9.out.trans (below_put (by omega) _)⟩
      case stop => rintro D c W hD h; exact h.elim
theorem own : ownKnob Tryd.prog.godebug = none := by kernel_rfl
theorem laidOut : laidOutB Tryd.prog = true := by kernel_rfl
theorem gTab : Tryd.prog.globalNamed "math/bits.deBruijn64tab" = some 0 := by kernel_rfl
theorem gTabType : (Tryd.prog.globals[0]?).map (·.type) = some 66 := by kernel_rfl
abbrev laid1 : List (String × DataW Unit) := [("math/bits.deBruijn64tab", Rows.laid_math_bits_deBruijn64tab)]
theorem door_met (os : Os) (args : Array Value) : laidMetH Tryd.prog laid1 ((World.doorLaid Tryd.prog 400 os).forCall (fun _ _ => 0) ⟨#[], args, []⟩).memory :=
  laidMetH_of_parts3 (fuel := 8) (laidMet_of_run' 8 (by kernel_rfl) (by kernel_rfl)) (by kernel_rfl) (by kernel_rfl)
theorem of_laid {W : World} (h : laidMetH Tryd.prog laid1 W) : TabAt 0 Lib.deBruijn64tab W := by
  rw [MakeChecks.laidMetH_plain _ _ _ (by kernel_rfl)] at h
  have hL : laidMet Tryd.prog [("math/bits.deBruijn64tab", Lib.tabData (H := Unit) .u8 (Lib.deBruijn64tab.map Int.ofNat))] W := h
  have hT := Lib.tabIs_of_head gTab gTabType Tryd.underlying66 Tryd.underlying5 (by kernel_rfl) (by kernel_rfl) hL
  intro j hj
  have := hT.cell gTab j (by simpa using hj)
  rw [this]
  simp [List.getD_eq_getElem?_getD, hj]
set_option maxRecDepth 100000 in
theorem lifted (os : Os) (started : os.Started) (H : Type) (enc : TypeId × Value → H) :
    ReturnsInHanded {} Tryd.checked os 3 .any (fun w args => (Rows.marksPlaySpec.pre enc Tryd.prog Tryd.f3 [] false w args ∧ laidMetH Tryd.prog laid1 w) ∧ sizedMet enc Tryd.prog Tryd.f3 (OpenSpec.ofChange Rows.marksPlaySpec) false w args) (Rows.marksPlaySpec.post enc Tryd.prog Tryd.f3 false true false false) := by
  refine returnsInHanded_of_change_and (C := Tryd.checked) (X := fun w _ => laidMetH Tryd.prog laid1 w) (fun _ _ _ hh h => h.of_heap hh) own started (by kernel_rfl) Tryd.func3
    (ChangeSpec.witness_shaped (enc := enc) (C := Tryd.checked) (os := os) (X := fun w _ => laidMetH Tryd.prog laid1 w) false (World.doorLaid Tryd.prog 400 os) #[.int .i64 0, .slice none 0 0] 8 rfl (World.shaped_of_RefB (by kernel_rfl) (by kernel_rfl)) (by kernel_rfl) (by kernel_rfl) (by kernel_rfl) (door_met os _)) ?_
  intro W base args ds gs before hval0 hW _ _ hL _
  have hval : ∀ (j : Nat) t v, Tryd.f3.params[j]? = some t → args[j]? = some v → Value.okWide Tryd.prog W .any base t v := hval0
  have hW' := hW
  obtain ⟨p, q, hA0, hV, rfl, hfz, hnd⟩ := hW
  have hA : DataW.TrodAll enc Tryd.prog W 0 (fun _ => true) true Tryd.f3.params.toList args.toList ds p := hA0
  rw [Tryd.params3] at hA hval
  obtain ⟨v0, vs0, d0, ds0, p0, q0, hargs, rfl, rfl, h0, r0⟩ := trodAll_cons hA
  obtain ⟨v1, vs1, d1, ds1, p1, q1, rfl, rfl, rfl, h1, r1⟩ := trodAll_cons r0
  obtain ⟨rfl, rfl, rfl⟩ := trodAll_nil r1
  obtain rfl : args = #[v0, v1] := by cases args; simp_all
  obtain ⟨rfl, rfl⟩ := trodVars_none hV
  obtain ⟨a0, rfl, rfl, rfl, w0⟩ := open_int Tryd.underlying3 (hval 0 3 v0 rfl rfl) h0
  obtain ⟨a1, len1, cap1, rfl⟩ := okWide_slice Tryd.underlying22 (hval 1 22 v1 rfl rfl)
  have k1 := h1
  have lt1 : ∀ x ∈ p1, x.block < W.heap.size := by obtain ⟨m, hm⟩ := k1; exact DataW.trod_lt m _ _ _ hm
  obtain ⟨z1, w1⟩ : ∃ zs, IsRow .i64 W a1 len1 cap1 zs := by
    obtain ⟨fuel, hf⟩ := h1
    rcases open_ints Tryd.underlying22 Tryd.underlying3 (by kernel_rfl) hf with ⟨hcs, _⟩ | ⟨x, l, c, zs, hcs, _, hl, hm, hz, _, hcell, hwz⟩
    · simp [Value.cells] at hcs
      obtain ⟨rfl, rfl, rfl⟩ := hcs
      exact ⟨[], .inl ⟨rfl, rfl, rfl, rfl⟩⟩
    · simp [Value.cells] at hcs
      obtain ⟨rfl, rfl, rfl⟩ := hcs
      exact ⟨zs, .inr ⟨_, rfl, hl, hm, by simpa using hz, hcell, hwz⟩⟩
  clear hA0 hval0
  refine (walk a0 a1 len1 cap1 z1 W w0 w1 (of_laid hL)).mono fun e W' ⟨he, bel⟩ => ?_
  subst he
  exact ⟨_, rfl, _, _, _, [], _, [], hW', trodAll_mk1 (shut_bool Tryd.underlying4 _), (trodAll_cons_mk (shut_int Tryd.underlying3 w0) (trodAll_cons_mk (Below.trod laidOut (by kernel_rfl) (of_decide_eq_true (by kernel_rfl)) k1 bel lt1) trodAll_mk0)), rfl, bel.frame _, fun h => by cases h⟩
theorem over : Rows.marksPlayRow.holds Tryd.pinned (OpenSpec.ofChange Rows.marksPlaySpec) :=
  OpenClaim.holds_of_wide 3 Tryd.f3 rfl rfl rfl rfl rfl rfl rfl ⟨rfl, rfl, rfl, rfl, rfl⟩ rfl rfl rfl rfl rfl (by kernel_rfl) Tryd.func3 (by kernel_rfl)
    (of_decide_eq_true (by kernel_rfl)) (by unfold Func.isWrapper; first | (rw [if_pos (by decide +kernel)]; kernel_rfl) | (rw [if_neg (by decide +kernel)]; exact ⟨rfl, rfl⟩))
    (fun os started H enc _ => lifted os started H enc)
/-- the statement -/
theorem proved : Rows.MarksPlaySaid := over
#print axioms proved
set_option maxRecDepth 100000 in
/-- the statement -/
theorem card : Rows.MarksPlayCardSaid :=
  Claim7.holds_tied_plain_at .later [] [.data] true (true, "ae89c69fc24b343251305817e6ee83197e533825873119f2a17488a5861b46de") true
    proved (fun _ h => by cases h) (by kernel_rfl) (fun _ h => by cases h) marksPlay_row_tie rfl ⟨rfl, rfl⟩ (by kernel_rfl) rfl
    (fun f fn hf hfn => by
      obtain rfl : f = 3 := Option.some.inj ((show Tryd.prog.funcNamed "shelterbelt/shelterbeltlaw09.MarksPlay" = some 3 by kernel_rfl).symm.trans hf) |>.symm
      obtain rfl : fn = Tryd.f3 := (Option.some.inj (Tryd.func3.symm.trans hfn)).symm
      exact ⟨by kernel_rfl, fun j t ht => by
        rw [Tryd.params3] at ht
        have hm : t ∈ [3, 22] := by simpa using Array.mem_of_getElem? ht
        have hall : ([3, 22].all fun u => !Tryd.prog.wantsStandIn u) = true := by kernel_rfl
        exact (show Tryd.prog.wantsStandIn t = false by simpa using List.all_eq_true.1 hall t hm)⟩)
    (by kernel_rfl)
#print axioms card
end marksPlay
end Go.Proofs.YthjpjeflgnkgpaaDoor
