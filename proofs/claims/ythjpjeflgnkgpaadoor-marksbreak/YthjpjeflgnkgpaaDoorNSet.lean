/-
  Layer 9 (marks): a set of marks in memory; New, place, Len, Has, Add by contracts.
-/
import Derived.Test.YthjpjeflgnkgpaaDoorNMem
import Derived.Maps.OwnSet
import Derived.Laws.Bits64b
import Derived.WalkKit
namespace Go.Proofs.YthjpjeflgnkgpaaDoor
open Go.RowKit Go.Maps

/-- the word k of a map of words -/
def wd (D : DataW Unit) (k : Int) : Nat := match D.atKey (.int .i64 k) (.lit (.int .u64 0)) with | .lit (.int _ a) => a.toNat | _ => 0
theorem wd_of {D : DataW Unit} {k c : Int} (h : D.atKey (.int .i64 k) (.lit (.int .u64 0)) = .lit (.int .u64 c)) : wd D k = c.toNat := by unfold wd; rw [h]
theorem wd_put {D : DataW Unit} (hD : IsMap D) (p : Int) (v : Nat) : wd (D.put (.int .i64 p) (.lit (.int .u64 (v : Int)))) = fun k => if k = p then v else wd D k := by
  funext k
  by_cases hk : k = p
  · subst hk
    rw [if_pos rfl]
    exact wd_of (atKey_put_same (k := .int .i64 k) hD (by simp [WideAt.IsKeyLit]) _ _)
  · rw [if_neg hk]
    unfold wd
    rw [atKey_put_other (by simpa using hk)]
/-- a set of m at block s, its words a map at block b: the ids L were met -/
structure Mk (w : World) (s b m : Nat) (L : List Int) : Prop where
  blk : w.heap[s]? = some (.cells #[.int .i64 (m : Int), .int .i64 (L.length : Int), .map (some b)] 52 (0, 0))
  own : ∃ D : DataW Unit, w.ownsMap Tryd.prog 3 (plainElem Tryd.prog 53) b L.length D ∧ Nm.Wd (wd D) L ∧ ∀ k : Int, has D (.int .i64 k) = true → 0 ≤ k ∧ k * 64 < (m : Int)
  ids : Nm.Ids (m : Int) L
  small : m ≤ 1000000000
section
variable {w w' : World} {s b m : Nat} {L : List Int}
theorem Mk.lts (h : Mk w s b m L) : s < w.heap.size := lt_of_block h.blk
theorem Mk.ltb (h : Mk w s b m L) : b < w.heap.size := by obtain ⟨D, h1, _⟩ := h.own; exact h1.lt
theorem Mk.isMap (h : Mk w s b m L) : ∃ es clock, w.heap[b]? = some (.map es clock) := by obtain ⟨D, ⟨es, clock, h1, _⟩, _⟩ := h.own; exact ⟨es, clock, h1⟩
theorem Mk.ne (h : Mk w s b m L) : s ≠ b := fun e => by
  obtain ⟨es, clock, h1⟩ := h.isMap
  rw [← e, h.blk] at h1
  cases h1
theorem Mk.c0 (h : Mk w s b m L) : w.cell? ⟨s, 0, none⟩ = some (.int .i64 (m : Int)) := by rw [cell_of_row _ _ _ _ _ _ h.blk]; rfl
theorem Mk.c1 (h : Mk w s b m L) : w.cell? ⟨s, 1, none⟩ = some (.int .i64 (L.length : Int)) := by rw [cell_of_row _ _ _ _ _ _ h.blk]; rfl
theorem Mk.c2 (h : Mk w s b m L) : w.cell? ⟨s, 2, none⟩ = some (.map (some b)) := by rw [cell_of_row _ _ _ _ _ _ h.blk]; rfl
theorem Mk.frozen (h : Mk w s b m L) (k : Nat) : w.frozen? ⟨s, k, none⟩ = false := frozen_of_row _ _ _ _ _ h.blk
theorem own_keep {k : TypeId} {R : Value → Option (DataW Unit × List MemPlace)} {n : Nat} {D : DataW Unit} {P : Program} (h : w.ownsMap P k R b n D) (hb : w'.heap[b]? = w.heap[b]?) : w'.ownsMap P k R b n D := by
  obtain ⟨es, clock, h1, h2⟩ := h
  exact ⟨es, clock, hb.trans h1, h2⟩
theorem Mk.keep (h : Mk w s b m L) (hs : w'.heap[s]? = w.heap[s]?) (hb : w'.heap[b]? = w.heap[b]?) : Mk w' s b m L := by
  obtain ⟨D, h1, h2⟩ := h.own
  exact ⟨hs.trans h.blk, ⟨D, own_keep h1 hb, h2⟩, h.ids, h.small⟩
theorem Mk.below (h : Mk w s b m L) (hb : Below w.heap.size w w') : Mk w' s b m L := h.keep (hb.block s h.lts) (hb.block b h.ltb)
theorem Mk.drewN (h : Mk w s b m L) (d : Nat) : Mk (w.drewN d) s b m L := h.below (bdrew (Below.refl _ w) d)
theorem Mk.other {S : Nat → Prop} (h : Mk w s b m L) (hb : Kept S w w') (h1 : ¬ S s) (h2 : ¬ S b) : Mk w' s b m L := h.keep (hb.block s h.lts h1) (hb.block b h.ltb h2)
theorem Mk.len (h : Mk w s b m L) : L.length ≤ 1000000000 := by have := h.ids.len; have := h.small; omega
end

theorem newS (n : Int) (hn : n ≤ 1000000000) (w : World) :
    Calls Tryd.prog 7 #[.int .i64 n] w fun e w' => ∃ s b, e = .returned (.pointer (some ⟨s, 0, none⟩)) ∧ Mk w' s b n.toNat [] ∧ w.heap.size ≤ s ∧ w.heap.size ≤ b ∧ Below w.heap.size w w' := by
  obtain ⟨m, hm⟩ : ∃ m : Nat, n.toNat = m := ⟨_, rfl⟩
  have e1 : max n 0 = (m : Int) := by omega
  have e2 : (if n < 0 then 0 else n) = (m : Int) := by split <;> omega
  have hs : m ≤ 1000000000 := by omega
  rw [hm]
  clear hm
  have hmm := @run_makeMap Tryd.prog
  have HM := Lib.hid (show Mk ((w.alloc (.map #[] 0)).alloc (.cells #[.int .i64 (m : Int), .int .i64 0, .map (some w.heap.size)] 52)) (w.heap.size + 1) w.heap.size m [] from
    ⟨by have := heap_new (w.alloc (.map #[] 0)) #[.int .i64 (m : Int), .int .i64 0, .map (some w.heap.size)] 52; rwa [show (w.alloc (.map #[] 0)).heap.size = w.heap.size + 1 from by simp] at this,
     ⟨.map [], (World.ownsMap_made w _ _ _).alloc _, ⟨fun k j _ => by simp [wd, DataW.atKey], fun k => by simp [wd, DataW.atKey]⟩, fun k h => by simp [has] at h⟩, Nm.Ids.nil _, hs⟩)
  have HB := Lib.hid (show Below w.heap.size w ((w.alloc (.map #[] 0)).alloc (.cells #[.int .i64 (m : Int), .int .i64 0, .map (some w.heap.size)] 52)) from ((Below.refl _ w).alloc (Nat.le_refl _) _).alloc (by simp) _)
  go_enter Tryd.func7, Tryd.ntmps7
  go_wp2
  go_ret
  exact ⟨_, _, rfl, HM.out, by omega, by omega, HB.out⟩

/-- where an id stands: word p, bit v -/
def Plc (m : Nat) (x : Int) (p v : Nat) : Prop := (∃ k : Nat, x = (k : Int) ∧ k < m ∧ p = k / 64 ∧ v = 2 ^ (k % 64)) ∨ (¬ (0 ≤ x ∧ x < (m : Int)) ∧ p = 0 ∧ v = 0)
theorem placeS (s m : Nat) (x : Int) (w : World) (h : w.cell? ⟨s, 0, none⟩ = some (.int .i64 (m : Int))) (hm : m ≤ 1000000000) :
    Calls Tryd.prog 22 #[.pointer (some ⟨s, 0, none⟩), .int .i64 x] w fun e w' => ∃ p v : Nat, e = .returned (.tuple #[.int .i64 (p : Int), .int .u64 (v : Int)]) ∧ Plc m x p v ∧ ∃ d, w' = w.drewN d := by
  by_cases h0 : x < 0
  · go_enter Tryd.func22, Tryd.ntmps22
    go_wp2
    go_ret2
    exact ⟨0, 0, rfl, .inr ⟨by omega, rfl, rfl⟩, 0, rfl⟩
  by_cases h1 : x < (m : Int)
  · obtain ⟨k, rfl⟩ : ∃ k : Nat, x = (k : Int) := ⟨x.toNat, by omega⟩
    have hk : k < m := by omega
    obtain ⟨p, hp⟩ : ∃ p : Nat, k / 64 = p := ⟨_, rfl⟩
    obtain ⟨j, hj⟩ : ∃ j : Nat, k % 64 = j := ⟨_, rfl⟩
    have q1 : Int.tdiv (k : Int) 64 = (p : Int) := by rw [Int.tdiv_eq_ediv_of_nonneg (by omega)]; omega
    have q2 : Int.tmod (k : Int) 64 = (j : Int) := by rw [Int.tmod_eq_emod_of_nonneg (by omega)]; omega
    have HP := Lib.hid (show Plc m (k : Int) p (2 ^ j) from .inl ⟨k, rfl, hk, hp.symm, by rw [hj]⟩)
    have j64 : j < 64 := by omega
    have pk : p ≤ 1000000000 := by omega
    clear hp hj h0
    go_enter Tryd.func22, Tryd.ntmps22
    go_wp2
    go_quiet (fail)
    go_wp2
    go_ret2
    have r2 : IntKind.u64.wrap (2 ^ j) = ((2 ^ j : Nat) : Int) := by
      have hlt : (2 : Nat) ^ j < 2 ^ 64 := Nat.pow_lt_pow_right (by decide) j64
      have e : ((2 : Int) ^ j) = ((2 ^ j : Nat) : Int) := by push_cast; rfl
      rw [e, IntKind.wrap_u64]
      generalize (2 : Nat) ^ j = v at hlt
      omega
    refine ⟨p, 2 ^ j, ?_, HP.out, nq, rfl⟩
    show Ending.returned (.tuple #[.int .i64 (p : Int), .int .u64 (IntKind.u64.wrap (2 ^ j))]) = _
    rw [r2]
  · have g1 : x ≥ (m : Int) := by omega
    go_enter Tryd.func22, Tryd.ntmps22
    go_wp2
    go_ret2
    exact ⟨0, 0, rfl, .inr ⟨by omega, rfl, rfl⟩, 0, rfl⟩
theorem lenS (s b m : Nat) (L : List Int) (w : World) (h : Mk w s b m L) : Calls Tryd.prog 12 #[.pointer (some ⟨s, 0, none⟩)] w fun e w' => e = .returned (.int .i64 (L.length : Int)) ∧ w' = w := by
  have c1 := h.c1
  clear h
  go_enter Tryd.func12, Tryd.ntmps12
  go_wp2
  go_ret
  exact ⟨rfl, rfl⟩
/-- the word that is looked up -/
theorem Mk.look {w : World} {s b m : Nat} {L : List Int} (h : Mk w s b m L) (p : Nat) (hp : p ≤ 1000000000) : ∃ (D : DataW Unit) (c : Nat), w.ownsMap Tryd.prog 3 (plainElem Tryd.prog 53) b L.length D ∧ Nm.Wd (wd D) L ∧ c = wd D p ∧ c < 18446744073709551616 ∧
    (∀ k : Int, has D (.int .i64 k) = true → 0 ≤ k ∧ k * 64 < (m : Int)) ∧ ∀ W : World, W.heap = w.heap → (Instr.lookup 50 (.map (some b)) (.int .i64 (p : Int)) false).run Tryd.prog W = .ok (.int .u64 (c : Int)) W := by
  obtain ⟨D, h1, h2, h3⟩ := h.own
  have hk : keyOf Tryd.prog 3 (.int .i64 (p : Int)) = some (.int .i64 (p : Int)) := keyOf_int_mk Tryd.underlying3 (by simp [Lit.wf, IntKind.min, IntKind.max, IntKind.signed, IntKind.bits]; omega)
  obtain ⟨c, hr, ha, hw⟩ := h1.lookup_int (int_keyed Tryd.underlying3) Tryd.underlying50 Tryd.underlying53 (Tryd.zeroValue53 _) hk
  have hc := wd_of ha
  refine ⟨D, c.toNat, h1, h2, hc.symm, by rw [← hc]; exact h2.lt _, h3, fun W hW => ?_⟩
  obtain ⟨c', hr', ha', hw'⟩ := (own_keep (w' := W) h1 (by rw [hW])).lookup_int (int_keyed Tryd.underlying3) Tryd.underlying50 Tryd.underlying53 (Tryd.zeroValue53 _) hk
  rw [ha] at ha'
  injection ha' with ha'
  injection ha' with _ ha'
  subst ha'
  rw [hr']
  have : 0 ≤ c := by simp [Lit.wf, IntKind.min, IntKind.max, IntKind.signed, IntKind.bits] at hw; omega
  rw [show ((c.toNat : Nat) : Int) = c from by omega]
end Go.Proofs.YthjpjeflgnkgpaaDoor
