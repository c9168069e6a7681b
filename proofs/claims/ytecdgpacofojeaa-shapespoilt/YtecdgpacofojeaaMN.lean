/-
  Layer 9 (marks): a set of marks in memory; New, place, Len, Has, Add by contracts.
  Layer 9 (marks): Add and Has, by contracts.
  Layer 9 (marks): slices of slices, slices.Values ranged over, by contracts; and when ids are covered.
  Layer 9 (marks): Covers, by contract.
-/
import Derived.Test.YtecdgpacofojeaaNMem
import Derived.Maps.OwnSet
import Derived.Laws.Bits64b
import Derived.WalkKit
import Derived.Test.YtecdgpacofojeaaMG
import Derived.Deep.Matrix
namespace Go.Proofs.Ytecdgpacofojeaa
open Go.RowKit Go.Maps

/-- the word k of a map of words -/
def wd (D : DataW Unit) (k : Int) : Nat := match D.atKey (.int .i64 k) (.lit (.int .u64 0)) with | .lit (.int _ a) => a.toNat | _ => 0
theorem wd_of {D : DataW Unit} {k c : Int} (h : D.atKey (.int .i64 k) (.lit (.int .u64 0)) = .lit (.int .u64 c)) : wd D k = c.toNat := by unfold wd; rw [h]
theorem wd_put {D : DataW Unit} (hD : IsMap D) (p : Int) (v : Nat) : wd (D.put (.int .i64 p) (.lit (.int .u64 (v : Int)))) = fun k => if k = p then v else wd D k := by
  funext k
  by_cases hk : k = p
  · subst hk
    rw [if_pos rfl]
    exact wd_of (atKey_put_same (k := .int .i64 k) hD (by simp [WideAt.IsKeyLit]) _ _)
  · rw [if_neg hk]
    unfold wd
    rw [atKey_put_other (by simpa using hk)]
/-- a set of m at block s, its words a map at block b: the ids L were met -/
structure Mk (w : World) (s b m : Nat) (L : List Int) : Prop where
  blk : w.heap[s]? = some (.cells #[.int .i64 (m : Int), .int .i64 (L.length : Int), .map (some b)] 91 (0, 0))
  own : ∃ D : DataW Unit, w.ownsMap Try.prog 3 (plainElem Try.prog 49) b L.length D ∧ Nm.Wd (wd D) L ∧ ∀ k : Int, has D (.int .i64 k) = true → 0 ≤ k ∧ k * 64 < (m : Int)
  ids : Nm.Ids (m : Int) L
  small : m ≤ 1000000000
section
variable {w w' : World} {s b m : Nat} {L : List Int}
theorem Mk.lts (h : Mk w s b m L) : s < w.heap.size := lt_of_block h.blk
theorem Mk.ltb (h : Mk w s b m L) : b < w.heap.size := by obtain ⟨D, h1, _⟩ := h.own; exact h1.lt
theorem Mk.isMap (h : Mk w s b m L) : ∃ es clock, w.heap[b]? = some (.map es clock) := by obtain ⟨D, ⟨es, clock, h1, _⟩, _⟩ := h.own; exact ⟨es, clock, h1⟩
theorem Mk.ne (h : Mk w s b m L) : s ≠ b := fun e => by
  obtain ⟨es, clock, h1⟩ := h.isMap
  rw [← e, h.blk] at h1
  cases h1
theorem Mk.c0 (h : Mk w s b m L) : w.cell? ⟨s, 0, none⟩ = some (.int .i64 (m : Int)) := by rw [cell_of_row _ _ _ _ _ _ h.blk]; rfl
theorem Mk.c1 (h : Mk w s b m L) : w.cell? ⟨s, 1, none⟩ = some (.int .i64 (L.length : Int)) := by rw [cell_of_row _ _ _ _ _ _ h.blk]; rfl
theorem Mk.c2 (h : Mk w s b m L) : w.cell? ⟨s, 2, none⟩ = some (.map (some b)) := by rw [cell_of_row _ _ _ _ _ _ h.blk]; rfl
theorem Mk.frozen (h : Mk w s b m L) (k : Nat) : w.frozen? ⟨s, k, none⟩ = false := frozen_of_row _ _ _ _ _ h.blk
theorem own_keep {k : TypeId} {R : Value → Option (DataW Unit × List MemPlace)} {n : Nat} {D : DataW Unit} {P : Program} (h : w.ownsMap P k R b n D) (hb : w'.heap[b]? = w.heap[b]?) : w'.ownsMap P k R b n D := by
  obtain ⟨es, clock, h1, h2⟩ := h
  exact ⟨es, clock, hb.trans h1, h2⟩
theorem Mk.keep (h : Mk w s b m L) (hs : w'.heap[s]? = w.heap[s]?) (hb : w'.heap[b]? = w.heap[b]?) : Mk w' s b m L := by
  obtain ⟨D, h1, h2⟩ := h.own
  exact ⟨hs.trans h.blk, ⟨D, own_keep h1 hb, h2⟩, h.ids, h.small⟩
theorem Mk.below (h : Mk w s b m L) (hb : Below w.heap.size w w') : Mk w' s b m L := h.keep (hb.block s h.lts) (hb.block b h.ltb)
theorem Mk.drewN (h : Mk w s b m L) (d : Nat) : Mk (w.drewN d) s b m L := h.below (bdrew (Below.refl _ w) d)
theorem Mk.other {S : Nat → Prop} (h : Mk w s b m L) (hb : Kept S w w') (h1 : ¬ S s) (h2 : ¬ S b) : Mk w' s b m L := h.keep (hb.block s h.lts h1) (hb.block b h.ltb h2)
theorem Mk.len (h : Mk w s b m L) : L.length ≤ 1000000000 := by have := h.ids.len; have := h.small; omega
end

theorem newS (n : Int) (hn : n ≤ 1000000000) (w : World) :
    Calls Try.prog 39 #[.int .i64 n] w fun e w' => ∃ s b, e = .returned (.pointer (some ⟨s, 0, none⟩)) ∧ Mk w' s b n.toNat [] ∧ w.heap.size ≤ s ∧ w.heap.size ≤ b ∧ Below w.heap.size w w' := by
  obtain ⟨m, hm⟩ : ∃ m : Nat, n.toNat = m := ⟨_, rfl⟩
  have e1 : max n 0 = (m : Int) := by omega
  have e2 : (if n < 0 then 0 else n) = (m : Int) := by split <;> omega
  have hs : m ≤ 1000000000 := by omega
  rw [hm]
  clear hm
  have hmm := @run_makeMap Try.prog
  have HM := Lib.hid (show Mk ((w.alloc (.map #[] 0)).alloc (.cells #[.int .i64 (m : Int), .int .i64 0, .map (some w.heap.size)] 91)) (w.heap.size + 1) w.heap.size m [] from
    ⟨by have := heap_new (w.alloc (.map #[] 0)) #[.int .i64 (m : Int), .int .i64 0, .map (some w.heap.size)] 91; rwa [show (w.alloc (.map #[] 0)).heap.size = w.heap.size + 1 from by simp] at this,
     ⟨.map [], (World.ownsMap_made w _ _ _).alloc _, ⟨fun k j _ => by simp [wd, DataW.atKey], fun k => by simp [wd, DataW.atKey]⟩, fun k h => by simp [has] at h⟩, Nm.Ids.nil _, hs⟩)
  have HB := Lib.hid (show Below w.heap.size w ((w.alloc (.map #[] 0)).alloc (.cells #[.int .i64 (m : Int), .int .i64 0, .map (some w.heap.size)] 91)) from ((Below.refl _ w).alloc (Nat.le_refl _) _).alloc (by simp) _)
  go_enter Try.func39, Try.ntmps39
  go_wp2
  go_ret
  exact ⟨_, _, rfl, HM.out, by omega, by omega, HB.out⟩

/-- where an id stands: word p, bit v -/
def Plc (m : Nat) (x : Int) (p v : Nat) : Prop := (∃ k : Nat, x = (k : Int) ∧ k < m ∧ p = k / 64 ∧ v = 2 ^ (k % 64)) ∨ (¬ (0 ≤ x ∧ x < (m : Int)) ∧ p = 0 ∧ v = 0)
theorem placeS (s m : Nat) (x : Int) (w : World) (h : w.cell? ⟨s, 0, none⟩ = some (.int .i64 (m : Int))) (hm : m ≤ 1000000000) :
    Calls Try.prog 48 #[.pointer (some ⟨s, 0, none⟩), .int .i64 x] w fun e w' => ∃ p v : Nat, e = .returned (.tuple #[.int .i64 (p : Int), .int .u64 (v : Int)]) ∧ Plc m x p v ∧ ∃ d, w' = w.drewN d := by
  by_cases h0 : x < 0
  · go_enter Try.func48, Try.ntmps48
    go_wp2
    go_ret2
    exact ⟨0, 0, rfl, .inr ⟨by omega, rfl, rfl⟩, 0, rfl⟩
  by_cases h1 : x < (m : Int)
  · obtain ⟨k, rfl⟩ : ∃ k : Nat, x = (k : Int) := ⟨x.toNat, by omega⟩
    have hk : k < m := by omega
    obtain ⟨p, hp⟩ : ∃ p : Nat, k / 64 = p := ⟨_, rfl⟩
    obtain ⟨j, hj⟩ : ∃ j : Nat, k % 64 = j := ⟨_, rfl⟩
    have q1 : Int.tdiv (k : Int) 64 = (p : Int) := by rw [Int.tdiv_eq_ediv_of_nonneg (by omega)]; omega
    have q2 : Int.tmod (k : Int) 64 = (j : Int) := by rw [Int.tmod_eq_emod_of_nonneg (by omega)]; omega
    have HP := Lib.hid (show Plc m (k : Int) p (2 ^ j) from .inl ⟨k, rfl, hk, hp.symm, by rw [hj]⟩)
    have j64 : j < 64 := by omega
    have pk : p ≤ 1000000000 := by omega
    clear hp hj h0
    go_enter Try.func48, Try.ntmps48
    go_wp2
    go_quiet (fail)
    go_wp2
    go_ret2
    have r2 : IntKind.u64.wrap (2 ^ j) = ((2 ^ j : Nat) : Int) := by
      have hlt : (2 : Nat) ^ j < 2 ^ 64 := Nat.pow_lt_pow_right (by decide) j64
      have e : ((2 : Int) ^ j) = ((2 ^ j : Nat) : Int) := by push_cast; rfl
      rw [e, IntKind.wrap_u64]
      generalize (2 : Nat) ^ j = v at hlt
      omega
    refine ⟨p, 2 ^ j, ?_, HP.out, nq, rfl⟩
    show Ending.returned (.tuple #[.int .i64 (p : Int), .int .u64 (IntKind.u64.wrap (2 ^ j))]) = _
    rw [r2]
  · have g1 : x ≥ (m : Int) := by omega
    go_enter Try.func48, Try.ntmps48
    go_wp2
    go_ret2
    exact ⟨0, 0, rfl, .inr ⟨by omega, rfl, rfl⟩, 0, rfl⟩
theorem lenS (s b m : Nat) (L : List Int) (w : World) (h : Mk w s b m L) : Calls Try.prog 41 #[.pointer (some ⟨s, 0, none⟩)] w fun e w' => e = .returned (.int .i64 (L.length : Int)) ∧ w' = w := by
  have c1 := h.c1
  clear h
  go_enter Try.func41, Try.ntmps41
  go_wp2
  go_ret
  exact ⟨rfl, rfl⟩
set_option maxRecDepth 100000 in
/-- the word that is looked up -/
theorem Mk.look {w : World} {s b m : Nat} {L : List Int} (h : Mk w s b m L) (p : Nat) (hp : p ≤ 1000000000) : ∃ (D : DataW Unit) (c : Nat), w.ownsMap Try.prog 3 (plainElem Try.prog 49) b L.length D ∧ Nm.Wd (wd D) L ∧ c = wd D p ∧ c < 18446744073709551616 ∧
    (∀ k : Int, has D (.int .i64 k) = true → 0 ≤ k ∧ k * 64 < (m : Int)) ∧ ∀ W : World, W.heap = w.heap → (Instr.lookup 89 (.map (some b)) (.int .i64 (p : Int)) false).run Try.prog W = .ok (.int .u64 (c : Int)) W := by
  obtain ⟨D, h1, h2, h3⟩ := h.own
  have hk : keyOf Try.prog 3 (.int .i64 (p : Int)) = some (.int .i64 (p : Int)) := keyOf_int_mk Try.underlying3 (by simp [Lit.wf, IntKind.min, IntKind.max, IntKind.signed, IntKind.bits]; omega)
  obtain ⟨c, hr, ha, hw⟩ := h1.lookup_int (int_keyed Try.underlying3) Try.underlying89 Try.underlying49 (Try.zeroValue49 _) hk
  have hc := wd_of ha
  refine ⟨D, c.toNat, h1, h2, hc.symm, by rw [← hc]; exact h2.lt _, h3, fun W hW => ?_⟩
  obtain ⟨c', hr', ha', hw'⟩ := (own_keep (w' := W) h1 (by rw [hW])).lookup_int (int_keyed Try.underlying3) Try.underlying89 Try.underlying49 (Try.zeroValue49 _) hk
  rw [ha] at ha'
  injection ha' with ha'
  injection ha' with _ ha'
  subst ha'
  rw [hr']
  have : 0 ≤ c := by simp [Lit.wf, IntKind.min, IntKind.max, IntKind.signed, IntKind.bits] at hw; omega
  rw [show ((c.toNat : Nat) : Int) = c from by omega]
end Go.Proofs.Ytecdgpacofojeaa
namespace Go.Proofs.Ytecdgpacofojeaa
open Go.RowKit Go.Maps

theorem and_bit (c j : Nat) : (c &&& 2 ^ j = 0) ↔ c.testBit j = false := by
  constructor
  · intro h
    have e : (c &&& 2 ^ j).testBit j = c.testBit j := by rw [Nat.testBit_and, Nat.testBit_two_pow_self, Bool.and_true]
    rw [← e, h, Nat.zero_testBit]
  · intro h
    apply Nat.eq_of_testBit_eq
    intro i
    rw [Nat.testBit_and, Nat.testBit_two_pow, Nat.zero_testBit]
    by_cases e : j = i
    · subst e; rw [h, Bool.false_and]
    · simp [e]
/-- the set behind an id that is met for the first time -/
theorem Mk.put {w W : World} {s b m k : Nat} {L : List Int} {D : DataW Unit} (h : Mk w s b m L) (hk : k < m) (hL : (k : Int) ∉ L) (hD : IsMap D) (hw : Nm.Wd (wd D) L) (hh : ∀ q : Int, has D (.int .i64 q) = true → 0 ≤ q ∧ q * 64 < (m : Int))
    (ho : W.ownsMap Try.prog 3 (plainElem Try.prog 49) b (L.length + 1) (D.put (.int .i64 ((k / 64 : Nat) : Int)) (.lit (.int .u64 ((wd D ((k / 64 : Nat) : Int) ||| 2 ^ (k % 64) : Nat) : Int))))) (hg : w.grownBy W (some b)) :
    Mk (W.setCell ⟨s, 1, none⟩ (.int .i64 ((L.length : Int) + 1))) s b m (L ++ [(k : Int)]) ∧ Kept (fun q => q = s ∨ q = b) w (W.setCell ⟨s, 1, none⟩ (.int .i64 ((L.length : Int) + 1))) := by
  have hs : W.heap[s]? = some (.cells #[.int .i64 (m : Int), .int .i64 (L.length : Int), .map (some b)] 91 (0, 0)) := (hg.block s h.lts (fun e => h.ne (by injection e))).trans h.blk
  refine ⟨⟨by rw [heap_setCell_same _ _ _ _ _ _ hs]; simp, ⟨_, (by rw [List.length_append]; exact ho.setCell (fun e => h.ne e.symm) _), ?_, fun q hq => ?_⟩, h.ids.snoc ⟨by omega, by omega⟩ hL, h.small⟩, (((Kept.refl _ w).grown hg (fun i e => .inl (.inr (by injection e with e; exact e.symm)))).setCell (.inl (.inl rfl)))⟩
  · have := hw.add k
    rw [wd_put hD]
    have e : (fun q : Int => if q = ((k / 64 : Nat) : Int) then wd D ((k / 64 : Nat) : Int) ||| 2 ^ (k % 64) else wd D q) = fun q : Int => if q = ((k / 64 : Nat) : Int) then wd D q ||| 2 ^ (k % 64) else wd D q := by
      funext q
      by_cases e : q = ((k / 64 : Nat) : Int)
      · rw [if_pos e, if_pos e, e]
      · rw [if_neg e, if_neg e]
    rw [e]
    exact this
  · by_cases e : q = ((k / 64 : Nat) : Int)
    · subst e; omega
    · exact hh q (by rwa [has_put_other (by simpa using e)] at hq)

theorem addS (s b m : Nat) (L : List Int) (x : Int) (w : World) (h : Mk w s b m L) :
    Calls Try.prog 40 #[.pointer (some ⟨s, 0, none⟩), .int .i64 x] w fun e w' => e = .returned (.bool (decide (0 ≤ x ∧ x < (m : Int) ∧ x ∉ L))) ∧ Mk w' s b m (Nm.add m L x) ∧ Kept (fun q => q = s ∨ q = b) w w' := by
  have HP := Lib.hid (placeS s m x w h.c0 h.small)
  have HM := Lib.hid h
  have hlen := h.len
  clear h
  go_enter Try.func40, Try.ntmps40
  go_wp2_with fail
  refine HP.out.mono ?_
  rintro e w1 ⟨p, v, rfl, hp, d, hd⟩
  have hM1 : Mk w1 s b m L := by rw [hd]; exact HM.out.drewN d
  have hK1 : Kept (fun q => q = s ∨ q = b) w w1 := by rw [hd]; exact (Kept.refl _ w).drewN d
  clear hd HM HP
  have HM1 := Lib.hid hM1
  have HK1 := Lib.hid hK1
  have c1 := hM1.c1
  have c2 := hM1.c2
  have f1 := hM1.frozen 1
  rcases hp with ⟨k, rfl, hk, hp, hv⟩ | ⟨hno, rfl, rfl⟩
  · obtain ⟨D, c, hown, hwd, hc, hc64, hhas, hlook⟩ := hM1.look p (by have := hM1.small; omega)
    have l1 := hlook w1 rfl
    have hv64 : v < 18446744073709551616 := by
      rw [hv]; exact Nat.pow_lt_pow_right (m := k % 64) (n := 64) (by decide) (Nat.mod_lt _ (by decide))
    have hv0 : 0 < v := by rw [hv]; exact Nat.two_pow_pos _
    have ea := bits_and_u64_nat c v hc64 hv64
    have eo := bits_or_u64_nat c v hc64 hv64
    obtain ⟨o, ho⟩ : ∃ o, c ||| v = o := ⟨_, rfl⟩
    obtain ⟨a, ha⟩ : ∃ a, c &&& v = a := ⟨_, rfl⟩
    rw [ho] at eo
    rw [ha] at ea
    have hmem : a = 0 ↔ (k : Int) ∉ L := by
      rw [← ha, hv, and_bit, ← hwd.mem k, hc, hp]; simp
    have HMEM := Lib.hid hmem
    have HC := Lib.hid hc
    have HO := Lib.hid ho
    have HPP := Lib.hid hp
    have HV := Lib.hid hv
    have HW := Lib.hid hwd
    have HH := Lib.hid hhas
    have HOWN := Lib.hid hown
    clear hmem hc ho hp hv hwd hhas hown hlook ha hM1 hK1
    have g1 : ((v : Int) == 0) = false := by simp; omega
    by_cases ha0 : a = 0
    · have g2 : ((a : Int) != 0) = false := by simp [ha0]
      have hL := HMEM.out.1 ha0
      have ed : decide (0 ≤ (k : Int) ∧ (k : Int) < (m : Int) ∧ (k : Int) ∉ L) = true := by simp [hL]; omega
      have el : Nm.add m L (k : Int) = L ++ [(k : Int)] := by unfold Nm.add; rw [if_pos]; exact ⟨by omega, by omega, hL⟩
      have HED := Lib.hid ed
      have HEL := Lib.hid el
      have hkey : keyOf Try.prog 3 (.int .i64 (p : Int)) = some (.int .i64 (p : Int)) := keyOf_int_mk Try.underlying3 (by have := HM1.out.small; have := HPP.out; simp [Lit.wf, IntKind.min, IntKind.max, IntKind.signed, IntKind.bits]; omega)
      have ho64 : o < 18446744073709551616 := by
        rw [← HO.out]; exact Nat.or_lt_two_pow (n := 64) (by omega) (by omega)
      have hval : plainElem (H := Unit) Try.prog 49 (.int .u64 (o : Int)) = some (.lit (.int .u64 (o : Int)), []) := plainElem_int Try.underlying49 (by simp [Lit.wf, IntKind.min, IntKind.max, IntKind.signed, IntKind.bits]; omega)
      have HKEY := Lib.hid hkey
      have HVAL := Lib.hid hval
      have HLL := Lib.hid hL
      clear ed el hkey hval hL ha0 ho64
      go_wp2_with (at_mapUpdate; refine wpList_mapUpdate_own _ rfl _ _ _ 89 rfl 3 49 (int_keyed Try.underlying3) Try.underlying89 _ b L.length D rfl HOWN.out (by unfold maxLen; omega) _ _ (.int .i64 (p : Int)) rfl rfl HKEY.out (.lit (.int .u64 (o : Int))) [] HVAL.out ?_; intro w2 ho2 hg2; have HPUT := Lib.hid (HM1.out.put hk HLL.out HOWN.out.isMap HW.out HH.out (W := w2) (by rw [← HPP.out, ← HC.out, ← HV.out, HO.out]; exact ho2) hg2); have c1' : w2.cell? ⟨s, 1, none⟩ = some (.int .i64 (L.length : Int)) := (hg2.cell c1 (fun e => HM1.out.ne (by injection e))); have f1' : w2.frozen? ⟨s, 1, none⟩ = false := (World.frozen?_of_block (a := ⟨s, 1, none⟩) (hg2.block s HM1.out.lts (fun e => HM1.out.ne (by injection e)))).trans f1; clear ho2 hg2)
      go_ret
      exact ⟨by rw [HED.out]; rfl, by rw [HEL.out]; exact HPUT.out.1, HK1.out.trans HPUT.out.2 fun k h => .inl h⟩
    · have g2 : ((a : Int) != 0) = true := by simp [ha0]
      have hL : ¬ (k : Int) ∉ L := fun h => ha0 (HMEM.out.2 h)
      have ed : decide (0 ≤ (k : Int) ∧ (k : Int) < (m : Int) ∧ (k : Int) ∉ L) = false := by simp; intro h1; exact Classical.not_not.1 hL
      have el : Nm.add m L (k : Int) = L := by unfold Nm.add; rw [if_neg]; exact fun h => hL h.2.2
      have HED := Lib.hid ed
      have HEL := Lib.hid el
      clear ed el hL ha0
      go_wp2
      go_ret
      exact ⟨by rw [HED.out]; rfl, by rw [HEL.out]; exact HM1.out, HK1.out⟩
  · have ed : decide (0 ≤ x ∧ x < (m : Int) ∧ x ∉ L) = false := by simp; intro h1 h2; exact absurd ⟨h1, h2⟩ hno
    have el : Nm.add m L x = L := by unfold Nm.add; rw [if_neg]; exact fun h => hno ⟨h.1, h.2.1⟩
    have HED := Lib.hid ed
    have HEL := Lib.hid el
    clear ed el hno hM1 hK1
    go_wp2
    go_ret
    exact ⟨by rw [HED.out]; rfl, by rw [HEL.out]; exact HM1.out, HK1.out⟩
end Go.Proofs.Ytecdgpacofojeaa
namespace Go.Proofs.Ytecdgpacofojeaa
open Go.RowKit Go.Shelf
attribute [local go_sem] Oper.semAt_some

/-- a slice of slices of integers that reads as L -/
structure Ls (w : World) (A : Option Addr) (n c : Nat) (L : List (List Int)) : Prop where
  len : L.length = n
  cap : n ≤ c
  nil : A = none → c = 0
  at_ : ∀ (k : Nat) (l : List Int), L[k]? = some l → ∃ b off, A = some ⟨b, off, none⟩ ∧ b < w.heap.size ∧ ∃ A' n' c', w.cell? ⟨b, off + k, none⟩ = some (.slice A' n' c') ∧ Sl w A' n' c' l
section
variable {w w' : World} {A : Option Addr} {n c : Nat} {L : List (List Int)}
theorem Ls.below (h : Ls w A n c L) (hb : Below w.heap.size w w') : Ls w' A n c L := by
  refine ⟨h.len, h.cap, h.nil, fun k l hl => ?_⟩
  obtain ⟨b, off, e, h1, A', n', c', h2, h3⟩ := h.at_ k l hl
  exact ⟨b, off, e, Nat.lt_of_lt_of_le h1 hb.size, A', n', c', (hb.cell (p := ⟨b, off + k, none⟩) h1).trans h2, h3.below hb⟩
theorem Ls.get (h : Ls w A n c L) {k : Nat} (hk : k < n) : ∃ l, L[k]? = some l := ⟨_, List.getElem?_eq_getElem (by rw [h.len]; exact hk)⟩
end


theorem cov_stop {n : Int} {a b : List Int} {x : Int} (h : ¬ (0 ≤ x ∧ x < ((n.toNat : Nat) : Int) ∧ x ∉ a)) : Nm.cov n (a ++ x :: b) = false := by
  unfold Nm.cov
  rw [decide_eq_false_iff_not]
  rintro ⟨h1, h2, _⟩
  have := h2 x (by simp)
  refine h ⟨this.1, by omega, fun hx => ?_⟩
  have := (List.nodup_append.1 h1).2.2 x hx x (by simp)
  exact this rfl
theorem cov_all {n : Int} {a : List Int} (h : Nm.Ids ((n.toNat : Nat) : Int) a) : Nm.cov n a = decide (a.length = n.toNat) := by
  unfold Nm.cov
  rw [decide_eq_decide]
  constructor
  · rintro ⟨_, _, h3⟩; omega
  · intro h3
    exact ⟨h.nd, fun x hx => by have := h.in_ x hx; omega, by omega⟩
end Go.Proofs.Ytecdgpacofojeaa
namespace Go.Proofs.Ytecdgpacofojeaa
open Go.RowKit Go.Shelf
attribute [local go_sem] Oper.semAt_some

/-- a set (s, b) that has met LL, its variable v and the answer's block r; all made since w, ahead of the loop's two blocks D, D + 1 -/
structure StC (w : World) (s b m r v : Nat) (LL : List Int) (W : World) : Prop where
  set : Mk W s b m LL
  var : W.heap[v]? = some (.cells #[.pointer (some ⟨s, 0, none⟩)] 85 (0, 0))
  res : W.heap[r]? = some (.cells #[.bool false] 4 (0, 0))
  be : Below w.heap.size w W
section
variable {w W W' : World} {s b m r v D : Nat} {LL : List Int}
theorem StC.keep (h : StC w s b m r v LL W) (hs : W'.heap[s]? = W.heap[s]?) (hb : W'.heap[b]? = W.heap[b]?) (hv : W'.heap[v]? = W.heap[v]?) (hr : W'.heap[r]? = W.heap[r]?) (hB : Below w.heap.size w W') : StC w s b m r v LL W' :=
  ⟨h.set.keep hs hb, hv.trans h.var, hr.trans h.res, hB⟩
theorem StC.off (h : StC w s b m r v LL W) (hd : s < D ∧ b < D ∧ v < D ∧ r < D) (hw : w.heap.size ≤ D) (ho : Off (D + 1) W W') : StC w s b m r v LL W' :=
  h.keep (ho.block _ (by omega)) (ho.block _ (by omega)) (ho.block _ (by omega)) (ho.block _ (by omega)) (h.be.trans ⟨ho.os, ho.tape, ho.output, by rw [ho.size]; exact Nat.le_refl _, fun j hj => ho.block j (by omega)⟩)
theorem StC.below (h : StC w s b m r v LL W) (hb : Below W.heap.size W W') : StC w s b m r v LL W' :=
  h.keep (hb.block _ h.set.lts) (hb.block _ h.set.ltb) (hb.block _ (lt_of_block h.var)) (hb.block _ (lt_of_block h.res)) (h.be.trans (hb.mono h.be.size))
/-- an id is met -/
theorem StC.add (h : StC w s b m r v LL W) (hn : v ≠ s ∧ v ≠ b ∧ r ≠ s ∧ r ≠ b) (hd : s < D ∧ b < D) (hw : w.heap.size ≤ s ∧ w.heap.size ≤ b) (x : Int) :
    Calls Try.prog 40 #[.pointer (some ⟨s, 0, none⟩), .int .i64 x] W fun e W' => e = .returned (.bool (decide (0 ≤ x ∧ x < (m : Int) ∧ x ∉ LL))) ∧ StC w s b m r v (Nm.add m LL x) W' ∧ KeepsFrom D W W' := by
  refine (addS s b m LL x W h.set).mono ?_
  rintro e W' ⟨he, h1, h2⟩
  refine ⟨he, ⟨h1, (h2.block v (lt_of_block h.var) (by omega)).trans h.var, (h2.block r (lt_of_block h.res) (by omega)).trans h.res, h.be.trans (h2.old h.be.size fun j hj => by omega)⟩, kf_kept h2 fun k hk => by omega⟩
end
/-- the answer is false, and rightly -/
def StX (w : World) (r : Nat) (n : Int) (L : List (List Int)) (W : World) : Prop := W.heap[r]? = some (.cells #[.bool false] 4 (0, 0)) ∧ Nm.cov n L.flatten = false ∧ Below w.heap.size w W

theorem flat_cut {L : List (List Int)} {k : Nat} {l : List Int} (h : L[k]? = some l) (i : Nat) (x : Int) (hx : l[i]? = some x) : L.flatten = ((L.take k).flatten ++ l.take i) ++ x :: (l.drop (i + 1) ++ (L.drop (k + 1)).flatten) := by
  have hk := List.getElem?_eq_some_iff.1 h
  have hi := List.getElem?_eq_some_iff.1 hx
  have e1 : L = L.take k ++ l :: L.drop (k + 1) := by rw [← hk.2, ← List.drop_eq_getElem_cons, List.take_append_drop]
  have e2 : l = l.take i ++ x :: l.drop (i + 1) := by rw [← hi.2, ← List.drop_eq_getElem_cons, List.take_append_drop]
  conv => lhs; rw [e1, List.flatten_append, List.flatten_cons, e2]
  simp
theorem flat_take {L : List (List Int)} {k : Nat} {l : List Int} (h : L[k]? = some l) : (L.take (k + 1)).flatten = (L.take k).flatten ++ l := by rw [List.take_add_one, h, List.flatten_append]; simp

end Go.Proofs.Ytecdgpacofojeaa
