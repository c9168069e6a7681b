/-
  Layer 9 (marks): Add and Has, by contracts.
-/
import Derived.Test.YthjpjeflgnkgpaaDoorNSet
namespace Go.Proofs.YthjpjeflgnkgpaaDoor
open Go.RowKit Go.Maps

theorem and_bit (c j : Nat) : (c &&& 2 ^ j = 0) ↔ c.testBit j = false := by
  constructor
  · intro h
    have e : (c &&& 2 ^ j).testBit j = c.testBit j := by rw [Nat.testBit_and, Nat.testBit_two_pow_self, Bool.and_true]
    rw [← e, h, Nat.zero_testBit]
  · intro h
    apply Nat.eq_of_testBit_eq
    intro i
    rw [Nat.testBit_and, Nat.testBit_two_pow, Nat.zero_testBit]
    by_cases e : j = i
    · subst e; rw [h, Bool.false_and]
    · simp [e]
/-- the set behind an id that is met for the first time -/
theorem Mk.put {w W : World} {s b m k : Nat} {L : List Int} {D : DataW Unit} (h : Mk w s b m L) (hk : k < m) (hL : (k : Int) ∉ L) (hD : IsMap D) (hw : Nm.Wd (wd D) L) (hh : ∀ q : Int, has D (.int .i64 q) = true → 0 ≤ q ∧ q * 64 < (m : Int))
    (ho : W.ownsMap Tryd.prog 3 (plainElem Tryd.prog 53) b (L.length + 1) (D.put (.int .i64 ((k / 64 : Nat) : Int)) (.lit (.int .u64 ((wd D ((k / 64 : Nat) : Int) ||| 2 ^ (k % 64) : Nat) : Int))))) (hg : w.grownBy W (some b)) :
    Mk (W.setCell ⟨s, 1, none⟩ (.int .i64 ((L.length : Int) + 1))) s b m (L ++ [(k : Int)]) ∧ Kept (fun q => q = s ∨ q = b) w (W.setCell ⟨s, 1, none⟩ (.int .i64 ((L.length : Int) + 1))) := by
  have hs : W.heap[s]? = some (.cells #[.int .i64 (m : Int), .int .i64 (L.length : Int), .map (some b)] 52 (0, 0)) := (hg.block s h.lts (fun e => h.ne (by injection e))).trans h.blk
  refine ⟨⟨by rw [heap_setCell_same _ _ _ _ _ _ hs]; simp, ⟨_, (by rw [List.length_append]; exact ho.setCell (fun e => h.ne e.symm) _), ?_, fun q hq => ?_⟩, h.ids.snoc ⟨by omega, by omega⟩ hL, h.small⟩, (((Kept.refl _ w).grown hg (fun i e => .inl (.inr (by injection e with e; exact e.symm)))).setCell (.inl (.inl rfl)))⟩
  · have := hw.add k
    rw [wd_put hD]
    have e : (fun q : Int => if q = ((k / 64 : Nat) : Int) then wd D ((k / 64 : Nat) : Int) ||| 2 ^ (k % 64) else wd D q) = fun q : Int => if q = ((k / 64 : Nat) : Int) then wd D q ||| 2 ^ (k % 64) else wd D q := by
      funext q
      by_cases e : q = ((k / 64 : Nat) : Int)
      · rw [if_pos e, if_pos e, e]
      · rw [if_neg e, if_neg e]
    rw [e]
    exact this
  · by_cases e : q = ((k / 64 : Nat) : Int)
    · subst e; omega
    · exact hh q (by rwa [has_put_other (by simpa using e)] at hq)

theorem addS (s b m : Nat) (L : List Int) (x : Int) (w : World) (h : Mk w s b m L) :
    Calls Tryd.prog 10 #[.pointer (some ⟨s, 0, none⟩), .int .i64 x] w fun e w' => e = .returned (.bool (decide (0 ≤ x ∧ x < (m : Int) ∧ x ∉ L))) ∧ Mk w' s b m (Nm.add m L x) ∧ Kept (fun q => q = s ∨ q = b) w w' := by
  have HP := Lib.hid (placeS s m x w h.c0 h.small)
  have HM := Lib.hid h
  have hlen := h.len
  clear h
  go_enter Tryd.func10, Tryd.ntmps10
  go_wp2_with fail
  refine HP.out.mono ?_
  rintro e w1 ⟨p, v, rfl, hp, d, hd⟩
  have hM1 : Mk w1 s b m L := by rw [hd]; exact HM.out.drewN d
  have hK1 : Kept (fun q => q = s ∨ q = b) w w1 := by rw [hd]; exact (Kept.refl _ w).drewN d
  clear hd HM HP
  have HM1 := Lib.hid hM1
  have HK1 := Lib.hid hK1
  have c1 := hM1.c1
  have c2 := hM1.c2
  have f1 := hM1.frozen 1
  rcases hp with ⟨k, rfl, hk, hp, hv⟩ | ⟨hno, rfl, rfl⟩
  · obtain ⟨D, c, hown, hwd, hc, hc64, hhas, hlook⟩ := hM1.look p (by have := hM1.small; omega)
    have l1 := hlook w1 rfl
    have hv64 : v < 18446744073709551616 := by
      rw [hv]; exact Nat.pow_lt_pow_right (m := k % 64) (n := 64) (by decide) (Nat.mod_lt _ (by decide))
    have hv0 : 0 < v := by rw [hv]; exact Nat.two_pow_pos _
    have ea := bits_and_u64_nat c v hc64 hv64
    have eo := bits_or_u64_nat c v hc64 hv64
    obtain ⟨o, ho⟩ : ∃ o, c ||| v = o := ⟨_, rfl⟩
    obtain ⟨a, ha⟩ : ∃ a, c &&& v = a := ⟨_, rfl⟩
    rw [ho] at eo
    rw [ha] at ea
    have hmem : a = 0 ↔ (k : Int) ∉ L := by
      rw [← ha, hv, and_bit, ← hwd.mem k, hc, hp]; simp
    have HMEM := Lib.hid hmem
    have HC := Lib.hid hc
    have HO := Lib.hid ho
    have HPP := Lib.hid hp
    have HV := Lib.hid hv
    have HW := Lib.hid hwd
    have HH := Lib.hid hhas
    have HOWN := Lib.hid hown
    clear hmem hc ho hp hv hwd hhas hown hlook ha hM1 hK1
    have g1 : ((v : Int) == 0) = false := by simp; omega
    by_cases ha0 : a = 0
    · have g2 : ((a : Int) != 0) = false := by simp [ha0]
      have hL := HMEM.out.1 ha0
      have ed : decide (0 ≤ (k : Int) ∧ (k : Int) < (m : Int) ∧ (k : Int) ∉ L) = true := by simp [hL]; omega
      have el : Nm.add m L (k : Int) = L ++ [(k : Int)] := by unfold Nm.add; rw [if_pos]; exact ⟨by omega, by omega, hL⟩
      have HED := Lib.hid ed
      have HEL := Lib.hid el
      have hkey : keyOf Tryd.prog 3 (.int .i64 (p : Int)) = some (.int .i64 (p : Int)) := keyOf_int_mk Tryd.underlying3 (by have := HM1.out.small; have := HPP.out; simp [Lit.wf, IntKind.min, IntKind.max, IntKind.signed, IntKind.bits]; omega)
      have ho64 : o < 18446744073709551616 := by
        rw [← HO.out]; exact Nat.or_lt_two_pow (n := 64) (by omega) (by omega)
      have hval : plainElem (H := Unit) Tryd.prog 53 (.int .u64 (o : Int)) = some (.lit (.int .u64 (o : Int)), []) := plainElem_int Tryd.underlying53 (by simp [Lit.wf, IntKind.min, IntKind.max, IntKind.signed, IntKind.bits]; omega)
      have HKEY := Lib.hid hkey
      have HVAL := Lib.hid hval
      have HLL := Lib.hid hL
      clear ed el hkey hval hL ha0 ho64
      go_wp2_with (at_mapUpdate; refine wpList_mapUpdate_own _ rfl _ _ _ 50 rfl 3 53 (int_keyed Tryd.underlying3) Tryd.underlying50 _ b L.length D rfl HOWN.out (by unfold maxLen; omega) _ _ (.int .i64 (p : Int)) rfl rfl HKEY.out (.lit (.int .u64 (o : Int))) [] HVAL.out ?_; intro w2 ho2 hg2; have HPUT := Lib.hid (HM1.out.put hk HLL.out HOWN.out.isMap HW.out HH.out (W := w2) (by rw [← HPP.out, ← HC.out, ← HV.out, HO.out]; exact ho2) hg2); have c1' : w2.cell? ⟨s, 1, none⟩ = some (.int .i64 (L.length : Int)) := (hg2.cell c1 (fun e => HM1.out.ne (by injection e))); have f1' : w2.frozen? ⟨s, 1, none⟩ = false := (World.frozen?_of_block (a := ⟨s, 1, none⟩) (hg2.block s HM1.out.lts (fun e => HM1.out.ne (by injection e)))).trans f1; clear ho2 hg2)
      go_ret
      exact ⟨by rw [HED.out]; rfl, by rw [HEL.out]; exact HPUT.out.1, HK1.out.trans HPUT.out.2 fun k h => .inl h⟩
    · have g2 : ((a : Int) != 0) = true := by simp [ha0]
      have hL : ¬ (k : Int) ∉ L := fun h => ha0 (HMEM.out.2 h)
      have ed : decide (0 ≤ (k : Int) ∧ (k : Int) < (m : Int) ∧ (k : Int) ∉ L) = false := by simp; intro h1; exact Classical.not_not.1 hL
      have el : Nm.add m L (k : Int) = L := by unfold Nm.add; rw [if_neg]; exact fun h => hL h.2.2
      have HED := Lib.hid ed
      have HEL := Lib.hid el
      clear ed el hL ha0
      go_wp2
      go_ret
      exact ⟨by rw [HED.out]; rfl, by rw [HEL.out]; exact HM1.out, HK1.out⟩
  · have ed : decide (0 ≤ x ∧ x < (m : Int) ∧ x ∉ L) = false := by simp; intro h1 h2; exact absurd ⟨h1, h2⟩ hno
    have el : Nm.add m L x = L := by unfold Nm.add; rw [if_neg]; exact fun h => hno ⟨h.1, h.2.1⟩
    have HED := Lib.hid ed
    have HEL := Lib.hid el
    clear ed el hno hM1 hK1
    go_wp2
    go_ret
    exact ⟨by rw [HED.out]; rfl, by rw [HEL.out]; exact HM1.out, HK1.out⟩
theorem hasS (s b m : Nat) (L : List Int) (x : Int) (w : World) (h : Mk w s b m L) :
    Calls Tryd.prog 8 #[.pointer (some ⟨s, 0, none⟩), .int .i64 x] w fun e w' => e = .returned (.bool (decide (x ∈ L))) ∧ ∃ d, w' = w.drewN d := by
  have HP := Lib.hid (placeS s m x w h.c0 h.small)
  have HM := Lib.hid h
  clear h
  go_enter Tryd.func8, Tryd.ntmps8
  go_wp2_with fail
  refine HP.out.mono ?_
  rintro e w1 ⟨p, v, rfl, hp, d, hd⟩
  have hM1 : Mk w1 s b m L := by rw [hd]; exact HM.out.drewN d
  have HD := Lib.hid hd
  have c2 := hM1.c2
  have hp9 : p ≤ 1000000000 := by
    rcases hp with ⟨k, rfl, hk, hp, hv⟩ | ⟨hno, rfl, rfl⟩
    · have := hM1.small; omega
    · omega
  obtain ⟨D, c, hown, hwd, hc, hc64, hhas, hlook⟩ := hM1.look p hp9
  have l1 := hlook w1 rfl
  have hv64 : v < 18446744073709551616 := by
    rcases hp with ⟨k, rfl, hk, hp, hv⟩ | ⟨hno, rfl, rfl⟩
    · rw [hv]; exact Nat.pow_lt_pow_right (m := k % 64) (n := 64) (by decide) (Nat.mod_lt _ (by decide))
    · omega
  have ea := bits_and_u64_nat c v hc64 hv64
  obtain ⟨a, ha⟩ : ∃ a, c &&& v = a := ⟨_, rfl⟩
  rw [ha] at ea
  have he : ((a : Int) != 0) = decide (x ∈ L) := by
    rcases hp with ⟨k, rfl, hk, hp, hv⟩ | ⟨hno, rfl, rfl⟩
    · have hmem : a = 0 ↔ (k : Int) ∉ L := by
        rw [← ha, hv, and_bit, ← hwd.mem k, hc, hp]; simp
      by_cases h0 : a = 0
      · have := hmem.1 h0; simp [h0, this]
      · have : (k : Int) ∈ L := Classical.not_not.1 fun h => h0 (hmem.2 h)
        simp [h0, this]
    · have h0 : a = 0 := by rw [← ha]; simp
      have : x ∉ L := fun h => hno (hM1.ids.in_ x h)
      simp [h0, this]
  have HE := Lib.hid he
  clear he hd hp hown hwd hc hhas hlook ha hM1 HM HP
  go_wp2
  go_ret
  refine ⟨?_, d, HD.out⟩
  rw [← HE.out]; rfl
end Go.Proofs.YthjpjeflgnkgpaaDoor
