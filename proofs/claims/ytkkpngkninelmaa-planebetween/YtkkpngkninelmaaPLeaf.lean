/-
  Layer 11 (plane): Margin, Side, Same, Check, Between and Flat, of the program and of the document's own answer, by contracts.
-/
import Derived.Test.YtkkpngkninelmaaVAll
import Derived.Test.YtkkpngkninelmaaPMath
import Derived.StillTailTactics
import Derived.Deep.RegionHeld3
import Derived.Deep.RegionLaw
import Derived.Laws.Rows
namespace Go.Proofs.Ytkkpngkninelmaa
open Go.RowKit

/-- the cells of a plane in a block -/
def Pbx (w : World) (g : Nat) (A : Option Addr) (n c : Nat) (o : Int) : Prop := w.heap[g]? = some (.cells #[.slice A n c, .int .i64 o] 24 (0, 0))
section
variable {w w' : World} {g : Nat} {A : Option Addr} {n c : Nat} {o : Int}
theorem Pbx.lt (h : Pbx w g A n c o) : g < w.heap.size := lt_of_block h
theorem Pbx.below (h : Pbx w g A n c o) (hb : Below w.heap.size w w') : Pbx w' g A n c o := by unfold Pbx; rw [hb.block g h.lt]; exact h
theorem Pbx.drew (h : Pbx w g A n c o) : Pbx w.drew g A n c o := h
theorem Pbx.drewN (h : Pbx w g A n c o) (d : Nat) : Pbx (w.drewN d) g A n c o := by
  induction d with
  | zero => exact h
  | succ d ih => exact ih.drew
theorem Pbx.c0 (h : Pbx w g A n c o) : w.cell? ⟨g, 0, none⟩ = some (.slice A n c) := by rw [cell_of_row _ _ _ _ _ _ h]; rfl
theorem Pbx.c1 (h : Pbx w g A n c o) : w.cell? ⟨g, 1, none⟩ = some (.int .i64 o) := by rw [cell_of_row _ _ _ _ _ _ h]; rfl
theorem Pbx.new (w : World) (A : Option Addr) (n c : Nat) (o : Int) : Pbx (w.alloc (.cells #[.slice A n c, .int .i64 o] 24)) w.heap.size A n c o := heap_alloc_new w _
end

theorem marg_any (A B : Option Addr) (n m c d : Nat) (o : Int) (l r : List Int) (w : World) (h : Vec w A n l) (h' : Vec w B m r) (hn : n ≤ 10000) (hm : m ≤ 10000) :
    Calls Try.prog 15 #[.agg #[.slice A n c, .int .i64 o], .slice B m d] w fun e w' => e = .returned (.int .i64 (Pm.mar l o r)) ∧ Below w.heap.size w w' := by
  obtain ⟨W, hW⟩ : ∃ W, W = w.alloc (.cells #[.slice A n c, .int .i64 o] 24) := ⟨_, rfl⟩
  have hb : Below w.heap.size w W := by rw [hW]; exact (Below.refl _ w).alloc (Nat.le_refl _) _
  have hp : Pbx W w.heap.size A n c o := by rw [hW]; exact Pbx.new w A n c o
  have k0 := hp.c0
  have k1 := hp.c1
  have HB := Lib.hid hb
  have HD := Lib.hid (fun q => quietly2 (dot_q A B n m c d l r (W.drewN q) ((h.below hb).drew q) ((h'.below hb).drew q) hn hm))
  have HW := Lib.hid hW
  have e := Lib.hid (Pm.mar_two l o r)
  clear h h' hb hW hp
  go_enter Try.func15, Try.ntmps15
  go_wp2
  rw [← HW.out]
  clear HW
  go_quiet ((go_at_call 25; exact HD.out _))
  go_wp2
  go_ret
  exact ⟨ret_int e.out, vbelow_drewN HB.out _⟩
theorem refMarg_any (A B : Option Addr) (n m c d : Nat) (o : Int) (l r : List Int) (w : World) (h : Vec w A n l) (h' : Vec w B m r) (hn : n ≤ 10000) (hm : m ≤ 10000) :
    Calls Try.prog 10 #[.agg #[.slice A n c, .int .i64 o], .slice B m d] w fun e w' => e = .returned (.int .i64 (Pm.mar l o r)) ∧ Below w.heap.size w w' := by
  obtain ⟨W, hW⟩ : ∃ W, W = w.alloc (.cells #[.slice A n c, .int .i64 o] 24) := ⟨_, rfl⟩
  have hb : Below w.heap.size w W := by rw [hW]; exact (Below.refl _ w).alloc (Nat.le_refl _) _
  have hp : Pbx W w.heap.size A n c o := by rw [hW]; exact Pbx.new w A n c o
  have k0 := hp.c0
  have HP := Lib.hid hp
  have HB := Lib.hid hb
  have HD := Lib.hid (refDot_any A B n m c d l r W (h.below hb) (h'.below hb) hn hm)
  have HW := Lib.hid hW
  have e := Lib.hid (Pm.mar_sum l o r)
  clear h h' hb hW hp
  go_enter Try.func10, Try.ntmps10
  go_wp2_with fail
  rw [← HW.out]
  refine HD.out.mono ?_
  rintro _ w1 ⟨rfl, hb1⟩
  have k1 := (HP.out.below hb1).c1
  have HB1 := Lib.hid (HB.out.trans (hb1.mono HB.out.size))
  clear hb1 HP HB HD HW
  go_wp2
  go_ret
  exact ⟨ret_int e.out, HB1.out⟩
theorem side_any (A B : Option Addr) (n m c d : Nat) (o : Int) (l r : List Int) (w : World) (h : Vec w A n l) (h' : Vec w B m r) (hn : n ≤ 10000) (hm : m ≤ 10000) :
    Calls Try.prog 16 #[.agg #[.slice A n c, .int .i64 o], .slice B m d] w fun e w' => e = .returned (.bool (decide (0 ≤ Pm.mar l o r))) ∧ Below w.heap.size w w' := by
  obtain ⟨W, hW⟩ : ∃ W, W = w.alloc (.cells #[.slice A n c, .int .i64 o] 24) := ⟨_, rfl⟩
  have hb : Below w.heap.size w W := by rw [hW]; exact (Below.refl _ w).alloc (Nat.le_refl _) _
  have hp : Pbx W w.heap.size A n c o := by rw [hW]; exact Pbx.new w A n c o
  have k0 := hp.c0
  have k1 := hp.c1
  have HB := Lib.hid hb
  have HD := Lib.hid (marg_any A B n m c d o l r W (h.below hb) (h'.below hb) hn hm)
  have HW := Lib.hid hW
  clear h h' hb hW hp
  go_enter Try.func16, Try.ntmps16
  go_wp2_with fail
  rw [← HW.out]
  refine HD.out.mono ?_
  rintro _ w1 ⟨rfl, hb1⟩
  have HB1 := Lib.hid (HB.out.trans (hb1.mono HB.out.size))
  obtain ⟨M, hM⟩ : ∃ M, M = Pm.mar l o r := ⟨_, rfl⟩
  rw [← hM]
  have HM := Lib.hid hM
  clear hb1 HB HD HW hM
  go_wp2
  go_ret
  exact ⟨ret_bool (by rw [HM.out]), HB1.out⟩
theorem sameP_any (A B : Option Addr) (n m c d : Nat) (o p : Int) (l r : List Int) (w : World) (h : Vec w A n l) (h' : Vec w B m r) (hn : n ≤ 10000) (hm : m ≤ 10000) :
    Calls Try.prog 17 #[.agg #[.slice A n c, .int .i64 o], .agg #[.slice B m d, .int .i64 p]] w fun e w' => e = .returned (.bool (decide (o = p ∧ l = r))) ∧ Below w.heap.size w w' := by
  obtain ⟨W, hW⟩ : ∃ W, W = (w.alloc (.cells #[.slice A n c, .int .i64 o] 24)).alloc (.cells #[.slice B m d, .int .i64 p] 24) := ⟨_, rfl⟩
  have hb : Below w.heap.size w W := by rw [hW]; exact ((Below.refl _ w).alloc (Nat.le_refl _) _).alloc (by simp) _
  have hp : Pbx W w.heap.size A n c o := by rw [hW]; exact (Pbx.new w A n c o).below ((Below.refl _ _).alloc (Nat.le_refl _) _)
  have hq : Pbx W (w.heap.size + 1) B m d p := by rw [hW]; have := Pbx.new (w.alloc (.cells #[.slice A n c, .int .i64 o] 24)) B m d p; rwa [show (w.alloc (.cells #[.slice A n c, .int .i64 o] 24)).heap.size = w.heap.size + 1 from by simp] at this
  have k0 := hp.c0
  have k1 := hp.c1
  have k2 := hq.c0
  have k3 := hq.c1
  have HB := Lib.hid hb
  have HD := Lib.hid (same_any A B n m c d l r W (h.below hb) (h'.below hb) hn hm)
  have HW := Lib.hid hW
  clear h h' hb hW hp hq
  by_cases q : o = p
  · subst q
    go_enter Try.func17, Try.ntmps17
    go_wp2_with fail
    rw [← HW.out]
    refine HD.out.mono ?_
    rintro _ w1 ⟨rfl, hb1⟩
    have HB1 := Lib.hid (HB.out.trans (hb1.mono HB.out.size))
    obtain ⟨M, hM⟩ : ∃ M, M = decide (l = r) := ⟨_, rfl⟩
    rw [← hM]
    have HM := Lib.hid hM
    clear hb1 HB HD HW hM
    go_wp2
    go_ret
    exact ⟨ret_bool (by simp [HM.out]), HB1.out⟩
  · have q' : (o == p) = false := by simpa using q
    have HQ := Lib.hid q
    clear q HD
    go_enter Try.func17, Try.ntmps17
    go_wp2
    rw [← HW.out]
    go_ret
    exact ⟨ret_bool (by simp [HQ.out]), HB.out⟩
theorem refSameP_any (A B : Option Addr) (n m c d : Nat) (o p : Int) (l r : List Int) (w : World) (h : Vec w A n l) (h' : Vec w B m r) (hn : n ≤ 10000) (hm : m ≤ 10000) :
    Calls Try.prog 13 #[.agg #[.slice A n c, .int .i64 o], .agg #[.slice B m d, .int .i64 p]] w fun e w' => e = .returned (.bool (decide (o = p ∧ l = r))) ∧ Below w.heap.size w w' := by
  obtain ⟨W, hW⟩ : ∃ W, W = (w.alloc (.cells #[.slice A n c, .int .i64 o] 24)).alloc (.cells #[.slice B m d, .int .i64 p] 24) := ⟨_, rfl⟩
  have hb : Below w.heap.size w W := by rw [hW]; exact ((Below.refl _ w).alloc (Nat.le_refl _) _).alloc (by simp) _
  have hp : Pbx W w.heap.size A n c o := by rw [hW]; exact (Pbx.new w A n c o).below ((Below.refl _ _).alloc (Nat.le_refl _) _)
  have hq : Pbx W (w.heap.size + 1) B m d p := by rw [hW]; have := Pbx.new (w.alloc (.cells #[.slice A n c, .int .i64 o] 24)) B m d p; rwa [show (w.alloc (.cells #[.slice A n c, .int .i64 o] 24)).heap.size = w.heap.size + 1 from by simp] at this
  have k0 := hp.c0
  have k1 := hp.c1
  have k2 := hq.c0
  have k3 := hq.c1
  have HB := Lib.hid hb
  have HD := Lib.hid (refSame_any A B n m c d l r W (h.below hb) (h'.below hb) hn hm)
  have HW := Lib.hid hW
  clear h h' hb hW hp hq
  by_cases q : o = p
  · subst q
    go_enter Try.func13, Try.ntmps13
    go_wp2_with fail
    rw [← HW.out]
    refine HD.out.mono ?_
    rintro _ w1 ⟨rfl, hb1⟩
    have HB1 := Lib.hid (HB.out.trans (hb1.mono HB.out.size))
    obtain ⟨M, hM⟩ : ∃ M, M = decide (l = r) := ⟨_, rfl⟩
    rw [← hM]
    have HM := Lib.hid hM
    clear hb1 HB HD HW hM
    go_wp2
    go_ret
    exact ⟨ret_bool (by simp [HM.out]), HB1.out⟩
  · have q' : (o == p) = false := by simpa using q
    have HQ := Lib.hid q
    clear q HD
    go_enter Try.func13, Try.ntmps13
    go_wp2
    rw [← HW.out]
    go_ret
    exact ⟨ret_bool (by simp [HQ.out]), HB.out⟩
theorem chkP_any (A : Option Addr) (n c : Nat) (o : Int) (l : List Int) (dim : Int) (w : World) (h : Vec w A n l) (hn : n ≤ maxLen) :
    Calls Try.prog 11 #[.agg #[.slice A n c, .int .i64 o], .int .i64 dim] w fun e w' => e = .returned (.int .i64 (Pm.chk l o dim)) ∧ Below w.heap.size w w' := by
  unfold maxLen at hn
  obtain ⟨W, hW⟩ : ∃ W, W = w.alloc (.cells #[.slice A n c, .int .i64 o] 24) := ⟨_, rfl⟩
  have hb : Below w.heap.size w W := by rw [hW]; exact (Below.refl _ w).alloc (Nat.le_refl _) _
  have hp : Pbx W w.heap.size A n c o := by rw [hW]; exact Pbx.new w A n c o
  have k0 := hp.c0
  have k1 := hp.c1
  have HB := Lib.hid hb
  have HW := Lib.hid hW
  have HL := Lib.hid h.length
  have H := Lib.hid (h.below hb)
  clear h hb hW hp
  by_cases g : dim < 1 ∨ 1024 < dim
  · have e := Lib.hid (Pm.chk_range (l := l) (o := o) g)
    rcases (show dim < 1 ∨ (1 ≤ dim ∧ 1024 < dim) from by omega) with g' | ⟨g', g''⟩
    all_goals
      clear g H
      go_enter Try.func11, Try.ntmps11
      go_wp2
      rw [← HW.out]
      go_ret
      exact ⟨ret_int e.out.symm, HB.out⟩
  have d0 : 1 ≤ dim := by omega
  have d1 : dim ≤ 1024 := by omega
  by_cases g2 : (n : Int) = dim
  · subst g2
    clear g
    have G := Lib.hid (show ¬ ((n : Int) < 1 ∨ 1024 < (n : Int)) from by omega)
    go_enter Try.func11, Try.ntmps11
    go_wp2
    rw [← HW.out]
    go_loop [18] (fun i => ∃ k : Nat, k ≤ n ∧ i = .int .i64 k ∧ ∀ x ∈ l.take k, Pm.ok x) (fun i => n - (intOf i).toNat)
    case atStart => exact ⟨0, Nat.zero_le _, rfl, by simp⟩
    case round =>
      obtain ⟨k, hk, rfl, hgood⟩ := hrel
      have HG := Lib.hid hgood
      clear hgood
      by_cases hlt : k < n
      · have hkl : k < l.length := by rw [HL.out]; exact hlt
        obtain ⟨b, off, rfl, hb, hc, x0, x1⟩ := H.out.at_ hlt hkl
        have HM := Lib.hid (List.getElem_mem hkl)
        have HT := Lib.hid (List.take_succ_eq_append_getElem hkl)
        obtain ⟨x, hx⟩ : ∃ x, x = l[k] := ⟨_, rfl⟩
        rw [← hx] at hc HM HT x0 x1
        clear hx hb
        by_cases q : x < -2097152
        · have e := Lib.hid (Pm.chk_bad (l := l) (o := o) G.out (by rw [HL.out]) (fun hall => by have := hall x HM.out; unfold Pm.ok at this; omega))
          go_wp2
          go_ret
          exact ⟨ret_int e.out.symm, HB.out⟩
        · by_cases q2 : 2097152 < x
          · have e := Lib.hid (Pm.chk_bad (l := l) (o := o) G.out (by rw [HL.out]) (fun hall => by have := hall x HM.out; unfold Pm.ok at this; omega))
            go_wp2
            go_ret
            exact ⟨ret_int e.out.symm, HB.out⟩
          · go_wp2
            go_round
            case rel => exact ⟨k + 1, by omega, by go_num, by rw [HT.out]; intro y hy; rcases List.mem_append.1 hy with hy | hy; exact HG.out y hy; rw [List.mem_singleton.1 hy]; unfold Pm.ok; omega⟩
            case measure => simp [intOf]; omega
      · have A := Lib.hid (show ∀ x ∈ l, Pm.ok x from fun x hx => HG.out x (by rw [List.take_of_length_le (by rw [HL.out]; omega)]; exact hx))
        by_cases q : o < -9007199254740992
        · have e := Lib.hid (Pm.chk_off (l := l) (o := o) (dim := (n : Int)) G.out (by rw [HL.out]) A.out (by omega))
          have q' : decide (o < -9007199254740992) = true := decide_eq_true q
          clear q
          go_wp2
          go_ret
          exact ⟨ret_int e.out.symm, HB.out⟩
        · have q' : decide (o < -9007199254740992) = false := decide_eq_false q
          by_cases q2 : 9007199254740992 < o
          · have e := Lib.hid (Pm.chk_off (l := l) (o := o) (dim := (n : Int)) G.out (by rw [HL.out]) A.out (by omega))
            have q2' : decide (9007199254740992 < o) = true := decide_eq_true q2
            clear q q2
            go_wp2
            go_ret
            exact ⟨ret_int e.out.symm, HB.out⟩
          · have e := Lib.hid (Pm.chk_good (l := l) (o := o) (dim := (n : Int)) G.out (by rw [HL.out]) A.out (by omega) (by omega))
            have q2' : decide (9007199254740992 < o) = false := decide_eq_false q2
            clear q q2
            go_wp2
            go_ret
            exact ⟨ret_int e.out.symm, HB.out⟩
  · have e := Lib.hid (Pm.chk_dim (l := l) (o := o) g (by rw [HL.out]; exact g2))
    have g3 : ((n : Int) != dim) = true := by simpa using g2
    clear g g2 H
    go_enter Try.func11, Try.ntmps11
    go_wp2
    rw [← HW.out]
    go_ret
    exact ⟨ret_int e.out.symm, HB.out⟩
theorem refChkP_any (A : Option Addr) (n c : Nat) (o : Int) (l : List Int) (dim : Int) (w : World) (h : Vec w A n l) (hn : n ≤ maxLen) :
    Calls Try.prog 12 #[.agg #[.slice A n c, .int .i64 o], .int .i64 dim] w fun e w' => e = .returned (.int .i64 (Pm.chk l o dim)) ∧ Below w.heap.size w w' := by
  unfold maxLen at hn
  obtain ⟨W, hW⟩ : ∃ W, W = w.alloc (.cells #[.slice A n c, .int .i64 o] 24) := ⟨_, rfl⟩
  have hb : Below w.heap.size w W := by rw [hW]; exact (Below.refl _ w).alloc (Nat.le_refl _) _
  have hp : Pbx W w.heap.size A n c o := by rw [hW]; exact Pbx.new w A n c o
  have k0 := hp.c0
  have k1 := hp.c1
  have HB := Lib.hid hb
  have HW := Lib.hid hW
  have HL := Lib.hid h.length
  have H := Lib.hid (h.below hb)
  clear h hb hW hp
  by_cases g : dim < 1 ∨ 1024 < dim
  · have e := Lib.hid (Pm.chk_range (l := l) (o := o) g)
    rcases (show dim < 1 ∨ (1 ≤ dim ∧ 1024 < dim) from by omega) with g' | ⟨g', g''⟩
    all_goals
      clear g H
      go_enter Try.func12, Try.ntmps12
      go_wp2
      rw [← HW.out]
      go_ret
      exact ⟨ret_int e.out.symm, HB.out⟩
  have d0 : 1 ≤ dim := by omega
  have d1 : dim ≤ 1024 := by omega
  by_cases g2 : (n : Int) = dim
  · subst g2
    clear g
    have G := Lib.hid (show ¬ ((n : Int) < 1 ∨ 1024 < (n : Int)) from by omega)
    go_enter Try.func12, Try.ntmps12
    go_wp2
    rw [← HW.out]
    go_loop [5] (fun i => ∃ k : Nat, k ≤ n ∧ i = .int .i64 k ∧ ∀ x ∈ l.take k, Pm.ok x) (fun i => n - (intOf i).toNat)
    case atStart => exact ⟨0, Nat.zero_le _, rfl, by simp⟩
    case round =>
      obtain ⟨k, hk, rfl, hgood⟩ := hrel
      have HG := Lib.hid hgood
      clear hgood
      by_cases hlt : k < n
      · have hkl : k < l.length := by rw [HL.out]; exact hlt
        obtain ⟨b, off, rfl, hb, hc, x0, x1⟩ := H.out.at_ hlt hkl
        have HM := Lib.hid (List.getElem_mem hkl)
        have HT := Lib.hid (List.take_succ_eq_append_getElem hkl)
        obtain ⟨x, hx⟩ : ∃ x, x = l[k] := ⟨_, rfl⟩
        rw [← hx] at hc HM HT x0 x1
        clear hx hb
        by_cases q : x < -2097152
        · have e := Lib.hid (Pm.chk_bad (l := l) (o := o) G.out (by rw [HL.out]) (fun hall => by have := hall x HM.out; unfold Pm.ok at this; omega))
          go_wp2
          go_ret
          exact ⟨ret_int e.out.symm, HB.out⟩
        · by_cases q2 : 2097152 < x
          · have e := Lib.hid (Pm.chk_bad (l := l) (o := o) G.out (by rw [HL.out]) (fun hall => by have := hall x HM.out; unfold Pm.ok at this; omega))
            go_wp2
            go_ret
            exact ⟨ret_int e.out.symm, HB.out⟩
          · go_wp2
            go_round
            case rel => exact ⟨k + 1, by omega, by go_num, by rw [HT.out]; intro y hy; rcases List.mem_append.1 hy with hy | hy; exact HG.out y hy; rw [List.mem_singleton.1 hy]; unfold Pm.ok; omega⟩
            case measure => simp [intOf]; omega
      · have A := Lib.hid (show ∀ x ∈ l, Pm.ok x from fun x hx => HG.out x (by rw [List.take_of_length_le (by rw [HL.out]; omega)]; exact hx))
        by_cases q : o < -9007199254740992
        · have e := Lib.hid (Pm.chk_off (l := l) (o := o) (dim := (n : Int)) G.out (by rw [HL.out]) A.out (by omega))
          have q' : decide (o < -9007199254740992) = true := decide_eq_true q
          clear q
          go_wp2
          go_ret
          exact ⟨ret_int e.out.symm, HB.out⟩
        · have q' : decide (o < -9007199254740992) = false := decide_eq_false q
          by_cases q2 : 9007199254740992 < o
          · have e := Lib.hid (Pm.chk_off (l := l) (o := o) (dim := (n : Int)) G.out (by rw [HL.out]) A.out (by omega))
            have q2' : decide (9007199254740992 < o) = true := decide_eq_true q2
            clear q q2
            go_wp2
            go_ret
            exact ⟨ret_int e.out.symm, HB.out⟩
          · have e := Lib.hid (Pm.chk_good (l := l) (o := o) (dim := (n : Int)) G.out (by rw [HL.out]) A.out (by omega) (by omega))
            have q2' : decide (9007199254740992 < o) = false := decide_eq_false q2
            clear q q2
            go_wp2
            go_ret
            exact ⟨ret_int e.out.symm, HB.out⟩
  · have e := Lib.hid (Pm.chk_dim (l := l) (o := o) g (by rw [HL.out]; exact g2))
    have g3 : ((n : Int) != dim) = true := by simpa using g2
    clear g g2 H
    go_enter Try.func12, Try.ntmps12
    go_wp2
    rw [← HW.out]
    go_ret
    exact ⟨ret_int e.out.symm, HB.out⟩
end Go.Proofs.Ytkkpngkninelmaa
