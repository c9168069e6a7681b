/-
  Layer 13 (grow): the law's own walk through a tree (within), by a contract.
-/
import Derived.Test.YtafkbagjjknhlaaWAwk
namespace Go.Proofs.Ytafkbagjjknhlaa
open Go.RowKit

/-- a row of numbers in a block of its own -/
def Sk (w : World) (g : Nat) (C : List Int) : Prop := w.heap[g]? = some (.cells (ci C).toArray 3 (0, 0))
section
variable {w w' : World} {g j : Nat} {C : List Int} {x : Int}
theorem Sk.lt (h : Sk w g C) : g < w.heap.size := lt_of_block h
theorem Sk.cell (h : Sk w g C) (hx : C[j]? = some x) : w.cell? ⟨g, j, none⟩ = some (.int .i64 x) := by
  rw [cell_of_row _ _ _ _ _ _ h]
  simp [ci, hx]
theorem Sk.set (h : Sk w g C) (y : Int) : Sk (w.setCell ⟨g, j, none⟩ (.int .i64 y)) g (C.set j y) := by
  unfold Sk
  rw [heap_setCell_same _ _ _ _ _ _ h]
  simp [ci, List.map_set]
theorem Sk.below (h : Sk w g C) (hb : Below w.heap.size w w') : Sk w' g C := (hb.block g h.lt).trans h
end
theorem Nds.old {Pr : Nat → Prop} {w : World} {A : Option Addr} {n c : Nat} {T : List Wm.Nd} (h : Nds Pr w A n c T) : Nds (fun k => k < w.heap.size) w A n c T := by
  obtain ⟨vs, h1, h2⟩ := h.ex
  refine ⟨h.len, h.cap, h.nil, vs, ?_, fun hn => ?_⟩
  · have go : ∀ (T : List Wm.Nd) (vs : List Value), NdV Pr w vs T → NdV (fun k => k < w.heap.size) w vs T := by
      intro T
      induction T with
      | nil => intro vs h; exact h
      | cons t T ih =>
        intro vs h
        obtain ⟨A1, n1, c1, A2, n2, c2, vs', e, h1, h2⟩ := h
        refine ⟨A1, n1, c1, A2, n2, c2, vs', e, ⟨h1.ids, fun hn b off s e => ?_, h1.pn, fun hn b off s e => ?_, h1.le⟩, ih vs' h2⟩
        · obtain ⟨b', off', e', hlt, _⟩ := h1.ids.lst.2 hn
          rw [e'] at e; injection e with e; injection e with e1; omega
        · obtain ⟨b', off', e', hlt, _⟩ := h1.pn.1.2 hn
          rw [e'] at e; injection e with e; injection e with e1; omega
    exact go T vs h1
  · obtain ⟨b, off, e, hp, hb, hc⟩ := h2 hn
    exact ⟨b, off, e, hb, hb, hc⟩
theorem Wm.bump_bd {X C : List Int} {Q : Nat} (h : ∀ x ∈ C, 0 ≤ x ∧ x ≤ (Q : Int)) : ∀ x ∈ Wm.bump C X, 0 ≤ x ∧ x ≤ ((Q + X.length : Nat) : Int) := by
  induction X generalizing C Q with
  | nil => simpa [Wm.bump] using h
  | cons a X ih =>
    have h' : ∀ x ∈ C.set a.toNat (C.getD a.toNat 0 + 1), 0 ≤ x ∧ x ≤ ((Q + 1 : Nat) : Int) := fun x hx => by
      rcases List.mem_or_eq_of_mem_set hx with hx | hx
      · have := h x hx; omega
      · rw [List.getD_eq_getElem?_getD] at hx
        rcases Nat.lt_or_ge a.toNat C.length with hl | hl
        · rw [List.getElem?_eq_getElem hl, Option.getD_some] at hx
          have := h _ (List.getElem_mem hl)
          omega
        · rw [List.getElem?_eq_none hl, Option.getD_none] at hx
          omega
    have := ih (C := C.set a.toNat (C.getD a.toNat 0 + 1)) h'
    intro x hx
    have h2 := this x hx
    rw [List.length_cons]
    omega
theorem results_tmp4 {fn : Func} {t u v x : Tmp} (h : fn.results = #[.tmp t, .tmp u, .tmp v, .tmp x]) (tmps : Array Value) (P : Program) (w : World) :
    (results fn tmps).run P w = .ok (.tuple #[tmps.getD t undef, tmps.getD u undef, tmps.getD v undef, tmps.getD x undef]) w := by
  simp [results, h]
set_option maxHeartbeats 3200000 in
set_option maxRecDepth 100000 in
theorem withinW {Pr : Nat → Prop} {A : Option Addr} {N c n g lim : Nat} {TT : List Wm.Nd} (hN : N ≤ 100000) (hn : n ≤ 100000) (hPr : ∀ k, Pr k → k ≠ g) {r p kk dp : Nat} {ids : List Int} {T : List Wm.Nd} (h : Wm.Tr lim r ids p T kk dp) :
    ∀ (D Q : Nat) (C : List Int) (w : World), Nds Pr w A N c TT → (∀ j, j < T.length → TT[p + j]? = T[j]?) → D + r ≤ 64 → 1 ≤ ids.length → (∀ x ∈ ids, 0 ≤ x ∧ x < (n : Int)) → Sk w g C → C.length = n → (∀ x ∈ C, 0 ≤ x ∧ x ≤ (Q : Int)) → Q + ids.length ≤ 1000000 →
      Calls Try.prog 19 #[.slice A N c, .int .i64 (p : Int), .int .i64 (D : Int), .int .i64 (n : Int), .slice (some ⟨g, 0, none⟩) n n] w fun e w' =>
        e = .returned (.tuple #[.int .i64 ((p + T.length : Nat) : Int), .int .i64 (Wm.leaves T : Nat), .int .i64 ((D + dp : Nat) : Int), .bool true]) ∧ Sk w' g (Wm.bump C (Wm.held T)) ∧ Btw g (g + 1) w w' := by
  induction h with
  | @leaf r p ids h =>
    intro D Q C w hT hsub hD hi hids hS hC hQ hQB
    obtain ⟨b, off, rfl, hb, hpb, A1, n1, c1, A2, n2, c2, na, a0, a1, -, -, -, -⟩ := hT.at_ (k := p) (t := Wm.one ids) (by have := hsub 0 (by simp); simpa using this)
    have hpN : p < N := by
      have := hsub 0 (by simp)
      rw [Nat.add_zero] at this
      have h2 := (List.getElem?_eq_some_iff.1 (this.trans rfl)).1
      rw [hT.len] at h2
      exact h2
    have hn1 : ids.length = n1 := na.ids.length
    have hbg : b ≠ g := hPr b hpb
    have e1 : Wm.held [Wm.one ids] = ids := by simp [Wm.held, Wm.one]
    have e2 : Wm.leaves [Wm.one ids] = 1 := rfl
    rw [e1, e2, List.length_singleton, Nat.add_zero]
    have HI : Hid (∀ V, Btw g (g + 1) w V → Sl V A1 n1 c1 ids) := Lib.hid fun V hV => na.ids.keepIn na.in1 hV.size fun k hk hp => hV.block k hk (by have := hPr k hp; omega)
    have HA1 := Lib.hid a1
    have HIDS := Lib.hid hids
    have HS := Lib.hid hS
    have HC := Lib.hid hC
    have HQ := Lib.hid hQ
    have a0' : w.cell? ⟨b, off + p * 6, none⟩ = some (.bool true) := a0
    have HN1 := Lib.hid hn1
    have hn1b : n1 ≤ 1000000 := by omega
    have hQn : Q + n1 ≤ 1000000 := by omega
    clear hT hsub na a0 hids hS hC hQ e1 e2 h hi hpb hn1 hQB
    have hd1 : decide (N ≤ p) = false := decide_eq_false (by omega)
    have hd2 : decide ((p : Int) < 0) = false := decide_eq_false (by omega)
    have hd3 : decide (64 < (D : Int)) = false := decide_eq_false (by omega)
    go_enter Try.func19, Try.ntmps19
    go_wp2
    go_loopw [14] (fun i wr => ∃ j : Nat, j ≤ n1 ∧ i = .int .i64 j ∧ Sk wr g (Wm.bump C (ids.take j)) ∧ Btw g (g + 1) w wr) (fun i _ => n1 - (intOf i).toNat)
    case atStart => exact ⟨0, Nat.zero_le _, rfl, HS.out, Btw.refl _ _ _⟩
    case round =>
      obtain ⟨j, hj, rfl, hs, hbt⟩ := hrel
      have HSJ := Lib.hid hs
      have HBT := Lib.hid hbt
      have x1 := (hbt.cell (p := ⟨b, off + p * 6 + 1, none⟩) hb (by show b < g ∨ g + 1 ≤ b; omega)).trans HA1.out
      by_cases hlj : j < n1
      · have hjl : j < ids.length := by rw [HN1.out]; exact hlj
        obtain ⟨b2, o2, rfl, hb2, x2⟩ := (HI.out wr hbt).at_ (List.getElem?_eq_getElem hjl)
        obtain ⟨y0, y1⟩ := HIDS.out _ (List.getElem_mem hjl)
        obtain ⟨y, hy⟩ : ∃ y : Nat, ids[j] = (y : Int) := ⟨ids[j].toNat, by omega⟩
        have HTK : Hid (ids.take (j + 1) = ids.take j ++ [(y : Int)]) := Lib.hid (by rw [List.take_succ_eq_append_getElem hjl, hy])
        rw [hy] at x2 y0 y1
        have hyn : y < n := by omega
        obtain ⟨CC, hCC⟩ : ∃ CC, CC = Wm.bump C (ids.take j) := ⟨_, rfl⟩
        rw [← hCC] at hs HSJ
        have hCl : CC.length = n := by rw [hCC, Wm.bump_length, HC.out]
        obtain ⟨z, hz⟩ : ∃ z, CC[y]? = some z := ⟨_, List.getElem?_eq_getElem (by rw [hCl]; exact hyn)⟩
        have hzb := Wm.bump_bd (X := ids.take j) HQ.out z (by rw [← hCC]; exact List.mem_of_getElem? hz)
        rw [List.length_take, Nat.min_eq_left (by omega)] at hzb
        have x3 := hs.cell hz
        have f3 := frozen_of_row wr g y _ _ hs
        have HNX : Hid (Wm.bump C (ids.take (j + 1)) = CC.set y (z + 1)) := Lib.hid (by
          rw [HTK.out, Wm.bump_snoc, ← hCC, Int.toNat_natCast, List.getD_eq_getElem?_getD, hz]; rfl)
        clear hs hbt hb2 hy hCC hCl hz y0 y1 hjl
        go_wp2
        refine ⟨⟨j + 1, by omega, by go_num, ?_, HBT.out.setCell y (by omega) (by omega) _⟩, by simp [intOf]; omega⟩
        rw [HNX.out]
        exact HSJ.out.set (z + 1)
      · obtain rfl : j = n1 := by omega
        rw [List.take_of_length_le (by rw [HN1.out]; exact Nat.le_refl _)] at HSJ
        clear hs hbt
        go_wp2
        refine bodyPost_ret (results_tmp4 Try.results19 _ _ _) rfl ?_
        exact ⟨rfl, HSJ.out, HBT.out⟩
  | @node r p ka kb k da db ids l gg AA BB pn po h hp hl hg h2 h8 ha hb' iha ihb =>
    intro D Q C w hT hsub hD hi hids hS hC hQ hQB
    have hlen := hp.length_eq
    rw [List.length_append] at hlen
    obtain ⟨b, off, rfl, hb, hpb, A1, n1, c1, A2, n2, c2, -, a0, -, -, -, a4, a5⟩ := hT.at_ (k := p) (t := ⟨false, [], pn, po, p + 1, p + 1 + AA.length⟩) (by have := hsub 0 (by simp); simpa using this)
    have hsA : ∀ j, j < AA.length → TT[p + 1 + j]? = AA[j]? := fun j hj => by
      have := hsub (j + 1) (by rw [List.length_cons, List.length_append]; omega)
      rw [List.getElem?_cons_succ, List.getElem?_append_left hj] at this
      rw [← this]; congr 1; omega
    have hsB : ∀ j, j < BB.length → TT[p + 1 + AA.length + j]? = BB[j]? := fun j hj => by
      have := hsub (AA.length + j + 1) (by rw [List.length_cons, List.length_append]; omega)
      rw [List.getElem?_cons_succ, List.getElem?_append_right (by omega), Nat.add_sub_cancel_left] at this
      rw [← this]; congr 1; omega
    have hpN : p + 1 + AA.length + BB.length ≤ N := by
      have h1 := hb'.pos
      have h2 := hsB (BB.length - 1) (by omega)
      have h3 : (p + 1 + AA.length + (BB.length - 1)) < TT.length := by
        have h4 := (List.getElem?_eq_some_iff.1 (h2.trans (List.getElem?_eq_getElem (by omega)))).1
        exact h4
      rw [hT.len] at h3
      omega
    have hidA : ∀ x ∈ l, 0 ≤ x ∧ x < (n : Int) := fun x hx => hids x (hp.mem_iff.1 (List.mem_append_left _ hx))
    have hidB : ∀ x ∈ gg, 0 ≤ x ∧ x < (n : Int) := fun x hx => hids x (hp.mem_iff.1 (List.mem_append_right _ hx))
    have hlA := ha.perm.length_eq
    have fewA := ha.few hl
    have fewB := hb'.few hg
    have FA0 := iha (D + 1) Q C w hT hsA (by omega) hl hidA hS hC hQ (by omega)
    rw [show ((D + 1 : Nat) : Int) = (D : Int) + 1 from rfl, show ((p + 1 : Nat) : Int) = (p : Int) + 1 from rfl] at FA0
    have FA := Lib.hid FA0
    have IHB := Lib.hid ihb
    have HQ := Lib.hid hQ
    have HT := Lib.hid hT
    have HSB := Lib.hid hsB
    have HIB := Lib.hid hidB
    have HC := Lib.hid hC
    have HA5 := Lib.hid a5
    have hbg : b ≠ g := hPr b hpb
    have hD1 : D ≤ 64 := by omega
    have hdA := ha.deep
    have hdB := hb'.deep
    have hD2 : D + 1 + da ≤ 100 := by omega
    have hD3 : D + 1 + db ≤ 100 := by omega
    have HLA := Lib.hid hlA
    have hQB2 : Q + l.length + gg.length ≤ 1000000 := by omega
    have hfa := fewA.1
    have hfb := fewB.1
    obtain ⟨la, hla⟩ : ∃ la, la = Wm.leaves AA := ⟨_, rfl⟩
    obtain ⟨lb, hlb⟩ : ∃ lb, lb = Wm.leaves BB := ⟨_, rfl⟩
    have HLLA := Lib.hid hla
    have HLLB := Lib.hid hlb
    rw [← hla] at FA hfa
    rw [← hlb] at hfb
    have hDr : D + 1 + r ≤ 64 := by omega
    clear FA0 iha ihb hQ hT hsA hsB hidA hidB hC a5 hids hS hp hsub hlA fewA fewB h2 h8 hpb ha hb' hla hlb hi
    go_enter Try.func19, Try.ntmps19
    go_wp2_with fail
    refine FA.out.mono ?_
    rintro _ w1 ⟨rfl, hs1, hb1⟩
    have a5 := (hb1.cell (p := ⟨b, off + p * 6 + 5, none⟩) hb (by show b < g ∨ g + 1 ≤ b; omega)).trans HA5.out
    have hq1 := Wm.bump_bd (X := Wm.held AA) HQ.out
    rw [HLA.out] at hq1
    have FB0 := IHB.out (D + 1) (Q + l.length) (Wm.bump C (Wm.held AA)) w1 (HT.out.btw (lo := g) (hi := g + 1) (fun k hk => by have := hPr k hk; omega) hb1) HSB.out hDr hg HIB.out hs1 (by rw [Wm.bump_length, HC.out]) hq1 hQB2
    rw [show ((D + 1 : Nat) : Int) = (D : Int) + 1 from rfl, show ((p + 1 + AA.length : Nat) : Int) = (p : Int) + 1 + (AA.length : Int) from rfl, ← HLLB.out] at FB0
    have FB := Lib.hid FB0
    have HB1 := Lib.hid hb1
    clear FB0 hs1 hb1 hq1 FA IHB a0 a4
    go_wp2_with fail
    refine FB.out.mono ?_
    rintro _ w2 ⟨rfl, hs2, hb2⟩
    have HS2 := Lib.hid hs2
    have HB2 := Lib.hid (HB1.out.trans hb2)
    clear hs2 hb2 FB a5
    go_wp2
    all_goals
      refine bodyPost_ret (results_tmp4 Try.results19 _ _ _) rfl ?_
      have h1 : Wm.leaves (⟨false, [], pn, po, p + 1, p + 1 + AA.length⟩ :: (AA ++ BB)) = la + lb := by
        rw [Wm.leaves_cons, Wm.leaves_append, HLLA.out, HLLB.out]; simp
      have h2 : Wm.held (⟨false, [], pn, po, p + 1, p + 1 + AA.length⟩ :: (AA ++ BB)) = Wm.held AA ++ Wm.held BB := by
        rw [Wm.held_cons, Wm.held_append]; rfl
      rw [h1, h2, Wm.bump_append]
      refine ⟨?_, HS2.out, HB2.out⟩
      have e1 : (p : Int) + ((AA.length : Int) + (BB.length : Int) + 1) = (p : Int) + 1 + (AA.length : Int) + (BB.length : Int) := by omega
      rw [e1]
      first
        | (rw [show (D : Int) + (((max da db : Nat) : Int) + 1) = (D : Int) + 1 + (db : Int) from by omega]; rfl)
        | (rw [show (D : Int) + (((max da db : Nat) : Int) + 1) = (D : Int) + 1 + (da : Int) from by omega]; rfl)
end Go.Proofs.Ytafkbagjjknhlaa
