/-
  Layer 14 (shape): the document's own Tree, by a contract.
-/
import Derived.Test.YtecdgpacofojeaaXRef
import Derived.Test.YtecdgpacofojeaaMV
import Derived.Test.YtecdgpacofojeaaOSlc
namespace Go.Proofs.Ytecdgpacofojeaa
open Go.RowKit

theorem Try.infoVis : (Try.prog.info? 36).map (fun i => (i.zero, i.size, i.bytes)) = some (some (.agg #[.int .i64 0, .int .i64 0]), 2, 16) := by kernel_rfl
/-- what the document's Tree answers -/
def TrP (w w' : World) (n p : Nat) (o : Option (List Nat × Nat)) (e : Ending) : Prop :=
  ∃ V vn vc en ok l, e = .returned (.tuple #[.slice V vn vc, .int .i64 en, .bool ok]) ∧ Prs w' V vn vc l ∧ New w.heap.size V ∧ vn ≤ n - p ∧ ok = o.isSome ∧ (∀ v m, o = some (v, m) → en = (m : Int) ∧ l = Xm.visits p v) ∧ Below w.heap.size w w'
theorem TrP.no {w w' : World} {n p : Nat} (hb : Below w.heap.size w w') : TrP w w' n p none (.returned (.tuple #[.slice none 0 0, .int .i64 0, .bool false])) :=
  ⟨none, 0, 0, 0, false, [], rfl, Prs.nil_ _, (fun b off s h => by cases h), Nat.zero_le _, rfl, (fun _ _ h => by cases h), hb⟩
theorem node_new (W : World) (v0 v1 v2 v3 v4 v5 : Value) (e : TypeId) : ∀ (j : Nat) (u : Value), ([v0, v1, v2, v3, v4, v5] : List Value)[j]? = some u → (W.alloc (.cells #[v0, v1, v2, v3, v4, v5] e)).cell? ⟨W.heap.size, j, none⟩ = some u := fun j u hu => by
  rw [cell_of_row _ _ _ _ _ _ (heap_alloc_new W _)]; simpa using hu
theorem own_new {w : World} {base sz n c : Nat} {e : TypeId} {A : Option Addr} {xs : List Value} (h : w.ownsRow base e sz (.slice A n c) n xs) : New base A := by
  intro b off s e
  rcases h.2 with ⟨hv, _⟩ | ⟨g, cap, cur, hv, hg, _⟩
  · injection hv with h1; rw [h1] at e; cases e
  · injection hv with h1; rw [h1] at e; injection e with e; injection e with e1; omega
theorem prs_grown {w w' : World} {V : Option Addr} {n c B : Nat} {l : List Om.E} {o : Option Nat} (h : Prs w V n c l) (hg : w.grownBy w' o) (ho : ∀ k, o = some k → k < B) (hn : New B V) : Prs w' V n c l := ⟨h.len, h.cap, h.nil, fun h0 => by
  obtain ⟨b, off, e, hlt, hc⟩ := h.ex h0
  have hb := hn b off none e
  exact ⟨b, off, e, Nat.lt_of_lt_of_le hlt hg.size, fun j u hu => (World.cell?_of_block (w := w) (a := ⟨b, off + j, none⟩) (hg.block b hlt fun e2 => by have := ho b e2.symm; omega)).trans (hc j u hu)⟩⟩
section
variable {w0 : World} {A : Option Addr} {n c : Nat} {T : List Xm.Nd}
set_option maxHeartbeats 1600000 in
set_option maxRecDepth 100000 in
theorem refTreeX (HX : Hid (Xds w0 A n c T)) (hn : n ≤ 401) (d : Int) : ∀ (r p : Nat) (w : World), r ≤ 65 → p ≤ n → Below w0.heap.size w0 w →
    Calls Try.prog 12 #[.slice A n c, .int .i64 d, .int .i64 (p : Int), .int .i64 ((65 - r : Nat) : Int)] w fun e w' => TrP w w' n p (Xm.tree T d r p) e := by
  obtain ⟨i0, hi, hz0, hz1, hz2⟩ := info_parts Try.infoVis
  intro r
  induction r with
  | zero =>
    intro p w _ hp hb
    have HB := Lib.hid hb
    rw [show Xm.tree T d 0 p = none from rfl, show ((65 - 0 : Nat) : Int) = 65 from rfl]
    by_cases h : n ≤ p
    · go_enter Try.func12, Try.ntmps12
      go_wp2
      refine bodyPost_ret (results_tmp3 Try.results12 _ _ _) rfl ?_
      exact TrP.no (Below.refl _ _)
    · go_enter Try.func12, Try.ntmps12
      go_wp2
      refine bodyPost_ret (results_tmp3 Try.results12 _ _ _) rfl ?_
      exact TrP.no (Below.refl _ _)
  | succ r ih =>
    intro p w hr hp hb
    obtain ⟨dep, hdep⟩ : ∃ dep, dep = 64 - r := ⟨_, rfl⟩
    rw [show 65 - (r + 1) = dep from by omega]
    by_cases h : n ≤ p
    · rw [Xm.tree_end (by rw [HX.out.len]; exact h)]
      go_enter Try.func12, Try.ntmps12
      go_wp2
      refine bodyPost_ret (results_tmp3 Try.results12 _ _ _) rfl ?_
      exact TrP.no (Below.refl _ _)
    have hlt : p < n := by omega
    have hd64 : dep ≤ 64 := by omega
    obtain ⟨x, hx⟩ := HX.out.get hlt
    obtain ⟨b, off, rfl, hbk, A1, n1, c1, A2, n2, c2, ha, g0, g1, g2, g3, g4, g5⟩ := HX.out.at_ p x hx
    have up : ∀ (j : Nat) (v : Value), w0.cell? ⟨b, j, none⟩ = some v → w.cell? ⟨b, j, none⟩ = some v := fun j v hv => (hb.cell (p := ⟨b, j, none⟩) hbk).trans hv
    have k0 := up _ _ g0
    have k1 := up _ _ g1
    have k2 := up _ _ g2
    have k3 := up _ _ g3
    have k4 := up _ _ g4
    have k5 := up _ _ g5
    obtain ⟨lf, hlf⟩ : ∃ lf, lf = x.leaf := ⟨_, rfl⟩
    obtain ⟨po, hpo⟩ : ∃ po, po = x.po := ⟨_, rfl⟩
    obtain ⟨lt, hlt'⟩ : ∃ lt, lt = x.lt := ⟨_, rfl⟩
    obtain ⟨rt, hrt⟩ : ∃ rt, rt = x.rt := ⟨_, rfl⟩
    rw [← hlf] at k0
    rw [← hpo] at k3
    rw [← hlt'] at k4
    rw [← hrt] at k5
    have hl1 := ha.l1
    have hl2 := ha.l2
    have hi1 : x.ids.length = n1 := ha.ids.length
    have hi2 : x.pn.length = n2 := ha.pn.length
    obtain ⟨W1, hW1⟩ : ∃ W1, W1 = w.alloc (.cells #[.bool lf, .slice A1 n1 c1, .slice A2 n2 c2, .int .i64 po, .int .i64 lt, .int .i64 rt] 68) := ⟨_, rfl⟩
    have hb1 : Below w.heap.size w W1 := by rw [hW1]; exact (Below.refl _ w).alloc (Nat.le_refl _) _
    have hz : W1.heap[w.heap.size]? = some (.cells #[.bool lf, .slice A1 n1 c1, .slice A2 n2 c2, .int .i64 po, .int .i64 lt, .int .i64 rt] 68 (0, 0)) := by rw [hW1]; exact heap_alloc_new w _
    have s1 : W1.heap.size = w.heap.size + 1 := by rw [hW1]; simp
    obtain ⟨W2, hW2⟩ : ∃ W2, W2 = W1.alloc (.cells #[.int .i64 (p : Int), .int .i64 (dep : Int)] 36) := ⟨_, rfl⟩
    have s2 : W2.heap.size = w.heap.size + 2 := by rw [hW2, World.size_alloc, s1]
    have hb2 : Below W1.heap.size W1 W2 := by rw [hW2]; exact (Below.refl _ W1).alloc (Nat.le_refl _) _
    have ho2 : W2.ownsRow W1.heap.size 36 2 (.slice (some ⟨W1.heap.size, 0, none⟩) 1 1) 1 (cel [((p : Int), (dep : Int))]) := by rw [hW2]; exact own_new2 W1 _ _ _
    rw [s1] at ho2
    have hz2' : W2.heap[w.heap.size]? = some (.cells #[.bool lf, .slice A1 n1 c1, .slice A2 n2 c2, .int .i64 po, .int .i64 lt, .int .i64 rt] 68 (0, 0)) := (hb2.block _ (by omega)).trans hz
    have HZ := Lib.hid hz2'
    have HO := Lib.hid ho2
    have B2 := Lib.hid (hb1.trans (hb2.mono (by omega)))
    have HA := Lib.hid ha
    have HXX := Lib.hid hx
    have HLF := Lib.hid hlf
    have HPO := Lib.hid hpo
    have HLT := Lib.hid hlt'
    have HRT := Lib.hid hrt
    have HI1 := Lib.hid hi1
    have HI2 := Lib.hid hi2
    have HW1 := Lib.hid hW1
    have HW2 := Lib.hid hW2
    have HDP := Lib.hid hdep
    have HB := Lib.hid hb
    have IH := Lib.hid ih
    clear ih hb hdep ha hx hlf hpo hlt' hrt hi1 hi2 hW1 hW2 hz hz2' ho2 g0 g1 g2 g3 g4 g5 up
    go_enter Try.func12, Try.ntmps12
    go_upto_region 5 with fail
    rw [← HW1.out, ← HW2.out]
    clear HW1 HW2
    have z0 : W2.cell? ⟨w.heap.size, 0, none⟩ = some (.bool lf) := by rw [cell_of_row _ _ _ _ _ _ HZ.out]; rfl
    have z1 : W2.cell? ⟨w.heap.size, 1, none⟩ = some (.slice A1 n1 c1) := by rw [cell_of_row _ _ _ _ _ _ HZ.out]; rfl
    have z2 : W2.cell? ⟨w.heap.size, 2, none⟩ = some (.slice A2 n2 c2) := by rw [cell_of_row _ _ _ _ _ _ HZ.out]; rfl
    have z3 : W2.cell? ⟨w.heap.size, 3, none⟩ = some (.int .i64 po) := by rw [cell_of_row _ _ _ _ _ _ HZ.out]; rfl
    have z4 : W2.cell? ⟨w.heap.size, 4, none⟩ = some (.int .i64 lt) := by rw [cell_of_row _ _ _ _ _ _ HZ.out]; rfl
    have z5 : W2.cell? ⟨w.heap.size, 5, none⟩ = some (.int .i64 rt) := by rw [cell_of_row _ _ _ _ _ _ HZ.out]; rfl
    cases lf with
    | true =>
      have LF0 : ∀ (W : World) (ok : Bool), Below W2.heap.size W2 W → ok = Xm.lfOk x → TrP w W n p (Xm.tree T d (r + 1) p) (.returned (.tuple #[.slice (some ⟨w.heap.size + 1, 0, none⟩) 1 1, .int .i64 ((p : Int) + 1), .bool ok])) := by
        intro W ok hW hok
        refine ⟨_, 1, 1, (p : Int) + 1, ok, [((p : Int), (dep : Int))], rfl, (Prs.of_own HO.out).below hW, (fun b off s h => by injection h with h; injection h with h; omega), by omega, ?_, ?_, B2.out.trans (hW.mono B2.out.size)⟩
        · rw [Xm.tree_leaf HXX.out HLF.out.symm, hok]
          cases Xm.lfOk x <;> rfl
        · intro v m hv
          rw [Xm.tree_leaf HXX.out HLF.out.symm] at hv
          by_cases ho : Xm.lfOk x = true
          · rw [if_pos ho] at hv; injection hv with hv; injection hv with h1 h2; subst h1; subst h2
            rw [HDP.out]; exact ⟨rfl, rfl⟩
          · rw [if_neg ho] at hv; cases hv
      have LF := Lib.hid LF0
      clear LF0
      have HPN : Hid (n2 = 0 ↔ x.pn = []) := Lib.hid (by rw [← HI2.out]; exact List.length_eq_zero_iff)
      by_cases q1 : lt = 0
      · by_cases q2 : rt = 0
        · by_cases q3 : po = 0
          · by_cases q4 : n2 = 0
            · have HOK : Hid (Xm.lfOk x = true) := Lib.hid (decide_eq_true ⟨by rw [← HLT.out]; exact q1, by rw [← HRT.out]; exact q2, by rw [← HPO.out]; exact q3, HPN.out.1 q4⟩)
              subst q1 q2 q3 q4
              go_wp2
              go_quiet (fail)
              go_wp2
              refine bodyPost_ret (results_tmp3 Try.results12 _ _ _) rfl ?_
              exact LF.out _ _ (bdrew (Below.refl _ _) _) HOK.out.symm
            · have HOK : Hid (Xm.lfOk x = false) := Lib.hid (decide_eq_false fun h => q4 (HPN.out.2 h.2.2.2))
              subst q1 q2 q3
              have e4 : ((n2 : Int) == 0) = false := by simp; exact q4
              go_wp2
              go_quiet (fail)
              go_wp2
              refine bodyPost_ret (results_tmp3 Try.results12 _ _ _) rfl ?_
              exact LF.out _ _ (bdrew (Below.refl _ _) _) HOK.out.symm
          · have HOK : Hid (Xm.lfOk x = false) := Lib.hid (decide_eq_false fun h => q3 (by rw [HPO.out]; exact h.2.2.1))
            subst q1 q2
            have e3 : (po == 0) = false := by simpa using q3
            go_wp2
            go_quiet (fail)
            go_wp2
            refine bodyPost_ret (results_tmp3 Try.results12 _ _ _) rfl ?_
            exact LF.out _ _ (bdrew (Below.refl _ _) _) HOK.out.symm
        · have HOK : Hid (Xm.lfOk x = false) := Lib.hid (decide_eq_false fun h => q2 (by rw [HRT.out]; exact h.2.1))
          subst q1
          have e2 : (rt == 0) = false := by simpa using q2
          go_wp2
          go_quiet (fail)
          go_wp2
          refine bodyPost_ret (results_tmp3 Try.results12 _ _ _) rfl ?_
          exact LF.out _ _ (bdrew (Below.refl _ _) _) HOK.out.symm
      · have HOK : Hid (Xm.lfOk x = false) := Lib.hid (decide_eq_false fun h => q1 (by rw [HLT.out]; exact h.1))
        have e1 : (lt == 0) = false := by simpa using q1
        go_wp2
        go_quiet (fail)
        go_wp2
        refine bodyPost_ret (results_tmp3 Try.results12 _ _ _) rfl ?_
        exact LF.out _ _ (bdrew (Below.refl _ _) _) HOK.out.symm
    | false =>
      have hnode := Xm.tree_node (d := d) (r := r) HXX.out HLF.out.symm
      have hspo : Xm.spOk d p x = decide (x.ids = [] ∧ Pm.chk x.pn x.po d = 0 ∧ x.lt = (p : Int) + 1) := rfl
      have HNO : Hid (¬ (n1 = 0 ∧ Pm.chk x.pn po d = 0 ∧ lt = (p : Int) + 1) → Xm.tree T d (r + 1) p = none) := Lib.hid fun h => by
        rw [hnode, hspo, if_neg]
        intro hh
        obtain ⟨e1, e2, e3⟩ := of_decide_eq_true hh
        exact h ⟨by rw [← HI1.out, e1]; rfl, by rw [HPO.out]; exact e2, by rw [HLT.out]; exact e3⟩
      by_cases q1 : 0 < n1
      · have hno := HNO.out (by omega)
        have HN := Lib.hid hno
        clear hno hnode hspo
        go_wp2
        refine bodyPost_ret (results_tmp3 Try.results12 _ _ _) rfl ?_
        rw [HN.out]
        exact TrP.no B2.out
      have hn1 : n1 = 0 := by omega
      subst hn1
      have FC := Lib.hid (refChkP_any A2 n2 c2 po x.pn d W2 (HA.out.pn.below (HB.out.trans (B2.out.mono HB.out.size))) (by unfold maxLen; omega))
      obtain ⟨ck, hck⟩ : ∃ ck, ck = Pm.chk x.pn po d := ⟨_, rfl⟩
      rw [← hck] at FC
      have HCK := Lib.hid hck
      clear hck
      by_cases q2 : ck = 0
      · by_cases q3 : lt = (p : Int) + 1
        · have HSP : Hid (Xm.tree T d (r + 1) p = (Xm.tree T d r (p + 1)).bind fun a => if x.rt = (a.2 : Int) then (Xm.tree T d r a.2).bind fun b => some ((64 - r) :: (a.1 ++ b.1), b.2) else none) := Lib.hid (by
            rw [hnode, if_pos]
            rw [hspo]
            exact decide_eq_true ⟨List.length_eq_zero_iff.1 HI1.out, by rw [← HPO.out, ← HCK.out]; exact q2, by rw [← HLT.out]; exact q3⟩)
          subst q2 q3
          clear hnode hspo
          go_wp2_with fail
          refine FC.out.mono ?_
          rintro _ W3 ⟨rfl, hb3⟩
          have s3 := hb3.size
          have B3 := Lib.hid (B2.out.trans (hb3.mono B2.out.size))
          have sz2 := lt_of_block HZ.out
          have z3' : Hid (W3.heap[w.heap.size]? = some (.cells #[.bool false, .slice A1 0 c1, .slice A2 n2 c2, .int .i64 po, .int .i64 ((p : Int) + 1), .int .i64 rt] 68 (0, 0))) := Lib.hid ((hb3.block _ sz2).trans HZ.out)
          have HO3 := Lib.hid (own_keep6 HO.out fun k e => hb3.block k (own_lt6 HO.out k e).2.1)
          have z4' : W3.cell? ⟨w.heap.size, 3, none⟩ = some (.int .i64 po) := by rw [cell_of_row _ _ _ _ _ _ z3'.out]; rfl
          have F1 := IH.out (p + 1) W3 (by omega) (by omega) (HB.out.trans (B3.out.mono HB.out.size))
          rw [show ((65 - r : Nat) : Int) = (dep : Int) + 1 from by have := HDP.out; omega, show ((p + 1 : Nat) : Int) = (p : Int) + 1 from rfl] at F1
          have FI := Lib.hid F1
          clear hb3 FC z0 z1 z2 z3 z4 z5 HO HZ F1
          have zl : W3.cell? ⟨w.heap.size, 4, none⟩ = some (.int .i64 ((p : Int) + 1)) := by rw [cell_of_row _ _ _ _ _ _ z3'.out]; rfl
          go_wp2_with fail
          refine FI.out.mono ?_
          rintro _ W4 ⟨V, vn, vc, en, ok, l, rfl, hv, hnv, hvn, hok, hsm, hb4⟩
          have s4 := hb4.size
          have B4 := Lib.hid (B3.out.trans (hb4.mono B3.out.size))
          have z5' : W4.cell? ⟨w.heap.size, 4 + 1, none⟩ = some (.int .i64 rt) := by rw [cell_of_row _ _ _ _ _ _ ((hb4.block _ (by omega)).trans z3'.out)]; rfl
          have zp2 : Hid (W4.heap[w.heap.size]? = some (.cells #[.bool false, .slice A1 0 c1, .slice A2 n2 c2, .int .i64 po, .int .i64 ((p : Int) + 1), .int .i64 rt] 68 (0, 0))) := Lib.hid ((hb4.block _ (by omega)).trans z3'.out)
          have HO4 := Lib.hid (own_keep6 HO3.out fun k e => hb4.block k (own_lt6 HO3.out k e).2.1)
          clear hb4 FI HO3 z4' zl z3'
          cases ha : Xm.tree T d r (p + 1) with
          | none =>
            rw [ha] at hok
            obtain rfl : ok = false := hok
            have HN : Hid (Xm.tree T d (r + 1) p = none) := Lib.hid (by rw [HSP.out, ha]; rfl)
            clear hsm ha hv hnv
            go_wp2
            refine bodyPost_ret (results_tmp3 Try.results12 _ _ _) rfl ?_
            rw [HN.out]
            exact TrP.no B4.out
          | some a =>
            obtain ⟨va, m⟩ := a
            rw [ha] at hok hsm
            obtain rfl : ok = true := hok
            obtain ⟨rfl, rfl⟩ := hsm va m rfl
            have hla := (Xm.tree_is ha).len
            rw [HX.out.len] at hla
            have hvl : va.length = vn := by rw [← hv.len, Xm.visits_length]
            have HVL := Lib.hid hvl
            have HV4 := Lib.hid hv
            have HNV := Lib.hid hnv
            have HTA := Lib.hid ha
            have hm1 : p + 1 < m := by omega
            have hm2 : m ≤ n := by omega
            have hvm : vn + (p + 1) ≤ m := by omega
            have hvm' : m ≤ vn + (p + 1) := by omega
            clear hsm ha hv hnv hla hvl
            by_cases q5 : rt = (m : Int)
            · have HS2 : Hid (Xm.tree T d (r + 1) p = (Xm.tree T d r m).bind fun b => some ((64 - r) :: (va ++ b.1), b.2)) := Lib.hid (by rw [HSP.out, HTA.out, Option.bind_some, if_pos (by rw [← HRT.out]; exact q5)])
              subst q5
              have F2 := IH.out m W4 (by omega) hm2 (HB.out.trans (B4.out.mono HB.out.size))
              rw [show ((65 - r : Nat) : Int) = (dep : Int) + 1 from by have := HDP.out; omega] at F2
              have FI2 := Lib.hid F2
              clear F2
              go_wp2_with fail
              refine FI2.out.mono ?_
              rintro _ W5 ⟨V2, vn2, vc2, en2, ok2, l2, rfl, hv2, hnv2, hvn2, hok2, hsm2, hb5⟩
              have s5 := hb5.size
              have B5 := Lib.hid (B4.out.trans (hb5.mono B4.out.size))
              have HO5 := Lib.hid (own_keep6 HO4.out fun k e => hb5.block k (own_lt6 HO4.out k e).2.1)
              have HVA := Lib.hid (HV4.out.below hb5)
              have HVB := Lib.hid hv2
              have HNB := Lib.hid hnv2
              have HF2 := Lib.hid (And.intro hok2 hsm2)
              clear hb5 hv2 hnv2 hok2 hsm2 FI2 HO4 HV4 z5' zp2
              go_wp2_with (at_builtin; first
                | (refine append_vec _ rfl (.tmp 108) (.tmp 109) 29 rfl (w.heap.size + 1) 36 i0 (.agg #[.int .i64 0, .int .i64 0]) 16 Try.underlying29 hi hz0 hz1 hz2 rfl (.slice (some ⟨w.heap.size + 1, 0, none⟩) 1 1) 1 [((p : Int), (dep : Int))] rfl HO5.out V vn vc (Xm.visits (p + 1) va) rfl HVA.out.nil ⟨HVA.out.len, HVA.out.ex⟩ (by unfold maxLen; omega) (by omega) (by omega) ?_; intro vA wA hownA hgrA; have HOA := Lib.hid hownA; have HBA : Hid (Below (w.heap.size + 1) W5 wA) := Lib.hid ((Below.refl _ W5).grown hgrA (by omega) (fun k e => (own_lt6 HO5.out k e).1)); have HVB2 : Hid (Prs wA V2 vn2 vc2 l2) := Lib.hid (prs_grown HVB.out hgrA (fun k e => by have e2 : some (w.heap.size + 1) = some k := e; injection e2 with e2; omega) HNB.out); have sA := hgrA.size; clear hownA hgrA)
                | (refine append_vec _ rfl (.tmp 110) (.tmp 111) 29 rfl (w.heap.size + 1) 36 i0 (.agg #[.int .i64 0, .int .i64 0]) 16 Try.underlying29 hi hz0 hz1 hz2 rfl vA (1 + vn) ([((p : Int), (dep : Int))] ++ Xm.visits (p + 1) va) rfl HOA.out V2 vn2 vc2 l2 rfl HVB2.out.nil ⟨HVB2.out.len, HVB2.out.ex⟩ (by unfold maxLen; omega) (by omega) (by omega) ?_; intro vB wB hownB hgrB; have HOB := Lib.hid hownB; have HBB : Hid (Below (w.heap.size + 1) W5 wB) := Lib.hid (HBA.out.grown hgrB (by omega) (fun k e => (own_lt6 HOA.out k e).1)); clear hownB hgrB))
              obtain ⟨A', c', rfl, -, -⟩ := own2_form HOB.out
              refine bodyPost_ret (results_tmp3 Try.results12 _ _ _) rfl ?_
              rw [HS2.out]
              refine ⟨A', 1 + vn + vn2, c', en2, ok2, _, rfl, Prs.of_own HOB.out, (fun b' off' s' e => ?_), by omega, ?_, ?_, B5.out.trans (HBB.out.mono (by omega))⟩
              · have := own_new HOB.out b' off' s' e
                omega
              · rw [HF2.out.1]
                cases Xm.tree T d r m <;> rfl
              · intro v mm hv
                cases hb : Xm.tree T d r m with
                | none => rw [hb] at hv; cases hv
                | some b2 =>
                  rw [hb] at hv
                  injection hv with hv
                  injection hv with h1 h2
                  obtain ⟨g1, g2⟩ := HF2.out.2 b2.1 b2.2 hb
                  subst h2
                  refine ⟨g1, ?_⟩
                  rw [← h1, g2, ← HDP.out]
                  show _ = ((p : Int), (dep : Int)) :: Xm.visits (p + 1) (va ++ b2.1)
                  rw [Xm.visits_append, show p + 1 + va.length = m from by rw [HVL.out]; omega]
                  rfl
            · have e5 : (rt != (m : Int)) = true := by simpa using q5
              have HN : Hid (Xm.tree T d (r + 1) p = none) := Lib.hid (by rw [HSP.out, HTA.out, Option.bind_some, if_neg (by rw [← HRT.out]; exact q5)])
              go_wp2
              refine bodyPost_ret (results_tmp3 Try.results12 _ _ _) rfl ?_
              rw [HN.out]
              exact TrP.no B4.out
        · have e3 : (lt != (p : Int) + 1) = true := by simpa using q3
          have HN := Lib.hid (HNO.out (fun h => q3 h.2.2))
          subst q2
          clear hnode hspo
          go_wp2_with fail
          refine FC.out.mono ?_
          rintro _ W3 ⟨rfl, hb3⟩
          have sz2 := lt_of_block HZ.out
          have z4' : W3.cell? ⟨w.heap.size, 4, none⟩ = some (.int .i64 lt) := by rw [cell_of_row _ _ _ _ _ _ ((hb3.block _ sz2).trans HZ.out)]; rfl
          have B3 := Lib.hid (B2.out.trans (hb3.mono B2.out.size))
          clear hb3
          go_wp2
          refine bodyPost_ret (results_tmp3 Try.results12 _ _ _) rfl ?_
          rw [HN.out]
          exact TrP.no B3.out
      · have e2 : (ck != 0) = true := by simpa using q2
        have HN := Lib.hid (HNO.out (fun h => q2 (HCK.out.trans h.2.1)))
        clear hnode hspo
        go_wp2_with fail
        refine FC.out.mono ?_
        rintro _ W3 ⟨rfl, hb3⟩
        have B3 := Lib.hid (B2.out.trans (hb3.mono B2.out.size))
        clear hb3
        go_wp2
        refine bodyPost_ret (results_tmp3 Try.results12 _ _ _) rfl ?_
        rw [HN.out]
        exact TrP.no B3.out
end
end Go.Proofs.Ytecdgpacofojeaa
