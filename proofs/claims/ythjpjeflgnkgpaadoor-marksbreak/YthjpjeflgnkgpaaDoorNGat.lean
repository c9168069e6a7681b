/-
  Layer 9 (marks): ids that are told, gathered one by one in a row of one's own whose variable lies in a block; slices.Collect of what All hands back, by contract.
-/
import Derived.Test.YthjpjeflgnkgpaaDoorNIter
namespace Go.Proofs.YthjpjeflgnkgpaaDoor
open Go.RowKit Go.Shelf Go.Maps
attribute [local go_sem] Oper.semAt_some

theorem tab_below {tab : List Nat} {g : Nat} {w W : World} (h : TabAt g tab w) (hb : Below w.heap.size w W) : TabAt g tab W := fun j hj => (hb.cell (p := ⟨g, j, none⟩) (cell_block_lt (h j hj))).trans (h j hj)
/-- the first k of LL are gathered in v, whose variable is block p, made since w0; the loop begins in WD (its two blocks are the next ones) -/
structure GatV (w0 WD : World) (p : Nat) (LL : List Int) (k : Nat) (v : Value) (W : World) : Prop where
  var : W.heap[p]? = some (.cells #[v] 22 (0, 0))
  row : W.ownsRow (WD.heap.size + 2) 3 1 v k (ci (LL.take k))
  be : Below w0.heap.size w0 W
  sz : WD.heap.size + 2 ≤ W.heap.size
  kp : Kept (fun q => q = p) WD W
section
variable {w0 WD W W' : World} {p k : Nat} {LL : List Int} {v : Value}
theorem GatV.off (h : GatV w0 WD p LL k v W) (hp : p < WD.heap.size) (hw : w0.heap.size ≤ p) (ho : Off (WD.heap.size + 1) W W') : GatV w0 WD p LL k v W' := by
  refine ⟨(ho.block _ (by omega)).trans h.var, ?_, h.be.trans ⟨ho.os, ho.tape, ho.output, by rw [ho.size]; exact Nat.le_refl _, fun j hj => ho.block j (by omega)⟩, by rw [ho.size]; exact h.sz, h.kp.trans (S' := fun q => q = WD.heap.size + 1) ⟨ho.os, ho.tape, ho.output, by rw [ho.size]; exact Nat.le_refl _, fun j _ hj => ho.block j hj⟩ fun j hj => .inr (by omega)⟩
  refine ⟨h.row.1, ?_⟩
  rcases h.row.2 with h0 | ⟨g, cap, cur, h1, h2, h3, h4⟩
  · exact .inl h0
  · exact .inr ⟨g, cap, cur, h1, h2, (ho.block g (by omega)).trans h3, h4⟩
theorem GatV.below (h : GatV w0 WD p LL k v W) (hb : Below W.heap.size W W') : GatV w0 WD p LL k v W' := ⟨(hb.block _ (lt_of_block h.var)).trans h.var, own_below h.row hb, h.be.trans (hb.mono h.be.size), Nat.le_trans h.sz hb.size, h.kp.below hb⟩
theorem GatV.cell (h : GatV w0 WD p LL k v W) : W.cell? ⟨p, 0, none⟩ = some v := by rw [cell_of_row _ _ _ _ _ _ h.var]; rfl
theorem GatV.done (h : GatV w0 WD p LL k v W) (hw : w0.heap.size ≤ WD.heap.size) (o : Obj) : (W.putObj WD.heap.size o).ownsRow w0.heap.size 3 1 v k (ci (LL.take k)) ∧ Below w0.heap.size w0 (W.putObj WD.heap.size o) := by
  refine ⟨⟨h.row.1, ?_⟩, h.be.trans (below_put hw o)⟩
  rcases h.row.2 with h0 | ⟨g, cap, cur, h1, h2, h3, h4⟩
  · exact .inl h0
  · exact .inr ⟨g, cap, cur, h1, by omega, (World.putObj_heap_other (by omega)).trans h3, h4⟩
/-- one more is gathered -/
theorem GatV.push (h : GatV w0 WD p LL k v W) (hp : p < WD.heap.size) (hw : w0.heap.size ≤ p) {x : Int} (hx : LL[k]? = some x) {W2 : World} {g cap : Nat}
    (r1 : W2.ownsRow (WD.heap.size + 2) 3 1 (.slice (some ⟨g, 0, none⟩) (k + 1) cap) (k + 1) (ci (LL.take k) ++ [.int .i64 x])) (r2 : (W.alloc (.cells #[.int .i64 x] 3)).grownBy W2 v.ownBlock) :
    W2.cell? ⟨p, 0, none⟩ = some v ∧ W2.frozen? ⟨p, 0, none⟩ = false ∧ GatV w0 WD p LL (k + 1) (.slice (some ⟨g, 0, none⟩) (k + 1) cap) (W2.setCell ⟨p, 0, none⟩ (.slice (some ⟨g, 0, none⟩) (k + 1) cap)) ∧ KeepsFrom WD.heap.size W (W2.setCell ⟨p, 0, none⟩ (.slice (some ⟨g, 0, none⟩) (k + 1) cap)) := by
  have hpl := lt_of_block h.var
  have hv2 : W2.heap[p]? = some (.cells #[v] 22 (0, 0)) := by
    refine (r2.block p (by simp; omega) (fun e => ?_)).trans ((Below.heap_alloc _ _ _ hpl).trans h.var)
    have := own_block h.row p e.symm
    omega
  have hg : WD.heap.size + 2 ≤ g := own_block r1 g rfl
  have hsz : WD.heap.size + 2 ≤ W2.heap.size := by have := r2.size; have := h.sz; simp at *; omega
  refine ⟨by rw [cell_of_row _ _ _ _ _ _ hv2]; rfl, frozen_of_row _ _ _ _ _ hv2, ⟨one_set hv2, ?_, ?_, by simp [World.setCell]; exact hsz, ?_⟩, ?_⟩
  · have e : ci (LL.take (k + 1)) = ci (LL.take k) ++ [.int .i64 x] := by rw [List.take_add_one, hx]; simp [ci]
    rw [e]
    refine ⟨r1.1, ?_⟩
    rcases r1.2 with h0 | ⟨g', cap', cur, h1, h2, h3, h4⟩
    · exact .inl h0
    · exact .inr ⟨g', cap', cur, h1, h2, (Below.heap_setCell _ _ _ _ (by show g' ≠ p; omega)).trans h3, h4⟩
  · have hb1 := h.be.alloc h.be.size (.cells #[.int .i64 x] 3)
    exact (hb1.grown r2 hb1.size (fun j hj => by have := own_block h.row j hj; omega)).setCell (p := ⟨p, 0, none⟩) hw _
  · have hk1 := h.kp.below ((Below.refl _ W).alloc (Nat.le_refl _) (.cells #[.int .i64 x] 3))
    exact (hk1.grown r2 (fun j hj => by have := own_block h.row j hj; exact .inr (by omega))).setCell (.inl rfl)
  · refine kf_trans (b := W2) ?_ (kf_cell hv2)
    refine ⟨by have := r2.size; simp at this; omega, fun j o hj ho hc => ?_⟩
    have hjl := (Array.getElem?_eq_some_iff.1 ho).1
    refine (r2.block j (by simp; omega) (fun e => ?_)).trans ((Below.heap_alloc _ _ _ hjl).trans ho)
    replace e := e.symm
    rcases h.row.2 with ⟨h1, _⟩ | ⟨g', cap', cur, h1, h2, h3, h4⟩
    · rw [h1] at e; simp [Value.ownBlock] at e
    · rw [h1] at e
      simp [Value.ownBlock] at e
      subst e
      rw [ho] at h3
      injection h3 with h3
      subst h3
      cases hc
end
set_option maxHeartbeats 1600000 in
set_option maxRecDepth 100000 in
theorem appA (lo g1 g2 : Nat) (LL : List Int) (w : World) (ha : Alc w lo g1 g2 LL) (hT : TabAt 0 Lib.deBruijn64tab w) (hlen : LL.length ≤ 1000000) :
    Calls Tryd.prog 35 #[.slice none 0 0, .func (.func 26) #[] #[.pointer (some ⟨g1, 0, none⟩), .pointer (some ⟨g2, 0, none⟩)]] w fun e w' => ∃ v, e = .returned v ∧ w'.ownsRow w.heap.size 3 1 v LL.length (ci LL) ∧ Below w.heap.size w w' := by
  obtain ⟨i0, hi, hz0, hz1, hz2⟩ := info_parts Tryd.infoI
  have HA := Lib.hid ha
  have HT := Lib.hid hT
  obtain ⟨W0, hW0⟩ : ∃ W0, W0 = w.alloc (.cells #[.slice none 0 0] 22) := ⟨_, rfl⟩
  have s0 : W0.heap.size = w.heap.size + 1 := by rw [hW0]; simp
  have r0 : W0.heap[w.heap.size]? = some (.cells #[.slice none 0 0] 22 (0, 0)) := by rw [hW0]; exact heap_new w _ _
  have b0 : Below w.heap.size w W0 := by rw [hW0]; exact (Below.refl _ w).alloc (Nat.le_refl _) _
  have HW0 := Lib.hid hW0
  have R0 := Lib.hid r0
  have B0 := Lib.hid b0
  clear ha hT hW0 r0 b0
  refine (callsIn_wide (n := 6)).1 ?_
  refine callsIn_of_wp_marks Tryd.func35 rfl trivial ?_ rfl
  simp only [Tryd.ntmps35, List.size_toArray, List.length_cons, List.length_nil, Nat.reduceAdd, Nat.reduceSub, Array.replicate_succ, Array.replicate_zero, List.push_toArray, List.append_toArray, List.nil_append, List.cons_append]
  gi_wp2
  rw [← HW0.out]
  have hp : w.heap.size < W0.heap.size := by omega
  have hw : w.heap.size ≤ w.heap.size := Nat.le_refl _
  refine range_keeps (n := 6) rfl (by omega) (gf := 26) (lb := #[.pointer (some ⟨g1, 0, none⟩), .pointer (some ⟨g2, 0, none⟩)]) rfl trivial (enters_of Tryd.func26 (by kernel_rfl) rfl)
    (fun k W => ∃ v, GatV w W0 w.heap.size LL k v W)
    (fun k vs W => ∃ x v, LL[k]? = some x ∧ vs = #[.int .i64 x] ∧ GatV w W0 w.heap.size LL k v W)
    (fun W => ∃ v, GatV w W0 w.heap.size LL LL.length v W)
    (fun _ _ => False)
    (fun vs t => (t.setIfInBounds 7 (vs.getD 0 undef)).setIfInBounds 5 (vs.getD 0 undef))
    (fun k W W' h ho => by obtain ⟨v, h⟩ := h; exact ⟨v, h.off hp hw ho⟩) (fun k vs W W' h ho => by obtain ⟨x, v, h1, h2, h3⟩ := h; exact ⟨x, v, h1, h2, h3.off hp hw ho⟩) (fun W W' h ho => by obtain ⟨v, h⟩ := h; exact ⟨v, h.off hp hw ho⟩)
    (fun c W W' h hb => h) (fun k vs W h => by obtain ⟨x, v, h1, h2, h3⟩ := h; rw [h2]; rfl)
    (fun W hb hs => ⟨.slice none 0 0, (hb.block _ (by omega)).trans R0.out, World.ownsRow_nil _ _ _ _, B0.out.trans (hb.mono B0.out.size), by omega, Kept.of_below hb⟩) ?iter ?assign ?body ?done ?stop
  case iter =>
    intro y Kk Y hK hY W hI hKW
    exact iterA (m := 4) HA.out (fun k W => ∃ v, GatV w W0 w.heap.size LL k v W) Kk Y (fun k W h => by obtain ⟨v, h⟩ := h; exact ⟨Kept.of_below h.be, tab_below HT.out h.be⟩) (fun k x W hx hI hKW => hY k _ W (by obtain ⟨v, h⟩ := hI; exact ⟨x, v, hx, rfl, h⟩) hKW) W hI hKW
  case assign =>
    rintro y k vs W K ⟨x, v, -, rfl, -⟩ hK
    gi_wp2
    exact hK
  case body =>
    rintro y k vs W ⟨x, v, hx, rfl, hg⟩
    have hkl : k < LL.length := (List.getElem?_eq_some_iff.1 hx).1
    have hpc := hg.cell
    have hpf := frozen_of_row W w.heap.size 0 _ _ hg.var
    have HG := Lib.hid hg
    have HPU := Lib.hid (fun (W2 : World) (g cap : Nat) => hg.push (W2 := W2) (g := g) (cap := cap) hp hw hx)
    generalize hP : leftBy W0.heap.size _ _ W = Pst
    have HP := Lib.hid hP
    have hsz := hg.sz
    clear hP hg hx
    gi_wp2_with (gi_at_builtin; refine push_in _ rfl (.tmp 8) (.tmp 10) 22 rfl (W0.heap.size + 2) 3 i0 (.int .i64 0) 8 Tryd.underlying22 hi hz0 hz1 hz2 rfl v k (ci (LL.take k)) rfl (own_below HG.out.row ((Below.refl _ W).alloc (Nat.le_refl _) _)) W.heap.size (.int .i64 x) rfl (heap_new _ _ _) rfl (by omega) (by omega) (by simp; omega) ?_; intro g cap' W2 r1 r2 r3; obtain ⟨m3, f3, p1, p2⟩ := HPU.out W2 g cap' r1 r2; have HPP := Lib.hid (And.intro p2 p1); clear r1 r2 r3 p1 p2)
    rw [← HP.out]
    exact ⟨HPP.out.1, _, HPP.out.2⟩
  case done =>
    rintro D W rfl ⟨v, hg⟩ hK
    have hpc := hg.cell
    have HG := Lib.hid hg
    have HKD := Lib.hid hK
    clear hg hK
    gi_wp2
    refine ⟨by simp, .inl ⟨_, _, rfl, run_takeDeferred HKD.out, ?_⟩⟩
    obtain ⟨d1, d2⟩ := HG.out.done (by omega) (.deferred none)
    rw [List.take_length] at d1
    exact ⟨_, results_tmp rfl _ _ _, v, rfl, d1, d2⟩
  case stop => rintro D c W hD h; exact h.elim
theorem collA (lo g1 g2 : Nat) (LL : List Int) (w : World) (ha : Alc w lo g1 g2 LL) (hT : TabAt 0 Lib.deBruijn64tab w) (hlen : LL.length ≤ 1000000) :
    Calls Tryd.prog 19 #[.func (.func 26) #[] #[.pointer (some ⟨g1, 0, none⟩), .pointer (some ⟨g2, 0, none⟩)]] w fun e w' => ∃ v, e = .returned v ∧ w'.ownsRow w.heap.size 3 1 v LL.length (ci LL) ∧ Below w.heap.size w w' := by
  have HA := Lib.hid (appA lo g1 g2 LL w ha hT hlen)
  clear ha hT
  go_enter Tryd.func19, Tryd.ntmps19
  go_wp2_with fail
  refine HA.out.mono ?_
  rintro _ W1 ⟨v, rfl, h1, h2⟩
  have H1 := Lib.hid h1
  have H2 := Lib.hid h2
  clear h1 h2
  go_wp2
  go_ret
  exact ⟨v, rfl, H1.out, H2.out⟩
end Go.Proofs.YthjpjeflgnkgpaaDoor
