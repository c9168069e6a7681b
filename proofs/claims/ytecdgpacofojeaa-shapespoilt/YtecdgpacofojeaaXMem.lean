/-
  Layer 14 (shape): own words for memory: a slice of nodes as it may be handed in; how it is opened; nodes that were grown.
-/
import Derived.Test.YtecdgpacofojeaaXTree
import Derived.Test.YtecdgpacofojeaaWMem
import Derived.ProofKit
import Derived.Lib.SmallJoins
import Derived.OpenShut
import Derived.SizedLaws
namespace Go.Proofs.Ytecdgpacofojeaa
open Go.RowKit Go.Joins Go.ChangeShapes Go.WideShapes Go.ChangeAt

/-- a node's slices -/
structure XdA (w : World) (x : Xm.Nd) (A1 : Option Addr) (n1 c1 : Nat) (A2 : Option Addr) (n2 c2 : Nat) : Prop where
  ids : Sl w A1 n1 c1 x.ids
  pn : Vec w A2 n2 x.pn
  l1 : n1 ≤ 17592186044416
  l2 : n2 ≤ 35184372088832
/-- a slice of nodes that reads as T -/
structure Xds (w : World) (A : Option Addr) (n c : Nat) (T : List Xm.Nd) : Prop where
  len : T.length = n
  cap : n ≤ c
  nil : A = none → c = 0
  at_ : ∀ (k : Nat) (x : Xm.Nd), T[k]? = some x → ∃ b off, A = some ⟨b, off, none⟩ ∧ b < w.heap.size ∧ ∃ A1 n1 c1 A2 n2 c2, XdA w x A1 n1 c1 A2 n2 c2 ∧
    w.cell? ⟨b, off + k * 6, none⟩ = some (.bool x.leaf) ∧ w.cell? ⟨b, off + k * 6 + 1, none⟩ = some (.slice A1 n1 c1) ∧ w.cell? ⟨b, off + k * 6 + 2, none⟩ = some (.slice A2 n2 c2) ∧
    w.cell? ⟨b, off + k * 6 + 3, none⟩ = some (.int .i64 x.po) ∧ w.cell? ⟨b, off + k * 6 + 4, none⟩ = some (.int .i64 x.lt) ∧ w.cell? ⟨b, off + k * 6 + 5, none⟩ = some (.int .i64 x.rt)
section
variable {w w' : World} {A : Option Addr} {n c : Nat} {T : List Xm.Nd} {x : Xm.Nd} {A1 A2 : Option Addr} {n1 c1 n2 c2 : Nat}
theorem XdA.below (h : XdA w x A1 n1 c1 A2 n2 c2) (hb : Below w.heap.size w w') : XdA w' x A1 n1 c1 A2 n2 c2 := ⟨h.ids.below hb, h.pn.below hb, h.l1, h.l2⟩
theorem Xds.below (h : Xds w A n c T) (hb : Below w.heap.size w w') : Xds w' A n c T := by
  refine ⟨h.len, h.cap, h.nil, fun k x hx => ?_⟩
  obtain ⟨b, off, e, hlt, A1, n1, c1, A2, n2, c2, ha, g0, g1, g2, g3, g4, g5⟩ := h.at_ k x hx
  have up : ∀ (j : Nat) (v : Value), w.cell? ⟨b, j, none⟩ = some v → w'.cell? ⟨b, j, none⟩ = some v := fun j v hv => (hb.cell (p := ⟨b, j, none⟩) hlt).trans hv
  exact ⟨b, off, e, Nat.lt_of_lt_of_le hlt hb.size, A1, n1, c1, A2, n2, c2, ha.below hb, up _ _ g0, up _ _ g1, up _ _ g2, up _ _ g3, up _ _ g4, up _ _ g5⟩
theorem Xds.drewN (h : Xds w A n c T) (d : Nat) : Xds (w.drewN d) A n c T := h.below (bdrew (Below.refl _ w) d)
theorem Xds.nil_ (w : World) : Xds w none 0 0 [] := ⟨rfl, Nat.le_refl _, fun _ => rfl, fun k x hx => by cases hx⟩
theorem Xds.get (h : Xds w A n c T) {k : Nat} (hk : k < n) : ∃ x, T[k]? = some x := ⟨_, List.getElem?_eq_getElem (by rw [h.len]; exact hk)⟩
/-- nodes that were grown -/
theorem Nds.xds {Pr : Nat → Prop} {G : List Wm.Nd} (h : Nds Pr w A n c G) (hl : ∀ t ∈ G, t.ids.length ≤ 1000000) : Xds w A n c (G.map Xm.conv) := by
  refine ⟨by rw [List.length_map]; exact h.len, h.cap, h.nil, fun k x hx => ?_⟩
  rw [List.getElem?_map] at hx
  cases hg : G[k]? with
  | none => rw [hg] at hx; cases hx
  | some t =>
    rw [hg] at hx
    simp only [Option.map_some] at hx
    injection hx with hx
    subst hx
    obtain ⟨b, off, e, hlt, -, A1, n1, c1, A2, n2, c2, ha, g0, g1, g2, g3, g4, g5⟩ := h.at_ hg
    exact ⟨b, off, e, hlt, A1, n1, c1, A2, n2, c2, ⟨ha.ids, ha.pn, by have := hl t (List.mem_of_getElem? hg); have := ha.ids.length; omega, by have := ha.le; omega⟩, g0, g1, g2, g3, g4, g5⟩
end
theorem cellsNode : Try.prog.cellsOf 68 = 6 := by kernel_rfl
theorem cellsPlane : Try.prog.cellsOf 66 = 2 := by kernel_rfl
theorem cellsInts : Try.prog.cellsOf 42 = 1 := by kernel_rfl
theorem cellsI32s : Try.prog.cellsOf 64 = 1 := by kernel_rfl
theorem cellsBool : Try.prog.cellsOf 4 = 1 := by kernel_rfl
theorem cellsInt : Try.prog.cellsOf 3 = 1 := by kernel_rfl
theorem cellsI64 : Try.prog.cellsOf 2 = 1 := by kernel_rfl
section
variable {H : Type} {enc : TypeId × Value → H} {P : Program} {w : World} {base : Nat} {spare : Nat → Bool} {held : Bool}
theorem trod_struct5 {t : TypeId} {f0 f1 f2 f3 f4 : Field} {fuel : Nat} {cs : List Value} {x : DataW H × List MemPlace} (ht : P.underlying t = some (.struct #[f0, f1, f2, f3, f4])) (h : DataW.trod enc P w base spare held fuel t cs = some x) :
    ∃ y0 y1 y2 y3 y4 n, x.1 = .agg [y0.1, y1.1, y2.1, y3.1, y4.1] ∧ DataW.trod enc P w base spare held n f0.type ((cs.drop f0.offset).take (P.cellsOf f0.type)) = some y0 ∧
      DataW.trod enc P w base spare held n f1.type ((cs.drop f1.offset).take (P.cellsOf f1.type)) = some y1 ∧ DataW.trod enc P w base spare held n f2.type ((cs.drop f2.offset).take (P.cellsOf f2.type)) = some y2 ∧
      DataW.trod enc P w base spare held n f3.type ((cs.drop f3.offset).take (P.cellsOf f3.type)) = some y3 ∧ DataW.trod enc P w base spare held n f4.type ((cs.drop f4.offset).take (P.cellsOf f4.type)) = some y4 := by
  obtain ⟨xs, n, _, rfl, hl, hlen, hf⟩ := DataW.trod_struct ht h
  match xs, hlen with
  | [y0, y1, y2, y3, y4], _ => exact ⟨y0, y1, y2, y3, y4, n, rfl, by simpa using hf 0 f0 rfl, by simpa using hf 1 f1 rfl, by simpa using hf 2 f2 rfl, by simpa using hf 3 f3 rfl, by simpa using hf 4 f4 rfl⟩
end
theorem trod_struct2 {H : Type} {enc : TypeId × Value → H} {P : Program} {w : World} {base : Nat} {spare : Nat → Bool} {held : Bool} {t : TypeId} {f0 f1 : Field} {fuel : Nat} {cs : List Value} {x : DataW H × List MemPlace} (ht : P.underlying t = some (.struct #[f0, f1])) (h : DataW.trod enc P w base spare held fuel t cs = some x) :
    ∃ y0 y1 n, x.1 = .agg [y0.1, y1.1] ∧ DataW.trod enc P w base spare held n f0.type ((cs.drop f0.offset).take (P.cellsOf f0.type)) = some y0 ∧ DataW.trod enc P w base spare held n f1.type ((cs.drop f1.offset).take (P.cellsOf f1.type)) = some y1 := by
  obtain ⟨xs, n, _, rfl, hl, hlen, hf⟩ := DataW.trod_struct ht h
  match xs, hlen with
  | [y0, y1], _ => exact ⟨y0, y1, n, rfl, by simpa using hf 0 f0 rfl, by simpa using hf 1 f1 rfl⟩
theorem list6 {α : Type} {cs : List α} (h : cs.length = 6) : ∃ c0 c1 c2 c3 c4 c5, cs = [c0, c1, c2, c3, c4, c5] := by
  match cs, h with
  | [c0, c1, c2, c3, c4, c5], _ => exact ⟨c0, c1, c2, c3, c4, c5, rfl⟩
section
variable {H : Type} {enc : TypeId × Value → H} {W : World} {spare : Nat → Bool}
theorem Try.bytesI : Try.prog.bytesOf 3 = 8 := by kernel_rfl
theorem Try.bytesI32 : Try.prog.bytesOf 21 = 4 := by kernel_rfl
/-- how long a list of numbers is that was read -/
theorem len_reach {t e : TypeId} {k : IntKind} {a b : List Int} {B : Nat} (ht : Try.prog.underlying t = some (.slice e)) (hB : Try.prog.bytesOf e = B) (hw : ∀ y ∈ DataW.weights (H := H) Try.prog t (.slice (lits k a) (lits k b)), y ≤ reachBytes) : (a.length + b.length) * B ≤ 140737488351232 := by
  have := hw ((lits (H := H) k a).length + (lits (H := H) k b).length) |> fun _ => hw (((lits (H := H) k a).length + (lits (H := H) k b).length) * Try.prog.bytesOf e) (by simp [DataW.weights, ht])
  rw [hB] at this
  simpa [lits, reachBytes] using this
/-- a slice of ids within a struct, opened -/
theorem ids_open {fuel : Nat} {v : Value} {x : DataW H × List MemPlace} (h : DataW.trod enc Try.prog W 0 spare true fuel 42 [v] = some x) (hw : ∀ y ∈ DataW.weights Try.prog 42 x.1, y ≤ reachBytes) : ∃ A n c l, v = .slice A n c ∧ Sl W A n c l ∧ n ≤ 17592186044416 := by
  rcases open_ints Try.underlying42 Try.underlying3 (by kernel_rfl) h with ⟨hcs, _⟩ | ⟨a, len, cap, zs, hcs, _, hl, hm, hz, hx, hcell, hwz⟩
  · injection hcs with hcs; subst hcs; exact ⟨none, 0, 0, [], rfl, Sl.none_ _, by omega⟩
  · injection hcs with hcs
    subst hcs
    have hlz : len ≤ zs.length := by rw [hz]; split <;> omega
    rw [hx] at hw
    have hr := len_reach Try.underlying42 Try.bytesI hw
    rw [List.length_take, List.length_drop] at hr
    refine ⟨some a, len, cap, zs.take len, rfl, ⟨?_, hl, fun h => by cases h⟩, by omega⟩
    by_cases h0 : zs.length = 0
    · obtain rfl : len = 0 := by omega
      exact ⟨by simp [ci], fun h => by omega⟩
    · have e : (zs.take len).map (Value.int .i64) = ci (zs.take len) := rfl
      obtain ⟨b, off, sp⟩ := a
      have hs : sp = none := by simpa [Addr.add] using World.cell?_spot (hcell 0 (by omega))
      subst hs
      refine ⟨by rw [← e]; simp; omega, fun _ => ⟨b, off, rfl, by have := cell_block_lt (hcell 0 (by omega)); exact this, fun j u hu => ?_⟩⟩
      rw [← e, List.getElem?_map] at hu
      have hj : j < len := by
        rcases Nat.lt_or_ge j len with h | h
        · exact h
        · rw [List.getElem?_eq_none (by rw [List.length_take]; omega)] at hu; cases hu
      rw [List.getElem?_take_of_lt hj, List.getElem?_eq_getElem (by omega)] at hu
      simp only [Option.map_some] at hu
      injection hu with hu
      subst hu
      have := hcell j (by omega)
      rw [Addr.add_lit] at this
      rw [this, List.getD_eq_getElem?_getD, List.getElem?_eq_getElem (by omega)]; rfl
/-- a slice of coordinates within a struct, opened -/
theorem nums_open {fuel : Nat} {v : Value} {x : DataW H × List MemPlace} (h : DataW.trod enc Try.prog W 0 spare true fuel 64 [v] = some x) (hw : ∀ y ∈ DataW.weights Try.prog 64 x.1, y ≤ reachBytes) : ∃ A n c l, v = .slice A n c ∧ Vec W A n l ∧ n ≤ c ∧ (A = none → c = 0) ∧ n ≤ 35184372088832 := by
  rcases open_ints Try.underlying64 Try.underlying21 (by kernel_rfl) h with ⟨hcs, _⟩ | ⟨a, len, cap, zs, hcs, _, hl, hm, hz, hx, hcell, hwz⟩
  · injection hcs with hcs; subst hcs; exact ⟨none, 0, 0, [], rfl, ⟨Lst.nil _ _ _, by simp⟩, Nat.le_refl _, fun _ => rfl, by omega⟩
  · injection hcs with hcs
    subst hcs
    have hlz : len ≤ zs.length := by rw [hz]; split <;> omega
    rw [hx] at hw
    have hr := len_reach Try.underlying64 Try.bytesI32 hw
    rw [List.length_take, List.length_drop] at hr
    refine ⟨some a, len, cap, zs.take len, rfl, ⟨?_, fun n hn => bounds_i32 (hwz n (List.mem_of_mem_take hn))⟩, hl, (fun h => by cases h), by omega⟩
    by_cases h0 : zs.length = 0
    · obtain rfl : len = 0 := by omega
      exact ⟨by simp, fun h => by omega⟩
    · obtain ⟨b, off, sp⟩ := a
      have hs : sp = none := by simpa [Addr.add] using World.cell?_spot (hcell 0 (by omega))
      subst hs
      refine ⟨by simp; omega, fun _ => ⟨b, off, rfl, by have := cell_block_lt (hcell 0 (by omega)); exact this, fun j u hu => ?_⟩⟩
      rw [List.getElem?_map] at hu
      have hj : j < len := by
        rcases Nat.lt_or_ge j len with h | h
        · exact h
        · rw [List.getElem?_eq_none (by rw [List.length_take]; omega)] at hu; cases hu
      rw [List.getElem?_take_of_lt hj, List.getElem?_eq_getElem (by omega)] at hu
      simp only [Option.map_some] at hu
      injection hu with hu
      subst hu
      have := hcell j (by omega)
      rw [Addr.add_lit] at this
      rw [this, List.getD_eq_getElem?_getD, List.getElem?_eq_getElem (by omega)]; rfl
set_option maxRecDepth 100000 in
/-- a node, opened -/
theorem node_open {fuel : Nat} {cs : List Value} {y : DataW H × List MemPlace} (hl : cs.length = 6) (h : DataW.trod enc Try.prog W 0 spare true fuel 68 cs = some y) (hw : ∀ k ∈ DataW.weights Try.prog 68 y.1, k ≤ reachBytes) :
    ∃ (x : Xm.Nd) (A1 : Option Addr) (n1 c1 : Nat) (A2 : Option Addr) (n2 c2 : Nat), XdA W x A1 n1 c1 A2 n2 c2 ∧ (A2 = none → c2 = 0) ∧ cs = [.bool x.leaf, .slice A1 n1 c1, .slice A2 n2 c2, .int .i64 x.po, .int .i64 x.lt, .int .i64 x.rt] := by
  obtain ⟨v0, v1, v2, v3, v4, v5, rfl⟩ := list6 hl
  obtain ⟨y0, y1, y2, y3, y4, n, hy, h0, h1, h2, h3, h4⟩ := trod_struct5 Try.underlying68 h
  rw [hy] at hw
  have hw1 : ∀ k ∈ DataW.weightsEach Try.prog [4, 42, 66, 3, 3] [y0.1, y1.1, y2.1, y3.1, y4.1], k ≤ reachBytes := by
    intro k hk
    refine hw k ?_
    rw [DataW.weights, Try.underlying68]
    exact hk
  have wI : ∀ k ∈ DataW.weights Try.prog 42 y1.1, k ≤ reachBytes := fun k hk => hw1 k (DataW.weights_mem_each (j := 1) rfl rfl k hk)
  have wP : ∀ k ∈ DataW.weights Try.prog 66 y2.1, k ≤ reachBytes := fun k hk => hw1 k (DataW.weights_mem_each (j := 2) rfl rfl k hk)
  simp only [cellsBool, cellsInts, cellsPlane, cellsInt] at h0 h1 h2 h3 h4
  have t0 : DataW.trod enc Try.prog W 0 spare true n 4 [v0] = some y0 := h0
  have t1 : DataW.trod enc Try.prog W 0 spare true n 42 [v1] = some y1 := h1
  have t2 : DataW.trod enc Try.prog W 0 spare true n 66 [v2, v3] = some y2 := h2
  have t3 : DataW.trod enc Try.prog W 0 spare true n 3 [v4] = some y3 := h3
  have t4 : DataW.trod enc Try.prog W 0 spare true n 3 [v5] = some y4 := h4
  obtain ⟨z0, z1, m, hz, g0, g1⟩ := trod_struct2 Try.underlying66 t2
  rw [hz] at wP
  have wN : ∀ k ∈ DataW.weights Try.prog 64 z0.1, k ≤ reachBytes := by
    intro k hk
    refine wP k ?_
    rw [DataW.weights, Try.underlying66]
    exact DataW.weights_mem_each (ts := [64, 2]) (j := 0) rfl rfl k hk
  simp only [cellsI32s, cellsI64] at g0 g1
  have s0 : DataW.trod enc Try.prog W 0 spare true m 64 [v2] = some z0 := g0
  have s1 : DataW.trod enc Try.prog W 0 spare true m 2 [v3] = some z1 := g1
  obtain ⟨lf, e0, -⟩ := DataW.trod_bool Try.underlying4 t0
  obtain ⟨lt, e3, -⟩ := DataW.trod_int Try.underlying3 t3
  obtain ⟨rt, e4, -⟩ := DataW.trod_int Try.underlying3 t4
  obtain ⟨po, e5, -⟩ := DataW.trod_int Try.underlying2 s1
  obtain ⟨A1, n1, c1, l1, rfl, k1, k2⟩ := ids_open t1 wI
  obtain ⟨A2, n2, c2, l2, rfl, j1, j2, j3, j4⟩ := nums_open s0 wN
  simp at e0 e3 e4 e5
  subst e0
  subst e3
  subst e4
  subst e5
  exact ⟨⟨lf, l1, l2, po, lt, rt⟩, A1, n1, c1, A2, n2, c2, ⟨k1, j1, k2, j4⟩, j3, rfl⟩
theorem Try.bytesNode : Try.prog.bytesOf 68 = 80 := by kernel_rfl
theorem weights_all {e : TypeId} {P : Program} {ds : List (DataW H)} {d : DataW H} (hd : d ∈ ds) : ∀ n ∈ d.weights P e, n ∈ DataW.weightsAll P e ds := by
  intro n hn
  induction ds with
  | nil => cases hd
  | cons a ds ih =>
    rw [DataW.weightsAll, List.mem_append]
    rcases List.mem_cons.1 hd with rfl | hd
    · exact .inl hn
    · exact .inr (ih hd)
/-- a nil list of coordinates has no room -/
def Xdc (w : World) (A : Option Addr) (T : List Xm.Nd) : Prop := ∀ (k b off : Nat) (A2 : Option Addr) (n2 c2 : Nat), k < T.length → A = some ⟨b, off, none⟩ → w.cell? ⟨b, off + k * 6 + 2, none⟩ = some (.slice A2 n2 c2) → A2 = none → c2 = 0
set_option maxRecDepth 100000 in
/-- a slice of nodes that came in -/
theorem nodes_open {fuel : Nat} {A : Option Addr} {len cap : Nat} {y : DataW H × List MemPlace} (h : DataW.trod enc Try.prog W 0 spare true fuel 22 [.slice A len cap] = some y) (hw : ∀ k ∈ DataW.weights Try.prog 22 y.1, k ≤ reachBytes) : ∃ T, Xds W A len cap T ∧ Xdc W A T ∧ len ≤ 2000000000000 := by
  rcases Go.Deep.open_slice Try.underlying22 h with ⟨hcs, _⟩ | ⟨a, l, c, m, n, D, Pl, hcs, _, hl, hm, hmm, hy, hx⟩
  · simp at hcs
    obtain ⟨rfl, rfl, rfl⟩ := hcs
    exact ⟨[], Xds.nil_ _, (fun k b off A2 n2 c2 hk => by simp at hk), by omega⟩
  · simp at hcs
    obtain ⟨rfl, rfl, rfl⟩ := hcs
    have hlm : len ≤ m := by rw [hmm]; split <;> omega
    rw [cellsNode] at hx
    rw [hy, DataW.weights, Try.underlying22] at hw
    have hlen0 := hw _ (.head _)
    rw [Try.bytesNode] at hlen0
    simp only [List.length_map, List.length_range, reachBytes] at hlen0
    have hwD : ∀ i, i < len → ∀ k ∈ DataW.weights Try.prog 68 (D i), k ≤ reachBytes := fun i hi k hk =>
      hw k (.tail _ (List.mem_append_left _ (weights_all (List.mem_map.2 ⟨i, List.mem_range.2 hi, rfl⟩) k hk)))
    obtain ⟨F, hF⟩ : ∃ F : Nat → Xm.Nd, ∀ i, i < len → ∃ A1 n1 c1 A2 n2 c2, XdA W (F i) A1 n1 c1 A2 n2 c2 ∧ (A2 = none → c2 = 0) ∧ ∀ (j : Nat) (u : Value), ([.bool (F i).leaf, .slice A1 n1 c1, .slice A2 n2 c2, .int .i64 (F i).po, .int .i64 (F i).lt, .int .i64 (F i).rt] : List Value)[j]? = some u → W.cell? ((a.add (i * 6)).add j) = some u := by
      refine Go.Deep.choose_lt (α := Xm.Nd) (p := fun i x => ∃ A1 n1 c1 A2 n2 c2, XdA W x A1 n1 c1 A2 n2 c2 ∧ (A2 = none → c2 = 0) ∧ ∀ (j : Nat) (u : Value), ([.bool x.leaf, .slice A1 n1 c1, .slice A2 n2 c2, .int .i64 x.po, .int .i64 x.lt, .int .i64 x.rt] : List Value)[j]? = some u → W.cell? ((a.add (i * 6)).add j) = some u) (n := len) fun i hi => ?_
      obtain ⟨cs', h1, h2⟩ := hx i (by omega)
      obtain ⟨_, hlen, hcell⟩ := World.cells?_some h1
      obtain ⟨x, A1, n1, c1, A2, n2, c2, hxd, hnl, rfl⟩ := node_open hlen h2 (hwD i hi)
      refine ⟨x, A1, n1, c1, A2, n2, c2, hxd, hnl, fun j u hu => ?_⟩
      have hj : j < 6 := by have := (List.getElem?_eq_some_iff.1 hu).1; simpa using this
      rw [hcell j hj, hu]
    refine ⟨(List.range len).map F, ⟨by simp, hl, fun h => (by cases h), fun k x hk => ?_⟩, fun k b off A2 n2 c2 hk ha hc2 hn => ?_, by omega⟩
    rotate_left
    · obtain ⟨B1, m1, d1, B2, m2, d2, -, hnl, hc⟩ := hF k (by simpa using hk)
      injection ha with ha
      subst ha
      simp only [Addr.add_lit] at hc
      have h2 := (hc 2 _ rfl).symm.trans hc2
      injection h2 with h2
      injection h2 with h3 h4 h5
      rw [← h5]
      exact hnl (h3.trans hn)
    have hkn : k < len := by have := (List.getElem?_eq_some_iff.1 hk).1; simpa using this
    rw [List.getElem?_map, List.getElem?_range hkn] at hk
    simp only [Option.map_some] at hk
    injection hk with hk
    subst hk
    obtain ⟨A1, n1, c1, A2, n2, c2, hxd, -, hc⟩ := hF k hkn
    obtain ⟨b, off, sp⟩ := a
    obtain ⟨B1, m1, d1, B2, m2, d2, -, -, hc0⟩ := hF 0 (by omega)
    have hs : sp = none := by simpa [Addr.add] using World.cell?_spot (hc0 0 _ rfl)
    subst hs
    simp only [Addr.add_lit] at hc
    have k0 := hc 0 _ rfl
    exact ⟨b, off, rfl, by have := cell_block_lt k0; exact this, A1, n1, c1, A2, n2, c2, hxd, k0, hc 1 _ rfl, hc 2 _ rfl, hc 3 _ rfl, hc 4 _ rfl, hc 5 _ rfl⟩
end
end Go.Proofs.Ytecdgpacofojeaa
