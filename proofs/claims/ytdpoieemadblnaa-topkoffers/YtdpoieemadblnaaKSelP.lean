/-
  Layer 8 (topk): a selector, as memory holds it; New, Last, Len, and what gives way, by contracts.
-/
import Derived.Test.YtdpoieemadblnaaKNewP
import Derived.Test.YtdpoieemadblnaaKPshP
import Derived.Deep.RegionHeld3
namespace Go.Proofs.Ytdpoieemadblnaa
open Go.RowKit

theorem klenP (cb : Nat) (S : Nat → Prop) (B : Nat) (l : List Km.Ent) (w : World) (h : HpkP cb w S B l) :
    Calls Try.prog 30 #[.pointer (some ⟨B, 0, none⟩)] w fun e w' => e = .returned (.int .i64 (l.length : Int)) ∧ w' = w := by
  obtain ⟨xs, h1, -, h3⟩ := h
  obtain ⟨A, c, -, cl, -⟩ := h1.d.list
  rw [h3.length_eq] at cl
  clear h1 h3
  go_enter Try.func30, Try.ntmps30
  go_wp2
  go_ret
  exact ⟨rfl, rfl⟩
theorem kpeekP (cb : Nat) (S : Nat → Prop) (B : Nat) (es : List Km.Ent) (w : World) (h : HpkP cb w S B es) (hs : Km.So Om.less es) :
    Calls Try.prog 35 #[.pointer (some ⟨B, 0, none⟩)] w fun e w' => e = .returned (.tuple #[.agg #[.int .i64 (lastE es).1.1, .int .i64 (lastE es).1.2, .int .i64 (lastE es).2], .bool (decide (0 < es.length))]) ∧ Below w.heap.size w w' := by
  obtain ⟨xs, h1, h2, h3⟩ := h
  have hp := kpeekP_row cb S B xs w h1
  have e : xs[0]?.getD ((0, 0), 0) = lastE es := by
    cases xs with
    | nil => rw [h3.symm.eq_nil]; rfl
    | cons x xs =>
      have hle := Hm.Hp.least (Km.lat_ord Om.less_ord) h2 (x := x) rfl
      rcases List.eq_nil_or_concat es with rfl | ⟨es0, z, rfl⟩
      · exact absurd h3.eq_nil (by simp)
      · rw [List.concat_eq_append] at *
        have := hs.peeks Om.less_ord (x := x) (h3.subset (by simp)) fun y hy => hle y (h3.symm.subset hy)
        simp [lastE, this]
  rw [e, h3.length_eq] at hp
  exact hp

/-- a thing and a bool as results -/
theorem sresultsP {fn : Func} {p u : Tmp} (h : fn.results = #[.cell p 27, .tmp u]) (tmps : Array Value) (w : World) (g : Nat) (x1 x2 : Int)
    (hp : tmps.getD p undef = .pointer (some ⟨g, 0, none⟩)) (hg : w.heap[g]? = some (.cells #[.int .i64 x1, .int .i64 x2] 27 (0, 0))) :
    (results fn tmps).run Try.prog w = .ok (.tuple #[.agg #[.int .i64 x1, .int .i64 x2], tmps.getD u undef]) w := by
  rw [results_cell_tmp h]
  have hp' : tmps[p]?.getD undef = .pointer (some ⟨g, 0, none⟩) := by simpa using hp
  have hs : (Try.prog.info? 27).map (·.size) = some 2 := by kernel_rfl
  simp [hp', asAddr, Result.andThen, run_loadVar_row w g 27 27 _ (0, 0) _ hg Try.underlying27 rfl hs]

/-- a selector at block s, its heap at B (within Sh), its entries es, of which q came so far; all of it within S -/
structure SelIP (w : World) (S : Nat → Prop) (s : Nat) (m : Int) (c : Nat) (cb B : Nat) (Sh : Nat → Prop) (q : Nat) (es : List Km.Ent) : Prop where
  blk : w.heap[s]? = some (.cells #[.func (.func 10) #[] #[], .int .i64 m, .int .i64 (q : Int), .pointer (some ⟨B, 0, none⟩)] 65 (0, 0))
  hp : HpkP cb w Sh B es
  sub : ∀ k, Sh k → S k
  ss : S s
  ns : ¬ Sh s
  lt : ∀ k, S k → k < w.heap.size
  so : Km.So Om.less es
  old : ∀ y ∈ es, y.2 < (q : Int)
  qc : q ≤ c
  len : es.length ≤ c
/-- a selector that keeps those of K, in order: m at most; at most c came -/
def SelP (w : World) (S : Nat → Prop) (s : Nat) (m : Int) (c : Nat) (K : List Om.E) : Prop := ∃ cb B Sh q es, SelIP w S s m c cb B Sh q es ∧ es.map Prod.fst = K
section
variable {w w' : World} {S S' : Nat → Prop} {s : Nat} {m : Int} {c c' cb B q : Nat} {Sh : Nat → Prop} {es : List Km.Ent} {K : List Om.E}
theorem SelIP.keep (h : SelIP w S s m c cb B Sh q es) (hs : w.heap.size ≤ w'.heap.size) (hk : ∀ k, S k → w'.heap[k]? = w.heap[k]?) : SelIP w' S s m c cb B Sh q es :=
  ⟨(hk s h.ss).trans h.blk, h.hp.keep hs fun k hS => hk k (h.sub k hS), h.sub, h.ss, h.ns, fun k hS => Nat.lt_of_lt_of_le (h.lt k hS) hs, h.so, h.old, h.qc, h.len⟩
theorem SelIP.below (h : SelIP w S s m c cb B Sh q es) (hb : Below w.heap.size w w') : SelIP w' S s m c cb B Sh q es := h.keep hb.size fun k hS => hb.block k (h.lt k hS)
theorem SelIP.drew (h : SelIP w S s m c cb B Sh q es) : SelIP w.drew S s m c cb B Sh q es := h.keep (Nat.le_refl _) fun _ _ => rfl
theorem SelIP.cells (h : SelIP w S s m c cb B Sh q es) : w.cell? ⟨s, 0, none⟩ = some (.func (.func 10) #[] #[]) ∧ w.cell? ⟨s, 1, none⟩ = some (.int .i64 m) ∧ w.cell? ⟨s, 2, none⟩ = some (.int .i64 (q : Int)) ∧ w.cell? ⟨s, 3, none⟩ = some (.pointer (some ⟨B, 0, none⟩)) :=
  ⟨by rw [cell_of_row _ _ _ _ _ _ h.blk]; rfl, by rw [cell_of_row _ _ _ _ _ _ h.blk]; rfl, by rw [cell_of_row _ _ _ _ _ _ h.blk]; rfl, by rw [cell_of_row _ _ _ _ _ _ h.blk]; rfl⟩
theorem SelP.keep (h : SelP w S s m c K) (hs : w.heap.size ≤ w'.heap.size) (hk : ∀ k, S k → w'.heap[k]? = w.heap[k]?) : SelP w' S s m c K := by obtain ⟨cb, B, Sh, q, es, h1, h2⟩ := h; exact ⟨cb, B, Sh, q, es, h1.keep hs hk, h2⟩
theorem SelP.in_ (h : SelP w S s m c K) : ∀ k, S k → k < w.heap.size := by obtain ⟨cb, B, Sh, q, es, h1, h2⟩ := h; exact h1.lt
theorem SelP.below (h : SelP w S s m c K) (hb : Below w.heap.size w w') : SelP w' S s m c K := h.keep hb.size fun k hS => hb.block k (h.in_ k hS)
theorem SelP.drew (h : SelP w S s m c K) : SelP w.drew S s m c K := h.keep (Nat.le_refl _) fun _ _ => rfl
theorem SelP.other (h : SelP w S s m c K) (hb : Kept S' w w') (ho : ∀ k, S k → ¬ S' k) : SelP w' S s m c K := h.keep hb.size fun k hS => hb.block k (h.in_ k hS) (ho k hS)
theorem SelP.more (h : SelP w S s m c K) (hc : c ≤ c') : SelP w S s m c' K := by obtain ⟨cb, B, Sh, q, es, h1, h2⟩ := h; exact ⟨cb, B, Sh, q, es, ⟨h1.blk, h1.hp, h1.sub, h1.ss, h1.ns, h1.lt, h1.so, h1.old, Nat.le_trans h1.qc hc, Nat.le_trans h1.len hc⟩, h2⟩
theorem SelP.own (h : SelP w S s m c K) : S s := by obtain ⟨cb, B, Sh, q, es, h1, h2⟩ := h; exact h1.ss
theorem SelP.length (h : SelP w S s m c K) : K.length ≤ c := by obtain ⟨cb, B, Sh, q, es, h1, rfl⟩ := h; simpa using h1.len
end

theorem snewP (m : Int) (w : World) :
    Calls Try.prog 9 #[.func (.func 10) #[] #[], .int .i64 m] w fun e w' => ∃ (S : Nat → Prop) (s : Nat), e = .returned (.pointer (some ⟨s, 0, none⟩)) ∧ SelP w' S s m 0 [] ∧ Below w.heap.size w w' ∧ ∀ k, S k → w.heap.size ≤ k := by
  go_enter Try.func9, Try.ntmps9
  go_wp2_with fail
  refine (laterP _).mono ?_
  rintro _ w1 ⟨rfl, hw1⟩
  have hc1 : CapP w1 w.heap.size := by rw [hw1]; exact heap_alloc_new w _
  have hb1 : Below w.heap.size w w1 := by rw [hw1]; exact (Below.refl _ w).alloc (Nat.le_refl _) _
  have hs1 : w1.heap.size = w.heap.size + 1 := by rw [hw1]; simp
  have HC1 := Lib.hid hc1
  have HB1 := Lib.hid hb1
  clear hc1 hb1 hw1
  go_wp2_with fail
  refine (knewP w.heap.size none 0 0 [] _ HC1.out (VecK.nil_ _ _) (fun _ => rfl) (by omega)).mono ?_
  rintro _ w2 ⟨Sh, B, rfl, hh, hb2, hS⟩
  have hs2 := hb2.size
  have hb3 : Below w.heap.size w (w2.alloc (.cells #[.func (.func 10) #[] #[], .int .i64 m, .int .i64 0, .pointer (some ⟨B, 0, none⟩)] 65)) := (HB1.out.trans (hb2.mono HB1.out.size)).alloc (by omega) _
  have hq := hh.in_
  have HSEL : Hid (SelIP (w2.alloc (.cells #[.func (.func 10) #[] #[], .int .i64 m, .int .i64 0, .pointer (some ⟨B, 0, none⟩)] 65)) (fun k => Sh k ∨ k = w2.heap.size) w2.heap.size m 0 w.heap.size B Sh 0 []) :=
    ⟨heap_alloc_new w2 _, hh.below ((Below.refl _ w2).alloc (Nat.le_refl _) _), fun k h => .inl h, .inr rfl, fun h => by have := hq _ h; omega, fun k h => by
      simp
      rcases h with h | h
      · have := hq k h; omega
      · omega, List.Pairwise.nil, fun y hy => by simp at hy, Nat.le_refl _, Nat.le_refl _⟩
  have HB3 := Lib.hid hb3
  have HSS : Hid (∀ k, (fun k => Sh k ∨ k = w2.heap.size) k → w.heap.size ≤ k) := by
    intro k hk
    rcases hk with hk | hk
    · rcases hS k hk with e | e <;> omega
    · omega
  clear hh hb2 hS hb3 hq
  go_wp2
  go_ret
  exact ⟨_, _, rfl, ⟨_, _, _, _, _, HSEL.out, rfl⟩, HB3.out, HSS.out⟩

theorem slenP (S : Nat → Prop) (s : Nat) (m : Int) (c : Nat) (K : List Om.E) (w : World) (h : SelP w S s m c K) :
    Calls Try.prog 14 #[.pointer (some ⟨s, 0, none⟩)] w fun e w' => e = .returned (.int .i64 (K.length : Int)) ∧ w' = w := by
  obtain ⟨cb, B, Sh, q, es, h1, rfl⟩ := h
  obtain ⟨-, -, -, c3⟩ := h1.cells
  have HL := Lib.hid (klenP cb Sh B es w h1.hp)
  rw [List.length_map]
  clear h1
  go_enter Try.func14, Try.ntmps14
  go_wp2_with fail
  refine HL.out.mono ?_
  rintro _ _ ⟨rfl, rfl⟩
  go_wp2
  go_ret
  exact ⟨rfl, rfl⟩

theorem slastP (S : Nat → Prop) (s : Nat) (m : Int) (c : Nat) (K : List Om.E) (w : World) (h : SelP w S s m c K) :
    Calls Try.prog 17 #[.pointer (some ⟨s, 0, none⟩)] w fun e w' => e = .returned (.tuple #[.agg #[.int .i64 (K.getLast?.getD (0, 0)).1, .int .i64 (K.getLast?.getD (0, 0)).2], .bool (decide (0 < K.length))]) ∧ Below w.heap.size w w' := by
  obtain ⟨cb, B, Sh, q, es, h1, rfl⟩ := h
  have hb0 := (Below.refl _ w).alloc (Nat.le_refl _) (.cells #[.int .i64 0, .int .i64 0] 27)
  have h2 := h1.below hb0
  obtain ⟨-, -, -, c3⟩ := h2.cells
  rw [← lastE_fst, List.length_map]
  have HP := Lib.hid (kpeekP cb Sh B es _ h2.hp h2.so)
  generalize lastE es = z at *
  obtain ⟨⟨z1, z2⟩, z3⟩ := z
  have rz0 : (w.alloc (.cells #[.int .i64 0, .int .i64 0] 27)).heap[w.heap.size]? = some (.cells #[.int .i64 0, .int .i64 0] 27 (0, 0)) := heap_alloc_new w _
  have s0 : (w.alloc (.cells #[.int .i64 0, .int .i64 0] 27)).heap.size = w.heap.size + 1 := by simp
  have HB0 := Lib.hid hb0
  have HR0 := Lib.hid rz0
  clear h1 h2 hb0 rz0
  go_enter Try.func17, Try.ntmps17
  go_wp2_with fail
  refine HP.out.mono ?_
  rintro _ w1 ⟨rfl, hb1⟩
  have hs1 := hb1.size
  have hb2 : Below w.heap.size w (w1.alloc (.cells #[.int .i64 z1, .int .i64 z2, .int .i64 z3] 61)) := (HB0.out.trans (hb1.mono (by omega))).alloc (by omega) _
  have rz : (w1.alloc (.cells #[.int .i64 z1, .int .i64 z2, .int .i64 z3] 61)).heap[w.heap.size]? = some (.cells #[.int .i64 0, .int .i64 0] 27 (0, 0)) := by
    rw [Below.heap_alloc _ _ _ (by omega), hb1.block _ (by omega)]
    exact HR0.out
  have cz0 := cell_of_row _ _ 0 _ _ _ rz
  have cz1 := cell_of_row _ _ 1 _ _ _ rz
  have fz0 := frozen_of_row _ _ 0 _ _ rz
  have fz1 := frozen_of_row _ _ 1 _ _ rz
  have HB2 := Lib.hid hb2
  have HRZ := Lib.hid rz
  clear hb1 hb2 rz HP
  go_wp2
  have h1 : ((w1.alloc (.cells #[.int .i64 z1, .int .i64 z2, .int .i64 z3] 61)).setCell ⟨w.heap.size, 0, none⟩ (.int .i64 z1)).heap[w.heap.size]? = some (.cells #[.int .i64 z1, .int .i64 0] 27 (0, 0)) := by rw [heap_setCell_same _ _ _ _ _ _ HRZ.out]; rfl
  have h2 : (((w1.alloc (.cells #[.int .i64 z1, .int .i64 z2, .int .i64 z3] 61)).setCell ⟨w.heap.size, 0, none⟩ (.int .i64 z1)).setCell ⟨w.heap.size, 1, none⟩ (.int .i64 z2)).heap[w.heap.size]? = some (.cells #[.int .i64 z1, .int .i64 z2] 27 (0, 0)) := by rw [heap_setCell_same _ _ _ _ _ _ h1]; rfl
  exact bodyPost_ret (sresultsP Try.results17 _ _ w.heap.size z1 z2 rfl h2) rfl ⟨rfl, (HB2.out.setCell (p := ⟨w.heap.size, 0, none⟩) (Nat.le_refl _) _).setCell (p := ⟨w.heap.size, 1, none⟩) (Nat.le_refl _) _⟩
end Go.Proofs.Ytdpoieemadblnaa
