/-
  Layer 8 (topk): a heap of entries, by contracts: New, Pop, Peek, Len.
-/
import Derived.Test.YtdpoieemadblnaaKSwpP
import Derived.Test.YtdpoieemadblnaaOSlc
import Derived.Deep.AppendLies
import Derived.Laws.ResultCell
namespace Go.Proofs.Ytdpoieemadblnaa
open Go.RowKit

theorem Try.kinfoP : (Try.prog.info? 61).map (fun i => (i.zero, i.size, i.bytes)) = some (some (.agg #[.int .i64 0, .int .i64 0, .int .i64 0]), 3, 24) := by kernel_rfl
theorem Try.ksizeP : (Try.prog.info? 61).map (·.size) = some 3 := by kernel_rfl
theorem kzeroP : ∀ w, (zeroValue 61).run Try.prog w = .ok (.agg #[.int .i64 0, .int .i64 0, .int .i64 0]) w := fun _ => by kernel_rfl
/-- a struct and a bool as results -/
theorem kresults_pairP {fn : Func} {p u : Tmp} (h : fn.results = #[.cell p 61, .tmp u]) (tmps : Array Value) (w : World) (g : Nat) (x1 x2 x3 : Int)
    (hp : tmps.getD p undef = .pointer (some ⟨g, 0, none⟩)) (hg : w.heap[g]? = some (.cells #[.int .i64 x1, .int .i64 x2, .int .i64 x3] 61 (0, 0))) :
    (results fn tmps).run Try.prog w = .ok (.tuple #[.agg #[.int .i64 x1, .int .i64 x2, .int .i64 x3], tmps.getD u undef]) w := by
  rw [results_cell_tmp h]
  have hp' : tmps[p]?.getD undef = .pointer (some ⟨g, 0, none⟩) := by simpa using hp
  simp [hp', asAddr, Result.andThen, run_loadVar_row w g 61 61 _ (0, 0) _ hg Try.underlying61 rfl Try.ksizeP]

theorem ksetP {W : World} {g : Nat} {a b c : Value} (u v z : Value) (h : W.heap[g]? = some (.cells #[a, b, c] 61 (0, 0))) : (((W.setCell ⟨g, 0, none⟩ u).setCell ⟨g, 1, none⟩ v).setCell ⟨g, 2, none⟩ z).heap[g]? = some (.cells #[u, v, z] 61 (0, 0)) := by
  have h1 : (W.setCell ⟨g, 0, none⟩ u).heap[g]? = some (.cells #[u, b, c] 61 (0, 0)) := by rw [heap_setCell_same _ _ _ _ _ _ h]; rfl
  have h2 : ((W.setCell ⟨g, 0, none⟩ u).setCell ⟨g, 1, none⟩ v).heap[g]? = some (.cells #[u, v, c] 61 (0, 0)) := by rw [heap_setCell_same _ _ _ _ _ _ h1]; rfl
  rw [heap_setCell_same _ _ _ _ _ _ h2]
  rfl
theorem kcellsP {W : World} {g : Nat} {a b c : Value} (h : W.heap[g]? = some (.cells #[a, b, c] 61 (0, 0))) : (W.cell? ⟨g, 0, none⟩ = some a ∧ W.cell? ⟨g, 1, none⟩ = some b ∧ W.cell? ⟨g, 2, none⟩ = some c) ∧ W.frozen? ⟨g, 0, none⟩ = false ∧ W.frozen? ⟨g, 1, none⟩ = false ∧ W.frozen? ⟨g, 2, none⟩ = false :=
  ⟨⟨by rw [cell_of_row _ _ _ _ _ _ h]; rfl, by rw [cell_of_row _ _ _ _ _ _ h]; rfl, by rw [cell_of_row _ _ _ _ _ _ h]; rfl⟩, frozen_of_row _ _ _ _ _ h, frozen_of_row _ _ _ _ _ h, frozen_of_row _ _ _ _ _ h⟩
/-- as memory holds it, the list in its own order; block cb, too, is one of S -/
structure HdkP (cb : Nat) (w : World) (S : Nat → Prop) (B : Nat) (xs : List Km.Ent) : Prop where
  d : Hd 94 (.func (.func 49) #[] #[.pointer (some ⟨cb, 0, none⟩)]) 61 3 w S B xs.length (ce3 xs)
  cap : CapP w cb
  sc : S cb
  bB : cb ≠ B
  bg : ∀ g, w.cell? ⟨B, 1, none⟩ = some g → g.ownBlock ≠ some cb
theorem HdkP.keep {cb : Nat} {w w' : World} {S : Nat → Prop} {B : Nat} {xs : List Km.Ent} (h : HdkP cb w S B xs) (hs : w.heap.size ≤ w'.heap.size) (hk : ∀ k, S k → w'.heap[k]? = w.heap[k]?) : HdkP cb w' S B xs :=
  ⟨h.d.keep hs hk, (hk cb h.sc).trans h.cap, h.sc, h.bB, fun g hg => h.bg g (by rw [← hg]; exact (World.cell?_of_block (w := w) (a := ⟨B, 1, none⟩) (hk B h.d.1)).symm)⟩
theorem HdkP.lt {cb : Nat} {w : World} {S : Nat → Prop} {B : Nat} {xs : List Km.Ent} (h : HdkP cb w S B xs) : B < w.heap.size := h.d.lt
theorem HdkP.below {cb : Nat} {w w' : World} {S : Nat → Prop} {B : Nat} {xs : List Km.Ent} (h : HdkP cb w S B xs) (hb : Below w.heap.size w w') : HdkP cb w' S B xs := h.keep hb.size fun k hS => hb.block k (h.d.2.1 k hS)
theorem InkP.hd {cb : Nat} {w : World} {S : Nat → Prop} {B g n c : Nat} {xs : List Km.Ent} (h : InkP cb w B g n c xs) (hB : S B) (hg : S g) (hc : S cb) (hS : ∀ k, S k → k < w.heap.size) : HdkP cb w S B xs :=
  ⟨⟨hB, hS, .inr ⟨g, c, hg, by rw [h.length]; exact h.i⟩⟩, h.cap, hc, h.bB, fun v hv => by rw [h.lst] at hv; injection hv with hv; subst hv; simp [Value.ownBlock]; exact fun e => h.bg e.symm⟩
theorem HdkP.in_ {cb : Nat} {w : World} {S : Nat → Prop} {B g n c : Nat} {xs : List Km.Ent} (h : HdkP cb w S B xs) (hi : In 94 (.func (.func 49) #[] #[.pointer (some ⟨cb, 0, none⟩)]) 61 3 w B g n c (ce3 xs)) : InkP cb w B g n c xs :=
  ⟨hi, h.cap, fun e => h.bg _ hi.l (by simp [Value.ownBlock]; exact e.symm), h.bB⟩
/-- a heap that holds those of l -/
def HpkP (cb : Nat) (w : World) (S : Nat → Prop) (B : Nat) (l : List Km.Ent) : Prop := ∃ xs : List Km.Ent, HdkP cb w S B xs ∧ Hm.Hp (Km.lat Om.less) 0 xs ∧ xs.Perm l
section
variable {cb : Nat} {w w' : World} {S S' : Nat → Prop} {B : Nat} {l l' : List Km.Ent}
theorem HpkP.keep (h : HpkP cb w S B l) (hs : w.heap.size ≤ w'.heap.size) (hk : ∀ k, S k → w'.heap[k]? = w.heap[k]?) : HpkP cb w' S B l := by obtain ⟨xs, h1, h2⟩ := h; exact ⟨xs, h1.keep hs hk, h2⟩
theorem HpkP.in_ (h : HpkP cb w S B l) : ∀ k, S k → k < w.heap.size := by obtain ⟨xs, h1, h2⟩ := h; exact h1.d.2.1
theorem HpkP.below (h : HpkP cb w S B l) (hb : Below w.heap.size w w') : HpkP cb w' S B l := h.keep hb.size fun k hS => hb.block k (h.in_ k hS)
theorem HpkP.drew (h : HpkP cb w S B l) : HpkP cb w.drew S B l := h.keep (Nat.le_refl _) fun _ _ => rfl
theorem HpkP.other (h : HpkP cb w S B l) (hb : Kept S' w w') (ho : ∀ k, S k → ¬ S' k) : HpkP cb w' S B l := h.keep hb.size fun k hS => hb.block k (h.in_ k hS) (ho k hS)
theorem HpkP.perm (h : HpkP cb w S B l) (hp : l.Perm l') : HpkP cb w S B l' := by obtain ⟨xs, h1, h2, h3⟩ := h; exact ⟨xs, h1, h2, h3.trans hp⟩
theorem HpkP.own (h : HpkP cb w S B l) : S B ∧ S cb := by obtain ⟨xs, h1, h2⟩ := h; exact ⟨h1.d.1, h1.sc⟩
end

theorem kpeekP_row (cb : Nat) (S : Nat → Prop) (B : Nat) (xs : List Km.Ent) (w : World) (h1 : HdkP cb w S B xs) :
    Calls Try.prog 35 #[.pointer (some ⟨B, 0, none⟩)] w fun e w' => e = .returned (.tuple #[.agg #[.int .i64 (xs[0]?.getD ((0, 0), 0)).1.1, .int .i64 (xs[0]?.getD ((0, 0), 0)).1.2, .int .i64 (xs[0]?.getD ((0, 0), 0)).2], .bool (decide (0 < xs.length))]) ∧ Below w.heap.size w w' := by
  obtain ⟨A, c, -, cl, -, -, -, -, hA⟩ := h1.d.list
  have hlt := h1.lt
  have hb := (Below.refl _ w).alloc (Nat.le_refl _) (.cells #[.int .i64 0, .int .i64 0, .int .i64 0] 61)
  have cl' := (hb.cell (p := ⟨B, 1, none⟩) hlt).trans cl
  clear h1
  cases xs with
  | nil =>
    clear hA
    go_enter Try.func35, Try.ntmps35
    go_wp2
    exact bodyPost_ret (kresults_pairP Try.results35 _ _ w.heap.size 0 0 0 rfl (heap_alloc2_old w _ _)) rfl ⟨rfl, below_two w _ _⟩
  | cons x xs =>
    rcases hA with ⟨_, h, _⟩ | ⟨g, rfl, _, hi⟩
    · simp at h
    obtain ⟨⟨x1, x2⟩, x3⟩ := x
    have c0 := (hb.cell (p := ⟨g, 0, none⟩) hi.row.lt).trans (hi.row.cell (i := 0) (v := .int .i64 x1) rfl)
    have c1 := (hb.cell (p := ⟨g, 1, none⟩) hi.row.lt).trans (hi.row.cell (i := 1) (v := .int .i64 x2) rfl)
    have c2 := (hb.cell (p := ⟨g, 2, none⟩) hi.row.lt).trans (hi.row.cell (i := 2) (v := .int .i64 x3) rfl)
    obtain ⟨n, hn⟩ : ∃ n, n = (((x1, x2), x3) :: xs).length := ⟨_, rfl⟩
    have n0 : 0 < n := by rw [hn]; simp
    have n1 : n ≠ 0 := by omega
    rw [← hn] at cl cl'
    clear hi hn
    go_enter Try.func35, Try.ntmps35
    go_wp2
    exact bodyPost_ret (kresults_pairP Try.results35 _ _ w.heap.size x1 x2 x3 rfl (heap_alloc_new w _)) rfl ⟨by simp, (Below.refl _ w).alloc (Nat.le_refl _) _⟩

theorem kpopP (cb : Nat) (S : Nat → Prop) (B : Nat) (l : List Km.Ent) (w : World) (h : HpkP cb w S B l) (hn : l.length ≤ 100000) :
    Calls Try.prog 50 #[.pointer (some ⟨B, 0, none⟩)] w fun e w' => ∃ x1 x2 x3 ok l', e = .returned (.tuple #[.agg #[.int .i64 x1, .int .i64 x2, .int .i64 x3], .bool ok]) ∧ Hm.Po (Km.lat Om.less) ((0, 0), 0) l ((x1, x2), x3) ok l' ∧ HpkP cb w' S B l' ∧ Kept S w w' := by
  obtain ⟨xs, h1, h2, h3⟩ := h
  have hb0 := (Below.refl _ w).alloc (Nat.le_refl _) (.cells #[.int .i64 0, .int .i64 0, .int .i64 0] 61)
  have hp := kpeekP_row cb S B xs _ (h1.below hb0)
  have hN : xs.length ≤ 100000 := by rw [h3.length_eq]; exact hn
  have rz0 : (w.alloc (.cells #[.int .i64 0, .int .i64 0, .int .i64 0] 61)).heap[w.heap.size]? = some (.cells #[.int .i64 0, .int .i64 0, .int .i64 0] 61 (0, 0)) := heap_alloc_new w _
  have s0 : (w.alloc (.cells #[.int .i64 0, .int .i64 0, .int .i64 0] 61)).heap.size = w.heap.size + 1 := by simp
  clear hn
  cases xs with
  | nil =>
    have HH := Lib.hid (show HpkP cb w S B [] from ⟨[], h1, h2, List.Perm.refl _⟩)
    have hl : l = [] := h3.symm.eq_nil
    have HL := Lib.hid hl
    have HB0 := Lib.hid hb0
    have HR0 := Lib.hid rz0
    clear h1 h2 h3 hl hb0 rz0
    simp at hp
    go_enter Try.func50, Try.ntmps50
    go_wp2_with fail
    refine hp.mono ?_
    rintro _ w1 ⟨rfl, hb1⟩
    have rz : w1.heap[w.heap.size]? = some (.cells #[.int .i64 0, .int .i64 0, .int .i64 0] 61 (0, 0)) := by rw [hb1.block _ (by omega)]; exact HR0.out
    have hs1 := hb1.size
    have rz' : (w1.alloc (.cells #[.int .i64 0, .int .i64 0, .int .i64 0] 61)).heap[w.heap.size]? = some (.cells #[.int .i64 0, .int .i64 0, .int .i64 0] 61 (0, 0)) := by rw [Below.heap_alloc _ _ _ (by omega)]; exact rz
    have cz0 : (w1.alloc (.cells #[.int .i64 0, .int .i64 0, .int .i64 0] 61)).cell? ⟨w.heap.size, 0, none⟩ = some (.int .i64 0) := by rw [cell_of_row _ _ _ _ _ _ rz']; rfl
    have cz1 : (w1.alloc (.cells #[.int .i64 0, .int .i64 0, .int .i64 0] 61)).cell? ⟨w.heap.size, 1, none⟩ = some (.int .i64 0) := by rw [cell_of_row _ _ _ _ _ _ rz']; rfl
    have cz2 : (w1.alloc (.cells #[.int .i64 0, .int .i64 0, .int .i64 0] 61)).cell? ⟨w.heap.size, 2, none⟩ = some (.int .i64 0) := by rw [cell_of_row _ _ _ _ _ _ rz']; rfl
    have fz2 : (w1.alloc (.cells #[.int .i64 0, .int .i64 0, .int .i64 0] 61)).frozen? ⟨w.heap.size, 2, none⟩ = false := frozen_of_row _ _ _ _ _ rz'
    have fz0 : (w1.alloc (.cells #[.int .i64 0, .int .i64 0, .int .i64 0] 61)).frozen? ⟨w.heap.size, 0, none⟩ = false := frozen_of_row _ _ _ _ _ rz'
    have fz1 : (w1.alloc (.cells #[.int .i64 0, .int .i64 0, .int .i64 0] 61)).frozen? ⟨w.heap.size, 1, none⟩ = false := frozen_of_row _ _ _ _ _ rz'
    have HB1 := Lib.hid (HB0.out.trans (hb1.mono (by omega)))
    have HRZ := Lib.hid rz'
    clear hp hb1 rz rz'
    go_wp2
    have HB2 : Below w.heap.size w (w1.alloc (.cells #[.int .i64 0, .int .i64 0, .int .i64 0] 61)) := HB1.out.alloc HB1.out.size _
    have HB3 := ((HB2.setCell (p := ⟨w.heap.size, 0, none⟩) (Nat.le_refl _) (.int .i64 0)).setCell (p := ⟨w.heap.size, 1, none⟩) (Nat.le_refl _) (.int .i64 0)).setCell (p := ⟨w.heap.size, 2, none⟩) (Nat.le_refl _) (.int .i64 0)
    exact bodyPost_ret (kresults_pairP Try.results50 _ _ w.heap.size 0 0 0 rfl (ksetP _ _ _ HRZ.out)) rfl ⟨0, 0, 0, false, [], rfl, .inl ⟨HL.out, rfl, rfl, rfl⟩, HH.out.below HB3, Kept.of_below HB3⟩
  | cons x xs =>
    obtain ⟨⟨x1, x2⟩, x3⟩ := x
    obtain ⟨A, c, -, cl, fl, -, -, -, hA⟩ := h1.d.list
    rcases hA with ⟨_, h, _⟩ | ⟨g, rfl, hg, hi⟩
    · simp at h
    obtain ⟨n, hn⟩ : ∃ n, n = (((x1, x2), x3) :: xs).length := ⟨_, rfl⟩
    have n0 : 0 < n := by rw [hn]; simp
    obtain ⟨m, hm⟩ : ∃ m, n = m + 1 := ⟨n - 1, by omega⟩
    obtain ⟨z, hz⟩ : ∃ z, (((x1, x2), x3) :: xs)[m]? = some z := ⟨_, List.getElem?_eq_getElem (by omega)⟩
    have hpop := Hm.pop_perm (l := ((x1, x2), x3) :: xs) (x := ((x1, x2), x3)) (z := z) rfl (by rw [← hn, hm]; exact hz)
    have hsk := h2.pop (z := z)
    have hle := Hm.Hp.least (Km.lat_ord Om.less_ord) h2 (x := ((x1, x2), x3)) rfl
    obtain ⟨⟨z1, z2⟩, z3⟩ := z
    have HPO := Lib.hid (show ∀ l', l'.Perm (Hm.pop (((x1, x2), x3) :: xs) ((z1, z2), z3)) → Hm.Po (Km.lat Om.less) ((0, 0), 0) l ((x1, x2), x3) true l' from fun l' hl' => (show Hm.Po (Km.lat Om.less) ((0, 0), 0) (((x1, x2), x3) :: xs) ((x1, x2), x3) true l' from .inr ⟨rfl, hpop.trans (List.Perm.cons _ hl'.symm), hle⟩).perm h3)
    have HSK := Lib.hid hsk
    have HS := Lib.hid h1
    have HG := Lib.hid hg
    have HI := Lib.hid (h1.in_ hi)
    have HZ := Lib.hid hz
    have HN := Lib.hid hn
    have HNM := Lib.hid hm
    have HB0 := Lib.hid hb0
    have HR0 := Lib.hid rz0
    have mN : m ≤ 100000 := by omega
    have nm : (n : Int) - 1 = (m : Int) := by omega
    have mn : m < n := by omega
    have hnc := hi.nc
    rw [← hn] at hnc
    have mc : m < c := by omega
    simp at hp
    clear h1 h2 h3 hi hn hz hpop hsk hle hm hg hN hb0 rz0 cl fl
    go_enter Try.func50, Try.ntmps50
    go_wp2_with fail
    refine hp.mono ?_
    rintro _ w1 ⟨rfl, hb1⟩
    have hs1 := hb1.size
    have HB1 := Lib.hid (HB0.out.trans (hb1.mono (by omega)))
    have HBR := Lib.hid hb1
    clear hp hb1
    obtain ⟨W2, hW2⟩ : ∃ W2, W2 = w1.alloc (.cells #[.int .i64 x1, .int .i64 x2, .int .i64 x3] 61) := ⟨_, rfl⟩
    have hs2 : W2.heap.size = w1.heap.size + 1 := by rw [hW2]; simp
    have b2 : Below w.heap.size w W2 := by rw [hW2]; exact HB1.out.alloc HB1.out.size _
    have i2 : InkP cb W2 B g n c (((x1, x2), x3) :: xs) := by have := HI.out.below b2; rw [← HN.out] at this; exact this
    have rx2 : W2.heap[w1.heap.size]? = some (.cells #[.int .i64 x1, .int .i64 x2, .int .i64 x3] 61 (0, 0)) := by rw [hW2]; exact heap_alloc_new w1 _
    have rz2 : W2.heap[w.heap.size]? = some (.cells #[.int .i64 0, .int .i64 0, .int .i64 0] 61 (0, 0)) := by
      rw [hW2, Below.heap_alloc _ _ _ (by omega), HBR.out.block _ (by omega)]
      exact HR0.out
    have i3 : InkP cb (((W2.setCell ⟨g, 0, none⟩ (.int .i64 z1)).setCell ⟨g, 1, none⟩ (.int .i64 z2)).setCell ⟨g, 2, none⟩ (.int .i64 z3)).drew B g n c ((((x1, x2), x3) :: xs).set 0 ((z1, z2), z3)) := (i2.one 0 z1 z2 z3).drew
    obtain ⟨W3, hW3⟩ : ∃ W3, W3 = (((W2.setCell ⟨g, 0, none⟩ (.int .i64 z1)).setCell ⟨g, 1, none⟩ (.int .i64 z2)).setCell ⟨g, 2, none⟩ (.int .i64 z3)).drew := ⟨_, rfl⟩
    rw [← hW3] at i3
    have k3 : Kept S W2 W3 := by rw [hW3]; exact ((((Kept.refl S W2).setCell (.inl HG.out)).setCell (.inl HG.out)).setCell (.inl HG.out)).drew
    have hc := fun ty => clear_one (P := Try.prog) W3 68 61 ty (.agg #[.int .i64 0, .int .i64 0, .int .i64 0]) [.int .i64 0, .int .i64 0, .int .i64 0] Try.underlying68 kzeroP (by kernel_rfl) (by simp [Value.oneCell']) g (m * 3) (c - m) (n - m) (by omega) (by intro j hj; simp at hj; exact i3.i.row.some_ (by omega)) (by intro j _; exact i3.i.row.frozen _)
    have i4 := i3.one m 0 0 0
    obtain ⟨W4, hW4⟩ : ∃ W4, W4 = W3.setCells g (m * 3) [.int .i64 0, .int .i64 0, .int .i64 0] := ⟨_, rfl⟩
    have hW4' : W4 = ((W3.setCell ⟨g, m * 3, none⟩ (.int .i64 0)).setCell ⟨g, m * 3 + 1, none⟩ (.int .i64 0)).setCell ⟨g, m * 3 + 2, none⟩ (.int .i64 0) := hW4
    rw [← hW4'] at i4
    have k4 : Kept S W2 W4 := by rw [hW4']; exact ((k3.setCell (.inl HG.out)).setCell (.inl HG.out)).setCell (.inl HG.out)
    have i5 := In.short i4.i (m := m) (by omega) _ rfl
    have e5 : (ce3 (((((x1, x2), x3) :: xs).set 0 ((z1, z2), z3)).set m ((0, 0), 0))).take (m * 3) = ce3 (Hm.pop (((x1, x2), x3) :: xs) ((z1, z2), z3)) := by
      rw [ce3_take _ _ (by rw [List.length_set, List.length_set, ← HN.out]; omega), List.take_set_of_le (Nat.le_refl _), Hm.pop, ← HN.out, HNM.out]
      rfl
    rw [e5] at i5
    have ik5 : InkP cb (W4.setCell ⟨B, 1, none⟩ (.slice (some ⟨g, 0, none⟩) m c)) B g m c (Hm.pop (((x1, x2), x3) :: xs) ((z1, z2), z3)) := ⟨i5, (Below.heap_setCell _ _ _ _ i4.bB).trans i4.cap, i4.bg, i4.bB⟩
    have k5 := k4.setCell (g := B) (o := 1) (v := .slice (some ⟨g, 0, none⟩) m c) (.inl HS.out.d.1)
    have cl2 := i2.lst
    have cl3 := i3.lst
    have cl4 := i4.lst
    have fl4 := i4.i.frozen 1
    obtain ⟨c00, c01, c02⟩ : W2.cell? ⟨g, 0, none⟩ = some (.int .i64 x1) ∧ W2.cell? ⟨g, 1, none⟩ = some (.int .i64 x2) ∧ W2.cell? ⟨g, 2, none⟩ = some (.int .i64 x3) := by simpa using i2.at_ (i := 0) rfl
    obtain ⟨cz0, cz1, cz2⟩ := i2.at_ HZ.out
    have f00 := i2.i.row.frozen 0
    have f01 := i2.i.row.frozen 1
    have f02 := i2.i.row.frozen 2
    have HI5 := Lib.hid ik5
    have HK5 := Lib.hid k5
    have HB2 := Lib.hid b2
    have HRX := Lib.hid rx2
    have HRZ := Lib.hid rz2
    simp only [← hW4] at hc
    rw [hW3] at hc cl3
    rw [hW2] at hc cl2 cl3 c00 c01 c02 cz0 cz1 cz2 f00 f01 f02
    clear i2 i3 i4 i5 ik5 k3 k4 k5 e5 b2 rx2 rz2 hW3 hW4 hW4'
    go_wp2
    go_region
    all_goals
      go_wp2_with fail
      clear cl2 cl3 cl4 fl4 c00 c01 c02 cz0 cz1 cz2 f00 f01 f02 hc
      have hSlt : ∀ k, S k → k < w.heap.size := HS.out.d.2.1
      by_cases m00 : m = 0
      · subst m00
        have e0 : Hm.pop (((x1, x2), x3) :: xs) ((z1, z2), z3) = [] := List.length_eq_zero_iff.1 (HI5.out.length)
        have i4 := HI5.out
        rw [e0] at i4
        refine (ksinkP_none cb B g c _ i4).mono ?_
        rintro _ w4 ⟨rfl, hw4⟩
        subst hw4
        have rx := (HK5.out.block w1.heap.size (by omega) (fun q => by have := hSlt _ q; omega)).trans HRX.out
        have rz := (HK5.out.block w.heap.size (by omega) (fun q => by have := hSlt _ q; omega)).trans HRZ.out
        obtain ⟨⟨p1, p2, p7⟩, -, -⟩ := kcellsP rx
        obtain ⟨⟨p3, p4, p8⟩, p5, p6, p9⟩ := kcellsP rz
        have HRE := Lib.hid (ksetP (.int .i64 x1) (.int .i64 x2) (.int .i64 x3) rz)
        have kE := ((((Kept.of_below (S := S) HB2.out).trans HK5.out fun k h => .inl h).setCell (g := w.heap.size) (o := 0) (v := .int .i64 x1) (.inr (Nat.le_refl _))).setCell (g := w.heap.size) (o := 1) (v := .int .i64 x2) (.inr (Nat.le_refl _))).setCell (g := w.heap.size) (o := 2) (v := .int .i64 x3) (.inr (Nat.le_refl _))
        have h0 : HpkP cb (W4.setCell ⟨B, 1, none⟩ (.slice (some ⟨g, 0, none⟩) 0 c)) S B [] := ⟨[], i4.hd HS.out.d.1 HG.out HS.out.sc (fun k hk => Nat.lt_of_lt_of_le (hSlt k hk) (Nat.le_trans HB2.out.size HK5.out.size)), Hm.Hp.none (by simp), List.Perm.refl _⟩
        have HH := Lib.hid (h0.other (S' := fun k => k = w.heap.size) ((((Kept.refl (fun k => k = w.heap.size) _).setCell (g := w.heap.size) (o := 0) (v := .int .i64 x1) (.inl rfl)).setCell (g := w.heap.size) (o := 1) (v := .int .i64 x2) (.inl rfl)).setCell (g := w.heap.size) (o := 2) (v := .int .i64 x3) (.inl rfl)) (fun k hk q => by have := hSlt k hk; omega))
        have HP := Lib.hid (HPO.out [] (by rw [e0]))
        have HKE := Lib.hid kE
        clear e0 i4 rx rz kE h0 hSlt
        go_wp2
        exact bodyPost_ret (kresults_pairP Try.results50 _ _ w.heap.size x1 x2 x3 rfl HRE.out) rfl ⟨x1, x2, x3, true, [], rfl, HP.out, HH.out, HKE.out⟩
      · refine (ksinkP cb B g m c 0 0 _ _ HI5.out HSK.out (Nat.le_refl _) (by omega) (by omega)).mono ?_
        rintro _ w4 ⟨rfl, l4, i4, s4, p4, b4⟩
        have hk6 := HK5.out.but b4 (.inl HG.out)
        have rx := (hk6.block w1.heap.size (by omega) (fun q => by have := hSlt _ q; omega)).trans HRX.out
        have rz := (hk6.block w.heap.size (by omega) (fun q => by have := hSlt _ q; omega)).trans HRZ.out
        obtain ⟨⟨p1, p2, p7⟩, -, -⟩ := kcellsP rx
        obtain ⟨⟨p3, p4', p8⟩, p5, p6, p9⟩ := kcellsP rz
        have HRE := Lib.hid (ksetP (.int .i64 x1) (.int .i64 x2) (.int .i64 x3) rz)
        have kE := ((((Kept.of_below (S := S) HB2.out).trans hk6 fun k h => .inl h).setCell (g := w.heap.size) (o := 0) (v := .int .i64 x1) (.inr (Nat.le_refl _))).setCell (g := w.heap.size) (o := 1) (v := .int .i64 x2) (.inr (Nat.le_refl _))).setCell (g := w.heap.size) (o := 2) (v := .int .i64 x3) (.inr (Nat.le_refl _))
        have h0 : HpkP cb w4 S B l4 := ⟨l4, i4.hd HS.out.d.1 HG.out HS.out.sc (fun k hk => Nat.lt_of_lt_of_le (hSlt k hk) (Nat.le_trans HB2.out.size hk6.size)), s4, List.Perm.refl _⟩
        have HH := Lib.hid (h0.other (S' := fun k => k = w.heap.size) ((((Kept.refl (fun k => k = w.heap.size) _).setCell (g := w.heap.size) (o := 0) (v := .int .i64 x1) (.inl rfl)).setCell (g := w.heap.size) (o := 1) (v := .int .i64 x2) (.inl rfl)).setCell (g := w.heap.size) (o := 2) (v := .int .i64 x3) (.inl rfl)) (fun k hk q => by have := hSlt k hk; omega))
        have HP := Lib.hid (HPO.out l4 p4)
        have HKE := Lib.hid kE
        clear i4 s4 p4 b4 hk6 rx rz kE h0 hSlt
        go_wp2
        exact bodyPost_ret (kresults_pairP Try.results50 _ _ w.heap.size x1 x2 x3 rfl HRE.out) rfl ⟨x1, x2, x3, true, l4, rfl, HP.out, HH.out, HKE.out⟩

end Go.Proofs.Ytdpoieemadblnaa
