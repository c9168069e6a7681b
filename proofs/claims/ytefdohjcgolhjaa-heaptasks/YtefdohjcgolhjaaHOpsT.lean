/-
  Layer 7 (heap): a heap of structs of two numbers, by contracts: New, Pop, Peek, Len.
-/
import Derived.Test.YtefdohjcgolhjaaHSwpT
import Derived.Test.YtefdohjcgolhjaaOSlc
import Derived.Deep.AppendLies
import Derived.Laws.ResultCell
namespace Go.Proofs.Ytefdohjcgolhjaa
open Go.RowKit

theorem Try.infoT : (Try.prog.info? 56).map (fun i => (i.zero, i.size, i.bytes)) = some (some (.agg #[.int .i64 0, .int .i64 0]), 2, 16) := by kernel_rfl
theorem Try.sizeT : (Try.prog.info? 56).map (·.size) = some 2 := by kernel_rfl
theorem zeroT : ∀ w, (zeroValue 56).run Try.prog w = .ok (.agg #[.int .i64 0, .int .i64 0]) w := fun _ => by kernel_rfl
/-- a struct and a bool as results -/
theorem results_pairT {fn : Func} {p u : Tmp} (h : fn.results = #[.cell p 56, .tmp u]) (tmps : Array Value) (w : World) (g : Nat) (x1 x2 : Int)
    (hp : tmps.getD p undef = .pointer (some ⟨g, 0, none⟩)) (hg : w.heap[g]? = some (.cells #[.int .i64 x1, .int .i64 x2] 56 (0, 0))) :
    (results fn tmps).run Try.prog w = .ok (.tuple #[.agg #[.int .i64 x1, .int .i64 x2], tmps.getD u undef]) w := by
  rw [results_cell_tmp h]
  have hp' : tmps[p]?.getD undef = .pointer (some ⟨g, 0, none⟩) := by simpa using hp
  simp [hp', asAddr, Result.andThen, run_loadVar_row w g 56 56 _ (0, 0) _ hg Try.underlying56 rfl Try.sizeT]

theorem two_setT {W : World} {g : Nat} {a b : Value} (u v : Value) (h : W.heap[g]? = some (.cells #[a, b] 56 (0, 0))) : ((W.setCell ⟨g, 0, none⟩ u).setCell ⟨g, 1, none⟩ v).heap[g]? = some (.cells #[u, v] 56 (0, 0)) := by
  have h1 : (W.setCell ⟨g, 0, none⟩ u).heap[g]? = some (.cells #[u, b] 56 (0, 0)) := by rw [heap_setCell_same _ _ _ _ _ _ h]; rfl
  rw [heap_setCell_same _ _ _ _ _ _ h1]
  rfl
theorem two_cellsT {W : World} {g : Nat} {a b : Value} (h : W.heap[g]? = some (.cells #[a, b] 56 (0, 0))) : W.cell? ⟨g, 0, none⟩ = some a ∧ W.cell? ⟨g, 1, none⟩ = some b ∧ W.frozen? ⟨g, 0, none⟩ = false ∧ W.frozen? ⟨g, 1, none⟩ = false :=
  ⟨by rw [cell_of_row _ _ _ _ _ _ h]; rfl, by rw [cell_of_row _ _ _ _ _ _ h]; rfl, frozen_of_row _ _ _ _ _ h, frozen_of_row _ _ _ _ _ h⟩
/-- as memory holds it, the list in its own order -/
abbrev HdT (w : World) (S : Nat → Prop) (B : Nat) (xs : List Om.E) : Prop := Hd 75 (.func (.func 26) #[] #[]) 56 2 w S B xs.length (cel xs)
/-- a heap that holds those of l -/
def HeapT (w : World) (S : Nat → Prop) (B : Nat) (l : List Om.E) : Prop := ∃ xs : List Om.E, HdT w S B xs ∧ Hm.Hp Om.ahead 0 xs ∧ xs.Perm l
section
variable {w w' : World} {S S' : Nat → Prop} {B : Nat} {l l' : List Om.E}
theorem HeapT.keep (h : HeapT w S B l) (hs : w.heap.size ≤ w'.heap.size) (hk : ∀ k, S k → w'.heap[k]? = w.heap[k]?) : HeapT w' S B l := by obtain ⟨xs, h1, h2⟩ := h; exact ⟨xs, Hd.keep h1 hs hk, h2⟩
theorem HeapT.in_ (h : HeapT w S B l) : ∀ k, S k → k < w.heap.size := by obtain ⟨xs, h1, h2⟩ := h; exact h1.2.1
theorem HeapT.below (h : HeapT w S B l) (hb : Below w.heap.size w w') : HeapT w' S B l := h.keep hb.size fun k hS => hb.block k (h.in_ k hS)
theorem HeapT.drew (h : HeapT w S B l) : HeapT w.drew S B l := h.keep (Nat.le_refl _) fun _ _ => rfl
theorem HeapT.other (h : HeapT w S B l) (hb : Kept S' w w') (ho : ∀ k, S k → ¬ S' k) : HeapT w' S B l := h.keep hb.size fun k hS => hb.block k (h.in_ k hS) (ho k hS)
theorem HeapT.perm (h : HeapT w S B l) (hp : l.Perm l') : HeapT w S B l' := by obtain ⟨xs, h1, h2, h3⟩ := h; exact ⟨xs, h1, h2, h3.trans hp⟩
end

theorem peekT_row (S : Nat → Prop) (B : Nat) (xs : List Om.E) (w : World) (h1 : HdT w S B xs) :
    Calls Try.prog 49 #[.pointer (some ⟨B, 0, none⟩)] w fun e w' => e = .returned (.tuple #[.agg #[.int .i64 (xs[0]?.getD (0, 0)).1, .int .i64 (xs[0]?.getD (0, 0)).2], .bool (decide (0 < xs.length))]) ∧ Below w.heap.size w w' := by
  obtain ⟨A, c, -, cl, -, -, -, -, hA⟩ := h1.list
  have hlt := h1.lt
  have hb := (Below.refl _ w).alloc (Nat.le_refl _) (.cells #[.int .i64 0, .int .i64 0] 56)
  have cl' := (hb.cell (p := ⟨B, 1, none⟩) hlt).trans cl
  clear h1
  cases xs with
  | nil =>
    clear hA
    go_enter Try.func49, Try.ntmps49
    go_wp2
    exact bodyPost_ret (results_pairT Try.results49 _ _ w.heap.size 0 0 rfl (heap_alloc2_old w _ _)) rfl ⟨rfl, below_two w _ _⟩
  | cons x xs =>
    rcases hA with ⟨_, h, _⟩ | ⟨g, rfl, _, hi⟩
    · simp at h
    obtain ⟨x1, x2⟩ := x
    have c0 := (hb.cell (p := ⟨g, 0, none⟩) hi.row.lt).trans (hi.row.cell (i := 0) (v := .int .i64 x1) rfl)
    have c1 := (hb.cell (p := ⟨g, 1, none⟩) hi.row.lt).trans (hi.row.cell (i := 1) (v := .int .i64 x2) rfl)
    obtain ⟨n, hn⟩ : ∃ n, n = ((x1, x2) :: xs).length := ⟨_, rfl⟩
    have n0 : 0 < n := by rw [hn]; simp
    have n1 : n ≠ 0 := by omega
    rw [← hn] at cl cl'
    clear hi hn
    go_enter Try.func49, Try.ntmps49
    go_wp2
    exact bodyPost_ret (results_pairT Try.results49 _ _ w.heap.size x1 x2 rfl (heap_alloc_new w _)) rfl ⟨by simp, (Below.refl _ w).alloc (Nat.le_refl _) _⟩

theorem popT (S : Nat → Prop) (B : Nat) (l : List Om.E) (w : World) (h : HeapT w S B l) (hn : l.length ≤ 100000) :
    Calls Try.prog 42 #[.pointer (some ⟨B, 0, none⟩)] w fun e w' => ∃ x1 x2 ok l', e = .returned (.tuple #[.agg #[.int .i64 x1, .int .i64 x2], .bool ok]) ∧ Hm.Po Om.ahead (0, 0) l (x1, x2) ok l' ∧ HeapT w' S B l' ∧ Kept S w w' := by
  obtain ⟨xs, h1, h2, h3⟩ := h
  have hb0 := (Below.refl _ w).alloc (Nat.le_refl _) (.cells #[.int .i64 0, .int .i64 0] 56)
  have hp := peekT_row S B xs _ (h1.below hb0)
  have hN : xs.length ≤ 100000 := by rw [h3.length_eq]; exact hn
  have rz0 : (w.alloc (.cells #[.int .i64 0, .int .i64 0] 56)).heap[w.heap.size]? = some (.cells #[.int .i64 0, .int .i64 0] 56 (0, 0)) := heap_alloc_new w _
  have s0 : (w.alloc (.cells #[.int .i64 0, .int .i64 0] 56)).heap.size = w.heap.size + 1 := by simp
  clear hn
  cases xs with
  | nil =>
    have HH := Lib.hid (show HeapT w S B [] from ⟨[], h1, h2, List.Perm.refl _⟩)
    have hl : l = [] := h3.symm.eq_nil
    have HL := Lib.hid hl
    have HB0 := Lib.hid hb0
    have HR0 := Lib.hid rz0
    clear h1 h2 h3 hl hb0 rz0
    simp at hp
    go_enter Try.func42, Try.ntmps42
    go_wp2_with fail
    refine hp.mono ?_
    rintro _ w1 ⟨rfl, hb1⟩
    have rz : w1.heap[w.heap.size]? = some (.cells #[.int .i64 0, .int .i64 0] 56 (0, 0)) := by rw [hb1.block _ (by omega)]; exact HR0.out
    have hs1 := hb1.size
    have rz' : (w1.alloc (.cells #[.int .i64 0, .int .i64 0] 56)).heap[w.heap.size]? = some (.cells #[.int .i64 0, .int .i64 0] 56 (0, 0)) := by rw [Below.heap_alloc _ _ _ (by omega)]; exact rz
    have cz0 : (w1.alloc (.cells #[.int .i64 0, .int .i64 0] 56)).cell? ⟨w.heap.size, 0, none⟩ = some (.int .i64 0) := by rw [cell_of_row _ _ _ _ _ _ rz']; rfl
    have cz1 : (w1.alloc (.cells #[.int .i64 0, .int .i64 0] 56)).cell? ⟨w.heap.size, 1, none⟩ = some (.int .i64 0) := by rw [cell_of_row _ _ _ _ _ _ rz']; rfl
    have fz0 : (w1.alloc (.cells #[.int .i64 0, .int .i64 0] 56)).frozen? ⟨w.heap.size, 0, none⟩ = false := frozen_of_row _ _ _ _ _ rz'
    have fz1 : (w1.alloc (.cells #[.int .i64 0, .int .i64 0] 56)).frozen? ⟨w.heap.size, 1, none⟩ = false := frozen_of_row _ _ _ _ _ rz'
    have HB1 := Lib.hid (HB0.out.trans (hb1.mono (by omega)))
    have HRZ := Lib.hid rz'
    clear hp hb1 rz rz'
    go_wp2
    have HB2 : Below w.heap.size w (w1.alloc (.cells #[.int .i64 0, .int .i64 0] 56)) := HB1.out.alloc HB1.out.size _
    have HB3 := (HB2.setCell (p := ⟨w.heap.size, 0, none⟩) (Nat.le_refl _) (.int .i64 0)).setCell (p := ⟨w.heap.size, 1, none⟩) (Nat.le_refl _) (.int .i64 0)
    exact bodyPost_ret (results_pairT Try.results42 _ _ w.heap.size 0 0 rfl (two_setT _ _ HRZ.out)) rfl ⟨0, 0, false, [], rfl, .inl ⟨HL.out, rfl, rfl, rfl⟩, HH.out.below HB3, Kept.of_below HB3⟩
  | cons x xs =>
    obtain ⟨x1, x2⟩ := x
    obtain ⟨A, c, -, cl, fl, -, -, -, hA⟩ := h1.list
    rcases hA with ⟨_, h, _⟩ | ⟨g, rfl, hg, hi⟩
    · simp at h
    obtain ⟨n, hn⟩ : ∃ n, n = ((x1, x2) :: xs).length := ⟨_, rfl⟩
    have n0 : 0 < n := by rw [hn]; simp
    obtain ⟨m, hm⟩ : ∃ m, n = m + 1 := ⟨n - 1, by omega⟩
    obtain ⟨z, hz⟩ : ∃ z, ((x1, x2) :: xs)[m]? = some z := ⟨_, List.getElem?_eq_getElem (by omega)⟩
    have hpop := Hm.pop_perm (l := (x1, x2) :: xs) (x := (x1, x2)) (z := z) rfl (by rw [← hn, hm]; exact hz)
    have hsk := h2.pop (z := z)
    have hle := Hm.Hp.least ahead_hord h2 (x := (x1, x2)) rfl
    obtain ⟨z1, z2⟩ := z
    have HPO := Lib.hid (show ∀ l', l'.Perm (Hm.pop ((x1, x2) :: xs) (z1, z2)) → Hm.Po Om.ahead (0, 0) l (x1, x2) true l' from fun l' hl' => (show Hm.Po Om.ahead (0, 0) ((x1, x2) :: xs) (x1, x2) true l' from .inr ⟨rfl, hpop.trans (List.Perm.cons _ hl'.symm), hle⟩).perm h3)
    have HSK := Lib.hid hsk
    have HS := Lib.hid h1
    have HG := Lib.hid hg
    have HI := Lib.hid hi
    have HZ := Lib.hid hz
    have HN := Lib.hid hn
    have HNM := Lib.hid hm
    have HB0 := Lib.hid hb0
    have HR0 := Lib.hid rz0
    have mN : m ≤ 100000 := by omega
    have nm : (n : Int) - 1 = (m : Int) := by omega
    have mn : m < n := by omega
    have hnc := hi.nc
    rw [← hn] at hnc
    have mc : m < c := by omega
    simp at hp
    clear h1 h2 h3 hi hn hz hpop hsk hle hm hg hN hb0 rz0 cl fl
    go_enter Try.func42, Try.ntmps42
    go_wp2_with fail
    refine hp.mono ?_
    rintro _ w1 ⟨rfl, hb1⟩
    have hs1 := hb1.size
    have HB1 := Lib.hid (HB0.out.trans (hb1.mono (by omega)))
    have HBR := Lib.hid hb1
    clear hp hb1
    obtain ⟨W2, hW2⟩ : ∃ W2, W2 = w1.alloc (.cells #[.int .i64 x1, .int .i64 x2] 56) := ⟨_, rfl⟩
    have hs2 : W2.heap.size = w1.heap.size + 1 := by rw [hW2]; simp
    have b2 : Below w.heap.size w W2 := by rw [hW2]; exact HB1.out.alloc HB1.out.size _
    have i2 : InT W2 B g n c ((x1, x2) :: xs) := by have := HI.out.below b2; rw [← HN.out] at this; exact this
    have rx2 : W2.heap[w1.heap.size]? = some (.cells #[.int .i64 x1, .int .i64 x2] 56 (0, 0)) := by rw [hW2]; exact heap_alloc_new w1 _
    have rz2 : W2.heap[w.heap.size]? = some (.cells #[.int .i64 0, .int .i64 0] 56 (0, 0)) := by
      rw [hW2, Below.heap_alloc _ _ _ (by omega), HBR.out.block _ (by omega)]
      exact HR0.out
    have i3 : InT ((W2.setCell ⟨g, 0, none⟩ (.int .i64 z1)).setCell ⟨g, 1, none⟩ (.int .i64 z2)).drew B g n c (((x1, x2) :: xs).set 0 (z1, z2)) := (InT.one i2 0 z1 z2).drew
    obtain ⟨W3, hW3⟩ : ∃ W3, W3 = ((W2.setCell ⟨g, 0, none⟩ (.int .i64 z1)).setCell ⟨g, 1, none⟩ (.int .i64 z2)).drew := ⟨_, rfl⟩
    rw [← hW3] at i3
    have k3 : Kept S W2 W3 := by rw [hW3]; exact (((Kept.refl S W2).setCell (.inl HG.out)).setCell (.inl HG.out)).drew
    have hc := fun ty => clear_one (P := Try.prog) W3 72 56 ty (.agg #[.int .i64 0, .int .i64 0]) [.int .i64 0, .int .i64 0] Try.underlying72 zeroT (by kernel_rfl) (by simp [Value.oneCell']) g (m * 2) (c - m) (n - m) (by omega) (by intro j hj; simp at hj; exact i3.row.some_ (by omega)) (by intro j _; exact i3.row.frozen _)
    have i4 := InT.one i3 m 0 0
    obtain ⟨W4, hW4⟩ : ∃ W4, W4 = W3.setCells g (m * 2) [.int .i64 0, .int .i64 0] := ⟨_, rfl⟩
    have hW4' : W4 = (W3.setCell ⟨g, m * 2, none⟩ (.int .i64 0)).setCell ⟨g, m * 2 + 1, none⟩ (.int .i64 0) := hW4
    rw [← hW4'] at i4
    have k4 : Kept S W2 W4 := by rw [hW4']; exact (k3.setCell (.inl HG.out)).setCell (.inl HG.out)
    have i5 := In.short i4 (m := m) (by omega) _ rfl
    have e5 : (cel ((((x1, x2) :: xs).set 0 (z1, z2)).set m (0, 0))).take (m * 2) = cel (Hm.pop ((x1, x2) :: xs) (z1, z2)) := by
      have hl : ((((x1, x2) :: xs).set 0 (z1, z2)).set m (0, 0)).take m = Hm.pop ((x1, x2) :: xs) (z1, z2) := by
        rw [List.take_set_of_le (Nat.le_refl _), Hm.pop, ← HN.out, HNM.out]
        rfl
      rw [← hl]
      have e2 : cel ((((x1, x2) :: xs).set 0 (z1, z2)).set m (0, 0)) = cel (((((x1, x2) :: xs).set 0 (z1, z2)).set m (0, 0)).take m) ++ cel (((((x1, x2) :: xs).set 0 (z1, z2)).set m (0, 0)).drop m) := by rw [← cel_append, List.take_append_drop]
      have e3 : (cel (((((x1, x2) :: xs).set 0 (z1, z2)).set m (0, 0)).take m)).length = m * 2 := by rw [cel_length, List.length_take, List.length_set, List.length_set, ← HN.out]; omega
      rw [e2, List.take_left' e3]
    rw [e5] at i5
    have k5 := k4.setCell (g := B) (o := 1) (v := .slice (some ⟨g, 0, none⟩) m c) (.inl HS.out.1)
    have cl2 := i2.l
    have cl3 := i3.l
    have cl4 := i4.l
    have fl4 := i4.frozen 1
    have c00 := i2.row.cell (i := 0) (v := .int .i64 x1) rfl
    have c01 := i2.row.cell (i := 1) (v := .int .i64 x2) rfl
    have cz0 := i2.row.cell (cel1T HZ.out)
    have cz1 := i2.row.cell (cel2T HZ.out)
    have f00 := i2.row.frozen 0
    have f01 := i2.row.frozen 1
    have HI5 := Lib.hid i5
    have HK5 := Lib.hid k5
    have HB2 := Lib.hid b2
    have HRX := Lib.hid rx2
    have HRZ := Lib.hid rz2
    simp only [← hW4] at hc
    rw [hW3] at hc cl3
    rw [hW2] at hc cl2 cl3 c00 c01 cz0 cz1 f00 f01
    clear i2 i3 i4 i5 k3 k4 k5 e5 b2 rx2 rz2 hW3 hW4 hW4'
    go_wp2
    go_region
    all_goals
      go_wp2_with fail
      clear cl2 cl3 cl4 fl4 c00 c01 cz0 cz1 f00 f01 hc
      have hSlt : ∀ k, S k → k < w.heap.size := HS.out.2.1
      by_cases m00 : m = 0
      · subst m00
        have e0 : Hm.pop ((x1, x2) :: xs) (z1, z2) = [] := List.length_eq_zero_iff.1 (by have := HI5.out.len; rw [cel_length] at this; omega)
        have i4 := HI5.out
        rw [e0] at i4
        refine (sinkT_none B g c _ i4).mono ?_
        rintro _ w4 ⟨rfl, hw4⟩
        subst hw4
        have rx := (HK5.out.block w1.heap.size (by omega) (fun q => by have := hSlt _ q; omega)).trans HRX.out
        have rz := (HK5.out.block w.heap.size (by omega) (fun q => by have := hSlt _ q; omega)).trans HRZ.out
        obtain ⟨p1, p2, -, -⟩ := two_cellsT rx
        obtain ⟨p3, p4, p5, p6⟩ := two_cellsT rz
        have HRE := Lib.hid (two_setT (.int .i64 x1) (.int .i64 x2) rz)
        have kE := ((((Kept.of_below (S := S) HB2.out).trans HK5.out fun k h => .inl h).setCell (g := w.heap.size) (o := 0) (v := .int .i64 x1) (.inr (Nat.le_refl _))).setCell (g := w.heap.size) (o := 1) (v := .int .i64 x2) (.inr (Nat.le_refl _)))
        have h0 : HeapT (W4.setCell ⟨B, 1, none⟩ (.slice (some ⟨g, 0, none⟩) 0 c)) S B [] := ⟨[], ⟨HS.out.1, fun k hk => Nat.lt_of_lt_of_le (hSlt k hk) (Nat.le_trans HB2.out.size HK5.out.size), .inr ⟨g, c, HG.out, i4⟩⟩, Hm.Hp.none (by simp), List.Perm.refl _⟩
        have HH := Lib.hid (h0.other (S' := fun k => k = w.heap.size) (((Kept.refl (fun k => k = w.heap.size) _).setCell (g := w.heap.size) (o := 0) (v := .int .i64 x1) (.inl rfl)).setCell (g := w.heap.size) (o := 1) (v := .int .i64 x2) (.inl rfl)) (fun k hk q => by have := hSlt k hk; omega))
        have HP := Lib.hid (HPO.out [] (by rw [e0]))
        have HKE := Lib.hid kE
        clear e0 i4 rx rz kE h0 hSlt
        go_wp2
        exact bodyPost_ret (results_pairT Try.results42 _ _ w.heap.size x1 x2 rfl HRE.out) rfl ⟨x1, x2, true, [], rfl, HP.out, HH.out, HKE.out⟩
      · refine (sinkT B g m c 0 0 _ _ HI5.out HSK.out (Nat.le_refl _) (by omega) (by omega)).mono ?_
        rintro _ w4 ⟨rfl, l4, i4, s4, p4, b4⟩
        have hk6 := HK5.out.but b4 (.inl HG.out)
        have rx := (hk6.block w1.heap.size (by omega) (fun q => by have := hSlt _ q; omega)).trans HRX.out
        have rz := (hk6.block w.heap.size (by omega) (fun q => by have := hSlt _ q; omega)).trans HRZ.out
        obtain ⟨p1, p2, -, -⟩ := two_cellsT rx
        obtain ⟨p3, p4', p5, p6⟩ := two_cellsT rz
        have HRE := Lib.hid (two_setT (.int .i64 x1) (.int .i64 x2) rz)
        have kE := ((((Kept.of_below (S := S) HB2.out).trans hk6 fun k h => .inl h).setCell (g := w.heap.size) (o := 0) (v := .int .i64 x1) (.inr (Nat.le_refl _))).setCell (g := w.heap.size) (o := 1) (v := .int .i64 x2) (.inr (Nat.le_refl _)))
        have L4 := InT.length i4
        have h0 : HeapT w4 S B l4 := ⟨l4, ⟨HS.out.1, fun k hk => Nat.lt_of_lt_of_le (hSlt k hk) (Nat.le_trans HB2.out.size hk6.size), .inr ⟨g, c, HG.out, by rw [L4]; exact i4⟩⟩, s4, List.Perm.refl _⟩
        have HH := Lib.hid (h0.other (S' := fun k => k = w.heap.size) (((Kept.refl (fun k => k = w.heap.size) _).setCell (g := w.heap.size) (o := 0) (v := .int .i64 x1) (.inl rfl)).setCell (g := w.heap.size) (o := 1) (v := .int .i64 x2) (.inl rfl)) (fun k hk q => by have := hSlt k hk; omega))
        have HP := Lib.hid (HPO.out l4 p4)
        have HKE := Lib.hid kE
        clear i4 s4 p4 b4 hk6 rx rz kE h0 L4 hSlt
        go_wp2
        exact bodyPost_ret (results_pairT Try.results42 _ _ w.heap.size x1 x2 rfl HRE.out) rfl ⟨x1, x2, true, l4, rfl, HP.out, HH.out, HKE.out⟩

theorem cloneT (A : Option Addr) (n c : Nat) (l : List Om.E) (w : World) (h : VecE w A n l) (hA : A = none → c = 0) (hn : n ≤ 100000) :
    Calls Try.prog 38 #[.slice A n c] w fun e w' => ∃ A' c', e = .returned (.slice A' n c') ∧ w'.ownsRow w.heap.size 56 2 (.slice A' n c') n (cel l) ∧ Below w.heap.size w w' := by
  obtain ⟨i0, hi, hz0, hz1, hz2⟩ := info_parts Try.infoT
  have HL := Lib.hid h
  cases A with
  | none =>
    obtain rfl := hA rfl
    have hn0 : n = 0 := by
      rcases Nat.eq_zero_or_pos n with h0 | h0
      · exact h0
      · obtain ⟨_, _, hc, _⟩ := h.2 h0; cases hc
    subst hn0
    have hl : cel l = [] := by rw [List.length_eq_zero_iff.1 h.1]; rfl
    have HE := Lib.hid hl
    have he : ∀ W, (binOp .eql 72 (.slice none 0 0) (.slice none 0 0)).run Try.prog W = .ok (.bool true) W := fun W => Lib.run_eql_slice_nil W 72 56 none 0 0 0 0 Try.underlying72
    clear h hl hA
    go_enter Try.func38, Try.ntmps38
    go_wp2
    go_ret
    exact ⟨none, 0, rfl, by rw [HE.out]; exact World.ownsRow_nil _ _ _ _, Below.refl _ _⟩
  | some ad =>
    have HB := Lib.hid ((Below.refl _ w).alloc (Nat.le_refl _) (.cells #[] 56))
    have he : ∀ W, (binOp .eql 72 (.slice (some ad) n c) (.slice none 0 0)).run Try.prog W = .ok (.bool false) W := fun W => Lib.run_eql_slice_nil W 72 56 (some ad) n c 0 0 Try.underlying72
    clear h hA
    go_enter Try.func38, Try.ntmps38
    go_wp2_with (at_builtin; refine append_vec _ rfl (.tmp 5) (.tmp 6) 72 rfl w.heap.size 56 i0 (.agg #[.int .i64 0, .int .i64 0]) 16 Try.underlying72 hi hz0 hz1 hz2 rfl (.slice (some ⟨w.heap.size, 0, none⟩) 0 0) 0 [] rfl (own_none2 (heap_alloc_new w _) (Nat.le_refl _)) (some ad) n c l rfl (fun h => by cases h) (HL.out.below HB.out) (by unfold maxLen; omega) (by omega) HB.out.size ?_; intro v' w' q1 q2; have Q1 := Lib.hid q1; have Q2 := Lib.hid (HB.out.grown q2 HB.out.size (fun k hk => by simp [Value.ownBlock] at hk; omega)); clear q1 q2)
    go_ret
    have q := Q1.out
    rw [Nat.zero_add, List.nil_append] at q
    rcases q.2 with ⟨rfl, rfl⟩ | ⟨g, cap, cur, rfl, _⟩
    · exact ⟨none, 0, rfl, q, Q2.out⟩
    · exact ⟨_, cap, rfl, q, Q2.out⟩

theorem newT (A : Option Addr) (n c : Nat) (l : List Om.E) (w : World) (h : VecE w A n l) (hA : A = none → c = 0) (hn : n ≤ 100000) :
    Calls Try.prog 25 #[.func (.func 26) #[] #[], .slice A n c] w fun e w' => ∃ (S : Nat → Prop) (B : Nat), e = .returned (.pointer (some ⟨B, 0, none⟩)) ∧ HeapT w' S B l ∧ Below w.heap.size w w' ∧ ∀ k, S k → w.heap.size ≤ k := by
  have HL := Lib.hid h.length
  have HC := Lib.hid (cloneT A n c l w h hA hn)
  clear h hA
  go_enter Try.func25, Try.ntmps25
  go_wp2_with fail
  refine HC.out.mono ?_
  rintro _ w1 ⟨A', c', rfl, ho, hb⟩
  have hS : Hd 75 (.func (.func 26) #[] #[]) 56 2 (w1.alloc (.cells #[.func (.func 26) #[] #[], .slice A' n c'] 75)) (fun k => w.heap.size ≤ k ∧ k < w1.heap.size + 1) w1.heap.size n (cel l) := by
    have hB := heap_alloc_new w1 (.cells #[.func (.func 26) #[] #[], .slice A' n c'] 75)
    refine ⟨⟨hb.size, by omega⟩, fun k hk => by simp; omega, ?_⟩
    have ho2 := ho.alloc (.cells #[.func (.func 26) #[] #[], .slice A' n c'] 75)
    rcases ho.2 with ⟨e, rfl⟩ | ⟨g, cap, cur, e, h1, h2, _⟩
    · injection e with e1 _ e3
      subst e1
      subst e3
      exact .inl ⟨by rw [List.length_eq_zero_iff.1 HL.out]; rfl, rfl, hB⟩
    · injection e with e1 _ e3
      subst e1
      subst e3
      have := lt_of_block h2
      exact .inr ⟨g, _, ⟨h1, by omega⟩, In.of_own hB ho2 (by omega)⟩
  have hb2 : Below w.heap.size w (w1.alloc (.cells #[.func (.func 26) #[] #[], .slice A' n c'] 75)) := hb.alloc hb.size _
  have HS := Lib.hid hS
  have HB := Lib.hid hb2
  obtain ⟨A2, c2, -, cl, -⟩ := hS.list
  have e1 : (n : Int).tdiv 2 = ((n / 2 : Nat) : Int) := by rw [Int.tdiv_eq_ediv_of_nonneg (by omega)]; omega
  obtain ⟨B, hBB⟩ : ∃ B, B = w1.heap.size := ⟨_, rfl⟩
  clear hS hb2 ho hb HC
  go_wp2
  go_loopw [6] (fun I wr => ∃ (j : Nat) (xs : List Om.E), I = .int .i64 ((j : Int) - 1) ∧ j ≤ n / 2 ∧ Hd 75 (.func (.func 26) #[] #[]) 56 2 wr (fun k => w.heap.size ≤ k ∧ k < w1.heap.size + 1) w1.heap.size n (cel xs) ∧ Hm.Hp Om.ahead j xs ∧ xs.Perm l ∧ Below w.heap.size w wr) (fun I _ => (intOf I + 1).toNat)
  case atStart => exact ⟨n / 2, l, congrArg (Value.int .i64) (by omega), Nat.le_refl _, HS.out, Hm.Hp.none (by rw [HL.out]; omega), List.Perm.refl _, HB.out⟩
  case round =>
    obtain ⟨j, xs, rfl, jn, hd, hp, hpm, hb⟩ := hrel
    have HD := Lib.hid hd
    have HP := Lib.hid hp
    have HPM := Lib.hid hpm
    have HBr := Lib.hid hb
    clear hd hp hpm hb cl
    cases j with
    | zero =>
      go_wp2
      go_ret
      exact ⟨fun k => w.heap.size ≤ k ∧ k < w1.heap.size + 1, _, rfl, ⟨xs, by unfold HdT; rw [HPM.out.length_eq, HL.out]; exact HD.out, HP.out, HPM.out⟩, HBr.out, fun k hk => hk.1⟩
    | succ j =>
      obtain ⟨A3, c3, -, -, -, -, -, -, hA⟩ := HD.out.list
      rcases hA with ⟨_, h, _⟩ | ⟨g, rfl, hg, hI⟩
      · omega
      have HI := Lib.hid hI
      have HG := Lib.hid hg
      clear hI hg
      have ej : ((j + 1 : Nat) : Int) - 1 = (j : Int) := by omega
      rw [ej]
      go_wp2_with fail
      refine (sinkT w1.heap.size g n c3 j j xs _ HI.out HP.out.sk (Nat.le_refl _) (by omega) (by omega)).mono ?_
      rintro _ w4 ⟨rfl, l4, i4, s4, p4, b4⟩
      have HD4 : Hid (Hd 75 (.func (.func 26) #[] #[]) 56 2 w4 (fun k => w.heap.size ≤ k ∧ k < w1.heap.size + 1) w1.heap.size n (cel l4)) := ⟨HD.out.1, fun k hk => Nat.lt_of_lt_of_le (HD.out.2.1 k hk) b4.size, .inr ⟨g, c3, HG.out, i4⟩⟩
      have HP4 := Lib.hid s4
      have HPM4 := Lib.hid (p4.trans HPM.out)
      have HB4 := Lib.hid (HBr.out.trans (b4.old HBr.out.size HG.out.1))
      clear i4 s4 p4 b4
      go_wp2
      go_roundw
      case rel => exact ⟨j, l4, rfl, by omega, HD4.out, HP4.out, HPM4.out, HB4.out⟩
      case measure => simp [intOf]
end Go.Proofs.Ytefdohjcgolhjaa
