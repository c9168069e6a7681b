/-
  Layer 7 (heap): a heap of integers, by contracts: New, Push, Pop, Peek, Len.
-/
import Derived.Test.YtefdohjcgolhjaaHISwp
import Derived.Deep.AppendLies
namespace Go.Proofs.Ytefdohjcgolhjaa
open Go.RowKit

theorem Try.infoI : (Try.prog.info? 3).map (fun i => (i.zero, i.size, i.bytes)) = some (some (.int .i64 0), 1, 8) := by kernel_rfl
theorem zeroI : ∀ w, (zeroValue 3).run Try.prog w = .ok (.int .i64 0) w := fun _ => by kernel_rfl
/-- as memory holds it, the list in its own order -/
abbrev HdI (w : World) (S : Nat → Prop) (B : Nat) (xs : List Int) : Prop := Hd 68 (.func (.func 10) #[] #[]) 3 1 w S B xs.length (ci xs)
/-- a heap of integers that holds those of l -/
def HeapI (w : World) (S : Nat → Prop) (B : Nat) (l : List Int) : Prop := ∃ xs : List Int, HdI w S B xs ∧ Hm.Hp ilt 0 xs ∧ xs.Perm l
section
variable {w w' : World} {S S' : Nat → Prop} {B : Nat} {l l' : List Int}
theorem HeapI.keep (h : HeapI w S B l) (hs : w.heap.size ≤ w'.heap.size) (hk : ∀ k, S k → w'.heap[k]? = w.heap[k]?) : HeapI w' S B l := by obtain ⟨xs, h1, h2⟩ := h; exact ⟨xs, Hd.keep h1 hs hk, h2⟩
theorem HeapI.in_ (h : HeapI w S B l) : ∀ k, S k → k < w.heap.size := by obtain ⟨xs, h1, h2⟩ := h; exact h1.2.1
theorem HeapI.below (h : HeapI w S B l) (hb : Below w.heap.size w w') : HeapI w' S B l := h.keep hb.size fun k hS => hb.block k (h.in_ k hS)
theorem HeapI.drew (h : HeapI w S B l) : HeapI w.drew S B l := h.keep (Nat.le_refl _) fun _ _ => rfl
theorem HeapI.other (h : HeapI w S B l) (hb : Kept S' w w') (ho : ∀ k, S k → ¬ S' k) : HeapI w' S B l := h.keep hb.size fun k hS => hb.block k (h.in_ k hS) (ho k hS)
theorem HeapI.perm (h : HeapI w S B l) (hp : l.Perm l') : HeapI w S B l' := by obtain ⟨xs, h1, h2, h3⟩ := h; exact ⟨xs, h1, h2, h3.trans hp⟩
end

theorem lenI (S : Nat → Prop) (B : Nat) (l : List Int) (w : World) (h : HeapI w S B l) :
    Calls Try.prog 17 #[.pointer (some ⟨B, 0, none⟩)] w fun e w' => e = .returned (.int .i64 (l.length : Int)) ∧ w' = w := by
  obtain ⟨xs, h1, h2, h3⟩ := h
  obtain ⟨A, c, -, cl, -⟩ := h1.list
  have e := Lib.hid h3.length_eq
  clear h1 h2 h3
  go_enter Try.func17, Try.ntmps17
  go_wp2
  go_ret
  exact ⟨ret_int (by rw [e.out]), rfl⟩

theorem peekI_row (S : Nat → Prop) (B : Nat) (xs : List Int) (w : World) (h1 : HdI w S B xs) :
    Calls Try.prog 15 #[.pointer (some ⟨B, 0, none⟩)] w fun e w' => e = .returned (.tuple #[.int .i64 (xs[0]?.getD 0), .bool (decide (0 < xs.length))]) ∧ w' = w := by
  obtain ⟨A, c, -, cl, -, -, -, -, hA⟩ := h1.list
  clear h1
  cases xs with
  | nil =>
    clear hA
    go_enter Try.func15, Try.ntmps15
    go_wp2
    go_ret2
    exact ⟨rfl, rfl⟩
  | cons x xs =>
    rcases hA with ⟨_, h, _⟩ | ⟨g, rfl, _, hi⟩
    · simp at h
    have c0 := hi.row.cell (i := 0) (v := .int .i64 x) rfl
    obtain ⟨n, hn⟩ : ∃ n, n = (x :: xs).length := ⟨_, rfl⟩
    have n0 : 0 < n := by rw [hn]; simp
    have n1 : n ≠ 0 := by omega
    rw [← hn] at cl
    clear hi hn
    go_enter Try.func15, Try.ntmps15
    go_wp2
    go_ret2
    exact ⟨by simp, rfl⟩

theorem peekI (S : Nat → Prop) (B : Nat) (l : List Int) (w : World) (h : HeapI w S B l) :
    Calls Try.prog 15 #[.pointer (some ⟨B, 0, none⟩)] w fun e w' => ∃ x ok, e = .returned (.tuple #[.int .i64 x, .bool ok]) ∧ Hm.Pk ilt 0 l x ok ∧ w' = w := by
  obtain ⟨xs, h1, h2, h3⟩ := h
  refine (peekI_row S B xs w h1).mono ?_
  rintro e w' ⟨rfl, rfl⟩
  refine ⟨_, _, rfl, Hm.Pk.perm ?_ h3, rfl⟩
  cases xs with
  | nil => exact .inl ⟨rfl, rfl, rfl⟩
  | cons x xs => exact .inr ⟨rfl, by simp, Hm.Hp.least ilt_ord h2 rfl⟩

theorem popI (S : Nat → Prop) (B : Nat) (l : List Int) (w : World) (h : HeapI w S B l) (hn : l.length ≤ 100000) :
    Calls Try.prog 13 #[.pointer (some ⟨B, 0, none⟩)] w fun e w' => ∃ x ok l', e = .returned (.tuple #[.int .i64 x, .bool ok]) ∧ Hm.Po ilt 0 l x ok l' ∧ HeapI w' S B l' ∧ Kept S w w' := by
  obtain ⟨xs, h1, h2, h3⟩ := h
  have hp := peekI_row S B xs w h1
  have hN : xs.length ≤ 100000 := by rw [h3.length_eq]; exact hn
  clear hn
  cases xs with
  | nil =>
    have HH := Lib.hid (show HeapI w S B [] from ⟨[], h1, h2, List.Perm.refl _⟩)
    have hl : l = [] := h3.symm.eq_nil
    have HL := Lib.hid hl
    clear h1 h2 h3 hl
    simp at hp
    go_enter Try.func13, Try.ntmps13
    go_wp2_with fail
    refine hp.mono ?_
    rintro _ _ ⟨rfl, rfl⟩
    go_wp2
    go_ret2
    exact ⟨0, false, [], rfl, .inl ⟨HL.out, rfl, rfl, rfl⟩, HH.out, Kept.refl _ _⟩
  | cons x xs =>
    obtain ⟨A, c, -, cl, fl, -, -, -, hA⟩ := h1.list
    rcases hA with ⟨_, h, _⟩ | ⟨g, rfl, hg, hi⟩
    · simp at h
    obtain ⟨n, hn⟩ : ∃ n, n = (x :: xs).length := ⟨_, rfl⟩
    have n0 : 0 < n := by rw [hn]; simp
    obtain ⟨m, hm⟩ : ∃ m, n = m + 1 := ⟨n - 1, by omega⟩
    obtain ⟨z, hz⟩ : ∃ z, (x :: xs)[m]? = some z := ⟨_, List.getElem?_eq_getElem (by omega)⟩
    have hpop := Hm.pop_perm (l := x :: xs) (x := x) (z := z) rfl (by rw [← hn, hm]; exact hz)
    have hsk := h2.pop (z := z)
    have hle := Hm.Hp.least ilt_ord h2 (x := x) rfl
    have i1 : InI (w.setCell ⟨g, 0, none⟩ (.int .i64 z)).drew B g n c ((x :: xs).set 0 z) := by
      have := (hi.set 0 (.int .i64 z)).drew
      rwa [ci_set, ← hn] at this
    obtain ⟨W1, hW1⟩ : ∃ W1, W1 = (w.setCell ⟨g, 0, none⟩ (.int .i64 z)).drew := ⟨_, rfl⟩
    rw [← hW1] at i1
    have k1 : Kept S w W1 := by rw [hW1]; exact ((Kept.refl S w).setCell (.inl hg)).drew
    have hnc := hi.nc
    rw [← hn] at hnc
    have mc : m < c := by omega
    have i2 := i1.set m (.int .i64 0)
    have hc := fun ty => clear_one (P := Try.prog) W1 22 3 ty (.int .i64 0) [.int .i64 0] Try.underlying22 zeroI (by kernel_rfl) (by simp [Value.oneCell']) g m (c - m) (n - m) (by omega) (by intro j hj; simp at hj; subst hj; exact i1.row.some_ (by omega)) (by intro j _; exact i1.row.frozen _)
    obtain ⟨W2, hW2⟩ : ∃ W2, W2 = W1.setCells g m [.int .i64 0] := ⟨_, rfl⟩
    have hW2' : W2 = W1.setCell ⟨g, m, none⟩ (.int .i64 0) := hW2
    rw [← hW2'] at i2
    have k2 : Kept S w W2 := by rw [hW2']; exact k1.setCell (.inl hg)
    have i3 := i2.short (m := m) (by omega) _ rfl
    have e3 : (((ci ((x :: xs).set 0 z)).set m (.int .i64 0)).take (m * 1)) = ci (Hm.pop (x :: xs) z) := by
      rw [Nat.mul_one, List.take_set_of_le (Nat.le_refl _), ci_take, Hm.pop, ← hn, hm]
      rfl
    rw [e3] at i3
    have k3 := k2.setCell (g := B) (o := 1) (v := .slice (some ⟨g, 0, none⟩) m c) (.inl h1.1)
    have hs : Hm.Hp ilt 0 (Hm.pop (x :: xs) z) ∨ True := .inr trivial
    have cl1 := i1.l
    have cl2 := i2.l
    have fl2 := i2.frozen 1
    have c0 := hi.row.cell (i := 0) (v := .int .i64 x) rfl
    have cz := hi.row.cell (ci_at hz)
    have f0 := hi.row.frozen 0
    simp only [← hW2] at hc
    rw [hW1] at hc cl1
    rw [← hn] at cl
    simp at hp
    have mN : m ≤ 100000 := by omega
    have HI3 := Lib.hid i3
    have HK3 := Lib.hid k3
    have HPO := Lib.hid (show ∀ l', l'.Perm (Hm.pop (x :: xs) z) → Hm.Po ilt 0 l x true l' from fun l' hl' => (show Hm.Po ilt 0 (x :: xs) x true l' from .inr ⟨rfl, hpop.trans (List.Perm.cons _ hl'.symm), hle⟩).perm h3)
    have HSK := Lib.hid hsk
    have HS := Lib.hid h1
    have HG := Lib.hid hg
    have m0 : decide ((m : Int) + 1 = 0) = false := by simp; omega
    have nm : (n : Int) - 1 = (m : Int) := by omega
    have HNM := Lib.hid hm
    have mn : m < n := by omega
    clear h1 h2 h3 hi hn hz hpop hsk hle i1 i2 i3 k1 k2 k3 e3 hs hW1 hW2 hW2' hm hg hN
    go_enter Try.func13, Try.ntmps13
    go_wp2_with fail
    refine hp.mono ?_
    rintro _ w0 ⟨rfl, rfl⟩
    clear hp
    go_wp2
    go_region
    all_goals
      go_wp2_with fail
      clear cl fl cl1 cl2 fl2 c0 cz f0 hc
      by_cases m00 : m = 0
      · subst m00
        have e0 : Hm.pop (x :: xs) z = [] := List.length_eq_zero_iff.1 (by have := HI3.out.len; rw [ci_length] at this; omega)
        have i4 := HI3.out
        rw [e0] at i4
        refine (sinkI_none B g c _ i4).mono ?_
        rintro _ w4 ⟨rfl, rfl⟩
        have HH : Hid (HeapI _ S B []) := Lib.hid ⟨[], ⟨HS.out.1, fun k hk => Nat.lt_of_lt_of_le (HS.out.2.1 k hk) HK3.out.size, .inr ⟨g, c, HG.out, i4⟩⟩, Hm.Hp.none (by simp), List.Perm.refl _⟩
        have HP := Lib.hid (HPO.out [] (by rw [e0]))
        clear e0 i4
        go_wp2
        go_ret2
        exact ⟨x, true, [], rfl, HP.out, HH.out, HK3.out⟩
      · refine (sinkI B g m c 0 0 _ _ HI3.out HSK.out (Nat.le_refl _) (by omega) (by omega)).mono ?_
        rintro _ w4 ⟨rfl, l4, i4, s4, p4, b4⟩
        have HK4 := Lib.hid (HK3.out.but b4 (.inl HG.out))
        have L4 := InI.length i4
        have HH : Hid (HeapI w4 S B l4) := Lib.hid ⟨l4, ⟨HS.out.1, fun k hk => Nat.lt_of_lt_of_le (HS.out.2.1 k hk) HK4.out.size, .inr ⟨g, c, HG.out, by rw [L4]; exact i4⟩⟩, s4, List.Perm.refl _⟩
        have HP := Lib.hid (HPO.out l4 p4)
        clear i4 s4 p4 b4 L4
        go_wp2
        go_ret2
        exact ⟨x, true, l4, rfl, HP.out, HH.out, HK4.out⟩

theorem pushI (S : Nat → Prop) (B : Nat) (l : List Int) (x : Int) (w : World) (h : HeapI w S B l) (hn : l.length ≤ 100000) :
    Calls Try.prog 11 #[.pointer (some ⟨B, 0, none⟩), .int .i64 x] w fun e w' => e = .returned (.tuple #[]) ∧ ∃ S', HeapI w' S' B (x :: l) ∧ Kept S w w' ∧ ∀ k, S' k → S k ∨ w.heap.size ≤ k := by
  obtain ⟨xs, h1, h2, h3⟩ := h
  obtain ⟨i0, hi, hz0, hz1, hz2⟩ := info_parts Try.infoI
  obtain ⟨A, c, hb, cl, fl, -, ho, hS, -⟩ := h1.list
  have hN : xs.length ≤ 100000 := by rw [h3.length_eq]; exact hn
  obtain ⟨n, hnn⟩ : ∃ n, n = xs.length := ⟨_, rfl⟩
  have HR := Lib.hid (h2.push x)
  have HP := Lib.hid h3
  have HNN := Lib.hid hnn
  unfold HdI at h1
  rw [← hnn] at cl ho hb hS hN h1
  have HH := Lib.hid h1
  have HO := Lib.hid (ho.alloc (.cells #[.int .i64 x] 3))
  have HPU := Lib.hid (fun W2 g' cap' hg hl => pushed (W0 := w.alloc (.cells #[.int .i64 x] 3)) (W2 := W2) (g' := g') (cap' := cap') h1 hb hS rfl hg hl (cs' := ci xs ++ [.int .i64 x]) (n' := n + 1))
  have hBl := h1.lt
  clear h1 h2 h3 hnn ho hb hS hn
  go_enter Try.func11, Try.ntmps11
  go_wp2_with (at_builtin; refine wpList_append_lies _ rfl (.tmp 8) (.tmp 10) 22 rfl 0 3 i0 (.int .i64 0) 1 8 Try.underlying22 hi hz0 hz1 hz2 rfl (by decide) (.slice A n c) n (ci xs) rfl HO.out ⟨w.heap.size, 0, none⟩ 1 1 [.int .i64 x] rfl rfl (World.news_of_block (heap_alloc_new w _)) (by simp [Value.oneCell']) (by decide) (by unfold maxLen; omega) (by omega) (Nat.zero_le _) _ rfl ?_; intro g' cap' W2 r1 r2 r3 r4; obtain ⟨q1, q2, q3, q4⟩ := HPU.out W2 g' cap' r2 r3 r1; have c2 := cell_of_row W2 B 1 _ _ _ q1; have f2 := frozen_of_row W2 B 1 _ _ q1; have Q1 := Lib.hid q1; have Q2 := Lib.hid q2; have Q3 := Lib.hid q3; have Q4 := Lib.hid q4; clear r1 r2 r3 r4 q1 q2 q3 q4 cl fl)
  have q4 := Q4.out
  rw [show ci xs ++ [.int .i64 x] = ci (xs ++ [x]) from by simp [ci]] at q4
  have q5 := HR.out
  rw [← HNN.out] at q5
  refine (riseI B g' (n + 1) cap' n (xs ++ [x]) _ q4 q5 (by omega) (by omega)).mono ?_
  rintro _ w4 ⟨rfl, l4, i4, s4, p4, b4⟩
  have L4 := InI.length i4
  have HK := Lib.hid (Q2.out.but b4 Q3.out)
  have HF : Hid (HeapI w4 (fun k => S k ∨ k = g') B (x :: l)) := by
    refine ⟨l4, ⟨.inl HH.out.1, fun k hk => ?_, .inr ⟨g', cap', .inr rfl, by rw [L4]; exact i4⟩⟩, s4, p4.trans ((List.perm_append_singleton x xs).trans (List.Perm.cons _ HP.out))⟩
    rcases hk with hk | rfl
    · exact Nat.lt_of_lt_of_le (HH.out.2.1 k hk) HK.out.size
    · exact i4.row.lt
  have HQ : Hid (∀ k, (fun k => S k ∨ k = g') k → S k ∨ w.heap.size ≤ k) := by
    intro k hk
    rcases hk with hk | rfl
    · exact .inl hk
    · exact Q3.out
  clear q4 q5 i4 s4 p4 b4 L4 c2 f2
  go_wp2
  exact bodyPost_end (results_none Try.results11 _ _ _) rfl ⟨rfl, _, HF.out, HK.out, HQ.out⟩

theorem cloneI (A : Option Addr) (n c : Nat) (l : List Int) (w : World) (h : Lst w w.heap.size A n (ci l)) (hA : A = none → c = 0) (hn : n ≤ 100000) :
    Calls Try.prog 29 #[.slice A n c] w fun e w' => ∃ A' c', e = .returned (.slice A' n c') ∧ w'.ownsRow w.heap.size 3 1 (.slice A' n c') n (ci l) ∧ Below w.heap.size w w' := by
  obtain ⟨i0, hi, hz0, hz1, hz2⟩ := info_parts Try.infoI
  have HL := Lib.hid h
  cases A with
  | none =>
    obtain rfl := hA rfl
    have hn0 : n = 0 := by
      rcases Nat.eq_zero_or_pos n with h0 | h0
      · exact h0
      · obtain ⟨_, _, hc, _⟩ := h.2 h0; cases hc
    subst hn0
    have hl : ci l = [] := List.length_eq_zero_iff.1 h.1
    have HE := Lib.hid hl
    have he : ∀ W, (binOp .eql 22 (.slice none 0 0) (.slice none 0 0)).run Try.prog W = .ok (.bool true) W := fun W => Lib.run_eql_slice_nil W 22 3 none 0 0 0 0 Try.underlying22
    clear h hl hA
    go_enter Try.func29, Try.ntmps29
    go_wp2
    go_ret
    exact ⟨none, 0, rfl, by rw [HE.out]; exact World.ownsRow_nil _ _ _ _, Below.refl _ _⟩
  | some ad =>
    have HB := Lib.hid ((Below.refl _ w).alloc (Nat.le_refl _) (.cells #[] 3))
    have he : ∀ W, (binOp .eql 22 (.slice (some ad) n c) (.slice none 0 0)).run Try.prog W = .ok (.bool false) W := fun W => Lib.run_eql_slice_nil W 22 3 (some ad) n c 0 0 Try.underlying22
    clear h hA
    go_enter Try.func29, Try.ntmps29
    go_wp2_with (at_builtin; refine append_lst _ rfl (.tmp 5) (.tmp 6) 22 rfl w.heap.size 3 i0 (.int .i64 0) 8 Try.underlying22 hi hz0 hz1 hz2 rfl (.slice (some ⟨w.heap.size, 0, none⟩) 0 0) 0 [] rfl (own_empty w 3) w.heap.size (some ad) n c (ci l) rfl (fun h => by cases h) (HL.out.below HB.out) (ints_one .i64 l) (by unfold maxLen; omega) (by omega) HB.out.size ?_; intro v' w' q1 q2; have Q1 := Lib.hid q1; have Q2 := Lib.hid (HB.out.grown q2 HB.out.size (fun k hk => by simp [Value.ownBlock] at hk; omega)); clear q1 q2)
    go_ret
    have q := Q1.out
    rw [Nat.zero_add, List.nil_append] at q
    rcases q.2 with ⟨rfl, rfl⟩ | ⟨g, cap, cur, rfl, _⟩
    · exact ⟨none, 0, rfl, q, Q2.out⟩
    · exact ⟨_, cap, rfl, q, Q2.out⟩

theorem newI (A : Option Addr) (n c : Nat) (l : List Int) (w : World) (h : Lst w w.heap.size A n (ci l)) (hA : A = none → c = 0) (hn : n ≤ 100000) :
    Calls Try.prog 9 #[.func (.func 10) #[] #[], .slice A n c] w fun e w' => ∃ (S : Nat → Prop) (B : Nat), e = .returned (.pointer (some ⟨B, 0, none⟩)) ∧ HeapI w' S B l ∧ Below w.heap.size w w' ∧ ∀ k, S k → w.heap.size ≤ k := by
  have HL := Lib.hid (show l.length = n from by have := h.1; rwa [ci_length] at this)
  have HC := Lib.hid (cloneI A n c l w h hA hn)
  clear h hA
  go_enter Try.func9, Try.ntmps9
  go_wp2_with fail
  refine HC.out.mono ?_
  rintro _ w1 ⟨A', c', rfl, ho, hb⟩
  have hS : Hd 68 (.func (.func 10) #[] #[]) 3 1 (w1.alloc (.cells #[.func (.func 10) #[] #[], .slice A' n c'] 68)) (fun k => w.heap.size ≤ k ∧ k < w1.heap.size + 1) w1.heap.size n (ci l) := by
    have hB := heap_alloc_new w1 (.cells #[.func (.func 10) #[] #[], .slice A' n c'] 68)
    refine ⟨⟨hb.size, by omega⟩, fun k hk => by simp; omega, ?_⟩
    have ho2 := ho.alloc (.cells #[.func (.func 10) #[] #[], .slice A' n c'] 68)
    rcases ho.2 with ⟨e, rfl⟩ | ⟨g, cap, cur, e, h1, h2, _⟩
    · injection e with e1 _ e3
      subst e1
      subst e3
      exact .inl ⟨List.length_eq_zero_iff.1 (by rw [ci_length, HL.out]), rfl, hB⟩
    · injection e with e1 _ e3
      subst e1
      subst e3
      have := lt_of_block h2
      exact .inr ⟨g, _, ⟨h1, by omega⟩, In.of_own hB ho2 (by omega)⟩
  have hb2 : Below w.heap.size w (w1.alloc (.cells #[.func (.func 10) #[] #[], .slice A' n c'] 68)) := hb.alloc hb.size _
  have HS := Lib.hid hS
  have HB := Lib.hid hb2
  obtain ⟨A2, c2, -, cl, -⟩ := hS.list
  have e1 : (n : Int).tdiv 2 = ((n / 2 : Nat) : Int) := by rw [Int.tdiv_eq_ediv_of_nonneg (by omega)]; omega
  obtain ⟨B, hBB⟩ : ∃ B, B = w1.heap.size := ⟨_, rfl⟩
  clear hS hb2 ho hb HC
  go_wp2
  go_loopw [6] (fun I wr => ∃ (j : Nat) (xs : List Int), I = .int .i64 ((j : Int) - 1) ∧ j ≤ n / 2 ∧ Hd 68 (.func (.func 10) #[] #[]) 3 1 wr (fun k => w.heap.size ≤ k ∧ k < w1.heap.size + 1) w1.heap.size n (ci xs) ∧ Hm.Hp ilt j xs ∧ xs.Perm l ∧ Below w.heap.size w wr) (fun I _ => (intOf I + 1).toNat)
  case atStart => exact ⟨n / 2, l, congrArg (Value.int .i64) (by omega), Nat.le_refl _, HS.out, Hm.Hp.none (by rw [HL.out]; omega), List.Perm.refl _, HB.out⟩
  case round =>
    obtain ⟨j, xs, rfl, jn, hd, hp, hpm, hb⟩ := hrel
    have HD := Lib.hid hd
    have HP := Lib.hid hp
    have HPM := Lib.hid hpm
    have HBr := Lib.hid hb
    clear hd hp hpm hb cl
    cases j with
    | zero =>
      go_wp2
      go_ret
      exact ⟨fun k => w.heap.size ≤ k ∧ k < w1.heap.size + 1, _, rfl, ⟨xs, by unfold HdI; rw [HPM.out.length_eq, HL.out]; exact HD.out, HP.out, HPM.out⟩, HBr.out, fun k hk => hk.1⟩
    | succ j =>
      obtain ⟨A3, c3, -, -, -, -, -, -, hA⟩ := HD.out.list
      rcases hA with ⟨_, h, _⟩ | ⟨g, rfl, hg, hI⟩
      · omega
      have HI := Lib.hid hI
      have HG := Lib.hid hg
      clear hI hg
      have ej : ((j + 1 : Nat) : Int) - 1 = (j : Int) := by omega
      rw [ej]
      go_wp2_with fail
      refine (sinkI w1.heap.size g n c3 j j xs _ HI.out HP.out.sk (Nat.le_refl _) (by omega) (by omega)).mono ?_
      rintro _ w4 ⟨rfl, l4, i4, s4, p4, b4⟩
      have HD4 : Hid (Hd 68 (.func (.func 10) #[] #[]) 3 1 w4 (fun k => w.heap.size ≤ k ∧ k < w1.heap.size + 1) w1.heap.size n (ci l4)) := ⟨HD.out.1, fun k hk => Nat.lt_of_lt_of_le (HD.out.2.1 k hk) b4.size, .inr ⟨g, c3, HG.out, i4⟩⟩
      have HP4 := Lib.hid s4
      have HPM4 := Lib.hid (p4.trans HPM.out)
      have HB4 := Lib.hid (HBr.out.trans (b4.old HBr.out.size HG.out.1))
      clear i4 s4 p4 b4
      go_wp2
      go_roundw
      case rel => exact ⟨j, l4, rfl, by omega, HD4.out, HP4.out, HPM4.out, HB4.out⟩
      case measure => simp [intOf]
end Go.Proofs.Ytefdohjcgolhjaa
