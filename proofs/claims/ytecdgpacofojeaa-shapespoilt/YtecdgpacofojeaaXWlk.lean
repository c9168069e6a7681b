/-
  Layer 14 (shape): Walk, and what it hands back, by contracts: a stack of depths.
-/
import Derived.Test.YtecdgpacofojeaaXHld
import Derived.Test.YtecdgpacofojeaaXLnk
import Derived.Test.YtecdgpacofojeaaMW
import Derived.Test.YtecdgpacofojeaaGApp
namespace Go.Proofs.Ytecdgpacofojeaa
open Go.RowKit Go.Shelf
attribute [local go_sem] Oper.semAt_some

theorem Try.infoB : (Try.prog.info? 4).map (fun i => (i.zero, i.size, i.bytes)) = some (some (.bool false), 1, 1) := by kernel_rfl
theorem made_bool (n : Nat) (hn : n ≤ 100000) : ∃ M : Array Value, M.size = n ∧
    ∀ W : World, (Instr.makeSlice 75 (.int .i64 (n : Int)) (.int .i64 (n : Int))).run Try.prog W = .ok (.slice (some ⟨W.heap.size, 0, none⟩) n n) (W.alloc (.cells M 4)) := by
  obtain ⟨i0, hi, hz0, hz1, hz2⟩ := info_parts Try.infoB
  obtain ⟨M, hM⟩ : ∃ M, M = madeCells (Value.bool false).cells ((n : Int).toNat * i0.size) := ⟨_, rfl⟩
  refine ⟨M, by rw [hM, size_madeCells, hz1]; simp, fun W => ?_⟩
  have h := run_make (P := Try.prog) W 75 4 i0 (.bool false) Try.underlying75 hi hz0 .i64 .i64 (n : Int) (n : Int) (by omega) (by omega) (by rw [hz2]; omega) (by omega)
  rw [← hM] at h
  simpa using h
/-- a row of which nodes are leaves, filled up to a place; the variable holds it -/
def RowL (T : List Xm.Nd) (g q n k : Nat) (w wr : World) : Prop :=
  (∃ C : Array Value, wr.heap[g]? = some (.cells C 4 (0, 0)) ∧ C.size = n ∧ ∀ (j : Nat) (x : Xm.Nd), j < k → T[j]? = some x → C[j]? = some (.bool x.leaf)) ∧ wr.heap[q]? = some (.cells #[.slice (some ⟨g, 0, none⟩) n n] 75 (0, 0)) ∧ Below w.heap.size w wr
section
variable {w w' wr : World} {A A1 A2 : Option Addr} {n c g q k n1 c1 n2 c2 : Nat} {T : List Xm.Nd} {x : Xm.Nd}
theorem RowL.below (h : RowL T g q n k w wr) (hb : Below wr.heap.size wr w') : RowL T g q n k w w' := by
  obtain ⟨⟨C, h1, h2, h3⟩, h4, hb4⟩ := h
  exact ⟨⟨C, (hb.block g (lt_of_block h1)).trans h1, h2, h3⟩, (hb.block q (lt_of_block h4)).trans h4, hb4.trans (hb.mono hb4.size)⟩
theorem RowL.cell (h : RowL T g q n k w wr) (hk : k < n) : ∃ v, wr.cell? ⟨g, k, none⟩ = some v ∧ wr.frozen? ⟨g, k, none⟩ = false := by
  obtain ⟨⟨C, h1, h2, h3⟩, hb⟩ := h
  exact ⟨C[k]'(by omega), by rw [cell_of_row _ _ _ _ _ _ h1, Array.getElem?_eq_getElem], frozen_of_row _ _ _ _ _ h1⟩
theorem RowL.var (h : RowL T g q n k w wr) : wr.cell? ⟨q, 0, none⟩ = some (.slice (some ⟨g, 0, none⟩) n n) := by rw [cell_of_row _ _ _ _ _ _ h.2.1]; rfl
theorem RowL.step (h : RowL T g q n k w wr) (hk : k < n) (hg : w.heap.size ≤ g) (hq : q ≠ g) (hx : T[k]? = some x) : RowL T g q n (k + 1) w (wr.setCell ⟨g, k, none⟩ (.bool x.leaf)) := by
  obtain ⟨⟨C, h1, h2, h3⟩, h4, hb⟩ := h
  refine ⟨⟨C.setIfInBounds k (.bool x.leaf), heap_setCell_same _ _ _ _ _ _ h1, by simpa using h2, fun j y hj hy => ?_⟩, (Below.heap_setCell _ _ _ _ (show q ≠ g from hq)).trans h4, hb.setCell hg _⟩
  rw [Array.getElem?_setIfInBounds]
  by_cases e : k = j
  · subst e; rw [hx] at hy; injection hy with hy; subst hy; rw [if_pos rfl, if_pos (by omega)]
  · rw [if_neg e]; exact h3 j y (by omega) hy
theorem own_mono {W : World} {base base' n sz : Nat} {e : TypeId} {v : Value} {xs : List Value} (h : W.ownsRow base e sz v n xs) (hb : base' ≤ base) : W.ownsRow base' e sz v n xs := by
  refine ⟨h.1, ?_⟩
  rcases h.2 with h2 | ⟨g, cap, cur, hv, hbg, hr⟩
  · exact .inl h2
  · exact .inr ⟨g, cap, cur, hv, by omega, hr⟩
theorem own_two (W : World) (e : TypeId) (u0 u1 : Value) : (W.alloc (.cells #[u0, u1] e)).ownsRow W.heap.size e 1 (.slice (some ⟨W.heap.size, 0, none⟩) 2 2) 2 [u0, u1] :=
  ⟨rfl, .inr ⟨W.heap.size, 2, #[u0, u1], rfl, Nat.le_refl _, heap_alloc_new W _, Nat.le_refl _, by unfold maxLen; omega, rfl, rfl⟩⟩
theorem own_one (W : World) (e : TypeId) (v0 : Value) : (W.alloc (.cells #[v0] e)).ownsRow W.heap.size e 1 (.slice (some ⟨W.heap.size, 0, none⟩) 1 1) 1 [v0] :=
  ⟨rfl, .inr ⟨W.heap.size, 1, #[v0], rfl, Nat.le_refl _, heap_alloc_new W _, Nat.le_refl _, by unfold maxLen; omega, rfl, rfl⟩⟩
/-- numbers that wait -/
def cn (S : List Nat) : List Value := S.reverse.map fun k : Nat => .int .i64 (k : Int)
theorem cn_length (S : List Nat) : (cn S).length = S.length := by simp [cn]
theorem cn_cons (k : Nat) (S : List Nat) : cn (k :: S) = cn S ++ [.int .i64 (k : Int)] := by simp [cn]
/-- the stack in memory, in blocks from B on -/
def Stk (B : Nat) (w : World) (v : Value) (S : List Nat) : Prop := w.ownsRow B 3 1 v S.length (cn S)
theorem Stk.below {B : Nat} {v : Value} {S : List Nat} (h : Stk B w v S) (hb : Below w.heap.size w w') : Stk B w' v S := own_below h hb
theorem Stk.pop {B k cs : Nat} {S : List Nat} {As : Option Addr} {ns : Nat} (h : Stk B w (.slice As ns cs) (k :: S)) : ∃ g, As = some ⟨g, 0, none⟩ ∧ ns = S.length + 1 ∧ S.length + 1 ≤ cs ∧ B ≤ g ∧ g < w.heap.size ∧ w.cell? ⟨g, S.length, none⟩ = some (.int .i64 (k : Int)) ∧ Stk B w (.slice As S.length cs) S := by
  unfold Stk at h ⊢
  obtain ⟨A', c', e1, h1, h2⟩ := own_formG h
  injection e1 with e1 e2 e3
  subst e1
  subst e2
  subst e3
  rcases h.2 with ⟨hv, h0⟩ | ⟨g, cap, cur, hv, hBg, hg, _⟩
  · simp at h0
  · injection hv with hv
    subst hv
    refine ⟨g, rfl, rfl, h2, hBg, lt_of_block hg, ?_, ?_⟩
    · have := h.cells (g := g) rfl S.length (.int .i64 (k : Int)) (by rw [cn_cons, List.getElem?_append_right (by rw [cn_length]; exact Nat.le_refl _), cn_length]; simp)
      rwa [Addr.add_lit, Nat.zero_add] at this
    · have := own_take (m := S.length) h (by simp)
      rw [cn_cons, Nat.mul_one, List.take_append_of_le_length (by rw [cn_length]; exact Nat.le_refl _), List.take_of_length_le (by rw [cn_length]; exact Nat.le_refl _)] at this
      exact this
theorem Stk.later {B : Nat} {v : Value} {S : List Nat} (h : Stk B w v S) (hl : Later B w w') : Stk B w' v S :=
  own_keep6 h fun k hk => by obtain ⟨h1, h2, -⟩ := own_lt6 h k hk; exact hl.block k h1 h2
/-- a stack that grew: what lies below, and what is no cells, is as it was -/
theorem Stk.grown {B : Nat} {v : Value} {S : List Nat} {wa : World} (h : Stk B w v S) (ha : Below w.heap.size w wa) (hr : wa.grownBy w' v.ownBlock) (hB : B ≤ w.heap.size) : Below B w w' ∧ KeepsFrom 0 w w' := by
  have key : ∀ q, q < w.heap.size → v.ownBlock ≠ some q → w'.heap[q]? = w.heap[q]? := fun q hq hn => (hr.block q (Nat.lt_of_lt_of_le hq ha.size) (fun e => hn e.symm)).trans (ha.block q hq)
  refine ⟨⟨hr.os.trans ha.os, hr.tape.trans ha.tape, hr.output.trans ha.output, Nat.le_trans ha.size hr.size, fun k hk => key k (by omega) fun e => by have := (own_lt6 h k e).1; omega⟩, Nat.le_trans ha.size hr.size, fun j o _ ho hc => ?_⟩
  have hjl := (Array.getElem?_eq_some_iff.1 ho).1
  refine (key j hjl fun e => ?_).trans ho
  obtain ⟨-, -, cs, hcs⟩ := own_lt6 h j e
  rw [ho] at hcs
  injection hcs with hcs
  subst hcs
  cases hc
theorem lst_two (W : World) (e : TypeId) (u0 u1 : Value) : Lst (W.alloc (.cells #[u0, u1] e)) (W.alloc (.cells #[u0, u1] e)).heap.size (some ⟨W.heap.size, 0, none⟩) 2 [u0, u1] := Lst.of_own (own_two W e u0 u1)
set_option maxHeartbeats 1600000 in
set_option maxRecDepth 100000 in
/-- what Walk hands back tells each place, and its depth -/
theorem walk1 {w w0 : World} {d : Int} {v : List Nat} {base lo : Nat} (hR : RowL T g q n n w w0) (hT : T.length = n) (hq : lo ≤ q) (hg : lo ≤ g) (hn : n ≤ 100000) (hv : Xm.Shp T d 0 0 v T.length) :
    TellsV 30 #[.pointer (some ⟨q, 0, none⟩)] base lo w0 (Xm.visits 0 v) := by
  have hvl : v.length = n := by have := hv.len; omega
  have hbd := hv.bound
  have hrem := Xm.Rem.all hv
  have hlt := lt_of_block hR.2.1
  obtain ⟨⟨C, hC, hCn, hCx⟩, hV, -⟩ := hR
  have hlg := lt_of_block hC
  intro m y D I K Y W hI1 hI2 hK hY h0 hK0
  have cq : W.cell? ⟨q, 0, none⟩ = some (.slice (some ⟨g, 0, none⟩) n n) := by rw [cell_of_row _ _ _ _ _ _ (((hI1 0 W h0).1.2 q hlt (.inr hq)).trans hV)]; rfl
  have HI1 := Lib.hid hI1
  have HI2 := Lib.hid hI2
  have HK := Lib.hid hK
  have HY := Lib.hid hY
  have HREM := Lib.hid hrem
  have HBD := Lib.hid hbd
  have HC : Hid (∀ (k : Nat) (x : Xm.Nd) (V : World) (j : Nat), T[k]? = some x → I j V → V.cell? ⟨g, k, none⟩ = some (.bool x.leaf)) := Lib.hid fun k x V j hx hI => by
    have hk := (List.getElem?_eq_some_iff.1 hx).1
    rw [cell_of_row _ _ _ _ _ _ (((hI1 j V hI).1.2 g hlg (.inr hg)).trans hC)]
    exact hCx k x (by omega) hx
  have HT := Lib.hid hT
  have hD0 := (hI1 0 W h0).2
  obtain ⟨W1, hW1⟩ : ∃ W1, W1 = W.alloc (.cells #[.int .i64 0] 3) := ⟨_, rfl⟩
  have hb1 : Below W.heap.size W W1 := by rw [hW1]; exact (Below.refl _ W).alloc (Nat.le_refl _) _
  have cq1 : W1.cell? ⟨q, 0, none⟩ = some (.slice (some ⟨g, 0, none⟩) n n) := (hb1.cell (p := ⟨q, 0, none⟩) (cell_block_lt cq)).trans cq
  have HS1 : Hid (Stk D W1 (.slice (some ⟨W.heap.size, 0, none⟩) 1 1) [0]) := Lib.hid (by
    rw [hW1]
    exact own_mono (own_one W 3 (.int .i64 0)) hD0)
  have H0 := Lib.hid (hI2 0 W W1 h0 (hb1.mono hD0))
  have HK0 := Lib.hid (hK W W1 hK0 (kf_low (kf_below hb1)))
  have HW1 := Lib.hid hW1
  rw [hW1] at cq1
  clear hI1 hI2 hK hY h0 hK0 hv hbd hrem hC hCx hV hW1 hb1 hT
  refine callsIn_of_wp Try.func30 rfl trivial ?_ rfl
  simp only [Try.ntmps30, List.size_toArray, List.length_cons, List.length_nil, Nat.reduceAdd, Nat.reduceSub, Array.replicate_succ, Array.replicate_zero, List.push_toArray, List.append_toArray, List.nil_append, List.cons_append]
  gi_wp2
  rw [← HW1.out]
  clear cq1 cq
  gi_loopw [3, 10] (fun s p wr => ∃ (k : Nat) (S : List Nat), p = .int .i64 (k : Int) ∧ k ≤ n ∧ Stk D wr s S ∧ Xm.Rem T d S k (v.drop k) ∧ I k wr ∧ K wr) (fun _ p _ => n - (intOf p).toNat)
  case atStart => exact ⟨0, [0], rfl, Nat.zero_le _, HS1.out, HREM.out, H0.out, HK0.out⟩
  case round =>
    clear H0 HK0 HS1 HREM HW1
    obtain ⟨k, S, rfl, hkn, hst, hrem, hI, hKr⟩ := hrel
    by_cases hk : k < n
    · obtain ⟨x, hx⟩ : ∃ x, T[k]? = some x := ⟨_, List.getElem?_eq_getElem (by rw [HT.out]; exact hk)⟩
      obtain ⟨e, S', rfl, hve, hleaf, hnode⟩ := hrem.at_ hx
      obtain ⟨A, c, e1, -, -⟩ := own_formG hst
      subst e1
      obtain ⟨gs, rfl, -, hcs, hgs, hgl, c0, hst2⟩ := hst.pop
      have cl := HC.out k x wr k hx hI
      have he : e < n + 1 := by have := HBD.out e (List.mem_of_getElem? hve); omega
      have hSl : S'.length ≤ n := by have := hrem.len; simp at this; omega
      have hve2 := Xm.visits_get (p := 0) hve
      rw [Nat.zero_add] at hve2
      obtain ⟨fn, tmps, assign, body, hy, hR⟩ := HY.out k _ _ wr (fun V => Stk D V (.slice (some ⟨gs, 0, none⟩) S'.length c) S') (fun V V' h hl => h.later hl) hve2 hI hst2 hKr
      have HR := Lib.hid hR
      have HST := Lib.hid hst2
      have HLF := Lib.hid hleaf
      have HND := Lib.hid hnode
      simp only [List.length_cons] at *
      obtain ⟨lf, hlf⟩ : ∃ lf, lf = x.leaf := ⟨_, rfl⟩
      rw [← hlf] at cl
      have HLX := Lib.hid hlf
      clear hR hst2 hst hrem hleaf hnode hve hve2 hx hI hKr hlf
      gi_wp2_with fail
      refine HR.out.mono ?_
      rintro u W3 (⟨rfl, hI3, hst3, hK3⟩ | ⟨rfl, hY3⟩)
      · have HST3 := Lib.hid hst3
        have HI3 := Lib.hid hI3
        have HK3 := Lib.hid hK3
        have hd3 := (HI1.out _ _ hI3).2
        cases lf with
        | true =>
          clear hI3 hK3 hst3 HR hy cl c0
          gi_wp2
          go_roundw
          case rel => exact ⟨k + 1, S', congrArg (Value.int .i64) (by omega), by omega, HST3.out, HLF.out HLX.out.symm, HI3.out, HK3.out⟩
          case measure => simp [intOf]; omega
        | false =>
          clear hI3 hK3 hst3 HR hy cl c0
          obtain ⟨W4, hW4⟩ : ∃ W4, W4 = W3.alloc (.cells #[.int .i64 ((e : Int) + 1), .int .i64 ((e : Int) + 1)] 3) := ⟨_, rfl⟩
          have hb4 : Below W3.heap.size W3 W4 := by rw [hW4]; exact (Below.refl _ W3).alloc (Nat.le_refl _) _
          have HB4 := Lib.hid hb4
          have HO4 := Lib.hid (HST3.out.below hb4)
          have HL4 : Hid (Lst W4 W4.heap.size (some ⟨W3.heap.size, 0, none⟩) 2 [.int .i64 ((e : Int) + 1), .int .i64 ((e : Int) + 1)]) := Lib.hid (by rw [hW4]; exact lst_two W3 _ _ _)
          have HW4 := Lib.hid hW4
          have hsD : D ≤ W4.heap.size := by have := hb4.size; omega
          clear hb4 hW4
          obtain ⟨i0, hi, hz0, hz1, hz2⟩ := info_parts Try.infoI
          gi_wp2_with (gi_at_builtin; rw [← HW4.out]; refine append_lst_in _ rfl (.tmp 36) (.tmp 41) 42 rfl D 3 i0 (.int .i64 0) 8 Try.underlying42 hi hz0 hz1 hz2 rfl (.slice (some ⟨gs, 0, none⟩) S'.length c) S'.length (cn S') rfl HO4.out W4.heap.size (some ⟨W3.heap.size, 0, none⟩) 2 2 [.int .i64 ((e : Int) + 1), .int .i64 ((e : Int) + 1)] rfl (fun h => by cases h) HL4.out (by intro u hu; simp at hu; subst hu; rfl) (by unfold maxLen; omega) (by omega) hsD ?_; intro v5 W5 r1 r2; obtain ⟨hg1, hg2⟩ := HST3.out.grown HB4.out r2 hd3; have R1 := Lib.hid r1; have G1 := Lib.hid hg1; have G2 := Lib.hid hg2; clear r1 r2 hg1 hg2)
          go_roundw
          case rel => exact ⟨k + 1, (e + 1) :: (e + 1) :: S', congrArg (Value.int .i64) (by omega), by omega, by unfold Stk; rw [cn_cons, cn_cons]; simpa using R1.out, HND.out HLX.out.symm, HI2.out _ _ _ HI3.out G1.out, HK.out _ _ HK3.out G2.out⟩
          case measure => simp [intOf]; omega
      · have HY3 := Lib.hid hY3
        clear hY3 HR hy cl c0
        gi_wp2
        refine bodyPost_ret (results_none rfl _ _ _) rfl ?_
        exact ⟨⟨_, rfl⟩, .inr HY3.out⟩
    · obtain rfl : k = n := by omega
      obtain rfl := hrem.over (by rw [HT.out]; exact Nat.le_refl _)
      have HI := Lib.hid hI
      have HKr := Lib.hid hKr
      have HE : Hid (k = (Xm.visits 0 v).length) := Lib.hid (by rw [Xm.visits_length]; exact hvl.symm)
      clear hI hKr hst hrem
      gi_wp2
      go_end0
      exact ⟨⟨_, rfl⟩, .inl ⟨by rw [← HE.out]; exact HI.out, HKr.out⟩⟩
set_option maxHeartbeats 1600000 in
set_option maxRecDepth 100000 in
theorem walkS {d : Int} {v : List Nat} {wb : World} (h : Xds wb A n c T) (hb : Below wb.heap.size wb w) (hn : n ≤ 100000) (hv : Xm.Shp T d 0 0 v T.length) : Calls Try.prog 13 #[.slice A n c] w fun e w' => ∃ gf lb, e = .returned (.func (.func gf) #[] lb) ∧ (∀ args w, (callFunc gf args).run Try.prog w = .ok (.enter gf args) w) ∧ TellsV gf lb wb.heap.size w.heap.size w' (Xm.visits 0 v) ∧ Below w.heap.size w w' := by
  obtain ⟨M, hM, hmk⟩ := made_bool n (by omega)
  obtain ⟨g, hg⟩ : ∃ g, g = w.heap.size := ⟨_, rfl⟩
  have hr0 : RowL T w.heap.size (w.heap.size + 1) n 0 w ((w.alloc (.cells M 4)).alloc (.cells #[.slice (some ⟨w.heap.size, 0, none⟩) n n] 75)) :=
    ⟨⟨M, (Below.heap_alloc _ _ _ (by simp)).trans (heap_alloc_new _ _), hM, fun j x hj => absurd hj (by omega)⟩, by have := heap_alloc_new (w.alloc (.cells M 4)) (.cells #[.slice (some ⟨w.heap.size, 0, none⟩) n n] 75); simpa using this, ((Below.refl _ w).alloc (Nat.le_refl _) _).alloc (by simp) _⟩
  have HR0 := Lib.hid hr0
  have HX := Lib.hid h
  have HB := Lib.hid hb
  have HV := Lib.hid hv
  clear hr0 h hb hM hv hg
  go_enter Try.func13, Try.ntmps13
  go_wp2
  clear hmk
  go_loopw [11] (fun i wr => ∃ k : Nat, k ≤ n ∧ i = .int .i64 k ∧ RowL T w.heap.size (w.heap.size + 1) n k w wr) (fun i _ => n - (intOf i).toNat)
  case atStart => exact ⟨0, Nat.zero_le _, rfl, HR0.out⟩
  case round =>
    clear HR0
    obtain ⟨k, hk, rfl, hR⟩ := hrel
    by_cases hlt : k < n
    · obtain ⟨x, hx⟩ := HX.out.get hlt
      have hbw := hR.2.2
      obtain ⟨b, off, rfl, hbl, A1, n1, c1, A2, n2, c2, -, -, g0, g1, g2, g3, g4, g5⟩ := HX.out.at_in (V := wr) (Nat.le_trans HB.out.size hbw.size) (fun q hq => (hbw.block q (by have := HB.out.size; omega)).trans (HB.out.block q hq)) hx
      obtain ⟨W1, hW1⟩ : ∃ W1, W1 = wr.alloc (.cells #[.bool x.leaf, .slice A1 n1 c1, .slice A2 n2 c2, .int .i64 x.po, .int .i64 x.lt, .int .i64 x.rt] 68) := ⟨_, rfl⟩
      have hb1 : Below wr.heap.size wr W1 := by rw [hW1]; exact (Below.refl _ wr).alloc (Nat.le_refl _) _
      have hN : Ndb W1 wr.heap.size x A1 n1 c1 A2 n2 c2 := by rw [hW1]; exact Ndb.new wr x A1 n1 c1 A2 n2 c2
      obtain ⟨q0, -, -, -, -, -⟩ := hN.cells
      have hR1 := hR.below hb1
      have cv := hR1.var
      obtain ⟨u, hcv, hfv⟩ := hR1.cell hlt
      have HRW := Lib.hid (hR1.step hlt (Nat.le_refl _) (by omega) hx)
      rw [hW1] at cv hcv hfv q0 HRW
      obtain ⟨lf, hlf⟩ : ∃ lf, lf = x.leaf := ⟨_, rfl⟩
      obtain ⟨po, hpo⟩ : ∃ po, po = x.po := ⟨_, rfl⟩
      obtain ⟨lt, hlt'⟩ : ∃ lt, lt = x.lt := ⟨_, rfl⟩
      obtain ⟨rt, hrt⟩ : ∃ rt, rt = x.rt := ⟨_, rfl⟩
      rw [← hlf, ← hpo, ← hlt', ← hrt] at cv hcv hfv q0 HRW
      rw [← hlf] at g0
      rw [← hpo] at g3
      rw [← hlt'] at g4
      rw [← hrt] at g5
      clear hx hR hbw hW1 hb1 hN hR1 hlf hpo hlt' hrt hbl
      go_wp2
      go_roundw
      case rel => exact ⟨k + 1, by omega, by go_num, HRW.out⟩
      case measure => simp [intOf]; omega
    · obtain rfl : k = n := by omega
      have HRW := Lib.hid hR
      clear hR
      go_wp2
      go_ret
      exact ⟨_, _, rfl, enters_of Try.func30 (by kernel_rfl) rfl, walk1 HRW.out HX.out.len (by omega) (Nat.le_refl _) (by omega) HV.out, HRW.out.2.2⟩
end
end Go.Proofs.Ytecdgpacofojeaa
