/-
  Layer 7 (heap): the document's own row of numbers, by contracts: least, Peek, Pop, Push.
-/
import Derived.Test.YtefdohjcgolhjaaHAwk
import Derived.Deep.RegionHeld3
import Derived.Deep.RegionLaw
namespace Go.Proofs.Ytefdohjcgolhjaa
open Go.RowKit

/-- the row at block R holds m, in a list that lies in no block of S -/
def RowR (w : World) (S : Nat → Prop) (R : Nat) (m : List Int) : Prop :=
  ¬ S R ∧ R < w.heap.size ∧ ∃ A n c, w.heap[R]? = some (.cells #[.slice A n c] 30 (0, 0)) ∧ m.length = n ∧ n ≤ c ∧ (A = none → c = 0) ∧
    (0 < n → ∃ b off, A = some ⟨b, off, none⟩ ∧ b < w.heap.size ∧ ¬ S b ∧ b ≠ R ∧ ∀ j u, (ci m)[j]? = some u → w.cell? ⟨b, off + j, none⟩ = some u)
section
variable {w w' : World} {S S' : Nat → Prop} {R : Nat} {m : List Int}
theorem RowR.heap (h : RowR w S R m) (hb : Kept S w w') (hS : ∀ k, S' k → S k ∨ w.heap.size ≤ k) : RowR w' S' R m := by
  obtain ⟨h1, h2, A, n, c, h3, h4, h5, h6, h7⟩ := h
  have hn : ∀ k, k < w.heap.size → ¬ S k → ¬ S' k := fun k hk hs q => by rcases hS k q with q2 | q2; exact hs q2; omega
  refine ⟨hn R h2 h1, Nat.lt_of_lt_of_le h2 hb.size, A, n, c, (hb.block R h2 h1).trans h3, h4, h5, h6, fun h0 => ?_⟩
  obtain ⟨b, off, e, q1, q2, q3, q4⟩ := h7 h0
  exact ⟨b, off, e, Nat.lt_of_lt_of_le q1 hb.size, hn b q1 q2, q3, fun j u hu => (World.cell?_of_block (a := ⟨b, off + j, none⟩) (hb.block b q1 q2)).trans (q4 j u hu)⟩
theorem RowR.below (h : RowR w S R m) (hb : Below w.heap.size w w') : RowR w' S R m := h.heap (Kept.of_below hb) fun _ h => .inl h
theorem RowR.drew (h : RowR w S R m) : RowR w.drew S R m := h
end

theorem bdrew {B : Nat} {w w' : World} (h : Below B w w') (d : Nat) : Below B w (w'.drewN d) := by
  induction d with
  | zero => exact h
  | succ d ih => exact ih.drew
/-- where the least one stands -/
def Lea (m : List Int) (k : Int) : Prop := (m = [] ∧ k = -1) ∨ ∃ (i : Nat) (x : Int), k = (i : Int) ∧ m[i]? = some x ∧ ∀ y ∈ m, ilt y x = false
/-- of the first j -/
def LeaJ (m : List Int) (j : Nat) (k : Int) : Prop := (j = 0 ∧ k = -1) ∨ (0 < j ∧ ∃ (i : Nat) (x : Int), k = (i : Int) ∧ i < j ∧ m[i]? = some x ∧ ∀ y ∈ m.take j, ilt y x = false)
theorem LeaJ.done {m : List Int} {k : Int} (h : LeaJ m m.length k) : Lea m k := by
  rcases h with ⟨h1, h2⟩ | ⟨_, i, x, h1, _, h2, h3⟩
  · exact .inl ⟨List.length_eq_zero_iff.1 h1, h2⟩
  · exact .inr ⟨i, x, h1, h2, by rwa [List.take_length] at h3⟩
theorem LeaJ.first {m : List Int} {x : Int} (hx : m[0]? = some x) : LeaJ m 1 0 := by
  cases m with
  | nil => simp at hx
  | cons a m => exact .inr ⟨by omega, 0, a, rfl, by omega, rfl, by simp [ilt]⟩
theorem take_mem {m : List Int} {j : Nat} {x y : Int} (hx : m[j]? = some x) (h : y ∈ m.take (j + 1)) : y ∈ m.take j ∨ y = x := by
  rw [List.take_add_one, hx] at h
  simpa using h
theorem LeaJ.yes {m : List Int} {j i : Nat} {x y : Int} (h : LeaJ m j (i : Int)) (hx : m[j]? = some x) (hy : m[i]? = some y) (hlt : x < y) : LeaJ m (j + 1) (j : Int) := by
  rcases h with ⟨_, h⟩ | ⟨_, i', y', h1, h2, h3, h4⟩
  · omega
  obtain rfl : i = i' := by omega
  rw [hy] at h3; injection h3 with h3; subst h3
  refine .inr ⟨by omega, j, x, rfl, by omega, hx, fun z hz => ?_⟩
  rcases take_mem hx hz with q | q
  · have := h4 z q; simp [ilt] at *; omega
  · simp [ilt, q]
theorem LeaJ.no {m : List Int} {j i : Nat} {x y : Int} (h : LeaJ m j (i : Int)) (hx : m[j]? = some x) (hy : m[i]? = some y) (hlt : ¬ x < y) : LeaJ m (j + 1) (i : Int) := by
  rcases h with ⟨_, h⟩ | ⟨_, i', y', h1, h2, h3, h4⟩
  · omega
  obtain rfl : i = i' := by omega
  rw [hy] at h3; injection h3 with h3; subst h3
  refine .inr ⟨by omega, i, y, rfl, by omega, hy, fun z hz => ?_⟩
  rcases take_mem hx hz with q | q
  · exact h4 z q
  · simp [ilt, q]; omega

theorem refLeast (S : Nat → Prop) (R : Nat) (m : List Int) (w : World) (h : RowR w S R m) (hn : m.length ≤ 1000) :
    Calls Try.prog 32 #[.pointer (some ⟨R, 0, none⟩)] w fun e w' => ∃ k, e = .returned (.int .i64 k) ∧ Lea m k ∧ Below w.heap.size w w' := by
  obtain ⟨h1, h2, A, n, c, h3, h4, h5, h6, h7⟩ := h
  have HR := Lib.hid (show w.cell? ⟨R, 0, none⟩ = some (.slice A n c) from by rw [cell_of_row _ _ _ _ _ _ h3]; rfl)
  have H7 := Lib.hid h7
  have HN := Lib.hid h4
  have nn : n ≤ 1000 := by omega
  clear h1 h3 h4 h5 h6 h7 hn
  go_enter Try.func32, Try.ntmps32
  go_wp2
  go_loopw [3, 4] (fun K J wr => ∃ (k : Int) (j : Nat), K = .int .i64 k ∧ J = .int .i64 (j : Int) ∧ j ≤ n ∧ LeaJ m j k ∧ Below w.heap.size w wr) (fun K J _ => n - (intOf J).toNat)
  case atStart => exact ⟨-1, 0, rfl, rfl, Nat.zero_le _, .inl ⟨rfl, rfl⟩, Below.refl _ _⟩
  case round =>
    obtain ⟨k, j, rfl, rfl, jn, hk, hb⟩ := hrel
    have Hb := Lib.hid hb
    have cR := (hb.cell (p := ⟨R, 0, none⟩) h2).trans HR.out
    have HK := Lib.hid hk
    clear hb
    by_cases hlt : j < n
    · obtain ⟨x, hx⟩ : ∃ x, m[j]? = some x := ⟨_, List.getElem?_eq_getElem (by rw [HN.out]; exact hlt)⟩
      obtain ⟨b, off, rfl, q1, -, -, q4⟩ := H7.out (by omega)
      have cx := (Hb.out.cell (p := ⟨b, off + j, none⟩) q1).trans (q4 j _ (ci_at hx))
      have HX := Lib.hid hx
      rcases hk with ⟨j0, rfl⟩ | ⟨j0, i, y, rfl, ij, hy, -⟩
      · subst j0
        have HL := Lib.hid (LeaJ.first hx)
        clear hx q1 q4
        go_wp2
        go_quiet (fail)
        have HB2 := Lib.hid (bdrew Hb.out nq)
        go_wp2
        go_roundw
        case rel => exact ⟨0, 1, rfl, rfl, by omega, HL.out, HB2.out⟩
        case measure => simp [intOf]; omega
      · have cy := (Hb.out.cell (p := ⟨b, off + i, none⟩) q1).trans (q4 i _ (ci_at hy))
        have g1 : decide ((i : Int) < 0) = false := by simp
        have hin : i < n := by omega
        by_cases hxy : x < y
        · have HL := Lib.hid (HK.out.yes hx hy hxy)
          have g2 : decide (x < y) = true := by simpa using hxy
          clear hx hy q1 q4 hxy
          go_wp2
          go_quiet (fail)
          have HB2 := Lib.hid (bdrew Hb.out nq)
          go_wp2
          go_roundw
          case rel => exact ⟨(j : Int), j + 1, rfl, congrArg (Value.int .i64) (by omega), by omega, HL.out, HB2.out⟩
          case measure => simp [intOf]; omega
        · have HL := Lib.hid (HK.out.no hx hy hxy)
          have g2 : decide (x < y) = false := by simpa using hxy
          clear hx hy q1 q4 hxy
          go_wp2
          go_quiet (fail)
          have HB2 := Lib.hid (bdrew Hb.out nq)
          go_wp2
          go_roundw
          case rel => exact ⟨(i : Int), j + 1, rfl, congrArg (Value.int .i64) (by omega), by omega, HL.out, HB2.out⟩
          case measure => simp [intOf]; omega
    · have HL := Lib.hid (LeaJ.done (show LeaJ m m.length k from by rw [HN.out, show n = j from by omega]; exact HK.out))
      clear hk
      go_wp2
      go_ret
      exact ⟨k, rfl, HL.out, Hb.out⟩

theorem refPeek (S : Nat → Prop) (R : Nat) (m : List Int) (w : World) (h : RowR w S R m) (hn : m.length ≤ 1000) :
    Calls Try.prog 16 #[.pointer (some ⟨R, 0, none⟩)] w fun e w' => ∃ x ok, e = .returned (.tuple #[.int .i64 x, .bool ok]) ∧ Hm.Pk ilt 0 m x ok ∧ Below w.heap.size w w' := by
  have HK := Lib.hid (refLeast S R m w h hn)
  have HR := Lib.hid h
  clear h
  go_enter Try.func16, Try.ntmps16
  go_wp2_with fail
  refine HK.out.mono ?_
  rintro _ w1 ⟨k, rfl, hk, hb⟩
  have HR1 := HR.out.below hb
  have Hb := Lib.hid hb
  obtain ⟨-, -, A, n, c, h3, h4, h5, h6, h7⟩ := HR1
  have cR : w1.cell? ⟨R, 0, none⟩ = some (.slice A n c) := by rw [cell_of_row _ _ _ _ _ _ h3]; rfl
  rcases hk with ⟨rfl, rfl⟩ | ⟨i, x, rfl, hx, hle⟩
  · clear h3 h4 h5 h6 h7 hb
    go_wp2
    go_ret2
    exact ⟨0, false, rfl, .inl ⟨rfl, rfl, rfl⟩, Hb.out⟩
  · have hin : i < n := by have := (List.getElem?_eq_some_iff.1 hx).1; omega
    obtain ⟨b, off, rfl, q1, -, -, q4⟩ := h7 (by omega)
    have cx := q4 i _ (ci_at hx)
    have HP := Lib.hid (show Hm.Pk ilt 0 m x true from .inr ⟨rfl, List.mem_of_getElem? hx, hle⟩)
    have g1 : ¬ ((i : Int) < 0) := by omega
    clear h3 h4 h5 h6 h7 hb q1 q4 hx hle
    go_wp2
    go_ret2
    exact ⟨x, true, rfl, HP.out, Hb.out⟩

theorem own_is {w : World} {base : Nat} {e : TypeId} {sz : Nat} {v : Value} {n : Nat} {xs : List Value} (h : w.ownsRow base e sz v n xs) : ∃ A c, v = .slice A n c := by
  rcases h.2 with ⟨rfl, rfl⟩ | ⟨g, cap, cur, rfl, _⟩
  · exact ⟨none, 0, rfl⟩
  · exact ⟨_, cap, rfl⟩
/-- a row of one's own that was stored -/
theorem RowR.stored {w W : World} {S : Nat → Prop} {R n c : Nat} {A : Option Addr} {m m' : List Int} (h : RowR w S R m) (hS : ∀ k, S k → k < w.heap.size) (hb : Below w.heap.size w W) (ho : W.ownsRow w.heap.size 3 1 (.slice A n c) n (ci m')) :
    RowR (W.setCell ⟨R, 0, none⟩ (.slice A n c)) S R m' ∧ Kept (fun k => k = R) w (W.setCell ⟨R, 0, none⟩ (.slice A n c)) := by
  obtain ⟨h1, h2, A0, n0, c0, h3, -⟩ := h
  have hR : W.heap[R]? = some (.cells #[.slice A0 n0 c0] 30 (0, 0)) := (hb.block R h2).trans h3
  have hsz : (W.setCell ⟨R, 0, none⟩ (.slice A n c)).heap.size = W.heap.size := by simp [World.setCell]
  refine ⟨⟨h1, by rw [hsz]; exact Nat.lt_of_lt_of_le h2 hb.size, A, n, c, by rw [heap_setCell_same _ _ _ _ _ _ hR]; rfl, by have := ho.1; rw [ci_length] at this; omega, ?_, ?_, fun h0 => ?_⟩, (Kept.of_below hb).setCell (.inl rfl)⟩
  · rcases ho.2 with ⟨e, rfl⟩ | ⟨g, cap, cur, e, _, _, hnc, _⟩
    · exact Nat.zero_le _
    · injection e with _ _ e3; subst e3; exact hnc
  · intro hA
    rcases ho.2 with ⟨e, _⟩ | ⟨g, cap, cur, e, _⟩
    · injection e
    · injection e with e1; rw [hA] at e1; cases e1
  · obtain ⟨g, cap, e, hg, hlt⟩ := ho.form h0
    injection e with e1 _ e3
    subst e1
    subst e3
    refine ⟨g, 0, rfl, by rw [hsz]; exact hlt, fun q => by have := hS g q; omega, by omega, fun j u hu => ?_⟩
    obtain ⟨b, off, e, -, hc⟩ := (Lst.of_own ho).2 h0
    injection e with e
    injection e with e1 e2
    subst e1
    subst e2
    rw [← hc j u hu]
    exact World.cell?_of_block (a := ⟨g, 0 + j, none⟩) (Below.heap_setCell _ _ _ _ (by show g ≠ R; omega))

theorem refPush (S : Nat → Prop) (R : Nat) (m : List Int) (x : Int) (w : World) (h : RowR w S R m) (hS : ∀ k, S k → k < w.heap.size) (hn : m.length ≤ 1000) :
    Calls Try.prog 12 #[.pointer (some ⟨R, 0, none⟩), .int .i64 x] w fun e w' => e = .returned (.tuple #[]) ∧ RowR w' S R (m ++ [x]) ∧ Kept (fun k => k = R) w w' := by
  obtain ⟨i0, hi, hz0, hz1, hz2⟩ := info_parts Try.infoI
  have HR := Lib.hid h
  have HST := Lib.hid (fun (W : World) (A : Option Addr) (n c : Nat) (hb : Below w.heap.size w W) (ho : W.ownsRow w.heap.size 3 1 (.slice A n c) n (ci (m ++ [x]))) => h.stored hS hb ho)
  obtain ⟨-, h2, A, n, c, h3, h4, h5, h6, h7⟩ := h
  have HL := Lib.hid (show Lst w w.heap.size A n (ci m) from ⟨by rw [ci_length]; exact h4, fun h0 => by obtain ⟨b, off, e, q1, _, _, q4⟩ := h7 h0; exact ⟨b, off, e, q1, q4⟩⟩)
  have HA := Lib.hid h6
  have nn : n ≤ 1000 := by omega
  have HB := Lib.hid ((Below.refl _ w).alloc (Nat.le_refl _) (.cells #[] 3))
  have cR : w.cell? ⟨R, 0, none⟩ = some (.slice A n c) := by rw [cell_of_row _ _ _ _ _ _ h3]; rfl
  have hf : w.frozen? ⟨R, 0, none⟩ = false := frozen_of_row _ _ _ _ _ h3
  have HCF := Lib.hid (show ∀ W, Below w.heap.size w W → W.cell? ⟨R, 0, none⟩ = some (.slice A n c) ∧ W.frozen? ⟨R, 0, none⟩ = false from fun W hb => ⟨(hb.cell (p := ⟨R, 0, none⟩) h2).trans cR, (World.frozen?_of_block (a := ⟨R, 0, none⟩) (hb.block R h2)).trans hf⟩)
  clear h3 h4 h5 h6 h7 hS hf
  go_enter Try.func12, Try.ntmps12
  go_wp2_with (first
    | (at_builtin; refine append_lst _ rfl (.tmp 5) (.tmp 9) 22 rfl w.heap.size 3 i0 (.int .i64 0) 8 Try.underlying22 hi hz0 hz1 hz2 rfl (.slice (some ⟨w.heap.size, 0, none⟩) 0 0) 0 [] rfl (own_empty w 3) w.heap.size A n c (ci m) rfl HA.out (HL.out.below HB.out) (ints_one .i64 m) (by unfold maxLen; omega) (by omega) HB.out.size ?_; intro v1 w2 q1 q2; have O2 := Lib.hid (q1.alloc (.cells #[.int .i64 x] 3)); have B2 := Lib.hid (HB.out.grown q2 HB.out.size (fun k hk => by simp [Value.ownBlock] at hk; omega)); have B3 := Lib.hid (B2.out.alloc B2.out.size (.cells #[.int .i64 x] 3)); clear q1 q2)
    | (at_builtin; refine append_lst _ rfl (.tmp 10) (.tmp 12) 22 rfl w.heap.size 3 i0 (.int .i64 0) 8 Try.underlying22 hi hz0 hz1 hz2 rfl v1 (0 + n) ([] ++ ci m) rfl O2.out (w2.heap.size + 1) (some ⟨w2.heap.size, 0, none⟩) 1 1 (ci [x]) rfl (fun h => by cases h) ⟨rfl, fun _ => ⟨w2.heap.size, 0, rfl, by omega, fun j u hu => by rw [cell_of_row _ _ _ _ _ _ (heap_new w2 _ _)]; rw [Nat.zero_add]; simpa [ci] using hu⟩⟩ (ints_one .i64 [x]) (by unfold maxLen; omega) (by omega) B3.out.size ?_; intro v2 w3 q1 q2; have O3 := Lib.hid q1; have B4 := Lib.hid (B3.out.grown q2 B3.out.size (fun k hk => (O2.out.lt k hk).1)); obtain ⟨cR3, fR3⟩ := HCF.out w3 B4.out; obtain ⟨A3, c3, rfl⟩ := own_is q1; clear q1 q2))
  all_goals
    have q := O3.out
    rw [Nat.zero_add, List.nil_append, show ci m ++ ci [x] = ci (m ++ [x]) from by simp [ci]] at q
    obtain ⟨r1, r2⟩ := HST.out w3 A3 (n + 1) c3 B4.out q
    exact bodyPost_end (results_none Try.results12 _ _ _) rfl ⟨rfl, r1, r2⟩

/-- append of a list that reads, nil too, at a step of a region that draws its order -/
theorem step_append_lst {P : Program} {w : World} {ops : Array Oper} {o : Oper} {a : Act} {K : Act → World → Prop} {Q : Exit → Act → World → Prop} {E : Prop} (hgd : o.guard = none) (s x : Operand) (t : TypeId)
    (ho : o.op = .call { callee := .builtin .append, args := #[s, x], argTypes := #[t, t] })
    (base : Nat) (e : TypeId) (i : TypeInfo) (z : Value) (bytes : Nat) (ht : P.underlying t = some (.slice e)) (hi : P.info? e = some i) (hz : i.zero = some z)
    (hsize : i.size = 1) (hby : i.bytes = bytes) (hzs : z.cells.size = 1)
    (v : Value) (n : Nat) (xs : List Value) (hs : a.eval s = v) (hown : w.ownsRow base e 1 v n xs)
    (B : Nat) (A : Option Addr) (m c : Nat) (news : List Value) (hx : a.eval x = .slice A m c) (hA : A = none → c = 0) (hL : Lst w B A m news) (h1 : ∀ u ∈ news, u.oneCell' = true)
    (h63 : n + m ≤ maxLen) (hbytes : (n + m) * bytes ≤ 140737488355328) (hbase : base ≤ w.heap.size)
    (h : ∀ v' w', w'.ownsRow base e 1 v' (n + m) (xs ++ news) → w.grownBy w' v.ownBlock → K (a.put o.dst v') w') :
    if Region.wanted o (yielded ops a.tmps) = true then Oper.wp P o a w K Q else E := by
  have hw : Region.wanted o (yielded ops a.tmps) = true := by simp [Region.wanted, hgd]
  rw [if_pos hw]
  cases A with
  | none =>
    obtain rfl : m = 0 := by
      rcases Nat.eq_zero_or_pos m with h0 | h0
      · exact h0
      · obtain ⟨_, _, hc, _⟩ := hL.2 h0; cases hc
    obtain rfl : news = [] := List.length_eq_zero_iff.1 hL.1
    obtain rfl := hA rfl
    have hrun := run_append_owned_none (P := P) (w := w) base t o.type e i 1 ht hi v n xs hown
    have hK := h v w (by simpa using hown) (World.grownBy.refl _ _)
    unfold Oper.wp
    simp [execOp, ho, resolve, invoke, builtin, hs, hx, hrun, Result.andThen]
    exact hK
  | some ad =>
    refine wp_append_own w s x t ho base e i z 1 bytes ht hi hz hsize hby hzs (by decide) v n xs hs hown ad m c news hx (by rw [hL.1]; omega) ?_ h1 h63 hbytes hbase fun v' w' h2 h3 _ => h v' w' h2 h3
    intro j u hu
    have hj : 0 < m := by have := (List.getElem?_eq_some_iff.1 hu).1; have := hL.1; omega
    obtain ⟨b, off, hc, _, hcell⟩ := hL.2 hj
    injection hc with hc
    subst hc
    rw [Addr.add_lit]
    exact hcell j u hu
theorem lst_take {w : World} {B n k : Nat} {A : Option Addr} {l : List Int} (h : Lst w B A n (ci l)) (hk : k ≤ n) : Lst w B A k (ci (l.take k)) := by
  have hl := h.1
  rw [ci_length] at hl
  refine ⟨by rw [ci_length]; simp; omega, fun h0 => ?_⟩
  obtain ⟨b, off, e, hb, hc⟩ := h.2 (by omega)
  refine ⟨b, off, e, hb, fun j u hu => hc j u ?_⟩
  rw [← ci_take, List.getElem?_take] at hu
  split at hu
  · exact hu
  · cases hu
theorem lst_cut {w : World} {B n k c b off : Nat} {l : List Int} (h : Lst w B (some ⟨b, off, none⟩) n (ci l)) (hk : k ≤ n) (hc : n ≤ c) : Lst w B (if c = k then some ⟨b, off, none⟩ else some ⟨b, off + k, none⟩) (n - k) (ci (l.drop k)) := by
  have hl := h.1
  rw [ci_length] at hl
  refine ⟨by rw [ci_length]; simp; omega, fun h0 => ?_⟩
  rw [if_neg (by omega)]
  obtain ⟨b', off', e, hb, hc⟩ := h.2 (by omega)
  injection e with e
  injection e with e1 e2
  subst e1
  subst e2
  refine ⟨b, off + k, rfl, hb, fun j u hu => ?_⟩
  rw [Nat.add_assoc]
  refine hc (k + j) u ?_
  simpa [ci, List.getElem?_drop] using hu
theorem erase_perm {m : List Int} {i : Nat} {x : Int} (hx : m[i]? = some x) : m.Perm (x :: (m.take i ++ m.drop (i + 1))) := by
  obtain ⟨h1, h2⟩ := List.getElem?_eq_some_iff.1 hx
  conv => lhs; rw [← List.take_append_drop i m, List.drop_eq_getElem_cons h1, h2]
  exact List.perm_middle

set_option maxHeartbeats 1600000 in
theorem refPop (S : Nat → Prop) (R : Nat) (m : List Int) (w : World) (h : RowR w S R m) (hS : ∀ k, S k → k < w.heap.size) (hn : m.length ≤ 1000) :
    Calls Try.prog 14 #[.pointer (some ⟨R, 0, none⟩)] w fun e w' => ∃ x ok m', e = .returned (.tuple #[.int .i64 x, .bool ok]) ∧ Hm.Po ilt 0 m x ok m' ∧ RowR w' S R m' ∧ Kept (fun k => k = R) w w' := by
  have HK := Lib.hid (refLeast S R m w h hn)
  have HR := Lib.hid h
  have HSS := Lib.hid hS
  obtain ⟨i0, hi, hz0, hz1, hz2⟩ := info_parts Try.infoI
  clear h hS
  go_enter Try.func14, Try.ntmps14
  go_wp2_with fail
  refine HK.out.mono ?_
  rintro _ w1 ⟨k, rfl, hk, hb⟩
  have HR1 := HR.out.below hb
  have HRR := Lib.hid HR1
  have Hb := Lib.hid hb
  have HST := Lib.hid (fun (m' : List Int) (W : World) (A : Option Addr) (n c : Nat) (hb2 : Below w1.heap.size w1 W) (ho : W.ownsRow w1.heap.size 3 1 (.slice A n c) n (ci m')) => HR1.stored (m' := m') (fun k hk => Nat.lt_of_lt_of_le (HSS.out k hk) hb.size) hb2 ho)
  obtain ⟨-, h2, A, n, c, h3, h4, h5, h6, h7⟩ := HR1
  have cR : w1.cell? ⟨R, 0, none⟩ = some (.slice A n c) := by rw [cell_of_row _ _ _ _ _ _ h3]; rfl
  have hf : w1.frozen? ⟨R, 0, none⟩ = false := frozen_of_row _ _ _ _ _ h3
  rcases hk with ⟨rfl, rfl⟩ | ⟨i, x, rfl, hx, hle⟩
  · clear h3 h4 h5 h6 h7 hb
    go_wp2
    go_ret2
    exact ⟨0, false, [], rfl, .inl ⟨rfl, rfl, rfl, rfl⟩, HRR.out, Kept.of_below Hb.out⟩
  · have hin : i < n := by have := (List.getElem?_eq_some_iff.1 hx).1; omega
    have HL := Lib.hid (show Lst w1 w1.heap.size A n (ci m) from ⟨by rw [ci_length]; exact h4, fun h0 => by obtain ⟨b, off, e, q1, _, _, q4⟩ := h7 h0; exact ⟨b, off, e, q1, q4⟩⟩)
    obtain ⟨b, off, rfl, q1, -, -, q4⟩ := h7 (by omega)
    have cx := q4 i _ (ci_at hx)
    have HP := Lib.hid (show Hm.Po ilt 0 m x true (m.take i ++ m.drop (i + 1)) from .inr ⟨rfl, erase_perm hx, hle⟩)
    have g1 : ¬ ((i : Int) < 0) := by omega
    have nn : n ≤ 1000 := by omega
    have ic : i + 1 ≤ c := by omega
    have icc : i ≤ c := by omega
    have inn : i + 1 ≤ n := by omega
    have HCF := Lib.hid (show ∀ W, Below w1.heap.size w1 W → W.cell? ⟨R, 0, none⟩ = some (.slice (some ⟨b, off, none⟩) n c) ∧ W.frozen? ⟨R, 0, none⟩ = false from fun W hb => ⟨(hb.cell (p := ⟨R, 0, none⟩) h2).trans cR, (World.frozen?_of_block (a := ⟨R, 0, none⟩) (hb.block R h2)).trans hf⟩)
    have HB := Lib.hid (((Below.refl _ w1).alloc (Nat.le_refl _) (.cells #[] 3)).drew)
    have HT := Lib.hid (lst_take HL.out (k := i) (by omega))
    have HD := lst_cut HL.out (k := i + 1) (c := c) (by omega) h5
    obtain ⟨A', hA'⟩ : ∃ A', (if c = i + 1 then some (⟨b, off, none⟩ : Addr) else some ⟨b, off + (i + 1), none⟩) = A' := ⟨_, rfl⟩
    rw [hA'] at HD
    have HA' := Lib.hid (show A' ≠ none from by rw [← hA']; split <;> simp)
    have HDD := Lib.hid HD
    have u1 : IntKind.i64.wrap ((i : Int) + 1) = (i : Int) + 1 := IntWalk.i64_in _ (by omega)
    have u2 : ((i : Int) + 1).toNat = i + 1 := by omega
    have u3 : (0 : Int) ≤ (i : Int) + 1 := by omega
    have u4 : (i : Int) + 1 ≤ (n : Int) := by omega
    have hO := Lib.hid (show (w1.alloc (.cells #[] 3)).drew.ownsRow w1.heap.size 3 1 (.slice (some ⟨w1.heap.size, 0, none⟩) 0 0) 0 [] from own_empty w1 3)
    clear h3 h4 h5 h6 h7 hb q1 q4 hx hle HD HL hn
    go_wp2
    go_region_law (first
      | (refine step_append_lst rfl (.tmp 18) (.tmp 24) 22 rfl w1.heap.size 3 i0 (.int .i64 0) 8 Try.underlying22 hi hz0 hz1 hz2 rfl (.slice (some ⟨w1.heap.size, 0, none⟩) 0 0) 0 [] (by simp [Act.eval, Act.put]) hO.out w1.heap.size (some ⟨b, off, none⟩) i c (ci (m.take i)) (by simp [Act.eval, Act.put]) (fun h => by cases h) (HT.out.below HB.out) (ints_one .i64 _) (by unfold maxLen; omega) (by omega) HB.out.size ?_; intro v3 w3 q1 q2; have O3 := Lib.hid q1; have B3 := Lib.hid (HB.out.grown q2 HB.out.size (fun k hk => by simp [Value.ownBlock] at hk; omega)); obtain ⟨cR3, fR3⟩ := HCF.out w3 B3.out; clear q1 q2)
      | (refine step_append_lst rfl (.tmp 25) (.tmp 32) 22 rfl w1.heap.size 3 i0 (.int .i64 0) 8 Try.underlying22 hi hz0 hz1 hz2 rfl v3 (0 + i) ([] ++ ci (m.take i)) (by simp [Act.eval, Act.put]) O3.out w1.heap.size A' (n - (i + 1)) (c - (i + 1)) (ci (m.drop (i + 1))) (by simp [Act.eval, Act.put]) (fun h => absurd h HA'.out) (HDD.out.below B3.out) (ints_one .i64 _) (by unfold maxLen; omega) (by omega) B3.out.size ?_; intro v4 w4 q1 q2; have O4 := Lib.hid q1; have B4 := Lib.hid (B3.out.grown q2 B3.out.size (fun k hk => (O3.out.lt k hk).1)); obtain ⟨cR4, fR4⟩ := HCF.out w4 B4.out; obtain ⟨A4, c4, rfl⟩ := own_is q1; clear q1 q2))
    all_goals
      have q := O4.out
      rw [Nat.zero_add, List.nil_append, show ci (m.take i) ++ ci (m.drop (i + 1)) = ci (m.take i ++ m.drop (i + 1)) from by simp [ci]] at q
      obtain ⟨r1, r2⟩ := HST.out _ w4 A4 _ c4 B4.out q
      have Q1 := Lib.hid r1
      have Q2 := Lib.hid ((Kept.of_below (S := fun k => k = R) Hb.out).trans r2 fun k h => .inl h)
      clear q r1 r2 cR4 fR4 cR3 fR3 cR hf cx u1 u2 u3 u4 hA'
      go_wp2
      go_ret2
      exact ⟨x, true, _, rfl, HP.out, Q1.out, Q2.out⟩
end Go.Proofs.Ytefdohjcgolhjaa
