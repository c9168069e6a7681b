/-
  Layer 13 (grow): push (a closure) and rising of the program, by contracts.
-/
import Derived.Test.YtafkbagjjknhlaaWTsk
import Derived.Maps.AppendAt
namespace Go.Proofs.Ytafkbagjjknhlaa
open Go.RowKit

theorem Try.infoTask : (Try.prog.info? 93).map (fun i => (i.zero, i.size, i.bytes)) = some (some (.agg #[.slice none 0 0, .int .i64 0, .int .i64 0]), 3, 40) := by kernel_rfl
theorem own_formG {w : World} {base sz n : Nat} {e : TypeId} {v : Value} {xs : List Value} (h : w.ownsRow base e sz v n xs) : ∃ A c, v = .slice A n c ∧ (A = none → c = 0) ∧ n ≤ c := by
  rcases h.2 with ⟨rfl, rfl⟩ | ⟨g, cap, cur, rfl, _, _, h1, _⟩
  · exact ⟨none, 0, rfl, fun _ => rfl, Nat.le_refl _⟩
  · exact ⟨some ⟨g, 0, none⟩, cap, rfl, fun h => (by cases h), h1⟩
section
variable {w0 W : World} {q : Nat} {vS vN : Value} {S : List Wm.Tk} {N : List Wm.Nd} {t : Wm.Tk} {A : Option Addr} {n c : Nat}
set_option maxRecDepth 100000 in
theorem pushW (h : Gr w0 W q vS vN S N) (hs : Sl W A n c t.ids) (hi : Inn (Pz w0 q vS vN) n A) (hS : S.length ≤ 5000) (hw : w0.heap.size ≤ W.heap.size) :
    Calls Try.prog 36 #[.slice A n c, .int .i64 (t.dep : Int), .int .i64 (whI t.wh), .pointer (some ⟨q, 0, none⟩)] W fun e w' => e = .returned (.tuple #[]) ∧ (∃ vS', Gr w0 w' q vS' vN (S ++ [t]) N ∧ ∀ k, vS'.ownBlock = some k → vS.ownBlock = some k ∨ W.heap.size ≤ k) ∧ Below w0.heap.size W w' ∧ ∀ k, k < W.heap.size → k ≠ q → vS.ownBlock ≠ some k → w'.heap[k]? = W.heap[k]? := by
  obtain ⟨i0, hi0, hz0, hz1, hz2⟩ := info_parts Try.infoTask
  obtain ⟨vs, h1, h2⟩ := h.st
  have hlt := lt_of_block h.var
  have hq1 : W.cell? ⟨q, 0, none⟩ = some vS := by rw [cell_of_row _ _ _ _ _ _ h.var]; rfl
  obtain ⟨W1, hW1⟩ : ∃ W1, W1 = W.alloc (.cells #[.slice A n c, .int .i64 (t.dep : Int), .int .i64 (whI t.wh)] 93) := ⟨_, rfl⟩
  have hb : Below W.heap.size W W1 := by rw [hW1]; exact (Below.refl _ W).alloc (Nat.le_refl _) _
  have hr := heap_alloc_new W (.cells #[.slice A n c, .int .i64 (t.dep : Int), .int .i64 (whI t.wh)] 93)
  have own1 : W1.ownsRow w0.heap.size 93 3 vS S.length vs := own_keep6 h1 fun k e => hb.block k (own_lt6 h1 k e).2.1
  have hT : TkV (Pz w0 q vS vN) W1 vs S := h2.keep hb.size fun k hk _ => hb.block k hk
  have hGr := h.below hb
  have hq2 : W1.cell? ⟨q, 0, none⟩ = some vS := (hb.cell (p := ⟨q, 0, none⟩) hlt).trans hq1
  have hnews : ∀ j u, ([.slice A n c, .int .i64 (t.dep : Int), .int .i64 (whI t.wh)] : List Value)[j]? = some u → W1.cell? ((⟨W.heap.size, 0, none⟩ : Addr).add j) = some u := fun j u hu => by
    rw [Addr.add_lit, hW1, cell_of_row _ _ _ _ _ _ hr, Nat.zero_add]; simpa using hu
  have HG := Lib.hid hGr
  have HT := Lib.hid hT
  have OWN := Lib.hid own1
  have HS := Lib.hid (hs.below hb)
  have HI := Lib.hid hi
  have HB := Lib.hid hb
  have HN := Lib.hid hnews
  have HW1 := Lib.hid hW1
  have HC2 := Lib.hid hq2
  have s1 := hb.size
  obtain ⟨dp, hdp⟩ : ∃ dp, dp = (t.dep : Int) := ⟨_, rfl⟩
  obtain ⟨wh, hwh⟩ : ∃ wh, wh = whI t.wh := ⟨_, rfl⟩
  have HDP := Lib.hid hdp
  have HWH := Lib.hid hwh
  rw [← hdp, ← hwh] at HN HW1
  rw [← hdp, ← hwh]
  clear h h1 h2 hb hr own1 hT hGr hq2 hnews hs hi hW1 hdp hwh
  go_enter Try.func36, Try.ntmps36
  go_wp2_with (at_builtin; refine wpList_append_own_at _ rfl (.tmp 7) (.tmp 12) 91 rfl w0.heap.size 93 i0 (.agg #[.slice none 0 0, .int .i64 0, .int .i64 0]) 3 40 Try.underlying91 hi0 hz0 hz1 hz2 rfl (by decide) vS S.length vs rfl (by rw [← HW1.out]; exact OWN.out) ⟨W.heap.size, 0, none⟩ 1 1 [.slice A n c, .int .i64 dp, .int .i64 wh] rfl rfl (by rw [← HW1.out]; exact HN.out) (by intro u hu; simp at hu; rcases hu with rfl | rfl | rfl <;> rfl) (by unfold maxLen; omega) (by omega) (by simp; omega) ?_; intro v' w1 hown' hgrow _ hat; obtain ⟨A', c', hvf, -, -⟩ := own_formG hown'; subst hvf; rw [← HW1.out] at hgrow hat; rw [HDP.out, HWH.out] at hown'; have hGP := HG.out.push HT.out HS.out HI.out hown' hgrow hat; have HGP := Lib.hid hGP; have hqv := (HG.out.apart).1; have f1 : w1.cell? ⟨q, 0, none⟩ = some vS := (hgrow.cell_far ⟨q, 0, none⟩ (cell_block_lt HC2.out) (fun e => (hqv q e.symm).1 rfl)).trans HC2.out; have f2 : w1.frozen? ⟨q, 0, none⟩ = false := frozen_of_row w1 q 0 _ _ ((hgrow.block q (cell_block_lt HC2.out) (fun e => (hqv q e.symm).1 rfl)).trans HG.out.var); have HBB : Hid (Below w0.heap.size W w1) := Lib.hid ((HB.out.mono hw).grown hgrow (by omega) (fun k e => (own_lt6 OWN.out k e).1)); have HKP : Hid (∀ k, k < W.heap.size → k ≠ q → vS.ownBlock ≠ some k → w1.heap[k]? = W.heap[k]?) := Lib.hid (fun k hk hn he => (hgrow.block k (by omega) (fun e => he e.symm)).trans (HB.out.block k hk)); have HAT := Lib.hid hat; clear hown' hgrow hat hqv hGP)
  go_end0
  exact ⟨rfl, ⟨_, HGP.out, fun k e => by
    rcases HAT.out with ha | ha
    · exact .inl (ha ▸ e)
    · rw [ha] at e; injection e with e; exact .inr (by omega)⟩, HBB.out.setCell (p := ⟨q, 0, none⟩) HG.out.qn _, fun k hk hn he => (Below.heap_setCell _ _ _ _ (show k ≠ q from hn)).trans (HKP.out k hk hn he)⟩
theorem made_int (n : Nat) (hn : n ≤ 100000) : ∃ M : Array Value, M.size = n ∧
    ∀ W : World, (Instr.makeSlice 51 (.int .i64 (n : Int)) (.int .i64 (n : Int))).run Try.prog W = .ok (.slice (some ⟨W.heap.size, 0, none⟩) n n) (W.alloc (.cells M 3)) := by
  obtain ⟨i0, hi, hz0, hz1, hz2⟩ := info_parts Try.infoI
  obtain ⟨M, hM⟩ : ∃ M, M = madeCells (Value.int .i64 0).cells ((n : Int).toNat * i0.size) := ⟨_, rfl⟩
  refine ⟨M, by rw [hM, size_madeCells, hz1]; simp, fun W => ?_⟩
  have h := run_make (P := Try.prog) W 51 3 i0 (.int .i64 0) Try.underlying51 hi hz0 .i64 .i64 (n : Int) (n : Int) (by omega) (by omega) (by rw [hz2]; omega) (by omega)
  rw [← hM] at h
  simpa using h
/-- a row of ids that is filled up to a place -/
def RowI (g n k : Nat) (w wr : World) : Prop :=
  (∃ C : Array Value, wr.heap[g]? = some (.cells C 3 (0, 0)) ∧ C.size = n ∧ ∀ j, j < k → C[j]? = some (.int .i64 (j : Int))) ∧ Below w.heap.size w wr
theorem rowI_cell {g n k : Nat} {w wr : World} (h : RowI g n k w wr) (hk : k < n) : ∃ v, wr.cell? ⟨g, k, none⟩ = some v ∧ wr.frozen? ⟨g, k, none⟩ = false := by
  obtain ⟨⟨C, h1, h2, h3⟩, hb⟩ := h
  exact ⟨C[k]'(by omega), by rw [cell_of_row _ _ _ _ _ _ h1, Array.getElem?_eq_getElem], frozen_of_row _ _ _ _ _ h1⟩
theorem rowI_step {g n k : Nat} {w wr : World} (h : RowI g n k w wr) (hk : k < n) (hg : w.heap.size ≤ g) : RowI g n (k + 1) w (wr.setCell ⟨g, k, none⟩ (.int .i64 (k : Int))) := by
  obtain ⟨⟨C, h1, h2, h3⟩, hb⟩ := h
  refine ⟨⟨C.setIfInBounds k (.int .i64 (k : Int)), heap_setCell_same _ _ _ _ _ _ h1, by simpa using h2, fun j hj => ?_⟩, hb.setCell hg _⟩
  rw [Array.getElem?_setIfInBounds]
  by_cases e : k = j
  · subst e; rw [if_pos rfl, if_pos (by omega)]
  · rw [if_neg e]; exact h3 j (by omega)
theorem rowI_sl {g n : Nat} {w wr : World} (h : RowI g n n w wr) : Sl wr (some ⟨g, 0, none⟩) n n (Wm.upto n) := by
  obtain ⟨⟨C, h1, h2, h3⟩, hb⟩ := h
  refine ⟨⟨by rw [ci_length, Wm.upto_length], fun _ => ⟨g, 0, rfl, lt_of_block h1, fun j u hu => ?_⟩⟩, Nat.le_refl _, fun h => by cases h⟩
  have hj : j < n := by have := (List.getElem?_eq_some_iff.1 hu).1; rwa [ci_length, Wm.upto_length] at this
  rw [Nat.zero_add, cell_of_row _ _ _ _ _ _ h1, h3 j hj, ← hu]
  simp [ci, Wm.upto, hj]
set_option maxRecDepth 100000 in
theorem riseW {n : Nat} {w : World} (hn : n ≤ 1000) : Calls Try.prog 37 #[.int .i64 (n : Int)] w fun e w' => ∃ A c, e = .returned (.slice A n c) ∧ Sl w' A n c (Wm.upto n) ∧ New w.heap.size A ∧ Below w.heap.size w w' := by
  obtain ⟨M, hM, hmk⟩ := made_int n (by omega)
  have HM := Lib.hid hM
  clear hM
  go_enter Try.func37, Try.ntmps37
  go_wp2
  clear hmk
  go_loopw [9] (fun i wr => ∃ k : Nat, k ≤ n ∧ i = .int .i64 k ∧ RowI w.heap.size n k w wr) (fun i _ => n - (intOf i).toNat)
  case atStart => exact ⟨0, Nat.zero_le _, rfl, ⟨M, heap_alloc_new _ _, HM.out, fun j hj => absurd hj (by omega)⟩, (Below.refl _ w).alloc (Nat.le_refl _) _⟩
  case round =>
    obtain ⟨k, hk, rfl, hR⟩ := hrel
    have HRW := Lib.hid hR
    by_cases hlt : k < n
    · obtain ⟨v, hcv, hfv⟩ := rowI_cell hR hlt
      clear hR
      go_wp2
      go_roundw
      case rel => exact ⟨k + 1, by omega, by go_num, rowI_step HRW.out hlt (Nat.le_refl _)⟩
      case measure => simp [intOf]; omega
    · obtain rfl : k = n := by omega
      clear hR
      go_wp2
      go_ret
      exact ⟨_, _, rfl, rowI_sl HRW.out, fun b off s e => by injection e with e; injection e with e; omega, HRW.out.2⟩
end
end Go.Proofs.Ytafkbagjjknhlaa
