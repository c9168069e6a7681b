/-
  Layer 5 (rng): a draw of a script, of a mixer, of a counter, by contracts.
-/
import Derived.Test.YtafkbagjjknhlaaRMem
import Derived.Lib.SliceRun
namespace Go.Proofs.Ytafkbagjjknhlaa
open Go.RowKit

theorem mixer_any (b : Nat) (s : Int) (w : World) (hb : w.heap[b]? = some (.cells #[.int .u64 s] 82 (0, 0))) :
    Calls Try.prog 90 #[.pointer (some ⟨b, 0, none⟩)] w fun e w' => e = .returned (.int .u64 (Rm.mixAt s 0)) ∧ w' = w.setCell ⟨b, 0, none⟩ (.int .u64 (Rm.nxt s)) := by
  have hc : w.cell? ⟨b, 0, none⟩ = some (.int .u64 s) := by rw [cell_of_row _ _ _ _ _ _ hb]; rfl
  have hf := frozen_of_row w b 0 _ _ hb
  have e := Lib.hid (Rm.mix_zero s).symm
  clear hb
  go_enter Try.func90, Try.ntmps90
  go_wp2
  go_ret
  exact ⟨ret_int e.out, rfl⟩

theorem script_none (b c : Nat) (A : Option Addr) (w : World) (hb : w.heap[b]? = some (.cells #[.slice A 0 c] 75 (0, 0))) :
    Calls Try.prog 89 #[.pointer (some ⟨b, 0, none⟩)] w fun e w' => e = .returned (.int .u64 0) ∧ w' = w := by
  have hc : w.cell? ⟨b, 0, none⟩ = some (.slice A 0 c) := by rw [cell_of_row _ _ _ _ _ _ hb]; rfl
  clear hb
  go_enter Try.func89, Try.ntmps89
  go_wp2
  go_ret
  exact ⟨rfl, rfl⟩
theorem script_some (b n c g off : Nat) (x : Int) (w : World) (hb : w.heap[b]? = some (.cells #[.slice (some ⟨g, off, none⟩) (n + 1) c] 75 (0, 0))) (hx : w.cell? ⟨g, off, none⟩ = some (.int .u64 x)) (hn : n + 1 ≤ c) :
    Calls Try.prog 89 #[.pointer (some ⟨b, 0, none⟩)] w fun e w' => e = .returned (.int .u64 x) ∧ ∃ A, (0 < n → A = some ⟨g, off + 1, none⟩) ∧ w' = w.setCell ⟨b, 0, none⟩ (.slice A n (c - 1)) := by
  have hc : w.cell? ⟨b, 0, none⟩ = some (.slice (some ⟨g, off, none⟩) (n + 1) c) := by rw [cell_of_row _ _ _ _ _ _ hb]; rfl
  have hf := frozen_of_row w b 0 _ _ hb
  clear hb
  go_enter Try.func89, Try.ntmps89
  go_wp2
  · go_ret
    exact ⟨rfl, _, fun h => absurd h (by omega), rfl⟩
  · go_ret
    exact ⟨rfl, _, fun _ => rfl, rfl⟩

theorem heap_set_one {w : World} {b : Nat} {v u : Value} {t : TypeId} (hb : w.heap[b]? = some (.cells #[v] t (0, 0))) : (w.setCell ⟨b, 0, none⟩ u).heap[b]? = some (.cells #[u] t (0, 0)) := by
  rw [heap_setCell_same _ _ _ _ _ _ hb]; rfl
theorem size_set (w : World) (a : Addr) (u : Value) : (w.setCell a u).heap.size = w.heap.size := by simp [World.setCell]

theorem bas_draw {T lo hi b : Nat} {w : World} {f : Nat → Int} (h : Bas T w lo hi b f) :
    Calls Try.prog (mOf T) #[.pointer (some ⟨b, 0, none⟩)] w fun e w' => e = .returned (.int .u64 (f 0)) ∧ Bas T w' lo hi b (Rm.dr f 1) ∧ Btw lo hi w w' := by
  obtain ⟨h1, h2, h3, h4, h5⟩ := h
  rcases h5 with ⟨rfl, A, n, c, xs, hb, hl, hc, hf⟩ | ⟨rfl, s, hb, hs0, hs1, hf⟩
  · show Calls Try.prog 89 _ _ _
    cases n with
    | zero =>
      obtain rfl : xs = [] := List.length_eq_zero_iff.1 hl.1
      refine (script_none b c A w hb).mono ?_
      rintro _ _ ⟨rfl, rfl⟩
      exact ⟨ret_int (by rw [hf]; rfl), ⟨h1, h2, h3, fun k => h4 _, .inl ⟨rfl, A, 0, c, [], hb, hl, hc, fun k => by rw [Rm.dr_at, hf]; rfl⟩⟩, Btw.refl _ _ _⟩
    | succ n =>
      obtain ⟨g, off, rfl, hg1, hg2, hcell⟩ := hl.2 (by omega)
      obtain ⟨x, ys, rfl⟩ : ∃ x ys, xs = x :: ys := by
        cases xs with
        | nil => have := hl.1; simp at this
        | cons x ys => exact ⟨x, ys, rfl⟩
      refine (script_some b n c g off x w hb (by have := hcell 0 x rfl; simpa using this) hc).mono ?_
      rintro _ _ ⟨rfl, A, hA, rfl⟩
      refine ⟨ret_int (by rw [hf]; rfl), ⟨h1, h2, by rw [size_set]; exact h3, fun k => h4 _, .inl ⟨rfl, A, n, c - 1, ys, heap_set_one hb, ⟨by have := hl.1; simpa using this, fun hn => ⟨g, off + 1, hA hn, hg1, hg2, fun j u hu => ?_⟩⟩, by omega, fun k => by rw [Rm.dr_at, hf]; simp⟩⟩, (Btw.refl _ _ _).setCell 0 h1 h2 _⟩
      rw [World.cell?_of_block (heap_setCell_other w ⟨b, 0, none⟩ g _ (by show g ≠ b; omega)), Nat.add_assoc, Nat.add_comm 1 j]
      exact hcell (j + 1) u (by simpa using hu)
  · refine (show Calls Try.prog 90 _ _ _ from mixer_any b s w hb).mono ?_
    rintro _ _ ⟨rfl, rfl⟩
    exact ⟨ret_int (hf 0).symm, ⟨h1, h2, by rw [size_set]; exact h3, fun k => h4 _, .inr ⟨rfl, Rm.nxt s, heap_set_one hb, (Rm.nxt_in s).1, (Rm.nxt_in s).2, fun k => by rw [Rm.dr_at, hf, Rm.mix_succ]⟩⟩, (Btw.refl _ _ _).setCell 0 h1 h2 _⟩

theorem ctr_draw {lo hi b d : Nat} {w : World} {f : Nat → Int} (h : Ctr w lo hi b f d) (hd : d < 1000000) :
    Calls Try.prog 88 #[.pointer (some ⟨b, 0, none⟩)] w fun e w' => e = .returned (.int .u64 (f 0)) ∧ Ctr w' lo hi b (Rm.dr f 1) (d + 1) ∧ Btw lo hi w w' := by
  obtain ⟨T', b', hB, h2, h3, hb⟩ := h
  have e1 := hB.1
  have e2 := hB.2.1
  have hc0 : w.cell? ⟨b, 0, none⟩ = some (.iface T' (.pointer (some ⟨b', 0, none⟩))) := by rw [cell_of_row _ _ _ _ _ _ hb]; rfl
  have hc1 : w.cell? ⟨b, 1, none⟩ = some (.int .i64 (d : Int)) := by rw [cell_of_row _ _ _ _ _ _ hb]; rfl
  have hf := frozen_of_row w b 1 _ _ hb
  obtain ⟨W, hW⟩ : ∃ W, W = w.setCell ⟨b, 1, none⟩ (.int .i64 ((d : Int) + 1)) := ⟨_, rfl⟩
  have hb1 : W.heap[b]? = some (.cells #[.iface T' (.pointer (some ⟨b', 0, none⟩)), .int .i64 ((d : Int) + 1)] 71 (0, 0)) := by
    rw [hW, heap_setCell_same _ _ _ _ _ _ hb]; rfl
  have hB1 : Bas T' W lo b b' f := hB.keep (by rw [hW, size_set]; exact Nat.le_refl _) fun k _ q => by rw [hW]; exact heap_setCell_other _ _ _ _ (by show k ≠ b; omega)
  have hK := bas_draw hB1
  obtain ⟨m1, m2, m3⟩ := hB1.meth
  have hK' := Lib.hid hK
  have HW : Hid (Btw lo hi w W) := by rw [hW]; exact (Btw.refl _ _ _).setCell 1 (by omega) h2 _
  have HS : Hid (W.heap.size = w.heap.size) := by rw [hW]; exact size_set _ _ _
  have Hb1 := Lib.hid hb1
  have H3 := Lib.hid h3
  clear hK hB1 hB hb hb1 h3
  go_enter Try.func88, Try.ntmps88
  go_wp2_with fail
  rw [← hW]
  refine hK'.out.mono ?_
  rintro _ w1 ⟨rfl, hB2, hb2⟩
  have R : Hid (Ctr w1 lo hi b (Rm.dr f 1) (d + 1) ∧ Btw lo hi w w1) := by
    have q := H3.out
    have q' := HS.out
    refine ⟨⟨T', b', hB2, h2, Nat.le_trans q (by rw [← q']; exact hb2.size), ?_⟩, HW.out.trans (hb2.mono (Nat.le_refl _) (Nat.le_of_lt h2))⟩
    rw [hb2.block b (by omega) (.inr (Nat.le_refl _)), Hb1.out]
    rfl
  clear hB2 hb2 hW
  go_wp2
  go_ret
  exact ⟨rfl, R.out⟩
theorem src_draw {T lo hi b d : Nat} {w : World} {f : Nat → Int} (h : Src T w lo hi b f d) (hd : d < 1000000) :
    Calls Try.prog (mOf T) #[.pointer (some ⟨b, 0, none⟩)] w fun e w' => e = .returned (.int .u64 (f 0)) ∧ Src T w' lo hi b (Rm.dr f 1) (d + 1) ∧ Btw lo hi w w' := by
  rcases h with h | ⟨rfl, h⟩
  · exact (bas_draw h).mono fun e w' ⟨h1, h2, h3⟩ => ⟨h1, .inl h2, h3⟩
  · exact (show Calls Try.prog (mOf 32) _ _ _ from ctr_draw h hd).mono fun e w' ⟨h1, h2, h3⟩ => ⟨h1, .inr ⟨rfl, h2⟩, h3⟩
theorem drawn_any {lo hi b d : Nat} {w : World} {f : Nat → Int} (h : Ctr w lo hi b f d) :
    Calls Try.prog 15 #[.pointer (some ⟨b, 0, none⟩)] w fun e w' => e = .returned (.int .i64 (d : Int)) ∧ w = w' := by
  obtain ⟨T', b', hB, h2, h3, hb⟩ := h
  have hc1 : w.cell? ⟨b, 1, none⟩ = some (.int .i64 (d : Int)) := by rw [cell_of_row _ _ _ _ _ _ hb]; rfl
  clear hb hB h2 h3
  go_enter Try.func15, Try.ntmps15
  go_wp2
  go_ret
  exact ⟨rfl, rfl⟩
end Go.Proofs.Ytafkbagjjknhlaa
