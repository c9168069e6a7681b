/-
  Layer 5 (rng): the document's own source, by contracts.
-/
import Derived.Test.YtafkbagjjknhlaaRMake
namespace Go.Proofs.Ytafkbagjjknhlaa
open Go.RowKit

/-- the document's source in block m, behind N draws: its list lies below block B -/
def Rfs (w : World) (B m : Nat) (f : Nat → Int) (N : Nat) : Prop :=
  ∃ (mixed : Bool) (s : Int) (A : Option Addr) (n c : Nat) (xs : List Int), 0 ≤ s ∧ s < 18446744073709551616 ∧ (∀ x ∈ xs, 0 ≤ x ∧ x < 18446744073709551616) ∧ B ≤ m ∧
    w.heap[m]? = some (.cells #[.bool mixed, .int .u64 s, .slice A n c, .int .i64 (N : Int)] 39 (0, 0)) ∧ Lst w B A n (xs.map (Value.int .u64)) ∧ n ≤ 1000 ∧ f = Rm.dr (ofF mixed s xs) N
section
variable {w w' : World} {B m N lo hi : Nat} {f : Nat → Int}
theorem Rfs.lt (h : Rfs w B m f N) : m < w.heap.size := by
  obtain ⟨_, _, _, _, _, _, _, _, _, _, h, _⟩ := h; exact lt_of_block h
theorem Rfs.keep (h : Rfs w B m f N) (hk : ∀ k, k < B ∨ k = m → w'.heap[k]? = w.heap[k]?) : Rfs w' B m f N := by
  obtain ⟨mixed, s, A, n, c, xs, h0, h1, hx, hB, hb, hl, hn, hf⟩ := h
  exact ⟨mixed, s, A, n, c, xs, h0, h1, hx, hB, (hk m (.inr rfl)).trans hb, hl.keep fun p hp => World.cell?_of_block (hk p.block (.inl hp)), hn, hf⟩
theorem Rfs.other (h : Rfs w B m f N) (hb : Btw lo hi w w') (h1 : B ≤ lo) (h2 : hi ≤ m) : Rfs w' B m f N :=
  h.keep fun k hk => hb.block k (by
    have := h.lt
    obtain ⟨_, _, _, _, _, _, _, _, _, hB, _⟩ := h
    omega) (by omega)
theorem Rfs.in_ (h : Rfs w B m f N) : ∀ k, 0 ≤ f k ∧ f k < 18446744073709551616 := by
  obtain ⟨mixed, s, A, n, c, xs, h0, h1, hx, hB, hb, hl, hn, rfl⟩ := h
  intro k
  rw [Rm.dr_at]
  cases mixed with
  | true => exact Rm.mixAt_in _ _
  | false => exact dr_bound hx _
end

theorem nth_any (s : Int) (n : Nat) (w : World) (n1 : n < 2000000) :
    Calls Try.prog 72 #[.int .u64 s, .int .i64 (n : Int)] w fun e w' => e = .returned (.int .u64 (Rm.mixAt s n)) ∧ w = w' := by
  have e := Lib.hid (Rm.ref_eq s n)
  go_enter Try.func72, Try.ntmps72
  go_wp2
  go_ret
  exact ⟨ret_int e.out, rfl⟩

theorem set_three {w : World} {m : Nat} {a b c d u : Value} {t : TypeId} (hb : w.heap[m]? = some (.cells #[a, b, c, d] t (0, 0))) : (w.setCell ⟨m, 3, none⟩ u).heap[m]? = some (.cells #[a, b, c, u] t (0, 0)) := by
  rw [heap_setCell_same _ _ _ _ _ _ hb]; rfl

theorem refDraw_any {w : World} {B m N : Nat} {f : Nat → Int} (h : Rfs w B m f N) (hN : N < 1000000) :
    Calls Try.prog 69 #[.pointer (some ⟨m, 0, none⟩)] w fun e w' => e = .returned (.int .u64 (f 0)) ∧ Rfs w' B m (Rm.dr f 1) (N + 1) ∧ Btw m (m + 1) w w' := by
  obtain ⟨mixed, s, A, n, c, xs, h0, h1, hx, hB, hb, hl, hn, rfl⟩ := h
  have R : Hid (Rfs (w.setCell ⟨m, 3, none⟩ (.int .i64 ((N : Int) + 1))) B m (Rm.dr (Rm.dr (ofF mixed s xs) N) 1) (N + 1) ∧ Btw m (m + 1) w (w.setCell ⟨m, 3, none⟩ (.int .i64 ((N : Int) + 1)))) :=
    ⟨⟨mixed, s, A, n, c, xs, h0, h1, hx, hB, set_three hb, hl.keep fun p hp => World.cell?_of_block (heap_setCell_other _ _ _ _ (by show p.block ≠ m; omega)), hn, Rm.dr_dr _ _ _⟩, (Btw.refl _ _ _).setCell 3 (Nat.le_refl _) (Nat.lt_succ_self _) _⟩
  have c0 : w.cell? ⟨m, 0, none⟩ = some (.bool mixed) := by rw [cell_of_row _ _ _ _ _ _ hb]; rfl
  have c1 : w.cell? ⟨m, 1, none⟩ = some (.int .u64 s) := by rw [cell_of_row _ _ _ _ _ _ hb]; rfl
  have c2 : w.cell? ⟨m, 2, none⟩ = some (.slice A n c) := by rw [cell_of_row _ _ _ _ _ _ hb]; rfl
  have c3 : w.cell? ⟨m, 3, none⟩ = some (.int .i64 (N : Int)) := by rw [cell_of_row _ _ _ _ _ _ hb]; rfl
  have f3 := frozen_of_row w m 3 _ _ hb
  cases mixed with
  | true =>
    have hK := Lib.hid (fun w => nth_any s N w (by omega))
    have e := Lib.hid (show Rm.mixAt s N = Rm.dr (ofF true s xs) N 0 from by rw [Rm.dr_at, Nat.zero_add]; rfl)
    clear hb hl hx hB h0 h1
    go_enter Try.func69, Try.ntmps69
    go_wp2_with fail
    refine (hK.out _).mono ?_
    rintro _ _ ⟨rfl, rfl⟩
    go_wp2
    go_ret
    exact ⟨ret_int e.out, R.out⟩
  | false =>
    by_cases hlt : N < n
    · obtain ⟨b, off, rfl, hbB, hcell⟩ := hl.at_ hlt
      have hxl : N < xs.length := by have := hl.1; simp at this; omega
      rw [List.getElem?_map, List.getElem?_eq_getElem hxl] at hcell
      have hcell' : w.cell? ⟨b, off + N, none⟩ = some (.int .u64 xs[N]) := hcell
      have e := Lib.hid (show xs[N] = Rm.dr (ofF false s xs) N 0 from by rw [Rm.dr_at, Nat.zero_add]; show _ = lstF xs N; unfold lstF; rw [List.getElem?_eq_getElem hxl]; rfl)
      obtain ⟨x, hxx⟩ : ∃ x, x = xs[N] := ⟨_, rfl⟩
      rw [← hxx] at hcell' e
      have hne : b ≠ m := by omega
      clear hb hl hx hcell hxx hxl
      go_enter Try.func69, Try.ntmps69
      go_wp2
      go_ret
      exact ⟨ret_int e.out, R.out⟩
    · have e := Lib.hid (show 0 = Rm.dr (ofF false s xs) N 0 from by
        rw [Rm.dr_at, Nat.zero_add]; show _ = lstF xs N; unfold lstF; rw [List.getElem?_eq_none (by have := hl.1; simp at this; omega)]; rfl)
      clear hb hl hx hB
      go_enter Try.func69, Try.ntmps69
      go_wp2
      go_ret
      exact ⟨ret_int e.out, R.out⟩

theorem refBelow_any {w : World} {B m N : Nat} {f : Nat → Int} (h : Rfs w B m f N) (n : Int) (hN : N < 1000000) (hn : n ≤ 9223372036854775807) :
    Calls Try.prog 60 #[.pointer (some ⟨m, 0, none⟩), .int .i64 n] w fun e w' => e = .returned (.int .i64 (Rm.below (f 0) n)) ∧ Rfs w' B m (Rm.dr f (Rm.nb n)) (N + Rm.nb n) ∧ Btw m (m + 1) w w' := by
  by_cases c : n < 1
  · have e := Lib.hid (show (0 : Int) = Rm.below (f 0) n from by unfold Rm.below; rw [if_pos c])
    have e2 : Rm.nb n = 0 := by unfold Rm.nb; rw [if_pos c]
    rw [e2]
    have H := Lib.hid h
    clear h e2
    go_enter Try.func60, Try.ntmps60
    go_wp2
    go_ret
    exact ⟨ret_int e.out, H.out, Btw.refl _ _ _⟩
  · have e2 : Rm.nb n = 1 := by unfold Rm.nb; rw [if_neg c]
    rw [e2]
    have hx := h.in_ 0
    have n1 : 1 ≤ n := by omega
    have hK := refDraw_any h hN
    obtain ⟨x, hxx⟩ : ∃ x, x = f 0 := ⟨_, rfl⟩
    have e := Lib.hid (show x % n = Rm.below (f 0) n from by unfold Rm.below; rw [if_neg c, hxx])
    rw [← hxx] at hx hK
    have hK' := Lib.hid hK
    have hr : 0 ≤ x % n ∧ x % n < n := ⟨Int.emod_nonneg _ (by omega), Int.emod_lt_of_pos _ (by omega)⟩
    clear h hK c e2 hxx
    go_enter Try.func60, Try.ntmps60
    go_wp2_with fail
    refine hK'.out.mono ?_
    rintro _ w1 ⟨rfl, hR⟩
    have R := Lib.hid hR
    clear hR
    go_wp2
    go_ret
    exact ⟨ret_int e.out, R.out⟩

theorem refPair_any {w : World} {B m N : Nat} {f : Nat → Int} (h : Rfs w B m f N) (n : Int) (hN : N < 999999) (hn : n ≤ 9223372036854775807) :
    Calls Try.prog 47 #[.pointer (some ⟨m, 0, none⟩), .int .i64 n] w fun e w' => e = .returned (.tuple #[.int .i64 (Rm.fst f n), .int .i64 (Rm.snd f n)]) ∧ Rfs w' B m (Rm.dr f (Rm.np n)) (N + Rm.np n) ∧ Btw m (m + 1) w w' := by
  by_cases c : n < 2
  · have e2 : Rm.np n = 0 := by unfold Rm.np; rw [if_pos c]
    have e3 : Rm.fst f n = 0 := by unfold Rm.fst; rw [if_pos c]
    have e4 : Rm.snd f n = 0 := by unfold Rm.snd; rw [if_pos c]
    rw [e2, e3, e4]
    have H := Lib.hid h
    clear h e2 e3 e4
    go_enter Try.func47, Try.ntmps47
    go_wp2
    go_ret2
    exact ⟨rfl, H.out, Btw.refl _ _ _⟩
  · have e2 : Rm.np n = 2 := by unfold Rm.np; rw [if_neg c]
    have e3 : Rm.fst f n = Rm.below (f 0) n := by unfold Rm.fst; rw [if_neg c]
    have e4 : Rm.snd f n = Rm.second (Rm.below (f 0) n) (Rm.below (f 1) (n - 1)) := by unfold Rm.snd; rw [if_neg c]
    have e5 : Rm.nb n = 1 := by unfold Rm.nb; rw [if_neg (by omega)]
    have e6 : Rm.nb (n - 1) = 1 := by unfold Rm.nb; rw [if_neg (by omega)]
    rw [e2, e3, e4]
    have n2 : 2 ≤ n := by omega
    have hK := refBelow_any h n (by omega) hn
    have hK2 : ∀ w1, Rfs w1 B m (Rm.dr f 1) (N + 1) → _ := fun w1 h1 => refBelow_any h1 (n - 1) (by omega) (by omega)
    rw [e5] at hK
    rw [e6] at hK2
    simp only [Rm.dr_at, Rm.dr_dr] at hK2
    have r1 := Rm.below_in (f 0) n (by omega)
    have r2 := Rm.below_in (f 1) (n - 1) (by omega)
    obtain ⟨x, hx⟩ : ∃ x, x = Rm.below (f 0) n := ⟨_, rfl⟩
    obtain ⟨y, hy⟩ : ∃ y, y = Rm.below (f 1) (n - 1) := ⟨_, rfl⟩
    have hy' : Rm.below (f (0 + 1)) (n - 1) = y := hy.symm
    rw [← hx] at hK r1 ⊢
    rw [← hy] at r2 ⊢
    rw [hy'] at hK2
    have HK := Lib.hid hK
    have HK2 := Lib.hid hK2
    clear h hK hK2 c e2 e3 e4 e5 e6 hx hy hy'
    by_cases q : y < x
    · have e := Lib.hid (show Rm.second x y = y from by unfold Rm.second; rw [if_pos q])
      go_enter Try.func47, Try.ntmps47
      go_wp2_with fail
      refine HK.out.mono ?_
      rintro _ w1 ⟨rfl, h1, b1⟩
      have H1 := Lib.hid h1
      have B1 := Lib.hid b1
      clear h1 b1
      go_wp2_with fail
      refine (HK2.out _ H1.out).mono ?_
      rintro _ w2 ⟨rfl, h2, b2⟩
      have H2 := Lib.hid h2
      have B2 := Lib.hid (B1.out.trans b2)
      clear h2 b2
      go_wp2
      go_ret2
      exact ⟨by rw [e.out]; rfl, H2.out, B2.out⟩
    · have e := Lib.hid (show Rm.second x y = y + 1 from by unfold Rm.second; rw [if_neg q])
      go_enter Try.func47, Try.ntmps47
      go_wp2_with fail
      refine HK.out.mono ?_
      rintro _ w1 ⟨rfl, h1, b1⟩
      have H1 := Lib.hid h1
      have B1 := Lib.hid b1
      clear h1 b1
      go_wp2_with fail
      refine (HK2.out _ H1.out).mono ?_
      rintro _ w2 ⟨rfl, h2, b2⟩
      have H2 := Lib.hid h2
      have B2 := Lib.hid (B1.out.trans b2)
      clear h2 b2
      go_wp2
      go_ret2
      exact ⟨by rw [e.out]; rfl, H2.out, B2.out⟩
end Go.Proofs.Ytafkbagjjknhlaa
