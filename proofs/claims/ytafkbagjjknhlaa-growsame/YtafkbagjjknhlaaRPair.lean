/-
  Layer 5 (rng): Below and Pair of any source, by contracts.
-/
import Derived.Test.YtafkbagjjknhlaaRLeaf
namespace Go.Proofs.Ytafkbagjjknhlaa
open Go.RowKit

theorem conv_u64 (n : Int) (h : 1 ≤ n) (h' : n ≤ 9223372036854775807) : IntKind.u64.wrap n = n := IntWalk.u64_in n (by omega)

theorem below_any {T lo hi b d : Nat} {w : World} {f : Nat → Int} (h : Src T w lo hi b f d) (n : Int) (hd : d < 1000000) (hn : n ≤ 9223372036854775807) :
    Calls Try.prog 64 #[.iface T (.pointer (some ⟨b, 0, none⟩)), .int .i64 n] w fun e w' => e = .returned (.int .i64 (Rm.below (f 0) n)) ∧ Src T w' lo hi b (Rm.dr f (Rm.nb n)) (d + Rm.nb n) ∧ Btw lo hi w w' := by
  by_cases c : n < 1
  · have e := Lib.hid (show (0 : Int) = Rm.below (f 0) n from by unfold Rm.below; rw [if_pos c])
    have e2 : Rm.nb n = 0 := by unfold Rm.nb; rw [if_pos c]
    rw [e2]
    have H := Lib.hid h
    clear h e2
    go_enter Try.func64, Try.ntmps64
    go_wp2
    go_ret
    exact ⟨ret_int e.out, H.out, Btw.refl _ _ _⟩
  · have e2 : Rm.nb n = 1 := by unfold Rm.nb; rw [if_neg c]
    rw [e2]
    have hx := h.in_ 0
    have n1 : 1 ≤ n := by omega
    have hK := src_draw h hd
    obtain ⟨m1, m2, m3⟩ := h.meth
    have hK' := Lib.hid hK
    obtain ⟨x, hxx⟩ : ∃ x, x = f 0 := ⟨_, rfl⟩
    have e := Lib.hid (show x % n = Rm.below (f 0) n from by unfold Rm.below; rw [if_neg c, hxx])
    rw [← hxx] at hx hK'
    have hr : 0 ≤ x % n ∧ x % n < n := ⟨Int.emod_nonneg _ (by omega), Int.emod_lt_of_pos _ (by omega)⟩
    clear h hK c e2 hxx
    go_enter Try.func64, Try.ntmps64
    go_wp2_with fail
    refine hK'.out.mono ?_
    rintro _ w1 ⟨rfl, hR⟩
    have R := Lib.hid hR
    clear hR
    go_wp2
    go_ret
    exact ⟨ret_int e.out, R.out⟩

theorem pair_any {T lo hi b d : Nat} {w : World} {f : Nat → Int} (h : Src T w lo hi b f d) (n : Int) (hd : d < 999999) (hn : n ≤ 9223372036854775807) :
    Calls Try.prog 53 #[.iface T (.pointer (some ⟨b, 0, none⟩)), .int .i64 n] w fun e w' => e = .returned (.tuple #[.int .i64 (Rm.fst f n), .int .i64 (Rm.snd f n)]) ∧ Src T w' lo hi b (Rm.dr f (Rm.np n)) (d + Rm.np n) ∧ Btw lo hi w w' := by
  by_cases c : n < 2
  · have e2 : Rm.np n = 0 := by unfold Rm.np; rw [if_pos c]
    have e3 : Rm.fst f n = 0 := by unfold Rm.fst; rw [if_pos c]
    have e4 : Rm.snd f n = 0 := by unfold Rm.snd; rw [if_pos c]
    rw [e2, e3, e4]
    have H := Lib.hid h
    clear h e2 e3 e4
    go_enter Try.func53, Try.ntmps53
    go_wp2
    go_ret2
    exact ⟨rfl, H.out, Btw.refl _ _ _⟩
  · have e2 : Rm.np n = 2 := by unfold Rm.np; rw [if_neg c]
    have e3 : Rm.fst f n = Rm.below (f 0) n := by unfold Rm.fst; rw [if_neg c]
    have e4 : Rm.snd f n = Rm.second (Rm.below (f 0) n) (Rm.below (f 1) (n - 1)) := by unfold Rm.snd; rw [if_neg c]
    have e5 : Rm.nb n = 1 := by unfold Rm.nb; rw [if_neg (by omega)]
    have e6 : Rm.nb (n - 1) = 1 := by unfold Rm.nb; rw [if_neg (by omega)]
    rw [e2, e3, e4]
    have n2 : 2 ≤ n := by omega
    have hK := below_any h n (by omega) hn
    have hK2 : ∀ w1, Src T w1 lo hi b (Rm.dr f 1) (d + 1) → _ := fun w1 h1 => below_any h1 (n - 1) (by omega) (by omega)
    rw [e5] at hK
    rw [e6] at hK2
    simp only [Rm.dr_at, Rm.dr_dr] at hK2
    have r1 := Rm.below_in (f 0) n (by omega)
    have r2 := Rm.below_in (f 1) (n - 1) (by omega)
    obtain ⟨x, hx⟩ : ∃ x, x = Rm.below (f 0) n := ⟨_, rfl⟩
    obtain ⟨y, hy⟩ : ∃ y, y = Rm.below (f 1) (n - 1) := ⟨_, rfl⟩
    have hy' : Rm.below (f (0 + 1)) (n - 1) = y := hy.symm
    rw [← hx] at hK r1 ⊢
    rw [← hy] at r2 ⊢
    rw [hy'] at hK2
    have HK := Lib.hid hK
    have HK2 := Lib.hid hK2
    clear h hK hK2 c e2 e3 e4 e5 e6 hx hy hy'
    by_cases q : y < x
    · have e := Lib.hid (show Rm.second x y = y from by unfold Rm.second; rw [if_pos q])
      go_enter Try.func53, Try.ntmps53
      go_wp2_with fail
      refine HK.out.mono ?_
      rintro _ w1 ⟨rfl, h1, b1⟩
      have H1 := Lib.hid h1
      have B1 := Lib.hid b1
      clear h1 b1
      go_wp2_with fail
      refine (HK2.out _ H1.out).mono ?_
      rintro _ w2 ⟨rfl, h2, b2⟩
      have H2 := Lib.hid h2
      have B2 := Lib.hid (B1.out.trans b2)
      clear h2 b2
      go_wp2
      go_ret2
      exact ⟨by rw [e.out]; rfl, H2.out, B2.out⟩
    · have e := Lib.hid (show Rm.second x y = y + 1 from by unfold Rm.second; rw [if_neg q])
      go_enter Try.func53, Try.ntmps53
      go_wp2_with fail
      refine HK.out.mono ?_
      rintro _ w1 ⟨rfl, h1, b1⟩
      have H1 := Lib.hid h1
      have B1 := Lib.hid b1
      clear h1 b1
      go_wp2_with fail
      refine (HK2.out _ H1.out).mono ?_
      rintro _ w2 ⟨rfl, h2, b2⟩
      have H2 := Lib.hid h2
      have B2 := Lib.hid (B1.out.trans b2)
      clear h2 b2
      go_wp2
      go_ret2
      exact ⟨by rw [e.out]; rfl, H2.out, B2.out⟩
end Go.Proofs.Ytafkbagjjknhlaa
