/-
  Layer 14 (shape): the document's own Check, by a contract.
-/
import Derived.Test.YtecdgpacofojeaaXTre
namespace Go.Proofs.Ytecdgpacofojeaa
open Go.RowKit

section
variable {w : World} {A : Option Addr} {n c : Nat} {T : List Xm.Nd}
set_option maxRecDepth 100000 in
theorem refChkX (h : Xds w A n c T) (hn : n ≤ 401) (ht : Xm.tot T ≤ 5000) (m d : Int) :
    Calls Try.prog 11 #[.slice A n c, .int .i64 m, .int .i64 d] w fun e w' => e = .returned (.int .i64 (Xm.chk T m d)) ∧ Below w.heap.size w w' := by
  have HX := Lib.hid h
  obtain ⟨ck, hck⟩ : ∃ ck, ck = Xm.chk T m d := ⟨_, rfl⟩
  rw [← hck]
  have HR : Hid ((m < 0 ∨ 1048576 < m ∨ d < 1 ∨ 1024 < d) → ck = 1) := Lib.hid fun h => by rw [hck]; unfold Xm.chk; rw [if_pos h]
  have HO : Hid (¬ (m < 0 ∨ 1048576 < m ∨ d < 1 ∨ 1024 < d) → ck = if Xm.isT T d = true ∧ Nm.cov m (Xm.lists T).flatten = true then 0 else 14) := Lib.hid fun h => by rw [hck]; unfold Xm.chk; rw [if_neg h]
  have F0 := refTreeX HX hn d 65 0 w (Nat.le_refl _) (Nat.zero_le _) (Below.refl _ _)
  rw [show ((65 - 65 : Nat) : Int) = 0 from rfl] at F0
  have FT : Hid (Calls Try.prog 12 #[.slice A n c, .int .i64 d, .int .i64 0, .int .i64 0] w fun e w' => TrP w w' n 0 (Xm.tree T d 65 0) e) := Lib.hid F0
  clear h hck F0
  by_cases g1 : m < 0
  · have HC := Lib.hid (HR.out (.inl g1))
    go_enter Try.func11, Try.ntmps11
    go_wp2
    go_ret
    exact ⟨by rw [HC.out]; rfl, Below.refl _ _⟩
  by_cases g2 : 1048576 < m
  · have HC := Lib.hid (HR.out (.inr (.inl g2)))
    go_enter Try.func11, Try.ntmps11
    go_wp2
    go_ret
    exact ⟨by rw [HC.out]; rfl, Below.refl _ _⟩
  by_cases g3 : d < 1
  · have HC := Lib.hid (HR.out (.inr (.inr (.inl g3))))
    go_enter Try.func11, Try.ntmps11
    go_wp2
    go_ret
    exact ⟨by rw [HC.out]; rfl, Below.refl _ _⟩
  by_cases g4 : 1024 < d
  · have HC := Lib.hid (HR.out (.inr (.inr (.inr g4))))
    go_enter Try.func11, Try.ntmps11
    go_wp2
    go_ret
    exact ⟨by rw [HC.out]; rfl, Below.refl _ _⟩
  have HC := Lib.hid (HO.out (by omega))
  go_enter Try.func11, Try.ntmps11
  go_wp2_with fail
  refine FT.out.mono ?_
  rintro _ w1 ⟨V, vn, vc, en, ok, l, rfl, hv, -, -, hok, hsm, hb1⟩
  have B1 := Lib.hid hb1
  have HX1 := Lib.hid (HX.out.below hb1)
  clear hv hb1 FT
  cases ha : Xm.tree T d 65 0 with
  | none =>
    rw [ha] at hok
    obtain rfl : ok = false := hok
    have HC2 : Hid (ck = 14) := Lib.hid (by
      rw [HC.out, if_neg]
      rintro ⟨h, -⟩
      unfold Xm.isT at h
      rw [ha] at h
      cases h)
    clear hsm ha
    go_wp2
    go_ret
    exact ⟨by rw [HC2.out]; rfl, B1.out⟩
  | some a =>
    rw [ha] at hok
    obtain rfl : ok = true := hok
    obtain ⟨rfl, -⟩ := hsm a.1 a.2 ha
    have hT : Xm.isT T d = (a.2 == T.length) := by unfold Xm.isT; rw [ha]
    rw [HX.out.len] at hT
    have HT := Lib.hid hT
    clear hsm ha hT
    by_cases g5 : a.2 = n
    · have FL := Lib.hid (refLeavesX HX1.out (by omega))
      have hll := Xm.leaves_le T
      rw [HX.out.len] at hll
      have hlt := Xm.lists_tot T
      obtain ⟨k, hk⟩ : ∃ k, k = Xm.leaves T := ⟨_, rfl⟩
      rw [← hk] at FL hll
      obtain ⟨cv, hcv⟩ : ∃ cv, cv = Nm.cov m (Xm.lists T).flatten := ⟨_, rfl⟩
      have HCV := Lib.hid hcv
      have HC2 : Hid (ck = if cv = true then 0 else 14) := Lib.hid (by
        rw [HC.out, HT.out, ← hcv, g5]
        simp)
      have e5 : ((a.2 : Int) != (n : Int)) = false := by rw [g5]; simp
      clear hk hcv
      obtain ⟨a2, ha2⟩ : ∃ a2, a2 = (a.2 : Int) := ⟨_, rfl⟩
      rw [← ha2] at e5 ⊢
      clear g5 ha2
      go_wp2_with fail
      refine FL.out.mono ?_
      rintro _ w2 ⟨A', c', rfl, hls, hb2⟩
      have FV0 := refCov m A' k c' (Xm.lists T) w2 hls (by omega) (by omega) (by omega)
      rw [← HCV.out] at FV0
      have FV := Lib.hid FV0
      have B2 := Lib.hid (B1.out.trans (hb2.mono B1.out.size))
      clear hls hb2 FV0 FL
      go_wp2_with fail
      refine FV.out.mono ?_
      rintro _ w3 ⟨rfl, hb3⟩
      have B3 := Lib.hid (B2.out.trans (hb3.mono B2.out.size))
      clear hb3 FV
      cases cv with
      | true =>
        go_wp2
        go_ret
        exact ⟨by rw [HC2.out]; rfl, B3.out⟩
      | false =>
        go_wp2
        go_ret
        exact ⟨by rw [HC2.out]; rfl, B3.out⟩
    · have e5 : ((a.2 : Int) != (n : Int)) = true := by simp; omega
      have HC2 : Hid (ck = 14) := Lib.hid (by
        rw [HC.out, HT.out, if_neg]
        rintro ⟨h, -⟩
        exact g5 (by simpa using h))
      obtain ⟨a2, ha2⟩ : ∃ a2, a2 = (a.2 : Int) := ⟨_, rfl⟩
      rw [← ha2] at e5 ⊢
      clear ha2
      go_wp2
      go_ret
      exact ⟨by rw [HC2.out]; rfl, B1.out⟩
end
end Go.Proofs.Ytecdgpacofojeaa
