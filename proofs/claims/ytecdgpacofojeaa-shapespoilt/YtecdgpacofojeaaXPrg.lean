/-
  Layer 14 (shape): the program's own functions, by contracts.
-/
import Derived.Test.YtecdgpacofojeaaXSme
import Derived.Test.YtecdgpacofojeaaXDep
import Derived.Test.YtecdgpacofojeaaXSnd
import Derived.Test.YtecdgpacofojeaaXLkd
import Derived.Test.YtecdgpacofojeaaXLvs
namespace Go.Proofs.Ytecdgpacofojeaa
open Go.RowKit

namespace Xm
theorem Shp.det {T : List Nd} {d : Int} {k p m : Nat} {v : List Nat} (h : Shp T d k p v m) : ∀ {v' : List Nat} {m' : Nat}, Shp T d k p v' m' → v' = v ∧ m' = m := by
  induction h with
  | @leaf k p x h hl ho =>
    intro v' m' h'
    cases h' with
    | leaf h1 hl1 ho1 => exact ⟨rfl, rfl⟩
    | node h1 hl1 => rw [h] at h1; injection h1 with h1; subst h1; rw [hl] at hl1; cases hl1
  | @node k p m e x a b h hl ho ha hr hb iha ihb =>
    intro v' m' h'
    cases h' with
    | leaf h1 hl1 ho1 => rw [h] at h1; injection h1 with h1; subst h1; rw [hl] at hl1; cases hl1
    | node h1 hl1 ho1 ha1 hr1 hb1 =>
      obtain ⟨rfl, rfl⟩ := iha ha1
      obtain ⟨rfl, rfl⟩ := ihb hb1
      exact ⟨rfl, rfl⟩
theorem isT_most {T : List Nd} {d : Int} {v : List Nat} (h : Shp T d 0 0 v T.length) : isT T d = true ↔ most v ≤ 64 := by
  rw [isT_shp, most_iff]
  constructor
  · rintro ⟨v', h1, h2⟩
    obtain ⟨rfl, -⟩ := h.det h1
    exact h2
  · intro h2
    exact ⟨v, h, h2⟩
end Xm
section
variable {w : World} {A B : Option Addr} {n c m c' : Nat} {T T' : List Xm.Nd} {v : List Nat} {d : Int}
set_option maxRecDepth 100000 in
set_option maxHeartbeats 800000 in
theorem checkX (h : Xds w A n c T) (hn : n ≤ 100000) (ht : Xm.tot T ≤ 1000000) (k d : Int) : Calls Try.prog 10 #[.slice A n c, .int .i64 k, .int .i64 d] w fun e w' => e = .returned (.int .i64 (Xm.chk T k d)) ∧ Below w.heap.size w w' := by
  have HX := Lib.hid h
  obtain ⟨ck, hck⟩ : ∃ ck, ck = Xm.chk T k d := ⟨_, rfl⟩
  rw [← hck]
  have HR : Hid ((k < 0 ∨ 1048576 < k ∨ d < 1 ∨ 1024 < d) → ck = 1) := Lib.hid fun h => by rw [hck]; unfold Xm.chk; rw [if_pos h]
  have HO : Hid (¬ (k < 0 ∨ 1048576 < k ∨ d < 1 ∨ 1024 < d) → ck = if Xm.isT T d = true ∧ Nm.cov k (Xm.lists T).flatten = true then 0 else 14) := Lib.hid fun h => by rw [hck]; unfold Xm.chk; rw [if_neg h]
  have FS := Lib.hid (soundX h hn d)
  clear h hck
  by_cases g1 : k < 0
  · have HC := Lib.hid (HR.out (.inl g1))
    go_enter Try.func10, Try.ntmps10
    go_wp2
    go_ret
    exact ⟨by rw [HC.out]; rfl, Below.refl _ _⟩
  by_cases g2 : 1048576 < k
  · have HC := Lib.hid (HR.out (.inr (.inl g2)))
    go_enter Try.func10, Try.ntmps10
    go_wp2
    go_ret
    exact ⟨by rw [HC.out]; rfl, Below.refl _ _⟩
  by_cases g3 : d < 1
  · have HC := Lib.hid (HR.out (.inr (.inr (.inl g3))))
    go_enter Try.func10, Try.ntmps10
    go_wp2
    go_ret
    exact ⟨by rw [HC.out]; rfl, Below.refl _ _⟩
  by_cases g4 : 1024 < d
  · have HC := Lib.hid (HR.out (.inr (.inr (.inr g4))))
    go_enter Try.func10, Try.ntmps10
    go_wp2
    go_ret
    exact ⟨by rw [HC.out]; rfl, Below.refl _ _⟩
  have HC := Lib.hid (HO.out (by omega))
  clear HO HR
  go_enter Try.func10, Try.ntmps10
  go_wp2_with fail
  refine FS.out.mono ?_
  rintro _ w1 ⟨r1, rfl, hr1, hb1⟩
  have B1 := Lib.hid hb1
  have HX1 := Lib.hid (HX.out.below hb1)
  have HR1 := Lib.hid hr1
  clear hb1 FS hr1
  cases r1 with
  | false =>
    have HC2 : Hid (ck = 14) := Lib.hid (by
      rw [HC.out, if_neg]
      rintro ⟨h, -⟩
      obtain ⟨v, h1, -⟩ := Xm.isT_shp.1 h
      exact absurd (HR1.out.2 (Xm.shp_iff.2 ⟨v, h1⟩).1) (by decide))
    go_wp2
    go_ret
    exact ⟨by rw [HC2.out]; rfl, B1.out⟩
  | true =>
    have FL := linkX HX1.out hn
    obtain ⟨r2, hr2⟩ : ∃ r2, r2 = Xm.lnk 0 T [(T.length : Int)] := ⟨_, rfl⟩
    rw [← hr2] at FL
    have FL := Lib.hid FL
    have HR2 := Lib.hid hr2
    clear hr2
    go_wp2_with fail
    refine FL.out.mono ?_
    rintro _ w2 ⟨rfl, hb2⟩
    have B2 := Lib.hid (B1.out.trans (hb2.mono B1.out.size))
    have HX2 := Lib.hid (HX1.out.below hb2)
    clear hb2 FL
    cases r2 with
    | false =>
      have HC2 : Hid (ck = 14) := Lib.hid (by
        rw [HC.out, if_neg]
        rintro ⟨h, -⟩
        obtain ⟨v, h1, -⟩ := Xm.isT_shp.1 h
        have := (Xm.shp_iff.2 ⟨v, h1⟩).2
        rw [← HR2.out] at this
        cases this)
      go_wp2
      go_ret
      exact ⟨by rw [HC2.out]; rfl, B2.out⟩
    | true =>
      obtain ⟨v, hv⟩ := Xm.shp_iff.1 ⟨HR1.out.1 (by first | trivial | rfl), HR2.out.symm⟩
      have FD := depthS HX2.out hn hv
      have hmt := Xm.isT_most hv
      obtain ⟨mv, hmv⟩ : ∃ mv, mv = Xm.most v := ⟨_, rfl⟩
      rw [← hmv] at FD hmt
      have FD := Lib.hid FD
      have HMT := Lib.hid hmt
      clear hmv hmt hv
      go_wp2_with fail
      refine FD.out.mono ?_
      rintro _ w3 ⟨rfl, hb3⟩
      have B3 := Lib.hid (B2.out.trans (hb3.mono B2.out.size))
      have HX3 := Lib.hid (HX2.out.below hb3)
      clear hb3 FD
      by_cases g5 : mv ≤ 64
      · have FH := Lib.hid (heldX HX3.out (Below.refl _ _) hn)
        obtain ⟨cv, hcv⟩ : ∃ cv, cv = Nm.cov k (Xm.lists T).flatten := ⟨_, rfl⟩
        have HC2 : Hid (ck = if cv = true then 0 else 14) := Lib.hid (by
          rw [HC.out, ← hcv]
          simp [HMT.out.2 g5])
        have HCV := Lib.hid hcv
        clear hcv HC
        go_wp2_with fail
        refine FH.out.mono ?_
        rintro _ w4 ⟨rfl, hT, hb4⟩
        have B4 := Lib.hid (B3.out.trans (hb4.mono B3.out.size))
        have FV := coversG k 42 _ (enters_of Try.func42 (by kernel_rfl) rfl) (Xm.lists T) w4 (by omega) hT (fun l hl => Nat.le_trans (Xm.lists_in hl) ht)
        rw [← HCV.out] at FV
        have FV := Lib.hid FV
        clear hT hb4 FH
        go_wp2_with fail
        refine FV.out.mono ?_
        rintro _ w5 ⟨rfl, hb5⟩
        have B5 := Lib.hid (B4.out.trans (hb5.mono B4.out.size))
        clear hb5 FV
        cases cv with
        | true =>
          go_wp2
          go_ret
          exact ⟨by rw [HC2.out]; rfl, B5.out⟩
        | false =>
          go_wp2
          go_ret
          exact ⟨by rw [HC2.out]; rfl, B5.out⟩
      · have HC2 : Hid (ck = 14) := Lib.hid (by
          rw [HC.out, if_neg]
          rintro ⟨h, -⟩
          exact g5 (HMT.out.1 h))
        go_wp2
        go_ret
        exact ⟨by rw [HC2.out]; rfl, B3.out⟩
theorem depthX (h : Xds w A n c T) (hn : n ≤ 100000) (hv : Xm.Is T d 65 0 v T.length) : Calls Try.prog 18 #[.slice A n c] w fun e w' => e = .returned (.int .i64 (Xm.most v : Int)) ∧ Below w.heap.size w w' := depthS h hn (hv.shp 0 rfl)
theorem walkX {wb : World} (h : Xds wb A n c T) (hb : Below wb.heap.size wb w) (hn : n ≤ 100000) (hv : Xm.Is T d 65 0 v T.length) : Calls Try.prog 13 #[.slice A n c] w fun e w' => ∃ gf lb, e = .returned (.func (.func gf) #[] lb) ∧ (∀ args w, (callFunc gf args).run Try.prog w = .ok (.enter gf args) w) ∧ TellsV gf lb wb.heap.size w.heap.size w' (Xm.visits 0 v) ∧ Below w.heap.size w w' := walkS h hb hn (hv.shp 0 rfl)
end
end Go.Proofs.Ytecdgpacofojeaa
