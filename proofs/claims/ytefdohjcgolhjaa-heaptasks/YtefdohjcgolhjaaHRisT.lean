/-
  Layer 7 (heap): a heap of structs of two numbers: rise.
-/
import Derived.Test.YtefdohjcgolhjaaHSwpT
namespace Go.Proofs.Ytefdohjcgolhjaa
open Go.RowKit

/-- rise: what is at i comes to its place -/
theorem riseT (B g n c i : Nat) (l : List Om.E) (w : World) (h : InT w B g n c l) (hs : Hm.Rs Om.ahead i l) (hi : i < n) (hn : n ≤ 1000000) :
    Calls Try.prog 40 #[.pointer (some ⟨B, 0, none⟩), .int .i64 i] w fun e w' => e = .returned (.tuple #[]) ∧ ∃ l', InT w' B g n c l' ∧ Hm.Hp Om.ahead 0 l' ∧ l'.Perm l ∧ But g w w' := by
  have HI := Lib.hid h
  have HS := Lib.hid hs
  clear h hs
  go_enter Try.func40, Try.ntmps40
  go_wp2
  go_loopw [1] (fun I wr => ∃ (p : Nat) (m : List Om.E), I = .int .i64 (p : Int) ∧ p < n ∧ InT wr B g n c m ∧ Hm.Rs Om.ahead p m ∧ m.Perm l ∧ But g w wr) (fun I _ => (intOf I).toNat)
  case atStart => exact ⟨i, l, rfl, hi, HI.out, HS.out, List.Perm.refl _, But.refl _ _⟩
  case round =>
    obtain ⟨p, m, rfl, pn, hI, hS, hP, hB⟩ := hrel
    have HI1 := Lib.hid hI
    have HS1 := Lib.hid hS
    have HP1 := Lib.hid hP
    have HB1 := Lib.hid hB
    clear hI hS hP hB
    by_cases p0 : p = 0
    · subst p0
      go_wp2
      exact bodyPost_end (results_none Try.results40 _ _ _) rfl ⟨rfl, _, HI1.out, HS1.out.top, HP1.out, HB1.out⟩
    · have hL := InT.length HI1.out
      obtain ⟨a, ha⟩ : ∃ a, a = (p - 1) / 2 := ⟨_, rfl⟩
      have hk : Hm.Kid a p := by unfold Hm.Kid; omega
      have ap : a < p := by omega
      have an : a < n := by omega
      have e1 : ((p : Int) - 1).tdiv 2 = (a : Int) := by rw [Int.tdiv_eq_ediv_of_nonneg (by omega)]; omega
      obtain ⟨x, hx⟩ : ∃ x, m[p]? = some x := ⟨_, List.getElem?_eq_getElem (by rw [hL]; exact pn)⟩
      obtain ⟨y, hy⟩ : ∃ y, m[a]? = some y := ⟨_, List.getElem?_eq_getElem (by rw [hL]; omega)⟩
      have cl := HI1.out.l
      have cf := HI1.out.f
      obtain ⟨x1, x2⟩ := x
      obtain ⟨y1, y2⟩ := y
      have cx1 := HI1.out.row.cell (cel1T hx)
      have cx2 := HI1.out.row.cell (cel2T hx)
      have cy1 := HI1.out.row.cell (cel1T hy)
      have cy2 := HI1.out.row.cell (cel2T hy)
      have HX := Lib.hid hx
      have HY := Lib.hid hy
      have hp : 0 < p := by omega
      have HK := Lib.hid hk
      have hc := fun W => ahead_any x1 x2 y1 y2 W
      clear ha hk p0 hL
      cases hf : Om.ahead (x1, x2) (y1, y2) with
      | true =>
        rw [hf] at hc
        have HF := Lib.hid (HS1.out.up ahead_hord HK.out hx hy hf)
        have HP2 := Lib.hid ((Hm.sw_perm hx hy).trans HP1.out)
        clear hx hy hf
        go_wp2
        go_still_tail 18, (by kernel_rfl)
        change wpList _ _ _ _ _ wr.drew
        obtain ⟨W, hW⟩ : ∃ W, W = wr.drew := ⟨_, rfl⟩
        rw [← hW]
        have HIW : Hid (InT W B g n c m) := by rw [hW]; exact HI1.out.drew
        have HBW : Hid (But g w W) := by rw [hW]; exact HB1.out.drew
        clear hW cx1 cx2 cy1 cy2 cl cf
        go_wp2_with fail
        refine (hc _).mono ?_
        rintro _ w5 ⟨rfl, hb5⟩
        have HIX := Lib.hid (HIW.out.below hb5)
        have HBX := Lib.hid (HBW.out.below hb5)
        clear hb5
        go_wp2_with fail
        refine (swapT B g n c p a m x1 x2 y1 y2 _ HIX.out HX.out HY.out (by omega) hn).mono ?_
        rintro _ w1 ⟨rfl, hI3, hB3⟩
        have HI3 := Lib.hid hI3
        have HB3 := Lib.hid (HBX.out.trans hB3)
        clear hI3 hB3
        go_wp2
        go_roundw
        case rel => exact ⟨a, _, rfl, an, HI3.out, HF.out, HP2.out, HB3.out⟩
        case measure => simp [intOf]; omega
      | false =>
        rw [hf] at hc
        have HF := Lib.hid (HS1.out.done HK.out hx hy hf)
        clear hx hy hf
        go_wp2
        go_still_tail 18, (by kernel_rfl)
        change wpList _ _ _ _ _ wr.drew
        obtain ⟨W, hW⟩ : ∃ W, W = wr.drew := ⟨_, rfl⟩
        rw [← hW]
        have HIW : Hid (InT W B g n c m) := by rw [hW]; exact HI1.out.drew
        have HBW : Hid (But g w W) := by rw [hW]; exact HB1.out.drew
        clear hW cx1 cx2 cy1 cy2 cl cf
        go_wp2_with fail
        refine (hc _).mono ?_
        rintro _ w5 ⟨rfl, hb5⟩
        have HIX := Lib.hid (HIW.out.below hb5)
        have HBX := Lib.hid (HBW.out.below hb5)
        clear hb5
        go_wp2
        exact bodyPost_ret (results_none Try.results40 _ _ _) rfl ⟨rfl, _, HIX.out, HF.out, HP1.out, HBX.out⟩
end Go.Proofs.Ytefdohjcgolhjaa
