/-
  Layer 8 (topk): a heap of entries: rise.
-/
import Derived.Test.YtdpoieemadblnaaKSwpP
namespace Go.Proofs.Ytdpoieemadblnaa
open Go.RowKit

set_option maxRecDepth 100000 in
/-- rise: what is at i comes to its place -/
theorem kriseP (cb B g n c i : Nat) (l : List Km.Ent) (w : World) (h : InkP cb w B g n c l) (hs : Hm.Rs (Km.lat Om.less) i l) (hi : i < n) (hn : n ≤ 1000000) :
    Calls Try.prog 51 #[.pointer (some ⟨B, 0, none⟩), .int .i64 i] w fun e w' => e = .returned (.tuple #[]) ∧ ∃ l', InkP cb w' B g n c l' ∧ Hm.Hp (Km.lat Om.less) 0 l' ∧ l'.Perm l ∧ But g w w' := by
  have HI := Lib.hid h
  have HS := Lib.hid hs
  clear h hs
  go_enter Try.func51, Try.ntmps51
  go_wp2
  go_loopw [1] (fun I wr => ∃ (p : Nat) (m : List Km.Ent), I = .int .i64 (p : Int) ∧ p < n ∧ InkP cb wr B g n c m ∧ Hm.Rs (Km.lat Om.less) p m ∧ m.Perm l ∧ But g w wr) (fun I _ => (intOf I).toNat)
  case atStart => exact ⟨i, l, rfl, hi, HI.out, HS.out, List.Perm.refl _, But.refl _ _⟩
  case round =>
    obtain ⟨p, m, rfl, pn, hI, hS, hP, hB⟩ := hrel
    have HI1 := Lib.hid hI
    have HS1 := Lib.hid hS
    have HP1 := Lib.hid hP
    have HB1 := Lib.hid hB
    clear hI hS hP hB
    by_cases p0 : p = 0
    · subst p0
      go_wp2
      exact bodyPost_end (results_none Try.results51 _ _ _) rfl ⟨rfl, _, HI1.out, HS1.out.top, HP1.out, HB1.out⟩
    · have hL := InkP.length HI1.out
      obtain ⟨a, ha⟩ : ∃ a, a = (p - 1) / 2 := ⟨_, rfl⟩
      have hk : Hm.Kid a p := by unfold Hm.Kid; omega
      have ap : a < p := by omega
      have an : a < n := by omega
      have e1 : ((p : Int) - 1).tdiv 2 = (a : Int) := by rw [Int.tdiv_eq_ediv_of_nonneg (by omega)]; omega
      obtain ⟨x, hx⟩ : ∃ x, m[p]? = some x := ⟨_, List.getElem?_eq_getElem (by rw [hL]; exact pn)⟩
      obtain ⟨y, hy⟩ : ∃ y, m[a]? = some y := ⟨_, List.getElem?_eq_getElem (by rw [hL]; omega)⟩
      have cl := HI1.out.lst
      have cf := HI1.out.fst
      obtain ⟨⟨x1, x2⟩, x3⟩ := x
      obtain ⟨⟨y1, y2⟩, y3⟩ := y
      obtain ⟨cx1, cx2, cx3⟩ := HI1.out.at_ hx
      obtain ⟨cy1, cy2, cy3⟩ := HI1.out.at_ hy
      have HX := Lib.hid hx
      have HY := Lib.hid hy
      have hp : 0 < p := by omega
      have HK := Lib.hid hk
      have hc := fun W hW => latP cb x1 x2 x3 y1 y2 y3 W hW
      clear ha hk p0 hL
      cases hf : (Km.lat Om.less) ((x1, x2), x3) ((y1, y2), y3) with
      | true =>
        rw [hf] at hc
        have HF := Lib.hid (HS1.out.up (Km.lat_ord Om.less_ord) HK.out hx hy hf)
        have HP2 := Lib.hid ((Hm.sw_perm hx hy).trans HP1.out)
        clear hx hy hf
        go_wp2
        go_still_tail 18, (by kernel_rfl)
        change wpList _ _ _ _ _ wr.drew
        obtain ⟨W, hW⟩ : ∃ W, W = wr.drew := ⟨_, rfl⟩
        rw [← hW]
        have HIW : Hid (InkP cb W B g n c m) := by rw [hW]; exact HI1.out.drew
        have HBW : Hid (But g w W) := by rw [hW]; exact HB1.out.drew
        clear hW cx1 cx2 cx3 cy1 cy2 cy3 cl cf
        go_wp2_with fail
        refine (hc _ HIW.out.cap).mono ?_
        rintro _ w5 ⟨rfl, hb5⟩
        have HIX := Lib.hid (HIW.out.below hb5)
        have HBX := Lib.hid (HBW.out.below hb5)
        clear hb5
        go_wp2_with fail
        refine (kswapP cb B g n c p a m x1 x2 x3 y1 y2 y3 _ HIX.out HX.out HY.out (by omega) hn).mono ?_
        rintro _ w1 ⟨rfl, hI3, hB3⟩
        have HI3 := Lib.hid hI3
        have HB3 := Lib.hid (HBX.out.trans hB3)
        clear hI3 hB3
        go_wp2
        go_roundw
        case rel => exact ⟨a, _, rfl, an, HI3.out, HF.out, HP2.out, HB3.out⟩
        case measure => simp [intOf]; omega
      | false =>
        rw [hf] at hc
        have HF := Lib.hid (HS1.out.done HK.out hx hy hf)
        clear hx hy hf
        go_wp2
        go_still_tail 18, (by kernel_rfl)
        change wpList _ _ _ _ _ wr.drew
        obtain ⟨W, hW⟩ : ∃ W, W = wr.drew := ⟨_, rfl⟩
        rw [← hW]
        have HIW : Hid (InkP cb W B g n c m) := by rw [hW]; exact HI1.out.drew
        have HBW : Hid (But g w W) := by rw [hW]; exact HB1.out.drew
        clear hW cx1 cx2 cx3 cy1 cy2 cy3 cl cf
        go_wp2_with fail
        refine (hc _ HIW.out.cap).mono ?_
        rintro _ w5 ⟨rfl, hb5⟩
        have HIX := Lib.hid (HIW.out.below hb5)
        have HBX := Lib.hid (HBW.out.below hb5)
        clear hb5
        go_wp2
        exact bodyPost_ret (results_none Try.results51 _ _ _) rfl ⟨rfl, _, HIX.out, HF.out, HP1.out, HBX.out⟩
end Go.Proofs.Ytdpoieemadblnaa
