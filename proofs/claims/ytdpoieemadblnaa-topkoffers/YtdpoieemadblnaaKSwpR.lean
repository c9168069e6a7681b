/-
  Layer 8 (topk): a heap of entries: swap, firstAt, sink, rise.
-/
import Derived.Test.YtdpoieemadblnaaKLatR
import Derived.BigRegion
import Derived.StillTailTactics
namespace Go.Proofs.Ytdpoieemadblnaa
open Go.RowKit

/-- a heap of entries, as memory holds it; its order's first lies in block cb -/
structure InkR (cb : Nat) (w : World) (B g n c : Nat) (l : List Km.Ent) : Prop where
  i : In 100 (.func (.func 56) #[] #[.pointer (some ⟨cb, 0, none⟩)]) 80 3 w B g n c (ce3 l)
  cap : CapR w cb
  bg : cb ≠ g
  bB : cb ≠ B
section
variable {cb : Nat} {w w' : World} {B g n c : Nat} {l : List Km.Ent}
theorem InkR.lst (h : InkR cb w B g n c l) : w.cell? ⟨B, 1, none⟩ = some (.slice (some ⟨g, 0, none⟩) n c) := h.i.l
theorem InkR.fst (h : InkR cb w B g n c l) : w.cell? ⟨B, 0, none⟩ = some (.func (.func 56) #[] #[.pointer (some ⟨cb, 0, none⟩)]) := h.i.f
theorem InkR.length (h : InkR cb w B g n c l) : l.length = n := by have := h.i.len; rw [ce3_length] at this; omega
theorem InkR.below (h : InkR cb w B g n c l) (hb : Below w.heap.size w w') : InkR cb w' B g n c l := ⟨h.i.below hb, h.cap.below hb, h.bg, h.bB⟩
theorem InkR.drew (h : InkR cb w B g n c l) : InkR cb w.drew B g n c l := ⟨h.i.drew, h.cap, h.bg, h.bB⟩
theorem InkR.at_ (h : InkR cb w B g n c l) {i : Nat} {x1 x2 x3 : Int} (hx : l[i]? = some ((x1, x2), x3)) : w.cell? ⟨g, i * 3, none⟩ = some (.int .i64 x1) ∧ w.cell? ⟨g, i * 3 + 1, none⟩ = some (.int .i64 x2) ∧ w.cell? ⟨g, i * 3 + 2, none⟩ = some (.int .i64 x3) := by
  obtain ⟨a, b, c⟩ := ce3_at l i _ hx
  exact ⟨h.i.row.cell a, h.i.row.cell b, h.i.row.cell c⟩
theorem InkR.one (h : InkR cb w B g n c l) (i : Nat) (y1 y2 y3 : Int) :
    InkR cb (((w.setCell ⟨g, i * 3, none⟩ (.int .i64 y1)).setCell ⟨g, i * 3 + 1, none⟩ (.int .i64 y2)).setCell ⟨g, i * 3 + 2, none⟩ (.int .i64 y3)) B g n c (l.set i ((y1, y2), y3)) := by
  have := ((h.i.set (i * 3) (.int .i64 y1)).set (i * 3 + 1) (.int .i64 y2)).set (i * 3 + 2) (.int .i64 y3)
  rw [ce3_set l i ((y1, y2), y3)] at this
  refine ⟨this, ?_, h.bg, h.bB⟩
  unfold CapR
  rw [Below.heap_setCell _ _ _ _ h.bg, Below.heap_setCell _ _ _ _ h.bg, Below.heap_setCell _ _ _ _ h.bg]
  exact h.cap
theorem InkR.sw (h : InkR cb w B g n c l) (i k : Nat) (x1 x2 x3 y1 y2 y3 : Int) :
    InkR cb ((((((w.setCell ⟨g, i * 3, none⟩ (.int .i64 y1)).setCell ⟨g, i * 3 + 1, none⟩ (.int .i64 y2)).setCell ⟨g, i * 3 + 2, none⟩ (.int .i64 y3)).setCell ⟨g, k * 3, none⟩ (.int .i64 x1)).setCell ⟨g, k * 3 + 1, none⟩ (.int .i64 x2)).setCell ⟨g, k * 3 + 2, none⟩ (.int .i64 x3)) B g n c (Hm.sw l i k ((x1, x2), x3) ((y1, y2), y3)) :=
  (h.one i y1 y2 y3).one k x1 x2 x3
end

theorem kswapR (cb B g n c i k : Nat) (l : List Km.Ent) (x1 x2 x3 y1 y2 y3 : Int) (w : World) (h : InkR cb w B g n c l) (hx : l[i]? = some ((x1, x2), x3)) (hy : l[k]? = some ((y1, y2), y3)) (hik : i ≠ k) (hn : n ≤ 1000000) :
    Calls Try.prog 65 #[.pointer (some ⟨B, 0, none⟩), .int .i64 i, .int .i64 k] w fun e w' => e = .returned (.tuple #[]) ∧ InkR cb w' B g n c (Hm.sw l i k ((x1, x2), x3) ((y1, y2), y3)) ∧ But g w w' := by
  have hL := InkR.length h
  have hi : i < n := by have := (List.getElem?_eq_some_iff.1 hx).1; omega
  have hk : k < n := by have := (List.getElem?_eq_some_iff.1 hy).1; omega
  have cl := h.lst
  obtain ⟨cx1, cx2, cx3⟩ := h.at_ hx
  obtain ⟨cy1, cy2, cy3⟩ := h.at_ hy
  have fx1 := h.i.row.frozen (i * 3)
  have fx2 := h.i.row.frozen (i * 3 + 1)
  have fx3 := h.i.row.frozen (i * 3 + 2)
  have fy1 := h.i.row.frozen (k * 3)
  have fy2 := h.i.row.frozen (k * 3 + 1)
  have fy3 := h.i.row.frozen (k * 3 + 2)
  have hki : k ≠ i := fun e => hik e.symm
  have d1 : k * 3 ≠ i * 3 := by omega
  have d2 : k * 3 ≠ i * 3 + 1 := by omega
  have d3 : k * 3 ≠ i * 3 + 2 := by omega
  have d4 : k * 3 + 1 ≠ i * 3 := by omega
  have d5 : k * 3 + 1 ≠ i * 3 + 1 := by omega
  have d6 : k * 3 + 1 ≠ i * 3 + 2 := by omega
  have d7 : k * 3 + 2 ≠ i * 3 := by omega
  have d8 : k * 3 + 2 ≠ i * 3 + 1 := by omega
  have d9 : k * 3 + 2 ≠ i * 3 + 2 := by omega
  have HI := Lib.hid (InkR.sw h i k x1 x2 x3 y1 y2 y3)
  clear h hx hy hL
  go_enter Try.func65, Try.ntmps65
  go_wp2
  go_region
  all_goals
    have HB := Lib.hid ((((((((But.refl g w).setCell (i * 3) (.int .i64 y1)).setCell (i * 3 + 1) (.int .i64 y2)).setCell (i * 3 + 2) (.int .i64 y3)).setCell (k * 3) (.int .i64 x1)).setCell (k * 3 + 1) (.int .i64 x2)).setCell (k * 3 + 2) (.int .i64 x3)).drew)
    clear cl cx1 cx2 cx3 cy1 cy2 cy3 fx1 fx2 fx3 fy1 fy2 fy3
    go_wp2
    exact bodyPost_end (results_none Try.results65 _ _ _) rfl ⟨rfl, HI.out.drew, HB.out⟩

set_option maxRecDepth 100000 in
theorem kfirstAtR (cb B g n c i : Nat) (l : List Km.Ent) (w : World) (h : InkR cb w B g n c l) (hi : i < n) (hn : n ≤ 1000000) :
    Calls Try.prog 64 #[.pointer (some ⟨B, 0, none⟩), .int .i64 i] w fun e w' => ∃ a : Nat, e = .returned (.int .i64 a) ∧ Hm.At (Km.lat Om.near) l i a ∧ Below w.heap.size w w' := by
  have HI := Lib.hid h
  have HL := Lib.hid (InkR.length h)
  clear h
  go_enter Try.func64, Try.ntmps64
  go_wp2
  go_loopw [5, 6] (fun A K wr => ∃ a b : Nat, A = .int .i64 (a : Int) ∧ K = .int .i64 (b : Int) ∧ 2 * i + 1 ≤ b ∧ b ≤ 2 * i + 3 ∧ Hm.AtB (Km.lat Om.near) l i b a ∧ Below w.heap.size w wr) (fun A K _ => 2 * i + 3 - (intOf K).toNat)
  case atStart => exact ⟨i, 2 * i + 1, rfl, congrArg (Value.int .i64) (by omega), by omega, by omega, Hm.AtB.start (Km.lat_ord Om.near_ord) (by rw [HL.out]; exact hi), Below.refl _ _⟩
  case round =>
    obtain ⟨a, b, rfl, rfl, b1, b2, hA, hb⟩ := hrel
    have HA := Lib.hid hA
    have Hb := Lib.hid hb
    have HIr := Lib.hid (HI.out.below hb)
    have cl := HIr.out.lst
    have cf := HIr.out.fst
    clear hb
    have an : a < n := by have := hA.2.1; have := HL.out; omega
    clear hA
    by_cases q1 : b ≤ 2 * i + 2 ∧ b < n
    · obtain ⟨q1, q2⟩ := q1
      obtain ⟨x, hx⟩ : ∃ x, l[a]? = some x := ⟨_, List.getElem?_eq_getElem (by rw [HL.out]; exact an)⟩
      obtain ⟨y, hy⟩ : ∃ y, l[b]? = some y := ⟨_, List.getElem?_eq_getElem (by rw [HL.out]; exact q2)⟩
      obtain ⟨⟨x1, x2⟩, x3⟩ := x
      obtain ⟨⟨y1, y2⟩, y3⟩ := y
      obtain ⟨cx1, cx2, cx3⟩ := HIr.out.at_ hx
      obtain ⟨cy1, cy2, cy3⟩ := HIr.out.at_ hy
      have g1 : decide ((b : Int) ≤ 2 * (i : Int) + 2) = true := by simp; omega
      have g2 : decide ((b : Int) < (n : Int)) = true := by simp; omega
      have hc := fun W hW => latR cb y1 y2 y3 x1 x2 x3 W hW
      cases hf : (Km.lat Om.near) ((y1, y2), y3) ((x1, x2), x3) with
      | true =>
        rw [hf] at hc
        have HF := Lib.hid (HA.out.yes (Km.lat_ord Om.near_ord) (by unfold Hm.Kid; omega) hx hy hf)
        clear hx hy hf
        go_wp2
        go_still_tail 18, (by kernel_rfl)
        change wpList _ _ _ _ _ wr.drew
        obtain ⟨W, hW⟩ : ∃ W, W = wr.drew := ⟨_, rfl⟩
        rw [← hW]
        have HbW : Hid (Below w.heap.size w W) := by rw [hW]; exact Hb.out.drew
        have HCW : Hid (CapR W cb) := by rw [hW]; exact HIr.out.cap
        clear hW cx1 cx2 cx3 cy1 cy2 cy3 cl cf
        go_wp2_with fail
        refine (hc _ HCW.out).mono ?_
        rintro _ w5 ⟨rfl, hb5⟩
        have HbX := Lib.hid (HbW.out.trans (hb5.mono HbW.out.size))
        clear g1 g2 hb5
        go_wp2
        go_roundw
        case rel => exact ⟨b, b + 1, rfl, congrArg (Value.int .i64) (by omega), by omega, by omega, HF.out, HbX.out⟩
        case measure => simp [intOf]; omega
      | false =>
        rw [hf] at hc
        have HF := Lib.hid (HA.out.no hx hy hf)
        clear hx hy hf
        go_wp2
        go_still_tail 18, (by kernel_rfl)
        change wpList _ _ _ _ _ wr.drew
        obtain ⟨W, hW⟩ : ∃ W, W = wr.drew := ⟨_, rfl⟩
        rw [← hW]
        have HbW : Hid (Below w.heap.size w W) := by rw [hW]; exact Hb.out.drew
        have HCW : Hid (CapR W cb) := by rw [hW]; exact HIr.out.cap
        clear hW cx1 cx2 cx3 cy1 cy2 cy3 cl cf
        go_wp2_with fail
        refine (hc _ HCW.out).mono ?_
        rintro _ w5 ⟨rfl, hb5⟩
        have HbX := Lib.hid (HbW.out.trans (hb5.mono HbW.out.size))
        clear g1 g2 hb5
        go_wp2
        go_roundw
        case rel => exact ⟨a, b + 1, rfl, congrArg (Value.int .i64) (by omega), by omega, by omega, HF.out, HbX.out⟩
        case measure => simp [intOf]; omega
    · have HD := Lib.hid (HA.out.done (by have := HL.out; omega))
      by_cases q2 : b ≤ 2 * i + 2
      · have g1 : decide ((b : Int) ≤ 2 * (i : Int) + 2) = true := by simp; omega
        have g2 : decide ((b : Int) < (n : Int)) = false := by simp; omega
        have g3 : decide (b < n) = false := by simp; omega
        clear q1 q2
        go_wp2
        go_ret
        exact ⟨a, rfl, HD.out, Hb.out⟩
      · have g1 : decide ((b : Int) ≤ 2 * (i : Int) + 2) = false := by simp; omega
        clear q1 q2
        go_wp2
        go_ret
        exact ⟨a, rfl, HD.out, Hb.out⟩

/-- sink: what is at i comes to its place -/
theorem ksinkR (cb B g n c j i : Nat) (l : List Km.Ent) (w : World) (h : InkR cb w B g n c l) (hs : Hm.Sk (Km.lat Om.near) j i l) (hj : j ≤ i) (hi : i < n) (hn : n ≤ 1000000) :
    Calls Try.prog 55 #[.pointer (some ⟨B, 0, none⟩), .int .i64 i] w fun e w' => e = .returned (.tuple #[]) ∧ ∃ l', InkR cb w' B g n c l' ∧ Hm.Hp (Km.lat Om.near) j l' ∧ l'.Perm l ∧ But g w w' := by
  have HI := Lib.hid h
  have HS := Lib.hid hs
  clear h hs
  go_enter Try.func55, Try.ntmps55
  go_wp2
  go_loopw [1] (fun I wr => ∃ (p : Nat) (m : List Km.Ent), I = .int .i64 (p : Int) ∧ j ≤ p ∧ p < n ∧ InkR cb wr B g n c m ∧ Hm.Sk (Km.lat Om.near) j p m ∧ m.Perm l ∧ But g w wr) (fun I _ => n - (intOf I).toNat)
  case atStart => exact ⟨i, l, rfl, hj, hi, HI.out, HS.out, List.Perm.refl _, But.refl _ _⟩
  case round =>
    obtain ⟨p, m, rfl, jp, pn, hI, hS, hP, hB⟩ := hrel
    have HI1 := Lib.hid hI
    have HS1 := Lib.hid hS
    have HP1 := Lib.hid hP
    have HB1 := Lib.hid hB
    clear hI hS hP hB
    go_wp2_with fail
    refine (kfirstAtR cb B g n c p m _ HI1.out pn hn).mono ?_
    rintro _ w0 ⟨a, rfl, hA, hb0⟩
    have HI2 := Lib.hid (HI1.out.below hb0)
    have HB2 := Lib.hid (HB1.out.below hb0)
    clear hb0
    have HA := Lib.hid hA
    have hL := InkR.length HI1.out
    have an : a < n := by have := hA.2.1; omega
    have ha := hA.1
    clear hA
    by_cases q : a = p
    · subst q
      have HR := Lib.hid (HS1.out.done HA.out)
      clear ha hL
      go_wp2
      exact bodyPost_ret (results_none Try.results55 _ _ _) rfl ⟨rfl, _, HI2.out, HR.out, HP1.out, HB2.out⟩
    · have pa : p < a := by rcases ha with e | e | e <;> omega
      obtain ⟨x, hx⟩ : ∃ x, m[p]? = some x := ⟨_, List.getElem?_eq_getElem (by rw [hL]; exact pn)⟩
      obtain ⟨y, hy⟩ : ∃ y, m[a]? = some y := ⟨_, List.getElem?_eq_getElem (by rw [hL]; exact an)⟩
      obtain ⟨⟨x1, x2⟩, x3⟩ := x
      obtain ⟨⟨y1, y2⟩, y3⟩ := y
      have HS2 := Lib.hid (HS1.out.down HA.out q jp hx hy)
      have HP2 := Lib.hid ((Hm.sw_perm hx hy).trans HP1.out)
      have HX := Lib.hid hx
      have HY := Lib.hid hy
      have g1 : ((a : Int) == (p : Int)) = false := by simp; omega
      clear ha hL q hx hy
      go_wp2_with fail
      refine (kswapR cb B g n c p a m x1 x2 x3 y1 y2 y3 _ HI2.out HX.out HY.out (by omega) hn).mono ?_
      rintro _ w1 ⟨rfl, hI3, hB3⟩
      have HI3 := Lib.hid hI3
      have HB3 := Lib.hid (HB2.out.trans hB3)
      clear hI3 hB3
      go_wp2
      go_roundw
      case rel => exact ⟨a, _, rfl, by omega, an, HI3.out, HS2.out, HP2.out, HB3.out⟩
      case measure => simp [intOf]; omega

theorem kfirstAtR_none (cb B g c : Nat) (w : World) (h : InkR cb w B g 0 c []) :
    Calls Try.prog 64 #[.pointer (some ⟨B, 0, none⟩), .int .i64 0] w fun e w' => e = .returned (.int .i64 0) ∧ w' = w := by
  have cl := h.lst
  clear h
  go_enter Try.func64, Try.ntmps64
  go_wp2
  go_loopw [5, 6] (fun A K wr => A = .int .i64 0 ∧ K = .int .i64 1 ∧ wr = w) (fun A K _ => 0)
  case atStart => exact ⟨rfl, rfl, rfl⟩
  case round =>
    obtain ⟨rfl, rfl, rfl⟩ := hrel
    go_wp2
    go_ret
    exact ⟨rfl, rfl⟩
theorem ksinkR_none (cb B g c : Nat) (w : World) (h : InkR cb w B g 0 c []) :
    Calls Try.prog 55 #[.pointer (some ⟨B, 0, none⟩), .int .i64 0] w fun e w' => e = .returned (.tuple #[]) ∧ w' = w := by
  have HI := Lib.hid h
  clear h
  go_enter Try.func55, Try.ntmps55
  go_wp2
  go_loopw [1] (fun I wr => I = .int .i64 0 ∧ wr = w) (fun I _ => 0)
  case atStart => exact ⟨rfl, rfl⟩
  case round =>
    obtain ⟨rfl, rfl⟩ := hrel
    go_wp2_with fail
    refine (kfirstAtR_none cb B g c _ HI.out).mono ?_
    rintro _ _ ⟨rfl, rfl⟩
    go_wp2
    exact bodyPost_ret (results_none Try.results55 _ _ _) rfl ⟨rfl, rfl⟩

end Go.Proofs.Ytdpoieemadblnaa
