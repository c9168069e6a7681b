/-
  Layer 7 (heap): a heap of structs of two numbers: swap, firstAt, sink, rise.
-/
import Derived.Test.YtefdohjcgolhjaaHMem
import Derived.BigRegion
import Derived.StillTailTactics
namespace Go.Proofs.Ytefdohjcgolhjaa
open Go.RowKit

theorem near_hord : Hm.Ord Om.near := by
  constructor
  · rintro ⟨a1, a2⟩ ⟨b1, b2⟩ h
    simp only [Om.near] at *
    split at h <;> split <;> simp at * <;> omega
  · rintro ⟨a1, a2⟩ ⟨b1, b2⟩ ⟨c1, c2⟩ h1 h2
    simp only [Om.near] at *
    split at h1 <;> split at h2 <;> split <;> simp at * <;> omega
theorem near_heq : ∀ a b : Om.E, Om.near a b = false → Om.near b a = false → a = b := by
  rintro ⟨a1, a2⟩ ⟨b1, b2⟩ h1 h2
  simp only [Om.near] at *
  split at h1 <;> split at h2 <;> simp at * <;> omega
theorem cel1R {l : List Om.E} {i : Nat} {x1 x2 : Int} (h : l[i]? = some (x1, x2)) : (cel l)[i * 2]? = some (.int .i64 x1) := by rw [Nat.mul_comm]; exact cel_fst l i _ h
theorem cel2R {l : List Om.E} {i : Nat} {x1 x2 : Int} (h : l[i]? = some (x1, x2)) : (cel l)[i * 2 + 1]? = some (.int .i64 x2) := by rw [Nat.mul_comm]; exact cel_snd l i _ h
/-- a heap of these structs, as memory holds it -/
abbrev InR (w : World) (B g n c : Nat) (l : List Om.E) : Prop := In 70 (.func (.func 19) #[] #[]) 42 2 w B g n c (cel l)
theorem InR.length {w : World} {B g n c : Nat} {l : List Om.E} (h : InR w B g n c l) : l.length = n := by have := h.len; rw [cel_length] at this; omega
theorem InR.one {w : World} {B g n c : Nat} {l : List Om.E} (h : InR w B g n c l) (i : Nat) (y1 y2 : Int) :
    InR ((w.setCell ⟨g, i * 2, none⟩ (.int .i64 y1)).setCell ⟨g, i * 2 + 1, none⟩ (.int .i64 y2)) B g n c (l.set i (y1, y2)) := by
  have := (h.set (i * 2) (.int .i64 y1)).set (i * 2 + 1) (.int .i64 y2)
  rwa [Nat.mul_comm i 2, cel_set l i (y1, y2), Nat.mul_comm 2 i] at this
theorem InR.sw {w : World} {B g n c : Nat} {l : List Om.E} (h : InR w B g n c l) (i k : Nat) (x1 x2 y1 y2 : Int) :
    InR ((((w.setCell ⟨g, i * 2, none⟩ (.int .i64 y1)).setCell ⟨g, i * 2 + 1, none⟩ (.int .i64 y2)).setCell ⟨g, k * 2, none⟩ (.int .i64 x1)).setCell ⟨g, k * 2 + 1, none⟩ (.int .i64 x2)) B g n c (Hm.sw l i k (x1, x2) (y1, y2)) :=
  InR.one (InR.one h i y1 y2) k x1 x2

theorem swapR (B g n c i k : Nat) (l : List Om.E) (x1 x2 y1 y2 : Int) (w : World) (h : InR w B g n c l) (hx : l[i]? = some (x1, x2)) (hy : l[k]? = some (y1, y2)) (hik : i ≠ k) (hn : n ≤ 1000000) :
    Calls Try.prog 46 #[.pointer (some ⟨B, 0, none⟩), .int .i64 i, .int .i64 k] w fun e w' => e = .returned (.tuple #[]) ∧ InR w' B g n c (Hm.sw l i k (x1, x2) (y1, y2)) ∧ But g w w' := by
  have hL := InR.length h
  have hi : i < n := by have := (List.getElem?_eq_some_iff.1 hx).1; omega
  have hk : k < n := by have := (List.getElem?_eq_some_iff.1 hy).1; omega
  have cl := h.l
  have cx1 := h.row.cell (cel1R hx)
  have cx2 := h.row.cell (cel2R hx)
  have cy1 := h.row.cell (cel1R hy)
  have cy2 := h.row.cell (cel2R hy)
  have fx1 := h.row.frozen (i * 2)
  have fx2 := h.row.frozen (i * 2 + 1)
  have fy1 := h.row.frozen (k * 2)
  have fy2 := h.row.frozen (k * 2 + 1)
  have hki : k ≠ i := fun e => hik e.symm
  have d1 : k * 2 ≠ i * 2 := by omega
  have d2 : k * 2 ≠ i * 2 + 1 := by omega
  have d3 : k * 2 + 1 ≠ i * 2 := by omega
  have d4 : k * 2 + 1 ≠ i * 2 + 1 := by omega
  have HI := Lib.hid (InR.sw h i k x1 x2 y1 y2)
  clear h hx hy hL
  go_enter Try.func46, Try.ntmps46
  go_wp2
  go_region
  all_goals
    have HB := Lib.hid ((((((But.refl g w).setCell (i * 2) (.int .i64 y1)).setCell (i * 2 + 1) (.int .i64 y2)).setCell (k * 2) (.int .i64 x1)).setCell (k * 2 + 1) (.int .i64 x2)).drew)
    clear cl cx1 cx2 cy1 cy2 fx1 fx2 fy1 fy2
    go_wp2
    exact bodyPost_end (results_none Try.results46 _ _ _) rfl ⟨rfl, HI.out.drew, HB.out⟩

theorem firstAtR (B g n c i : Nat) (l : List Om.E) (w : World) (h : InR w B g n c l) (hi : i < n) (hn : n ≤ 1000000) :
    Calls Try.prog 45 #[.pointer (some ⟨B, 0, none⟩), .int .i64 i] w fun e w' => ∃ a : Nat, e = .returned (.int .i64 a) ∧ Hm.At Om.near l i a ∧ Below w.heap.size w w' := by
  have HI := Lib.hid h
  have HL := Lib.hid (InR.length h)
  clear h
  go_enter Try.func45, Try.ntmps45
  go_wp2
  go_loopw [5, 6] (fun A K wr => ∃ a b : Nat, A = .int .i64 (a : Int) ∧ K = .int .i64 (b : Int) ∧ 2 * i + 1 ≤ b ∧ b ≤ 2 * i + 3 ∧ Hm.AtB Om.near l i b a ∧ Below w.heap.size w wr) (fun A K _ => 2 * i + 3 - (intOf K).toNat)
  case atStart => exact ⟨i, 2 * i + 1, rfl, congrArg (Value.int .i64) (by omega), by omega, by omega, Hm.AtB.start near_hord (by rw [HL.out]; exact hi), Below.refl _ _⟩
  case round =>
    obtain ⟨a, b, rfl, rfl, b1, b2, hA, hb⟩ := hrel
    have HA := Lib.hid hA
    have Hb := Lib.hid hb
    have HIr := Lib.hid (HI.out.below hb)
    have cl := HIr.out.l
    have cf := HIr.out.f
    clear hb
    have an : a < n := by have := hA.2.1; have := HL.out; omega
    clear hA
    by_cases q1 : b ≤ 2 * i + 2 ∧ b < n
    · obtain ⟨q1, q2⟩ := q1
      obtain ⟨x, hx⟩ : ∃ x, l[a]? = some x := ⟨_, List.getElem?_eq_getElem (by rw [HL.out]; exact an)⟩
      obtain ⟨y, hy⟩ : ∃ y, l[b]? = some y := ⟨_, List.getElem?_eq_getElem (by rw [HL.out]; exact q2)⟩
      obtain ⟨x1, x2⟩ := x
      obtain ⟨y1, y2⟩ := y
      have cx1 := HIr.out.row.cell (cel1R hx)
      have cx2 := HIr.out.row.cell (cel2R hx)
      have cy1 := HIr.out.row.cell (cel1R hy)
      have cy2 := HIr.out.row.cell (cel2R hy)
      have g1 : decide ((b : Int) ≤ 2 * (i : Int) + 2) = true := by simp; omega
      have g2 : decide ((b : Int) < (n : Int)) = true := by simp; omega
      have hc := fun W => near_any y1 y2 x1 x2 W
      cases hf : Om.near (y1, y2) (x1, x2) with
      | true =>
        rw [hf] at hc
        have HF := Lib.hid (HA.out.yes near_hord (by unfold Hm.Kid; omega) hx hy hf)
        clear hx hy hf
        go_wp2
        go_still_tail 18, (by kernel_rfl)
        change wpList _ _ _ _ _ wr.drew
        obtain ⟨W, hW⟩ : ∃ W, W = wr.drew := ⟨_, rfl⟩
        rw [← hW]
        have HbW : Hid (Below w.heap.size w W) := by rw [hW]; exact Hb.out.drew
        clear hW cx1 cx2 cy1 cy2 cl cf
        go_wp2_with fail
        refine (hc _).mono ?_
        rintro _ w5 ⟨rfl, hb5⟩
        have HbX := Lib.hid (HbW.out.trans (hb5.mono HbW.out.size))
        clear g1 g2 hb5
        go_wp2
        go_roundw
        case rel => exact ⟨b, b + 1, rfl, congrArg (Value.int .i64) (by omega), by omega, by omega, HF.out, HbX.out⟩
        case measure => simp [intOf]; omega
      | false =>
        rw [hf] at hc
        have HF := Lib.hid (HA.out.no hx hy hf)
        clear hx hy hf
        go_wp2
        go_still_tail 18, (by kernel_rfl)
        change wpList _ _ _ _ _ wr.drew
        obtain ⟨W, hW⟩ : ∃ W, W = wr.drew := ⟨_, rfl⟩
        rw [← hW]
        have HbW : Hid (Below w.heap.size w W) := by rw [hW]; exact Hb.out.drew
        clear hW cx1 cx2 cy1 cy2 cl cf
        go_wp2_with fail
        refine (hc _).mono ?_
        rintro _ w5 ⟨rfl, hb5⟩
        have HbX := Lib.hid (HbW.out.trans (hb5.mono HbW.out.size))
        clear g1 g2 hb5
        go_wp2
        go_roundw
        case rel => exact ⟨a, b + 1, rfl, congrArg (Value.int .i64) (by omega), by omega, by omega, HF.out, HbX.out⟩
        case measure => simp [intOf]; omega
    · have HD := Lib.hid (HA.out.done (by have := HL.out; omega))
      by_cases q2 : b ≤ 2 * i + 2
      · have g1 : decide ((b : Int) ≤ 2 * (i : Int) + 2) = true := by simp; omega
        have g2 : decide ((b : Int) < (n : Int)) = false := by simp; omega
        have g3 : decide (b < n) = false := by simp; omega
        clear q1 q2
        go_wp2
        go_ret
        exact ⟨a, rfl, HD.out, Hb.out⟩
      · have g1 : decide ((b : Int) ≤ 2 * (i : Int) + 2) = false := by simp; omega
        clear q1 q2
        go_wp2
        go_ret
        exact ⟨a, rfl, HD.out, Hb.out⟩

/-- sink: what is at i comes to its place -/
theorem sinkR (B g n c j i : Nat) (l : List Om.E) (w : World) (h : InR w B g n c l) (hs : Hm.Sk Om.near j i l) (hj : j ≤ i) (hi : i < n) (hn : n ≤ 1000000) :
    Calls Try.prog 34 #[.pointer (some ⟨B, 0, none⟩), .int .i64 i] w fun e w' => e = .returned (.tuple #[]) ∧ ∃ l', InR w' B g n c l' ∧ Hm.Hp Om.near j l' ∧ l'.Perm l ∧ But g w w' := by
  have HI := Lib.hid h
  have HS := Lib.hid hs
  clear h hs
  go_enter Try.func34, Try.ntmps34
  go_wp2
  go_loopw [1] (fun I wr => ∃ (p : Nat) (m : List Om.E), I = .int .i64 (p : Int) ∧ j ≤ p ∧ p < n ∧ InR wr B g n c m ∧ Hm.Sk Om.near j p m ∧ m.Perm l ∧ But g w wr) (fun I _ => n - (intOf I).toNat)
  case atStart => exact ⟨i, l, rfl, hj, hi, HI.out, HS.out, List.Perm.refl _, But.refl _ _⟩
  case round =>
    obtain ⟨p, m, rfl, jp, pn, hI, hS, hP, hB⟩ := hrel
    have HI1 := Lib.hid hI
    have HS1 := Lib.hid hS
    have HP1 := Lib.hid hP
    have HB1 := Lib.hid hB
    clear hI hS hP hB
    go_wp2_with fail
    refine (firstAtR B g n c p m _ HI1.out pn hn).mono ?_
    rintro _ w0 ⟨a, rfl, hA, hb0⟩
    have HI2 := Lib.hid (HI1.out.below hb0)
    have HB2 := Lib.hid (HB1.out.below hb0)
    clear hb0
    have HA := Lib.hid hA
    have hL := InR.length HI1.out
    have an : a < n := by have := hA.2.1; omega
    have ha := hA.1
    clear hA
    by_cases q : a = p
    · subst q
      have HR := Lib.hid (HS1.out.done HA.out)
      clear ha hL
      go_wp2
      exact bodyPost_ret (results_none Try.results34 _ _ _) rfl ⟨rfl, _, HI2.out, HR.out, HP1.out, HB2.out⟩
    · have pa : p < a := by rcases ha with e | e | e <;> omega
      obtain ⟨x, hx⟩ : ∃ x, m[p]? = some x := ⟨_, List.getElem?_eq_getElem (by rw [hL]; exact pn)⟩
      obtain ⟨y, hy⟩ : ∃ y, m[a]? = some y := ⟨_, List.getElem?_eq_getElem (by rw [hL]; exact an)⟩
      obtain ⟨x1, x2⟩ := x
      obtain ⟨y1, y2⟩ := y
      have HS2 := Lib.hid (HS1.out.down HA.out q jp hx hy)
      have HP2 := Lib.hid ((Hm.sw_perm hx hy).trans HP1.out)
      have HX := Lib.hid hx
      have HY := Lib.hid hy
      have g1 : ((a : Int) == (p : Int)) = false := by simp; omega
      clear ha hL q hx hy
      go_wp2_with fail
      refine (swapR B g n c p a m x1 x2 y1 y2 _ HI2.out HX.out HY.out (by omega) hn).mono ?_
      rintro _ w1 ⟨rfl, hI3, hB3⟩
      have HI3 := Lib.hid hI3
      have HB3 := Lib.hid (HB2.out.trans hB3)
      clear hI3 hB3
      go_wp2
      go_roundw
      case rel => exact ⟨a, _, rfl, by omega, an, HI3.out, HS2.out, HP2.out, HB3.out⟩
      case measure => simp [intOf]; omega

theorem firstAtR_none (B g c : Nat) (w : World) (h : InR w B g 0 c []) :
    Calls Try.prog 45 #[.pointer (some ⟨B, 0, none⟩), .int .i64 0] w fun e w' => e = .returned (.int .i64 0) ∧ w' = w := by
  have cl := h.l
  clear h
  go_enter Try.func45, Try.ntmps45
  go_wp2
  go_loopw [5, 6] (fun A K wr => A = .int .i64 0 ∧ K = .int .i64 1 ∧ wr = w) (fun A K _ => 0)
  case atStart => exact ⟨rfl, rfl, rfl⟩
  case round =>
    obtain ⟨rfl, rfl, rfl⟩ := hrel
    go_wp2
    go_ret
    exact ⟨rfl, rfl⟩
theorem sinkR_none (B g c : Nat) (w : World) (h : InR w B g 0 c []) :
    Calls Try.prog 34 #[.pointer (some ⟨B, 0, none⟩), .int .i64 0] w fun e w' => e = .returned (.tuple #[]) ∧ w' = w := by
  have HI := Lib.hid h
  clear h
  go_enter Try.func34, Try.ntmps34
  go_wp2
  go_loopw [1] (fun I wr => I = .int .i64 0 ∧ wr = w) (fun I _ => 0)
  case atStart => exact ⟨rfl, rfl⟩
  case round =>
    obtain ⟨rfl, rfl⟩ := hrel
    go_wp2_with fail
    refine (firstAtR_none B g c _ HI.out).mono ?_
    rintro _ _ ⟨rfl, rfl⟩
    go_wp2
    exact bodyPost_ret (results_none Try.results34 _ _ _) rfl ⟨rfl, rfl⟩

end Go.Proofs.Ytefdohjcgolhjaa
