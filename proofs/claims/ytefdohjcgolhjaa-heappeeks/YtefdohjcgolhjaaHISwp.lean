/-
  Layer 7 (heap): a heap of integers: swap, firstAt, sink, rise.
-/
import Derived.Test.YtefdohjcgolhjaaHMem
import Derived.BigRegion
import Derived.StillTailTactics
namespace Go.Proofs.Ytefdohjcgolhjaa
open Go.RowKit

/-- the cells of a list of integers -/
def ci (l : List Int) : List Value := l.map (Value.int .i64)
theorem ci_at {l : List Int} {i : Nat} {x : Int} (h : l[i]? = some x) : (ci l)[i]? = some (.int .i64 x) := by simp [ci, h]
theorem ci_length (l : List Int) : (ci l).length = l.length := by simp [ci]
theorem ci_set (l : List Int) (i : Nat) (x : Int) : (ci l).set i (.int .i64 x) = ci (l.set i x) := by simp [ci, List.map_set]
theorem ci_take (l : List Int) (k : Nat) : (ci l).take k = ci (l.take k) := by simp [ci, List.map_take]
/-- by the number -/
def ilt (a b : Int) : Bool := decide (a < b)
theorem ilt_ord : Hm.Ord ilt := ⟨fun a b h => by simp [ilt] at *; omega, fun a b c h1 h2 => by simp [ilt] at *; omega⟩
/-- a heap of integers, as memory holds it -/
abbrev InI (w : World) (B g n c : Nat) (l : List Int) : Prop := In 68 (.func (.func 10) #[] #[]) 3 1 w B g n c (ci l)
theorem InI.length {w : World} {B g n c : Nat} {l : List Int} (h : InI w B g n c l) : l.length = n := by have := h.len; rw [ci_length] at this; omega
theorem InI.sw {w : World} {B g n c : Nat} {l : List Int} (h : InI w B g n c l) (i k : Nat) (x y : Int) :
    InI ((w.setCell ⟨g, i, none⟩ (.int .i64 y)).setCell ⟨g, k, none⟩ (.int .i64 x)) B g n c (Hm.sw l i k x y) := by
  have := (h.set i (.int .i64 y)).set k (.int .i64 x)
  rwa [ci_set, ci_set] at this

theorem less_int (a b : Int) (w : World) :
    Calls Try.prog 10 #[.int .i64 a, .int .i64 b] w fun e w' => e = .returned (.bool (ilt a b)) ∧ w' = w := by
  have e := Lib.hid (show decide (a < b) = ilt a b from rfl)
  go_enter Try.func10, Try.ntmps10
  go_wp2
  go_ret
  exact ⟨ret_bool e.out, rfl⟩

theorem swapI (B g n c i k : Nat) (l : List Int) (x y : Int) (w : World) (h : InI w B g n c l) (hx : l[i]? = some x) (hy : l[k]? = some y) (hik : i ≠ k) (hn : n ≤ 1000000) :
    Calls Try.prog 44 #[.pointer (some ⟨B, 0, none⟩), .int .i64 i, .int .i64 k] w fun e w' => e = .returned (.tuple #[]) ∧ InI w' B g n c (Hm.sw l i k x y) ∧ But g w w' := by
  have hL := InI.length h
  have hi : i < n := by have := (List.getElem?_eq_some_iff.1 hx).1; omega
  have hk : k < n := by have := (List.getElem?_eq_some_iff.1 hy).1; omega
  have cl := h.l
  have cx := h.row.cell (ci_at hx)
  have cy := h.row.cell (ci_at hy)
  have fx := h.row.frozen i
  have fy := h.row.frozen k
  have hki : k ≠ i := fun e => hik e.symm
  have HI := Lib.hid (InI.sw h i k x y)
  clear h hx hy hL
  go_enter Try.func44, Try.ntmps44
  go_wp2
  go_region
  all_goals
    have HB := Lib.hid ((((But.refl g w).setCell i (.int .i64 y)).setCell k (.int .i64 x)).drew)
    clear cl cx cy fx fy
    go_wp2
    exact bodyPost_end (results_none Try.results44 _ _ _) rfl ⟨rfl, HI.out.drew, HB.out⟩

theorem firstAtI (B g n c i : Nat) (l : List Int) (w : World) (h : InI w B g n c l) (hi : i < n) (hn : n ≤ 1000000) :
    Calls Try.prog 43 #[.pointer (some ⟨B, 0, none⟩), .int .i64 i] w fun e w' => ∃ a : Nat, e = .returned (.int .i64 a) ∧ Hm.At ilt l i a ∧ Below w.heap.size w w' := by
  have HI := Lib.hid h
  have HL := Lib.hid (InI.length h)
  clear h
  go_enter Try.func43, Try.ntmps43
  go_wp2
  go_loopw [5, 6] (fun A K wr => ∃ a b : Nat, A = .int .i64 (a : Int) ∧ K = .int .i64 (b : Int) ∧ 2 * i + 1 ≤ b ∧ b ≤ 2 * i + 3 ∧ Hm.AtB ilt l i b a ∧ Below w.heap.size w wr) (fun A K _ => 2 * i + 3 - (intOf K).toNat)
  case atStart => exact ⟨i, 2 * i + 1, rfl, congrArg (Value.int .i64) (by omega), by omega, by omega, Hm.AtB.start ilt_ord (by rw [HL.out]; exact hi), Below.refl _ _⟩
  case round =>
    obtain ⟨a, b, rfl, rfl, b1, b2, hA, hb⟩ := hrel
    have HA := Lib.hid hA
    have Hb := Lib.hid hb
    have HIr := Lib.hid (HI.out.below hb)
    have cl := HIr.out.l
    have cf := HIr.out.f
    clear hb
    have an : a < n := by have := hA.2.1; have := HL.out; omega
    clear hA
    by_cases q1 : b ≤ 2 * i + 2 ∧ b < n
    · obtain ⟨q1, q2⟩ := q1
      obtain ⟨x, hx⟩ : ∃ x, l[a]? = some x := ⟨_, List.getElem?_eq_getElem (by rw [HL.out]; exact an)⟩
      obtain ⟨y, hy⟩ : ∃ y, l[b]? = some y := ⟨_, List.getElem?_eq_getElem (by rw [HL.out]; exact q2)⟩
      have cx := HIr.out.row.cell (ci_at hx)
      have cy := HIr.out.row.cell (ci_at hy)
      have g1 : decide ((b : Int) ≤ 2 * (i : Int) + 2) = true := by simp; omega
      have g2 : decide ((b : Int) < (n : Int)) = true := by simp; omega
      have hc := fun W => less_int y x W
      cases hf : ilt y x with
      | true =>
        rw [hf] at hc
        have HF := Lib.hid (HA.out.yes ilt_ord (by unfold Hm.Kid; omega) hx hy hf)
        clear hx hy hf
        go_wp2
        go_still_tail 18, (by kernel_rfl)
        change wpList _ _ _ _ _ wr.drew
        obtain ⟨W, hW⟩ : ∃ W, W = wr.drew := ⟨_, rfl⟩
        rw [← hW]
        have HbW : Hid (Below w.heap.size w W) := by rw [hW]; exact Hb.out.drew
        clear hW cx cy cl cf
        go_wp2_with fail
        refine (hc _).mono ?_
        rintro _ _ ⟨rfl, rfl⟩
        clear g1 g2
        go_wp2
        go_roundw
        case rel => exact ⟨b, b + 1, rfl, congrArg (Value.int .i64) (by omega), by omega, by omega, HF.out, HbW.out⟩
        case measure => simp [intOf]; omega
      | false =>
        rw [hf] at hc
        have HF := Lib.hid (HA.out.no hx hy hf)
        clear hx hy hf
        go_wp2
        go_still_tail 18, (by kernel_rfl)
        change wpList _ _ _ _ _ wr.drew
        obtain ⟨W, hW⟩ : ∃ W, W = wr.drew := ⟨_, rfl⟩
        rw [← hW]
        have HbW : Hid (Below w.heap.size w W) := by rw [hW]; exact Hb.out.drew
        clear hW cx cy cl cf
        go_wp2_with fail
        refine (hc _).mono ?_
        rintro _ _ ⟨rfl, rfl⟩
        clear g1 g2
        go_wp2
        go_roundw
        case rel => exact ⟨a, b + 1, rfl, congrArg (Value.int .i64) (by omega), by omega, by omega, HF.out, HbW.out⟩
        case measure => simp [intOf]; omega
    · have HD := Lib.hid (HA.out.done (by have := HL.out; omega))
      by_cases q2 : b ≤ 2 * i + 2
      · have g1 : decide ((b : Int) ≤ 2 * (i : Int) + 2) = true := by simp; omega
        have g2 : decide ((b : Int) < (n : Int)) = false := by simp; omega
        have g3 : decide (b < n) = false := by simp; omega
        clear q1 q2
        go_wp2
        go_ret
        exact ⟨a, rfl, HD.out, Hb.out⟩
      · have g1 : decide ((b : Int) ≤ 2 * (i : Int) + 2) = false := by simp; omega
        clear q1 q2
        go_wp2
        go_ret
        exact ⟨a, rfl, HD.out, Hb.out⟩

/-- sink: what is at i comes to its place -/
theorem sinkI (B g n c j i : Nat) (l : List Int) (w : World) (h : InI w B g n c l) (hs : Hm.Sk ilt j i l) (hj : j ≤ i) (hi : i < n) (hn : n ≤ 1000000) :
    Calls Try.prog 30 #[.pointer (some ⟨B, 0, none⟩), .int .i64 i] w fun e w' => e = .returned (.tuple #[]) ∧ ∃ l', InI w' B g n c l' ∧ Hm.Hp ilt j l' ∧ l'.Perm l ∧ But g w w' := by
  have HI := Lib.hid h
  have HS := Lib.hid hs
  clear h hs
  go_enter Try.func30, Try.ntmps30
  go_wp2
  go_loopw [1] (fun I wr => ∃ (p : Nat) (m : List Int), I = .int .i64 (p : Int) ∧ j ≤ p ∧ p < n ∧ InI wr B g n c m ∧ Hm.Sk ilt j p m ∧ m.Perm l ∧ But g w wr) (fun I _ => n - (intOf I).toNat)
  case atStart => exact ⟨i, l, rfl, hj, hi, HI.out, HS.out, List.Perm.refl _, But.refl _ _⟩
  case round =>
    obtain ⟨p, m, rfl, jp, pn, hI, hS, hP, hB⟩ := hrel
    have HI1 := Lib.hid hI
    have HS1 := Lib.hid hS
    have HP1 := Lib.hid hP
    have HB1 := Lib.hid hB
    clear hI hS hP hB
    go_wp2_with fail
    refine (firstAtI B g n c p m _ HI1.out pn hn).mono ?_
    rintro _ w0 ⟨a, rfl, hA, hb0⟩
    have HI2 := Lib.hid (HI1.out.below hb0)
    have HB2 := Lib.hid (HB1.out.below hb0)
    clear hb0
    have HA := Lib.hid hA
    have hL := InI.length HI1.out
    have an : a < n := by have := hA.2.1; omega
    have ha := hA.1
    clear hA
    by_cases q : a = p
    · subst q
      have HR := Lib.hid (HS1.out.done HA.out)
      clear ha hL
      go_wp2
      exact bodyPost_ret (results_none Try.results30 _ _ _) rfl ⟨rfl, _, HI2.out, HR.out, HP1.out, HB2.out⟩
    · have pa : p < a := by rcases ha with e | e | e <;> omega
      obtain ⟨x, hx⟩ : ∃ x, m[p]? = some x := ⟨_, List.getElem?_eq_getElem (by rw [hL]; exact pn)⟩
      obtain ⟨y, hy⟩ : ∃ y, m[a]? = some y := ⟨_, List.getElem?_eq_getElem (by rw [hL]; exact an)⟩
      have HS2 := Lib.hid (HS1.out.down HA.out q jp hx hy)
      have HP2 := Lib.hid ((Hm.sw_perm hx hy).trans HP1.out)
      have HX := Lib.hid hx
      have HY := Lib.hid hy
      have g1 : ((a : Int) == (p : Int)) = false := by simp; omega
      clear ha hL q hx hy
      go_wp2_with fail
      refine (swapI B g n c p a m x y _ HI2.out HX.out HY.out (by omega) hn).mono ?_
      rintro _ w1 ⟨rfl, hI3, hB3⟩
      have HI3 := Lib.hid hI3
      have HB3 := Lib.hid (HB2.out.trans hB3)
      clear hI3 hB3
      go_wp2
      go_roundw
      case rel => exact ⟨a, _, rfl, by omega, an, HI3.out, HS2.out, HP2.out, HB3.out⟩
      case measure => simp [intOf]; omega

theorem firstAtI_none (B g c : Nat) (w : World) (h : InI w B g 0 c []) :
    Calls Try.prog 43 #[.pointer (some ⟨B, 0, none⟩), .int .i64 0] w fun e w' => e = .returned (.int .i64 0) ∧ w' = w := by
  have cl := h.l
  clear h
  go_enter Try.func43, Try.ntmps43
  go_wp2
  go_loopw [5, 6] (fun A K wr => A = .int .i64 0 ∧ K = .int .i64 1 ∧ wr = w) (fun A K _ => 0)
  case atStart => exact ⟨rfl, rfl, rfl⟩
  case round =>
    obtain ⟨rfl, rfl, rfl⟩ := hrel
    go_wp2
    go_ret
    exact ⟨rfl, rfl⟩
theorem sinkI_none (B g c : Nat) (w : World) (h : InI w B g 0 c []) :
    Calls Try.prog 30 #[.pointer (some ⟨B, 0, none⟩), .int .i64 0] w fun e w' => e = .returned (.tuple #[]) ∧ w' = w := by
  have HI := Lib.hid h
  clear h
  go_enter Try.func30, Try.ntmps30
  go_wp2
  go_loopw [1] (fun I wr => I = .int .i64 0 ∧ wr = w) (fun I _ => 0)
  case atStart => exact ⟨rfl, rfl⟩
  case round =>
    obtain ⟨rfl, rfl⟩ := hrel
    go_wp2_with fail
    refine (firstAtI_none B g c _ HI.out).mono ?_
    rintro _ _ ⟨rfl, rfl⟩
    go_wp2
    exact bodyPost_ret (results_none Try.results30 _ _ _) rfl ⟨rfl, rfl⟩

/-- rise: what is at i comes to its place -/
theorem riseI (B g n c i : Nat) (l : List Int) (w : World) (h : InI w B g n c l) (hs : Hm.Rs ilt i l) (hi : i < n) (hn : n ≤ 1000000) :
    Calls Try.prog 31 #[.pointer (some ⟨B, 0, none⟩), .int .i64 i] w fun e w' => e = .returned (.tuple #[]) ∧ ∃ l', InI w' B g n c l' ∧ Hm.Hp ilt 0 l' ∧ l'.Perm l ∧ But g w w' := by
  have HI := Lib.hid h
  have HS := Lib.hid hs
  clear h hs
  go_enter Try.func31, Try.ntmps31
  go_wp2
  go_loopw [1] (fun I wr => ∃ (p : Nat) (m : List Int), I = .int .i64 (p : Int) ∧ p < n ∧ InI wr B g n c m ∧ Hm.Rs ilt p m ∧ m.Perm l ∧ But g w wr) (fun I _ => (intOf I).toNat)
  case atStart => exact ⟨i, l, rfl, hi, HI.out, HS.out, List.Perm.refl _, But.refl _ _⟩
  case round =>
    obtain ⟨p, m, rfl, pn, hI, hS, hP, hB⟩ := hrel
    have HI1 := Lib.hid hI
    have HS1 := Lib.hid hS
    have HP1 := Lib.hid hP
    have HB1 := Lib.hid hB
    clear hI hS hP hB
    by_cases p0 : p = 0
    · subst p0
      go_wp2
      exact bodyPost_end (results_none Try.results31 _ _ _) rfl ⟨rfl, _, HI1.out, HS1.out.top, HP1.out, HB1.out⟩
    · have hL := InI.length HI1.out
      obtain ⟨a, ha⟩ : ∃ a, a = (p - 1) / 2 := ⟨_, rfl⟩
      have hk : Hm.Kid a p := by unfold Hm.Kid; omega
      have ap : a < p := by omega
      have an : a < n := by omega
      have e1 : ((p : Int) - 1).tdiv 2 = (a : Int) := by rw [Int.tdiv_eq_ediv_of_nonneg (by omega)]; omega
      obtain ⟨x, hx⟩ : ∃ x, m[p]? = some x := ⟨_, List.getElem?_eq_getElem (by rw [hL]; exact pn)⟩
      obtain ⟨y, hy⟩ : ∃ y, m[a]? = some y := ⟨_, List.getElem?_eq_getElem (by rw [hL]; omega)⟩
      have cl := HI1.out.l
      have cf := HI1.out.f
      have cx := HI1.out.row.cell (ci_at hx)
      have cy := HI1.out.row.cell (ci_at hy)
      have HX := Lib.hid hx
      have HY := Lib.hid hy
      have hp : 0 < p := by omega
      have HK := Lib.hid hk
      have hc := fun W => less_int x y W
      clear ha hk p0 hL
      cases hf : ilt x y with
      | true =>
        rw [hf] at hc
        have HF := Lib.hid (HS1.out.up ilt_ord HK.out hx hy hf)
        have HP2 := Lib.hid ((Hm.sw_perm hx hy).trans HP1.out)
        clear hx hy hf
        go_wp2
        go_still_tail 18, (by kernel_rfl)
        change wpList _ _ _ _ _ wr.drew
        obtain ⟨W, hW⟩ : ∃ W, W = wr.drew := ⟨_, rfl⟩
        rw [← hW]
        have HIW : Hid (InI W B g n c m) := by rw [hW]; exact HI1.out.drew
        have HBW : Hid (But g w W) := by rw [hW]; exact HB1.out.drew
        clear hW cx cy cl cf
        go_wp2_with fail
        refine (hc _).mono ?_
        rintro _ _ ⟨rfl, rfl⟩
        go_wp2_with fail
        refine (swapI B g n c p a m x y _ HIW.out HX.out HY.out (by omega) hn).mono ?_
        rintro _ w1 ⟨rfl, hI3, hB3⟩
        have HI3 := Lib.hid hI3
        have HB3 := Lib.hid (HBW.out.trans hB3)
        clear hI3 hB3
        go_wp2
        go_roundw
        case rel => exact ⟨a, _, rfl, an, HI3.out, HF.out, HP2.out, HB3.out⟩
        case measure => simp [intOf]; omega
      | false =>
        rw [hf] at hc
        have HF := Lib.hid (HS1.out.done HK.out hx hy hf)
        clear hx hy hf
        go_wp2
        go_still_tail 18, (by kernel_rfl)
        change wpList _ _ _ _ _ wr.drew
        obtain ⟨W, hW⟩ : ∃ W, W = wr.drew := ⟨_, rfl⟩
        rw [← hW]
        have HIW : Hid (InI W B g n c m) := by rw [hW]; exact HI1.out.drew
        have HBW : Hid (But g w W) := by rw [hW]; exact HB1.out.drew
        clear hW cx cy cl cf
        go_wp2_with fail
        refine (hc _).mono ?_
        rintro _ _ ⟨rfl, rfl⟩
        go_wp2
        exact bodyPost_ret (results_none Try.results31 _ _ _) rfl ⟨rfl, _, HIW.out, HF.out, HP1.out, HBW.out⟩
end Go.Proofs.Ytefdohjcgolhjaa
