/-
  Layer 3 (vec): the calls that only read, by their contracts: shared, apart, Check, Dot, Far, Same of the program; Check, Dot, Far, Same of the document's own answer; 'few' and the document's examples.
  Layer 3 (vec): the calls that make memory, by their contracts: Clone and Less of the program, Less of the document's own answer; the document's examples hold ('awake' answers true).
  Layer 3 (vec): the calls' contracts once more, as links of a chain: what was there when the law began is still there behind each of them.
  Layer 11 (plane): Margin, Side, Same, Check, Between and Flat, of the program and of the document's own answer, by contracts.
  Layer 11 (plane): Between and Flat, of the program and of the document's own answer, by contracts.
  Layer 11 (plane): the document's flat plane, and the document's example, by contracts.
  Layer 11 (plane): the contracts once more, as links of a chain: what was there when the law began is still there behind each of them.
-/
import Derived.Test.YtecdgpacofojeaaGRet
import Derived.Test.YtecdgpacofojeaaRows
import Derived.Test.YtecdgpacofojeaaVMath
import Derived.Test.YtecdgpacofojeaaFLst
import Derived.WalkKit
import Derived.WalkSpells
import Derived.WalkLawsBesides
import Derived.Outline
import Derived.Below
import Derived.Lib.Hide
import Derived.BigQuiet
import Derived.Deep.QuietTactic
import Derived.Laws.CopyOwn
import Derived.Deep.RegionWith
import Derived.Deep.RegionLaw
import Derived.Deep.AppendLies
import Derived.OpenShut
import Derived.Test.YtecdgpacofojeaaPMath
import Derived.StillTailTactics
import Derived.Deep.RegionHeld3
import Derived.Laws.Rows
namespace Go.Proofs.Ytecdgpacofojeaa
open Go.RowKit


theorem quietly {P : Program} {f : FuncId} {args : Array Value} {w : World} {n : Nat} {v : Value}
    (h : Calls P f args (w.drewN n) fun e w' => e = .returned v ∧ w.drewN n = w') : Calls P f args (w.drewN n) fun e w'' => e = .returned v ∧ ∃ m, w'' = w.drewN m :=
  h.mono fun _ _ ⟨he, hm⟩ => ⟨he, n, hm.symm⟩
theorem quietly2 {P : Program} {f : FuncId} {args : Array Value} {w : World} {n : Nat} {v : Value}
    (h : Calls P f args (w.drewN n) fun e w' => e = .returned v ∧ ∃ m, w' = (w.drewN n).drewN m) : Calls P f args (w.drewN n) fun e w'' => e = .returned v ∧ ∃ m, w'' = w.drewN m :=
  h.mono fun _ _ ⟨he, m, hm⟩ => ⟨he, n + m, by rw [hm, World.drewN_drewN]⟩
theorem run_min2 (x y : Int) (ts : Array TypeId) (t : TypeId) (W : World) :
    (Builtin.min_ ts t #[.int .i64 x, .int .i64 y]).run Try.prog W = .ok (.int .i64 (min x y)) W := by
  have h : ∀ a b : Int, (if b < a then b else a) = min a b := fun a b => by split <;> omega
  simp [Builtin.min_, Builtin.min2, h]
theorem shared_any (A B : Option Addr) (n m c d : Nat) (w : World) :
    Calls Try.prog 60 #[.slice A n c, .slice B m d] w fun e w' => e = .returned (.int .i64 (min n m : Nat)) ∧ w = w' := by
  have h : ∀ W ts t, (Builtin.min_ ts t #[.int .i64 (n : Int), .int .i64 (m : Int)]).run Try.prog W = .ok (.int .i64 ((min n m : Nat) : Int)) W := fun W ts t => by
    rw [run_min2, show min (n : Int) (m : Int) = ((min n m : Nat) : Int) from by omega]
  go_enter Try.func60, Try.ntmps60
  go_wp2
  go_ret
  exact ⟨rfl, rfl⟩
/-- a slice of int32 that reads as the list l -/
def Vec (w : World) (A : Option Addr) (n : Nat) (l : List Int) : Prop := Lst w w.heap.size A n (l.map (Value.int .i32)) ∧ ∀ x ∈ l, -2147483648 ≤ x ∧ x ≤ 2147483647
theorem Vec.length {w : World} {A : Option Addr} {n : Nat} {l : List Int} (h : Vec w A n l) : l.length = n := by have := h.1.1; simpa using this
theorem Vec.below {w w' : World} {A : Option Addr} {n : Nat} {l : List Int} (h : Vec w A n l) (hb : Below w.heap.size w w') : Vec w' A n l := ⟨(h.1.below hb).more hb.size, h.2⟩
theorem Vec.at_ {w : World} {A : Option Addr} {n k : Nat} {l : List Int} (h : Vec w A n l) (hk : k < n) (hkl : k < l.length) :
    ∃ b off, A = some ⟨b, off, none⟩ ∧ b < w.heap.size ∧ w.cell? ⟨b, off + k, none⟩ = some (.int .i32 l[k]) ∧ -2147483648 ≤ l[k] ∧ l[k] ≤ 2147483647 := by
  obtain ⟨b, off, e, hb, hc⟩ := h.1.at_ hk
  rw [List.getElem?_map, List.getElem?_eq_getElem hkl] at hc
  exact ⟨b, off, e, hb, hc, h.2 _ (List.getElem_mem _)⟩
theorem Vec.drew {w : World} {A : Option Addr} {n : Nat} {l : List Int} (h : Vec w A n l) (d : Nat) : Vec (w.drewN d) A n l := by
  refine ⟨?_, h.2⟩
  have e : (w.drewN d).heap = w.heap := by simp
  rw [e]
  exact h.1.keep fun p _ => by simp
theorem vbelow_drewN {B : Nat} {w w' : World} (h : Below B w w') (d : Nat) : Below B w (w'.drewN d) := by
  induction d with
  | zero => exact h
  | succ d ih => exact ih.drew

theorem refCheck_any (A : Option Addr) (n c : Nat) (l : List Int) (dim : Int) (w : World) (h : Vec w A n l) (hn : n ≤ maxLen) :
    Calls Try.prog 33 #[.slice A n c, .int .i64 dim] w fun e w' => e = .returned (.int .i64 (Vm.chk l dim)) ∧ w = w' := by
  unfold maxLen at hn
  have HL := Lib.hid h.length
  by_cases g : dim < 1 ∨ 1024 < dim
  · have e := Lib.hid (Vm.chk_range (l := l) g)
    rcases (show dim < 1 ∨ (1 ≤ dim ∧ 1024 < dim) from by omega) with g' | ⟨g', g''⟩
    all_goals
      clear g h
      go_enter Try.func33, Try.ntmps33
      go_wp2
      go_ret
      exact ⟨ret_int e.out.symm, rfl⟩
  have d0 : 1 ≤ dim := by omega
  have d1 : dim ≤ 1024 := by omega
  by_cases g2 : (n : Int) = dim
  · subst g2
    have H := Lib.hid h
    clear h g
    have G := Lib.hid (show ¬ ((n : Int) < 1 ∨ 1024 < (n : Int)) from by omega)
    go_enter Try.func33, Try.ntmps33
    go_wp2
    go_loop [5] (fun i => ∃ k : Nat, k ≤ n ∧ i = .int .i64 k ∧ ∀ x ∈ l.take k, Vm.good x) (fun i => n - (intOf i).toNat)
    case atStart => exact ⟨0, Nat.zero_le _, rfl, by simp⟩
    case round =>
      obtain ⟨k, hk, rfl, hgood⟩ := hrel
      have HG := Lib.hid hgood
      clear hgood
      by_cases hlt : k < n
      · have hkl : k < l.length := by rw [HL.out]; exact hlt
        obtain ⟨b, off, rfl, hb, hc, x0, x1⟩ := H.out.at_ hlt hkl
        have HM := Lib.hid (List.getElem_mem hkl)
        have HT := Lib.hid (List.take_succ_eq_append_getElem hkl)
        obtain ⟨x, hx⟩ : ∃ x, x = l[k] := ⟨_, rfl⟩
        rw [← hx] at hc HM HT x0 x1
        clear hx
        by_cases q : x < -1048576
        · have e := Lib.hid (Vm.chk_bad (l := l) G.out (by rw [HL.out]) (fun hall => by have := hall x HM.out; unfold Vm.good at this; omega))
          go_wp2
          go_ret
          exact ⟨ret_int e.out.symm, rfl⟩
        · by_cases q2 : 1048576 < x
          · have e := Lib.hid (Vm.chk_bad (l := l) G.out (by rw [HL.out]) (fun hall => by have := hall x HM.out; unfold Vm.good at this; omega))
            go_wp2
            go_ret
            exact ⟨ret_int e.out.symm, rfl⟩
          · go_wp2
            go_round
            case rel => exact ⟨k + 1, by omega, by go_num, by rw [HT.out]; intro y hy; rcases List.mem_append.1 hy with hy | hy; exact HG.out y hy; rw [List.mem_singleton.1 hy]; unfold Vm.good; omega⟩
            case measure => simp [intOf]; omega
      · have e := Lib.hid (Vm.chk_good (l := l) (dim := (n : Int)) G.out (by rw [HL.out]) (fun x hx => HG.out x (by rw [List.take_of_length_le (by rw [HL.out]; omega)]; exact hx)))
        go_wp2
        go_ret
        exact ⟨ret_int e.out.symm, rfl⟩
  · have e := Lib.hid (Vm.chk_dim (l := l) g (by rw [HL.out]; exact g2))
    have g3 : ((n : Int) != dim) = true := by simpa using g2
    clear g g2 h
    go_enter Try.func33, Try.ntmps33
    go_wp2
    go_ret
    exact ⟨ret_int e.out.symm, rfl⟩
theorem refDot_q (A B : Option Addr) (n m c d : Nat) (l r : List Int) (w : World) (h : Vec w A n l) (h' : Vec w B m r) (hn : n ≤ 10000) (_hm : m ≤ 10000) :
    Calls Try.prog 58 #[.slice A n c, .slice B m d] w fun e w' => e = .returned (.int .i64 (Vm.dot l r)) ∧ ∃ d, w' = w.drewN d := by
  have HL := Lib.hid h.length
  have HR := Lib.hid h'.length
  have H := Lib.hid h
  have H' := Lib.hid h'
  clear h h'
  obtain ⟨N, hN⟩ : ∃ N, N = min n m := ⟨_, rfl⟩
  have n0 : N ≤ n := by omega
  have n1 : N ≤ m := by omega
  have HB : Hid (N = Vm.both l r) := by show N = Vm.both l r; unfold Vm.both; rw [HL.out, HR.out, hN]
  have HN := Lib.hid hN
  clear hN
  go_enter Try.func58, Try.ntmps58
  go_wp2
  go_loopw [5, 6] (fun s i wr => ∃ k : Nat, k ≤ N ∧ i = .int .i64 k ∧ s = .int .i64 (Vm.dot (l.take k) (r.take k)) ∧ ∃ d, wr = w.drewN d) (fun _ i _ => N - (intOf i).toNat)
  case atStart => exact ⟨0, Nat.zero_le _, rfl, by rw [Vm.dot_none], 0, rfl⟩
  case round =>
    obtain ⟨k, hk, rfl, rfl, hd⟩ := hrel
    have HD := Lib.hid hd
    by_cases hlt : k < N
    · have hkl : k < l.length := by rw [HL.out]; omega
      have hkr : k < r.length := by rw [HR.out]; omega
      obtain ⟨b, off, rfl, hb, hc, x0, x1⟩ := H.out.at_ (k := k) (by omega) hkl
      obtain ⟨b', off', rfl, hb', hc', y0, y1⟩ := H'.out.at_ (k := k) (by omega) hkr
      have hc2 : wr.cell? ⟨b, off + k, none⟩ = some (.int .i32 l[k]) := by obtain ⟨d, rfl⟩ := hd; exact hc
      have hc3 : wr.cell? ⟨b', off' + k, none⟩ = some (.int .i32 r[k]) := by obtain ⟨d, rfl⟩ := hd; exact hc'
      have HS := Lib.hid (Vm.dot_snoc k l r hkl hkr)
      have s0 := Vm.dot_lo (l.take k) (r.take k)
      have s1 := Vm.dot_hi (l.take k) (r.take k)
      obtain ⟨x, hx⟩ : ∃ x, x = l[k] := ⟨_, rfl⟩
      obtain ⟨y, hy⟩ : ∃ y, y = r[k] := ⟨_, rfl⟩
      obtain ⟨s, hs⟩ : ∃ s, s = Vm.dot (l.take k) (r.take k) := ⟨_, rfl⟩
      rw [← hx] at hc2 x0 x1 HS
      rw [← hy] at hc3 y0 y1 HS
      rw [← hs] at s0 s1 HS
      rw [← hs]
      obtain ⟨p0, p1⟩ := Vm.mul_bound (a := 2147483648) (x := x) (y := y) (by omega) (by omega) (by omega) (by omega)
      clear hx hy hs hc hc' hd
      go_wp2
      go_quiet (fail)
      go_wp2
      go_roundw
      case rel => exact ⟨k + 1, by omega, by go_num, by rw [HS.out], by obtain ⟨d, hd⟩ := HD.out; exact ⟨d + nq, by rw [hd, World.drewN_drewN]⟩⟩
      case measure => simp [intOf]; omega
    · have e : Hid (Vm.dot (l.take k) (r.take k) = Vm.dot l r) := by
        show Vm.dot (l.take k) (r.take k) = Vm.dot l r
        rw [show k = Vm.both l r from by rw [← HB.out]; omega, Vm.dot_both]
      have hb := Lib.hid hd
      clear hd
      rcases (show (k < n ∧ ¬ k < m) ∨ ¬ k < n from by have := HN.out; omega) with ⟨q, q2⟩ | q
      all_goals
        go_wp2
        go_ret
        exact ⟨ret_int e.out, hb.out⟩
theorem refDot_any (A B : Option Addr) (n m c d : Nat) (l r : List Int) (w : World) (h : Vec w A n l) (h' : Vec w B m r) (hn : n ≤ 10000) (hm : m ≤ 10000) :
    Calls Try.prog 58 #[.slice A n c, .slice B m d] w fun e w' => e = .returned (.int .i64 (Vm.dot l r)) ∧ Below w.heap.size w w' :=
  (refDot_q A B n m c d l r w h h' hn hm).mono fun _ _ ⟨h1, d, h2⟩ => ⟨h1, by rw [h2]; exact vbelow_drewN (Below.refl _ _) d⟩
theorem same_q (A B : Option Addr) (n m c d : Nat) (l r : List Int) (w : World) (h : Vec w A n l) (h' : Vec w B m r) (hn : n ≤ 1000000) (hm : m ≤ 1000000) :
    Calls Try.prog 55 #[.slice A n c, .slice B m d] w fun e w' => e = .returned (.bool (decide (l = r))) ∧ ∃ d, w' = w.drewN d := by
  have HL := Lib.hid h.length
  have HR := Lib.hid h'.length
  by_cases g : n = m
  · subst g
    have H := Lib.hid h
    have H' := Lib.hid h'
    clear h h' hm
    go_enter Try.func55, Try.ntmps55
    go_wp2_with fail
    refine (shared_any A B n n c d _).mono ?_
    rintro e w1 ⟨rfl, rfl⟩
    rw [Nat.min_self]
    go_wp2
    go_loopw [14] (fun i wr => ∃ k : Nat, k ≤ n ∧ i = .int .i64 k ∧ l.take k = r.take k ∧ ∃ d, wr = w.drewN d) (fun i _ => n - (intOf i).toNat)
    case atStart => exact ⟨0, Nat.zero_le _, rfl, by simp, 0, rfl⟩
    case round =>
      obtain ⟨k, hk, rfl, ht, hd⟩ := hrel
      have HD := Lib.hid hd
      have HT := Lib.hid ht
      clear ht
      by_cases hlt : k < n
      · have hkl : k < l.length := by rw [HL.out]; omega
        have hkr : k < r.length := by rw [HR.out]; omega
        obtain ⟨b, off, rfl, hb, hc, x0, x1⟩ := H.out.at_ (k := k) (by omega) hkl
        obtain ⟨b', off', rfl, hb', hc', y0, y1⟩ := H'.out.at_ (k := k) (by omega) hkr
        have hc2 : wr.cell? ⟨b, off + k, none⟩ = some (.int .i32 l[k]) := by obtain ⟨d, rfl⟩ := hd; exact hc
        have hc3 : wr.cell? ⟨b', off' + k, none⟩ = some (.int .i32 r[k]) := by obtain ⟨d, rfl⟩ := hd; exact hc'
        have HS := Lib.hid (List.take_succ_eq_append_getElem hkl)
        have HS' := Lib.hid (List.take_succ_eq_append_getElem hkr)
        have HE := Lib.hid (show l = r → l[k] = r[k] from fun e => by subst e; rfl)
        obtain ⟨x, hx⟩ : ∃ x, x = l[k] := ⟨_, rfl⟩
        obtain ⟨y, hy⟩ : ∃ y, y = r[k] := ⟨_, rfl⟩
        rw [← hx] at hc2 x0 x1 HS HE
        rw [← hy] at hc3 y0 y1 HS' HE
        clear hx hy hc hc' hd
        by_cases q : x = y
        · subst q
          go_wp2
          go_quiet (fail)
          go_wp2
          go_roundw
          case rel => exact ⟨k + 1, by omega, by go_num, by rw [HS.out, HS'.out, HT.out], by obtain ⟨d, hd⟩ := HD.out; exact ⟨d + nq, by rw [hd, World.drewN_drewN]⟩⟩
          case measure => simp [intOf]; omega
        · have e := Lib.hid (show false = decide (l = r) from by simp; exact fun e => q (HE.out e))
          have q' : (x != y) = true := by simpa using q
          clear q
          go_wp2
          go_quiet (fail)
          go_wp2
          go_ret
          exact ⟨ret_bool e.out, by obtain ⟨d, hd⟩ := HD.out; exact ⟨d + nq, by rw [hd, World.drewN_drewN]⟩⟩
      · have e := Lib.hid (show true = decide (l = r) from by
          have h := HT.out
          rw [List.take_of_length_le (by rw [HL.out]; omega), List.take_of_length_le (by rw [HR.out]; omega)] at h
          simp [h])
        clear hd
        go_wp2
        go_ret
        exact ⟨ret_bool e.out, HD.out⟩
  · have e := Lib.hid (show false = decide (l = r) from by simp; exact fun e => g (by rw [← HL.out, ← HR.out, e]))
    have g3 : ((n : Int) != (m : Int)) = true := by simp; omega
    clear g h h'
    go_enter Try.func55, Try.ntmps55
    go_wp2
    go_ret
    exact ⟨ret_bool e.out, 0, rfl⟩
theorem same_any (A B : Option Addr) (n m c d : Nat) (l r : List Int) (w : World) (h : Vec w A n l) (h' : Vec w B m r) (hn : n ≤ 1000000) (hm : m ≤ 1000000) :
    Calls Try.prog 55 #[.slice A n c, .slice B m d] w fun e w' => e = .returned (.bool (decide (l = r))) ∧ Below w.heap.size w w' :=
  (same_q A B n m c d l r w h h' hn hm).mono fun _ _ ⟨h1, d, h2⟩ => ⟨h1, by rw [h2]; exact vbelow_drewN (Below.refl _ _) d⟩
end Go.Proofs.Ytecdgpacofojeaa
namespace Go.Proofs.Ytecdgpacofojeaa
open Go.RowKit

theorem Try.infoI32 : (Try.prog.info? 21).map (fun i => (i.zero, i.size, i.bytes)) = some (some (.int .i32 0), 1, 4) := by kernel_rfl
theorem Try.sizeI32 : (Try.prog.info? 21).map (·.size) = some 1 := by kernel_rfl

/-- a block of the list's numbers alone -/
def Blk (w : World) (g : Nat) (l : List Int) : Prop := w.heap[g]? = some (.cells (l.map (Value.int .i32)).toArray 21 (0, 0))
theorem Blk.vec {w : World} {g n : Nat} {l : List Int} (h : Blk w g l) (hn : l.length = n) (hl : ∀ x ∈ l, -2147483648 ≤ x ∧ x ≤ 2147483647) : Vec w (some ⟨g, 0, none⟩) n l := by
  refine ⟨⟨by simpa using hn, fun _ => ⟨g, 0, rfl, lt_of_block h, fun j u hu => ?_⟩⟩, hl⟩
  rw [Nat.zero_add, cell_of_row _ _ _ _ _ _ h]
  simpa using hu
theorem Blk.below {w w' : World} {g : Nat} {l : List Int} (h : Blk w g l) (hb : Below w.heap.size w w') : Blk w' g l := by
  unfold Blk; rw [hb.block g (lt_of_block h)]; exact h

/-- what make answers -/
theorem made_i32 (n : Nat) (hn : n ≤ 100000) : ∃ M : Array Value, M.size = n ∧ (∀ j, j < n → M[j]? = some (.int .i32 0)) ∧
    ∀ W : World, (Instr.makeSlice 64 (.int .i64 (n : Int)) (.int .i64 (n : Int))).run Try.prog W = .ok (.slice (some ⟨W.heap.size, 0, none⟩) n n) (W.alloc (.cells M 21)) := by
  obtain ⟨i0, hi, hz0, hz1, hz2⟩ := info_parts Try.infoI32
  obtain ⟨M, hM⟩ : ∃ M, M = madeCells (Value.int .i32 0).cells ((n : Int).toNat * i0.size) := ⟨_, rfl⟩
  refine ⟨M, by rw [hM, size_madeCells, hz1]; simp, ?_, fun W => ?_⟩
  · intro j hj
    rw [hM, hz1, ← Array.getElem?_toList, show (Value.int .i32 0).cells = #[Value.int .i32 0] from rfl, toList_madeCells_one]
    simp [hj]
  · have h := run_make (P := Try.prog) W 64 21 i0 (.int .i32 0) Try.underlying64 hi hz0 .i64 .i64 (n : Int) (n : Int) (by omega) (by omega) (by rw [hz2]; omega) (by omega)
    rw [← hM] at h
    simpa using h

theorem copy_i32 (A : Option Addr) (n c : Nat) (l : List Int) (w : World) (M : Array Value) (h : Vec w A n l) (hM : M.size = n) :
    ∃ w2, (Builtin.copy_ #[64, 64] 3 #[.slice (some ⟨w.heap.size, 0, none⟩) n n, .slice A n c]).run Try.prog (w.alloc (.cells M 21)) = .ok (.int .i64 (n : Int)) w2 ∧
      Blk w2 w.heap.size l ∧ Below w.heap.size w w2 := by
  have hl := h.length
  have hnew := heap_alloc_new w (.cells M 21)
  have hb1 : Below w.heap.size w (w.alloc (.cells M 21)) := (Below.refl _ w).alloc (Nat.le_refl _) _
  by_cases h0 : n = 0
  · subst h0
    obtain rfl : l = [] := List.length_eq_zero_iff.1 hl
    obtain rfl : M = #[] := Array.size_eq_zero_iff.1 hM
    exact ⟨_, run_copy_none (P := Try.prog) _ 64 64 3 21 _ _ 0 0 0 c Try.underlying64 Try.sizeI32 rfl, hnew, hb1⟩
  · obtain ⟨b, off, hA, hb, hc⟩ := h.1.2 (by omega)
    subst hA
    have hr := run_copy_row (P := Try.prog) (w.alloc (.cells M 21)) 64 64 3 21 w.heap.size 0 n n ⟨b, off, none⟩ n c M 21 (l.map (Value.int .i32)) Try.underlying64 Try.sizeI32 hnew (by simpa using hl)
      (fun j v hv => by rw [Addr.add_lit]; exact (hb1.cell (p := ⟨b, off + j, none⟩) hb).trans (hc j v hv)) (by simp; omega) (ints_one .i32 l)
    refine ⟨_, by rw [hr, List.length_map, hl]; rfl, ?_, below_setRow hb1 (Nat.le_refl _) _⟩
    have := setRow_heap (w.alloc (.cells M 21)) w.heap.size M (M.toList.take 0 ++ l.map (Value.int .i32) ++ M.toList.drop (0 + n)).toArray 21 (0, 0) hnew
    unfold Blk
    rw [this]
    simp
    omega


/-- a row that is filled up to a place -/
def RowK (g n : Nat) (L : List Int) (k : Nat) (w wr : World) : Prop :=
  (∃ C : Array Value, wr.heap[g]? = some (.cells C 21 (0, 0)) ∧ C.size = n ∧ ∀ j, j < k → C[j]? = (L.map (Value.int .i32))[j]?) ∧ Below w.heap.size w wr
theorem rowK_cell {g n k : Nat} {L : List Int} {w wr : World} (h : RowK g n L k w wr) (hk : k < n) : ∃ v, wr.cell? ⟨g, k, none⟩ = some v ∧ wr.frozen? ⟨g, k, none⟩ = false := by
  obtain ⟨⟨C, h1, h2, h3⟩, hb⟩ := h
  exact ⟨C[k]'(by omega), by rw [cell_of_row _ _ _ _ _ _ h1, Array.getElem?_eq_getElem], frozen_of_row _ _ _ _ _ h1⟩
theorem rowK_step {g n k : Nat} {L : List Int} {w wr : World} (h : RowK g n L k w wr) (hk : k < n) (hg : w.heap.size ≤ g) (x : Int) (hx : L[k]? = some x) :
    RowK g n L (k + 1) w (wr.setCell ⟨g, k, none⟩ (.int .i32 x)).drew := by
  obtain ⟨⟨C, h1, h2, h3⟩, hb⟩ := h
  refine ⟨⟨C.setIfInBounds k (.int .i32 x), heap_setCell_same _ _ _ _ _ _ h1, by simpa using h2, fun j hj => ?_⟩, (hb.setCell hg _).drew⟩
  · rw [Array.getElem?_setIfInBounds]
    by_cases e : k = j
    · subst e; rw [if_pos rfl, if_pos (by omega), List.getElem?_map, hx]; rfl
    · rw [if_neg e]; exact h3 j (by omega)
theorem rowK_blk {g n : Nat} {L : List Int} {w wr : World} (h : RowK g n L n w wr) (hL : L.length = n) : Blk wr g L := by
  obtain ⟨⟨C, h1, h2, h3⟩, hb⟩ := h
  unfold Blk
  rw [h1]
  congr 2
  refine Array.ext' (List.ext_getElem? fun j => ?_)
  rw [List.toList_toArray]
  rcases Nat.lt_or_ge j n with hj | hj
  · rw [Array.getElem?_toList]; exact h3 j hj
  · rw [List.getElem?_eq_none (by simpa using by omega), List.getElem?_eq_none (by simp; omega)]

theorem vownBlock_ge {w : World} {B0 : Nat} {e : TypeId} {v : Value} {n : Nat} {xs : List Value} (hown : w.ownsRow B0 e 1 v n xs) : ∀ k, v.ownBlock = some k → B0 ≤ k := by
  rcases hown.2 with ⟨rfl, _⟩ | ⟨g, cap, cur, rfl, hg, _⟩
  · simp [Value.ownBlock]
  · intro k hk
    have e : g = k := by simpa [Value.ownBlock] using hk
    omega
theorem vown_heap {w w' : World} {base : Nat} {e : TypeId} {v : Value} {n : Nat} {xs : List Value} (h : w.ownsRow base e 1 v n xs) (hh : w'.heap = w.heap) : w'.ownsRow base e 1 v n xs := by
  unfold World.ownsRow at *
  rw [hh]
  exact h
theorem vcell_heap {w w' : World} (hh : w'.heap = w.heap) (p : Addr) : w'.cell? p = w.cell? p := by
  unfold World.cell?
  rw [hh]
theorem vown_form {w : World} {base : Nat} {e : TypeId} {v : Value} {n : Nat} {xs : List Value} (h : w.ownsRow base e 1 v n xs) : ∃ A c, v = .slice A n c := by
  rcases h.2 with ⟨rfl, rfl⟩ | ⟨g, cap, cur, rfl, _⟩
  · exact ⟨none, 0, rfl⟩
  · exact ⟨_, cap, rfl⟩
set_option maxRecDepth 100000 in
theorem refLess_any (A B : Option Addr) (n m c d : Nat) (l r : List Int) (w : World) (h : Vec w A n l) (h' : Vec w B m r) (hn : n ≤ 10000) (_hm : m ≤ 10000) :
    Calls Try.prog 57 #[.slice A n c, .slice B m d] w fun e w' => ∃ A' c', e = .returned (.slice A' (min n m) c') ∧ Vec w' A' (min n m) (Vm.less l r) ∧ Below w.heap.size w w' := by
  obtain ⟨i0, hi, hz0, hz1, hz2⟩ := info_parts Try.infoI32
  have HL := Lib.hid h.length
  have HR := Lib.hid h'.length
  have H := Lib.hid h
  have H' := Lib.hid h'
  clear h h'
  obtain ⟨N, hN⟩ : ∃ N, N = min n m := ⟨_, rfl⟩
  have n0 : N ≤ n := by omega
  have n1 : N ≤ m := by omega
  have HB : Hid (N = Vm.both l r) := by show N = Vm.both l r; unfold Vm.both; rw [HL.out, HR.out, hN]
  have HN := Lib.hid hN
  clear hN
  go_enter Try.func57, Try.ntmps57
  go_wp2
  go_loopw [5, 6] (fun v i wr => ∃ k : Nat, k ≤ N ∧ i = .int .i64 k ∧ wr.ownsRow w.heap.size 21 1 v k ((Vm.less (l.take k) (r.take k)).map (Value.int .i32)) ∧ Below w.heap.size w wr) (fun _ i _ => N - (intOf i).toNat)
  case atStart => exact ⟨0, Nat.zero_le _, rfl, by simpa [Vm.less] using World.ownsRow_nil _ _ _ _, Below.refl _ _⟩
  case round =>
    obtain ⟨k, hk, rfl, hown, hbel⟩ := hrel
    have hsz := hbel.size
    have HBB := Lib.hid hbel
    by_cases hlt : k < N
    · have hkl : k < l.length := by rw [HL.out]; omega
      have hkr : k < r.length := by rw [HR.out]; omega
      obtain ⟨b, off, rfl, hb, hc, x0, x1⟩ := H.out.at_ (k := k) (by omega) hkl
      obtain ⟨b', off', rfl, hb', hc', y0, y1⟩ := H'.out.at_ (k := k) (by omega) hkr
      have hc2 : wr.cell? ⟨b, off + k, none⟩ = some (.int .i32 l[k]) := (hbel.cell hb).trans hc
      have hc3 : wr.cell? ⟨b', off' + k, none⟩ = some (.int .i32 r[k]) := (hbel.cell hb').trans hc'
      have HS := Lib.hid (Vm.less_snoc k l r hkl hkr)
      obtain ⟨x, hx⟩ : ∃ x, x = l[k] := ⟨_, rfl⟩
      obtain ⟨y, hy⟩ : ∃ y, y = r[k] := ⟨_, rfl⟩
      rw [← hx] at hc2 x0 x1 HS
      rw [← hy] at hc3 y0 y1 HS
      obtain ⟨z, hz⟩ : ∃ z, wrap32 (x - y) = z := ⟨_, rfl⟩
      rw [hz] at HS
      have hz' : IntKind.i32.wrap (x - y) = z := by rw [IntWalk.i32_left]; exact hz
      clear hx hy hc hc' hbel hz
      go_wp2
      have hwO : ∀ W : World, W.heap = (wr.alloc (.cells #[.int .i32 z] 21)).heap → W.ownsRow w.heap.size 21 1 u5 k ((Vm.less (l.take k) (r.take k)).map (Value.int .i32)) := fun W e => vown_heap (hown.alloc _) e
      have hwN : ∀ W : World, W.heap = (wr.alloc (.cells #[.int .i32 z] 21)).heap → ∀ j u, ([.int .i32 z] : List Value)[j]? = some u → W.cell? ((⟨wr.heap.size, 0, none⟩ : Addr).add j) = some u := fun W e j u hu => by
        rw [vcell_heap e]; exact cell_one_new _ _ _ j u hu
      have HwO := Lib.hid hwO
      have HwN := Lib.hid hwN
      have HOLD := Lib.hid hown
      clear hwO hwN hown
      go_region_law (refine step_append_lies _ rfl (.tmp 19) (.tmp 29) 64 rfl w.heap.size 21 i0 (.int .i32 0) 1 4 Try.underlying64 hi hz0 hz1 hz2 rfl (by decide) u5 k _ (by simp [Act.eval]) (HwO.out _ rfl) ⟨wr.heap.size, 0, none⟩ 1 1 [.int .i32 z] (by simp [Act.eval]) rfl (HwN.out _ rfl) (ints_one .i32 [z]) (by omega) (by unfold maxLen; omega) (by omega) (by simp; omega) _ rfl ?_; intro g cap w1 hown1 hgrow hat hltg)
      all_goals
        have HO' : Hid (w1.ownsRow w.heap.size 21 1 (.slice (some ⟨g, 0, none⟩) (k + 1) cap) (k + 1) ((Vm.less (l.take (k + 1)) (r.take (k + 1))).map (Value.int .i32))) := by
          show w1.ownsRow w.heap.size 21 1 (.slice (some ⟨g, 0, none⟩) (k + 1) cap) (k + 1) ((Vm.less (l.take (k + 1)) (r.take (k + 1))).map (Value.int .i32))
          rw [HS.out, List.map_append]; exact hown1
        have HB' := Lib.hid ((show Below w.heap.size w _ from (HBB.out.alloc hsz (.cells #[.int .i32 z] 21)).drew).grown hgrow (by simp; omega) (vownBlock_ge HOLD.out))
        clear hown1 hgrow hat hltg HwO HwN HOLD HBB
        go_wp2
        go_roundw
        case rel => exact ⟨k + 1, by omega, by go_num, HO'.out, HB'.out⟩
        case measure => simp [intOf]; omega
    · obtain ⟨A', c', rfl⟩ := vown_form hown
      have hV : Vec wr A' k (Vm.less l r) := by
        have e : Vm.less (l.take k) (r.take k) = Vm.less l r := by rw [show k = Vm.both l r from by rw [← HB.out]; omega, Vm.less_both]
        rw [e] at hown
        exact ⟨Lst.of_own hown, Vm.less_in l r⟩
      have HV := Lib.hid hV
      have hkN : k = min n m := by have := HN.out; omega
      have HK := Lib.hid hkN
      clear hown hbel hV
      rcases (show (k < n ∧ ¬ k < m) ∨ ¬ k < n from by omega) with ⟨q, q2⟩ | q
      all_goals
        clear hkN
        go_wp2
        go_ret
        exact ⟨A', c', congrArg (fun q => Ending.returned (.slice A' q c')) HK.out, by rw [← HK.out]; exact HV.out, HBB.out⟩

theorem two_new (w : World) : Vec ((w.alloc (.cells #[.int .i32 1, .int .i32 2] 21)).alloc (.cells #[.int .i32 3, .int .i32 4] 21)) (some ⟨w.heap.size, 0, none⟩) 2 [1, 2] ∧
    Vec ((w.alloc (.cells #[.int .i32 1, .int .i32 2] 21)).alloc (.cells #[.int .i32 3, .int .i32 4] 21)) (some ⟨w.heap.size + 1, 0, none⟩) 2 [3, 4] ∧
    Below w.heap.size w ((w.alloc (.cells #[.int .i32 1, .int .i32 2] 21)).alloc (.cells #[.int .i32 3, .int .i32 4] 21)) := by
  have h1 : Blk (w.alloc (.cells #[.int .i32 1, .int .i32 2] 21)) w.heap.size [1, 2] := heap_alloc_new w _
  have h2 : Blk ((w.alloc (.cells #[.int .i32 1, .int .i32 2] 21)).alloc (.cells #[.int .i32 3, .int .i32 4] 21)) (w.heap.size + 1) [3, 4] := by
    have := heap_alloc_new (w.alloc (.cells #[.int .i32 1, .int .i32 2] 21)) (.cells #[.int .i32 3, .int .i32 4] 21)
    rwa [show (w.alloc (.cells #[.int .i32 1, .int .i32 2] 21)).heap.size = w.heap.size + 1 from by simp] at this
  refine ⟨(h1.below ((Below.refl _ _).alloc (Nat.le_refl _) _)).vec rfl (by simp), h2.vec rfl (by simp), ((Below.refl _ w).alloc (Nat.le_refl _) _).alloc (by simp) _⟩
theorem awake_d : Vm.dot [1, 2] [3, 4] = 11 := Vm.wrap_in (by decide) (by decide) |>.trans (by decide)
theorem awake_f : Vm.far [1, 2] [3, 4] = 8 := Vm.wrap_in (by decide) (by decide) |>.trans (by decide)

end Go.Proofs.Ytecdgpacofojeaa
namespace Go.Proofs.Ytecdgpacofojeaa
open Go.RowKit

theorem IsRow.vec {w : World} {a : Option Addr} {len cap : Nat} {zs : List Int} (h : IsRow .i32 w a len cap zs) :
    ∃ l, Vec w a len l ∧ len ≤ maxLen ∧ (a = none → cap = 0) := by
  obtain ⟨h1, h2, h3, h4, h5⟩ := h.lst
  refine ⟨zs.take len, ⟨h1, fun c hc => bounds_i32 (h4 c hc)⟩, ?_, h5⟩
  rcases h with ⟨rfl, rfl, rfl, rfl⟩ | ⟨x, rfl, hl, hm, hz, hcell, hwf⟩
  · exact Nat.zero_le _
  · omega

section
variable {w0 W : World} {A B : Option Addr} {n m : Nat} {l r : List Int}
theorem refCheck_c {c : Nat} {dim : Int} (V : Vec w0 A n l) (hb : Below w0.heap.size w0 W) (hn : n ≤ maxLen) :
    Calls Try.prog 33 #[.slice A n c, .int .i64 dim] W fun e w' => e = .returned (.int .i64 (Vm.chk l dim)) ∧ W = w' := refCheck_any A n c l dim W (V.below hb) hn
theorem refDot_c {c d : Nat} (V : Vec w0 A n l) (V' : Vec w0 B m r) (hb : Below w0.heap.size w0 W) (hn : n ≤ 10000) (hm : m ≤ 10000) :
    Calls Try.prog 58 #[.slice A n c, .slice B m d] W fun e w' => e = .returned (.int .i64 (Vm.dot l r)) ∧ Below w0.heap.size w0 w' :=
  (refDot_any A B n m c d l r W (V.below hb) (V'.below hb) hn hm).mono fun _ _ h => ⟨h.1, hb.trans (h.2.mono hb.size)⟩
theorem same_c {c d : Nat} (V : Vec w0 A n l) (V' : Vec w0 B m r) (hb : Below w0.heap.size w0 W) (hn : n ≤ 10000) (hm : m ≤ 10000) :
    Calls Try.prog 55 #[.slice A n c, .slice B m d] W fun e w' => e = .returned (.bool (decide (l = r))) ∧ Below w0.heap.size w0 w' :=
  (same_any A B n m c d l r W (V.below hb) (V'.below hb) (by omega) (by omega)).mono fun _ _ h => ⟨h.1, hb.trans (h.2.mono hb.size)⟩
theorem refLess_c {c d : Nat} (V : Vec w0 A n l) (V' : Vec w0 B m r) (hb : Below w0.heap.size w0 W) (hn : n ≤ 10000) (hm : m ≤ 10000) :
    Calls Try.prog 57 #[.slice A n c, .slice B m d] W fun e w' => ∃ A' c', e = .returned (.slice A' (min n m) c') ∧ Vec w' A' (min n m) (Vm.less l r) ∧ Below w0.heap.size w0 w' ∧ Below W.heap.size W w' :=
  (refLess_any A B n m c d l r W (V.below hb) (V'.below hb) hn hm).mono fun _ _ ⟨A', c', h1, h2, h3⟩ => ⟨A', c', h1, h2, hb.trans (h3.mono hb.size), h3⟩
end
end Go.Proofs.Ytecdgpacofojeaa
namespace Go.Proofs.Ytecdgpacofojeaa
open Go.RowKit

/-- the cells of a plane in a block -/
def Pbx (w : World) (g : Nat) (A : Option Addr) (n c : Nat) (o : Int) : Prop := w.heap[g]? = some (.cells #[.slice A n c, .int .i64 o] 66 (0, 0))
section
variable {w w' : World} {g : Nat} {A : Option Addr} {n c : Nat} {o : Int}
theorem Pbx.lt (h : Pbx w g A n c o) : g < w.heap.size := lt_of_block h
theorem Pbx.below (h : Pbx w g A n c o) (hb : Below w.heap.size w w') : Pbx w' g A n c o := by unfold Pbx; rw [hb.block g h.lt]; exact h
theorem Pbx.drew (h : Pbx w g A n c o) : Pbx w.drew g A n c o := h
theorem Pbx.drewN (h : Pbx w g A n c o) (d : Nat) : Pbx (w.drewN d) g A n c o := by
  induction d with
  | zero => exact h
  | succ d ih => exact ih.drew
theorem Pbx.c0 (h : Pbx w g A n c o) : w.cell? ⟨g, 0, none⟩ = some (.slice A n c) := by rw [cell_of_row _ _ _ _ _ _ h]; rfl
theorem Pbx.c1 (h : Pbx w g A n c o) : w.cell? ⟨g, 1, none⟩ = some (.int .i64 o) := by rw [cell_of_row _ _ _ _ _ _ h]; rfl
theorem Pbx.new (w : World) (A : Option Addr) (n c : Nat) (o : Int) : Pbx (w.alloc (.cells #[.slice A n c, .int .i64 o] 66)) w.heap.size A n c o := heap_alloc_new w _
end

theorem refMarg_any (A B : Option Addr) (n m c d : Nat) (o : Int) (l r : List Int) (w : World) (h : Vec w A n l) (h' : Vec w B m r) (hn : n ≤ 10000) (hm : m ≤ 10000) :
    Calls Try.prog 59 #[.agg #[.slice A n c, .int .i64 o], .slice B m d] w fun e w' => e = .returned (.int .i64 (Pm.mar l o r)) ∧ Below w.heap.size w w' := by
  obtain ⟨W, hW⟩ : ∃ W, W = w.alloc (.cells #[.slice A n c, .int .i64 o] 66) := ⟨_, rfl⟩
  have hb : Below w.heap.size w W := by rw [hW]; exact (Below.refl _ w).alloc (Nat.le_refl _) _
  have hp : Pbx W w.heap.size A n c o := by rw [hW]; exact Pbx.new w A n c o
  have k0 := hp.c0
  have HP := Lib.hid hp
  have HB := Lib.hid hb
  have HD := Lib.hid (refDot_any A B n m c d l r W (h.below hb) (h'.below hb) hn hm)
  have HW := Lib.hid hW
  have e := Lib.hid (Pm.mar_sum l o r)
  clear h h' hb hW hp
  go_enter Try.func59, Try.ntmps59
  go_wp2_with fail
  rw [← HW.out]
  refine HD.out.mono ?_
  rintro _ w1 ⟨rfl, hb1⟩
  have k1 := (HP.out.below hb1).c1
  have HB1 := Lib.hid (HB.out.trans (hb1.mono HB.out.size))
  clear hb1 HP HB HD HW
  go_wp2
  go_ret
  exact ⟨ret_int e.out, HB1.out⟩
theorem sameP_any (A B : Option Addr) (n m c d : Nat) (o p : Int) (l r : List Int) (w : World) (h : Vec w A n l) (h' : Vec w B m r) (hn : n ≤ 1000000) (hm : m ≤ 1000000) :
    Calls Try.prog 46 #[.agg #[.slice A n c, .int .i64 o], .agg #[.slice B m d, .int .i64 p]] w fun e w' => e = .returned (.bool (decide (o = p ∧ l = r))) ∧ Below w.heap.size w w' := by
  obtain ⟨W, hW⟩ : ∃ W, W = (w.alloc (.cells #[.slice A n c, .int .i64 o] 66)).alloc (.cells #[.slice B m d, .int .i64 p] 66) := ⟨_, rfl⟩
  have hb : Below w.heap.size w W := by rw [hW]; exact ((Below.refl _ w).alloc (Nat.le_refl _) _).alloc (by simp) _
  have hp : Pbx W w.heap.size A n c o := by rw [hW]; exact (Pbx.new w A n c o).below ((Below.refl _ _).alloc (Nat.le_refl _) _)
  have hq : Pbx W (w.heap.size + 1) B m d p := by rw [hW]; have := Pbx.new (w.alloc (.cells #[.slice A n c, .int .i64 o] 66)) B m d p; rwa [show (w.alloc (.cells #[.slice A n c, .int .i64 o] 66)).heap.size = w.heap.size + 1 from by simp] at this
  have k0 := hp.c0
  have k1 := hp.c1
  have k2 := hq.c0
  have k3 := hq.c1
  have HB := Lib.hid hb
  have HD := Lib.hid (same_any A B n m c d l r W (h.below hb) (h'.below hb) hn hm)
  have HW := Lib.hid hW
  clear h h' hb hW hp hq
  by_cases q : o = p
  · subst q
    go_enter Try.func46, Try.ntmps46
    go_wp2_with fail
    rw [← HW.out]
    refine HD.out.mono ?_
    rintro _ w1 ⟨rfl, hb1⟩
    have HB1 := Lib.hid (HB.out.trans (hb1.mono HB.out.size))
    obtain ⟨M, hM⟩ : ∃ M, M = decide (l = r) := ⟨_, rfl⟩
    rw [← hM]
    have HM := Lib.hid hM
    clear hb1 HB HD HW hM
    go_wp2
    go_ret
    exact ⟨ret_bool (by simp [HM.out]), HB1.out⟩
  · have q' : (o == p) = false := by simpa using q
    have HQ := Lib.hid q
    clear q HD
    go_enter Try.func46, Try.ntmps46
    go_wp2
    rw [← HW.out]
    go_ret
    exact ⟨ret_bool (by simp [HQ.out]), HB.out⟩
theorem chkP_any (A : Option Addr) (n c : Nat) (o : Int) (l : List Int) (dim : Int) (w : World) (h : Vec w A n l) (hn : n ≤ maxLen) :
    Calls Try.prog 47 #[.agg #[.slice A n c, .int .i64 o], .int .i64 dim] w fun e w' => e = .returned (.int .i64 (Pm.chk l o dim)) ∧ Below w.heap.size w w' := by
  unfold maxLen at hn
  obtain ⟨W, hW⟩ : ∃ W, W = w.alloc (.cells #[.slice A n c, .int .i64 o] 66) := ⟨_, rfl⟩
  have hb : Below w.heap.size w W := by rw [hW]; exact (Below.refl _ w).alloc (Nat.le_refl _) _
  have hp : Pbx W w.heap.size A n c o := by rw [hW]; exact Pbx.new w A n c o
  have k0 := hp.c0
  have k1 := hp.c1
  have HB := Lib.hid hb
  have HW := Lib.hid hW
  have HL := Lib.hid h.length
  have H := Lib.hid (h.below hb)
  clear h hb hW hp
  by_cases g : dim < 1 ∨ 1024 < dim
  · have e := Lib.hid (Pm.chk_range (l := l) (o := o) g)
    rcases (show dim < 1 ∨ (1 ≤ dim ∧ 1024 < dim) from by omega) with g' | ⟨g', g''⟩
    all_goals
      clear g H
      go_enter Try.func47, Try.ntmps47
      go_wp2
      rw [← HW.out]
      go_ret
      exact ⟨ret_int e.out.symm, HB.out⟩
  have d0 : 1 ≤ dim := by omega
  have d1 : dim ≤ 1024 := by omega
  by_cases g2 : (n : Int) = dim
  · subst g2
    clear g
    have G := Lib.hid (show ¬ ((n : Int) < 1 ∨ 1024 < (n : Int)) from by omega)
    go_enter Try.func47, Try.ntmps47
    go_wp2
    rw [← HW.out]
    go_loop [18] (fun i => ∃ k : Nat, k ≤ n ∧ i = .int .i64 k ∧ ∀ x ∈ l.take k, Pm.ok x) (fun i => n - (intOf i).toNat)
    case atStart => exact ⟨0, Nat.zero_le _, rfl, by simp⟩
    case round =>
      obtain ⟨k, hk, rfl, hgood⟩ := hrel
      have HG := Lib.hid hgood
      clear hgood
      by_cases hlt : k < n
      · have hkl : k < l.length := by rw [HL.out]; exact hlt
        obtain ⟨b, off, rfl, hb, hc, x0, x1⟩ := H.out.at_ hlt hkl
        have HM := Lib.hid (List.getElem_mem hkl)
        have HT := Lib.hid (List.take_succ_eq_append_getElem hkl)
        obtain ⟨x, hx⟩ : ∃ x, x = l[k] := ⟨_, rfl⟩
        rw [← hx] at hc HM HT x0 x1
        clear hx hb
        by_cases q : x < -2097152
        · have e := Lib.hid (Pm.chk_bad (l := l) (o := o) G.out (by rw [HL.out]) (fun hall => by have := hall x HM.out; unfold Pm.ok at this; omega))
          go_wp2
          go_ret
          exact ⟨ret_int e.out.symm, HB.out⟩
        · by_cases q2 : 2097152 < x
          · have e := Lib.hid (Pm.chk_bad (l := l) (o := o) G.out (by rw [HL.out]) (fun hall => by have := hall x HM.out; unfold Pm.ok at this; omega))
            go_wp2
            go_ret
            exact ⟨ret_int e.out.symm, HB.out⟩
          · go_wp2
            go_round
            case rel => exact ⟨k + 1, by omega, by go_num, by rw [HT.out]; intro y hy; rcases List.mem_append.1 hy with hy | hy; exact HG.out y hy; rw [List.mem_singleton.1 hy]; unfold Pm.ok; omega⟩
            case measure => simp [intOf]; omega
      · have A := Lib.hid (show ∀ x ∈ l, Pm.ok x from fun x hx => HG.out x (by rw [List.take_of_length_le (by rw [HL.out]; omega)]; exact hx))
        by_cases q : o < -9007199254740992
        · have e := Lib.hid (Pm.chk_off (l := l) (o := o) (dim := (n : Int)) G.out (by rw [HL.out]) A.out (by omega))
          have q' : decide (o < -9007199254740992) = true := decide_eq_true q
          clear q
          go_wp2
          go_ret
          exact ⟨ret_int e.out.symm, HB.out⟩
        · have q' : decide (o < -9007199254740992) = false := decide_eq_false q
          by_cases q2 : 9007199254740992 < o
          · have e := Lib.hid (Pm.chk_off (l := l) (o := o) (dim := (n : Int)) G.out (by rw [HL.out]) A.out (by omega))
            have q2' : decide (9007199254740992 < o) = true := decide_eq_true q2
            clear q q2
            go_wp2
            go_ret
            exact ⟨ret_int e.out.symm, HB.out⟩
          · have e := Lib.hid (Pm.chk_good (l := l) (o := o) (dim := (n : Int)) G.out (by rw [HL.out]) A.out (by omega) (by omega))
            have q2' : decide (9007199254740992 < o) = false := decide_eq_false q2
            clear q q2
            go_wp2
            go_ret
            exact ⟨ret_int e.out.symm, HB.out⟩
  · have e := Lib.hid (Pm.chk_dim (l := l) (o := o) g (by rw [HL.out]; exact g2))
    have g3 : ((n : Int) != dim) = true := by simpa using g2
    clear g g2 H
    go_enter Try.func47, Try.ntmps47
    go_wp2
    rw [← HW.out]
    go_ret
    exact ⟨ret_int e.out.symm, HB.out⟩
theorem refChkP_any (A : Option Addr) (n c : Nat) (o : Int) (l : List Int) (dim : Int) (w : World) (h : Vec w A n l) (hn : n ≤ maxLen) :
    Calls Try.prog 29 #[.agg #[.slice A n c, .int .i64 o], .int .i64 dim] w fun e w' => e = .returned (.int .i64 (Pm.chk l o dim)) ∧ Below w.heap.size w w' := by
  unfold maxLen at hn
  obtain ⟨W, hW⟩ : ∃ W, W = w.alloc (.cells #[.slice A n c, .int .i64 o] 66) := ⟨_, rfl⟩
  have hb : Below w.heap.size w W := by rw [hW]; exact (Below.refl _ w).alloc (Nat.le_refl _) _
  have hp : Pbx W w.heap.size A n c o := by rw [hW]; exact Pbx.new w A n c o
  have k0 := hp.c0
  have k1 := hp.c1
  have HB := Lib.hid hb
  have HW := Lib.hid hW
  have HL := Lib.hid h.length
  have H := Lib.hid (h.below hb)
  clear h hb hW hp
  by_cases g : dim < 1 ∨ 1024 < dim
  · have e := Lib.hid (Pm.chk_range (l := l) (o := o) g)
    rcases (show dim < 1 ∨ (1 ≤ dim ∧ 1024 < dim) from by omega) with g' | ⟨g', g''⟩
    all_goals
      clear g H
      go_enter Try.func29, Try.ntmps29
      go_wp2
      rw [← HW.out]
      go_ret
      exact ⟨ret_int e.out.symm, HB.out⟩
  have d0 : 1 ≤ dim := by omega
  have d1 : dim ≤ 1024 := by omega
  by_cases g2 : (n : Int) = dim
  · subst g2
    clear g
    have G := Lib.hid (show ¬ ((n : Int) < 1 ∨ 1024 < (n : Int)) from by omega)
    go_enter Try.func29, Try.ntmps29
    go_wp2
    rw [← HW.out]
    go_loop [5] (fun i => ∃ k : Nat, k ≤ n ∧ i = .int .i64 k ∧ ∀ x ∈ l.take k, Pm.ok x) (fun i => n - (intOf i).toNat)
    case atStart => exact ⟨0, Nat.zero_le _, rfl, by simp⟩
    case round =>
      obtain ⟨k, hk, rfl, hgood⟩ := hrel
      have HG := Lib.hid hgood
      clear hgood
      by_cases hlt : k < n
      · have hkl : k < l.length := by rw [HL.out]; exact hlt
        obtain ⟨b, off, rfl, hb, hc, x0, x1⟩ := H.out.at_ hlt hkl
        have HM := Lib.hid (List.getElem_mem hkl)
        have HT := Lib.hid (List.take_succ_eq_append_getElem hkl)
        obtain ⟨x, hx⟩ : ∃ x, x = l[k] := ⟨_, rfl⟩
        rw [← hx] at hc HM HT x0 x1
        clear hx hb
        by_cases q : x < -2097152
        · have e := Lib.hid (Pm.chk_bad (l := l) (o := o) G.out (by rw [HL.out]) (fun hall => by have := hall x HM.out; unfold Pm.ok at this; omega))
          go_wp2
          go_ret
          exact ⟨ret_int e.out.symm, HB.out⟩
        · by_cases q2 : 2097152 < x
          · have e := Lib.hid (Pm.chk_bad (l := l) (o := o) G.out (by rw [HL.out]) (fun hall => by have := hall x HM.out; unfold Pm.ok at this; omega))
            go_wp2
            go_ret
            exact ⟨ret_int e.out.symm, HB.out⟩
          · go_wp2
            go_round
            case rel => exact ⟨k + 1, by omega, by go_num, by rw [HT.out]; intro y hy; rcases List.mem_append.1 hy with hy | hy; exact HG.out y hy; rw [List.mem_singleton.1 hy]; unfold Pm.ok; omega⟩
            case measure => simp [intOf]; omega
      · have A := Lib.hid (show ∀ x ∈ l, Pm.ok x from fun x hx => HG.out x (by rw [List.take_of_length_le (by rw [HL.out]; omega)]; exact hx))
        by_cases q : o < -9007199254740992
        · have e := Lib.hid (Pm.chk_off (l := l) (o := o) (dim := (n : Int)) G.out (by rw [HL.out]) A.out (by omega))
          have q' : decide (o < -9007199254740992) = true := decide_eq_true q
          clear q
          go_wp2
          go_ret
          exact ⟨ret_int e.out.symm, HB.out⟩
        · have q' : decide (o < -9007199254740992) = false := decide_eq_false q
          by_cases q2 : 9007199254740992 < o
          · have e := Lib.hid (Pm.chk_off (l := l) (o := o) (dim := (n : Int)) G.out (by rw [HL.out]) A.out (by omega))
            have q2' : decide (9007199254740992 < o) = true := decide_eq_true q2
            clear q q2
            go_wp2
            go_ret
            exact ⟨ret_int e.out.symm, HB.out⟩
          · have e := Lib.hid (Pm.chk_good (l := l) (o := o) (dim := (n : Int)) G.out (by rw [HL.out]) A.out (by omega) (by omega))
            have q2' : decide (9007199254740992 < o) = false := decide_eq_false q2
            clear q q2
            go_wp2
            go_ret
            exact ⟨ret_int e.out.symm, HB.out⟩
  · have e := Lib.hid (Pm.chk_dim (l := l) (o := o) g (by rw [HL.out]; exact g2))
    have g3 : ((n : Int) != dim) = true := by simpa using g2
    clear g g2 H
    go_enter Try.func29, Try.ntmps29
    go_wp2
    rw [← HW.out]
    go_ret
    exact ⟨ret_int e.out.symm, HB.out⟩
end Go.Proofs.Ytecdgpacofojeaa
namespace Go.Proofs.Ytecdgpacofojeaa
open Go.RowKit

theorem less_len {l r : List Int} {n m : Nat} (h : l.length = n) (h' : r.length = m) : (Vm.less l r).length = min n m := by rw [Vm.less_length]; unfold Vm.both; rw [h, h']
theorem Try.sizePlane : (Try.prog.info? 66).map (·.size) = some 2 := by kernel_rfl
/-- a vector doesn't stand where a plane does -/
theorem Vec.off_plane {w : World} {g : Nat} {A A' : Option Addr} {n n' c : Nat} {o : Int} {l : List Int} (h : Vec w A' n' l) (p : Pbx w g A n c o) (u0 u1 : Value) :
    Vec ((w.setCell ⟨g, 0, none⟩ u0).setCell ⟨g, 1, none⟩ u1) A' n' l := by
  refine ⟨⟨h.1.1, fun hn => ?_⟩, h.2⟩
  obtain ⟨b, off, e, hb, hc⟩ := h.1.2 hn
  have hlen := h.1.1
  have hne : b ≠ g := by
    rintro rfl
    have hl0 : 0 < l.length := by rw [List.length_map] at hlen; omega
    have h0 := hc 0 (.int .i32 l[0]) (by rw [List.getElem?_map, List.getElem?_eq_getElem hl0]; rfl)
    rw [cell_of_row _ _ _ _ _ _ p] at h0
    rcases (show off + 0 = 0 ∨ off + 0 = 1 ∨ 2 ≤ off + 0 from by omega) with q | q | q
    · rw [q] at h0; cases h0
    · rw [q] at h0; simp at h0
    · rw [Array.getElem?_eq_none (by simpa using q)] at h0; cases h0
  refine ⟨b, off, e, by simpa [World.setCell] using hb, fun j u hu => ?_⟩
  rw [World.cell?_of_block (w := w) (w' := (w.setCell ⟨g, 0, none⟩ u0).setCell ⟨g, 1, none⟩ u1) (by show _ = w.heap[b]?; rw [heap_setCell_other _ _ _ _ hne, heap_setCell_other _ _ _ _ hne])]
  exact hc j u hu
set_option maxRecDepth 100000 in
theorem refBetw_any (A B : Option Addr) (n m c d : Nat) (l r : List Int) (w : World) (h : Vec w A n l) (h' : Vec w B m r) (hn : n ≤ 10000) (hm : m ≤ 10000) :
    Calls Try.prog 50 #[.slice A n c, .slice B m d] w fun e w' => ∃ A' c', e = .returned (.agg #[.slice A' (min n m) c', .int .i64 (Pm.off l r)]) ∧ Vec w' A' (min n m) (Vm.less l r) ∧ Below w.heap.size w w' := by
  obtain ⟨W, hW⟩ : ∃ W, W = w.alloc (.cells #[.slice none 0 0, .int .i64 0] 66) := ⟨_, rfl⟩
  have hb : Below w.heap.size w W := by rw [hW]; exact (Below.refl _ w).alloc (Nat.le_refl _) _
  have hs : W.heap.size = w.heap.size + 1 := by rw [hW]; simp
  have hp : Pbx W w.heap.size none 0 0 0 := by rw [hW]; exact Pbx.new w none 0 0 0
  have HP := Lib.hid hp
  have HB := Lib.hid hb
  have HS := Lib.hid hs
  have V := Lib.hid (h.below hb)
  have V' := Lib.hid (h'.below hb)
  have HW := Lib.hid hW
  have e := Lib.hid (Pm.off_sum l r)
  clear h h' hb hW hp hs
  go_enter Try.func50, Try.ntmps50
  go_wp2_with fail
  rw [← HW.out]
  clear HW
  refine (refLess_any A B n m c d l r W V.out V'.out hn hm).mono ?_
  rintro _ w1 ⟨A', c', rfl, hv, hb1⟩
  obtain ⟨N, hN⟩ : ∃ N, N = min n m := ⟨_, rfl⟩
  have hn' : N ≤ 10000 := by omega
  rw [← hN] at hv
  rw [← hN]
  have HN := Lib.hid hN
  have HV := Lib.hid hv
  have V1 := Lib.hid (V.out.below hb1)
  have V1' := Lib.hid (V'.out.below hb1)
  have P1 := Lib.hid (HP.out.below hb1)
  have HB1 := Lib.hid (HB.out.trans (hb1.mono HB.out.size))
  clear hN hv hb1 V V' HP HB
  go_wp2_with fail
  refine (refDot_any _ _ _ _ _ _ _ _ _ HV.out V1.out (by omega) (by omega)).mono ?_
  rintro _ w2 ⟨rfl, hb2⟩
  have V2 := Lib.hid (HV.out.below hb2)
  have V2' := Lib.hid (V1'.out.below hb2)
  have P2 := Lib.hid (P1.out.below hb2)
  have HB2 := Lib.hid (HB1.out.trans (hb2.mono HB1.out.size))
  clear hb2 HV V1 V1' P1 HB1
  go_wp2_with fail
  refine (refDot_any _ _ _ _ _ _ _ _ _ V2.out V2'.out (by omega) (by omega)).mono ?_
  rintro _ w3 ⟨rfl, hb3⟩
  have V3 := Lib.hid (V2.out.below hb3)
  have hP3 := P2.out.below hb3
  have HB3 := Lib.hid (HB2.out.trans (hb3.mono HB2.out.size))
  clear hb3 V2 V2' P2 HB2
  have k0 := hP3.c0
  have k1 := hP3.c1
  have f0 := frozen_of_row w3 w.heap.size 0 _ _ hP3
  have f1 := frozen_of_row w3 w.heap.size 1 _ _ hP3
  have P3 := Lib.hid hP3
  clear hP3
  go_wp2
  rw [e.out]
  obtain ⟨W2, hW2⟩ : ∃ W2, W2 = (w3.setCell ⟨w.heap.size, 0, none⟩ (.slice A' N c')).setCell ⟨w.heap.size, 1, none⟩ (.int .i64 (Pm.off l r)) := ⟨_, rfl⟩
  rw [← hW2]
  have hrow : Pbx W2 w.heap.size A' N c' (Pm.off l r) := by
    unfold Pbx; rw [hW2, heap_setCell_same _ _ _ _ _ _ (heap_setCell_same _ _ _ _ _ _ P3.out)]; rfl
  have hv : Vec W2 A' N (Vm.less l r) := by rw [hW2]; exact V3.out.off_plane P3.out _ _
  have hb : Below w.heap.size w W2 := by rw [hW2]; exact (HB3.out.setCell (Nat.le_refl _) _).setCell (Nat.le_refl _) _
  refine bodyPost_ret (v := .agg #[.slice A' N c', .int .i64 (Pm.off l r)]) (results_cell_row (p := 4) Try.results50 _ _ w.heap.size 66 _ (0, 0) _ rfl hrow Try.underlying66 rfl Try.sizePlane) rfl ?_
  exact ⟨A', c', by rw [HN.out], by rw [← HN.out]; exact hv, hb⟩

end Go.Proofs.Ytecdgpacofojeaa
namespace Go.Proofs.Ytecdgpacofojeaa
open Go.RowKit

/-- noughts, so many, in the plane that is being made at w.heap.size + 1 -/
structure Flt (w wr : World) (k : Nat) : Prop where
  bel : Below w.heap.size w wr
  res : Pbx wr w.heap.size none 0 0 0
  row : ∃ A c, Pbx wr (w.heap.size + 1) A k c 0 ∧ wr.ownsRow (w.heap.size + 2) 21 1 (.slice A k c) k ((Pm.flat k).map (Value.int .i32))
set_option maxRecDepth 100000 in
theorem refFlat_any (n : Nat) (w : World) (hn : n ≤ 1024) :
    Calls Try.prog 54 #[.int .i64 (n : Int)] w fun e w' => ∃ A c, e = .returned (.agg #[.slice A n c, .int .i64 0]) ∧ Vec w' A n (Pm.flat n) ∧ Below w.heap.size w w' := by
  obtain ⟨i0, hi, hz0, hz1, hz2⟩ := info_parts Try.infoI32
  obtain ⟨W, hW⟩ : ∃ W, W = (w.alloc (.cells #[.slice none 0 0, .int .i64 0] 66)).alloc (.cells #[.slice none 0 0, .int .i64 0] 66) := ⟨_, rfl⟩
  have HF : Hid (Flt w W 0) := by
    refine ⟨by rw [hW]; exact ((Below.refl _ w).alloc (Nat.le_refl _) _).alloc (by simp) _, by rw [hW]; exact (Pbx.new w none 0 0 0).below ((Below.refl _ _).alloc (Nat.le_refl _) _), none, 0, ?_, by simpa [Pm.flat] using World.ownsRow_nil _ _ _ _⟩
    rw [hW]
    have := Pbx.new (w.alloc (.cells #[.slice none 0 0, .int .i64 0] 66)) none 0 0 0
    rwa [show (w.alloc (.cells #[.slice none 0 0, .int .i64 0] 66)).heap.size = w.heap.size + 1 from by simp] at this
  have HW := Lib.hid hW
  clear hW
  have HL : Hid (∀ k, (Pm.flat k).length = k) := Lib.hid fun k => Pm.flat_length k
  go_enter Try.func54, Try.ntmps54
  go_wp2
  rw [← HW.out]
  clear HW
  go_loopw [4] (fun i wr => ∃ k : Nat, k ≤ n ∧ i = .int .i64 k ∧ Flt w wr k) (fun i _ => n - (intOf i).toNat)
  case atStart => exact ⟨0, Nat.zero_le _, rfl, HF.out⟩
  case round =>
    obtain ⟨k, hk, rfl, hrel⟩ := hrel
    obtain ⟨hbel, hres, A, c, hp, hown⟩ := hrel
    have hs0 := hp.lt
    have cp := (hp.below ((Below.refl _ wr).alloc (Nat.le_refl _) (.cells #[.int .i32 0] 21))).c0
    have cp0 := hp.c0
    by_cases hlt : k < n
    · have HB := Lib.hid hbel
      have HR := Lib.hid hres
      have HP := Lib.hid hp
      have HO := Lib.hid hown
      clear hbel hres hp hown
      go_wp2_with (at_builtin; refine wpList_append_own _ rfl (.tmp 12) (.tmp 13) 64 rfl (w.heap.size + 2) 21 i0 (.int .i32 0) 1 4 Try.underlying64 hi hz0 hz1 hz2 rfl (by decide) (.slice A k c) k _ rfl (HO.out.alloc _) ⟨wr.heap.size, 0, none⟩ 1 1 [.int .i32 0] rfl rfl (cell_one_new _ _ _) (by intro u hu; simp at hu; subst hu; rfl) (by unfold maxLen; omega) (by omega) (by simp; omega) ?_; intro v' w1 hown' hgrow _; obtain ⟨A', c', hv'⟩ := vown_form hown'; subst hv'; have HG := Lib.hid hgrow; have HO' := Lib.hid hown'; have hb2 := ((Below.refl (w.heap.size + 2) wr).alloc (by omega) (.cells #[.int .i32 0] 21)).grown hgrow (by simp; omega) (vownBlock_ge HO.out); have hp1 : Pbx w1 (w.heap.size + 1) A k c 0 := (hb2.block (w.heap.size + 1) (by omega)).trans HP.out; have hr1 : Pbx w1 w.heap.size none 0 0 0 := (hb2.block w.heap.size (by omega)).trans HR.out; have cp1 := hp1.c0; have f1 := frozen_of_row w1 (w.heap.size + 1) 0 _ _ hp1; have HP1 := Lib.hid hp1; have HR1 := Lib.hid hr1; have HB1 := Lib.hid (HB.out.trans (hb2.mono (by omega))); clear hown' hgrow hp1 hr1 hb2 cp cp0)
      refine ⟨⟨k + 1, by omega, by go_num, ?_⟩, by simp [intOf]; omega⟩
      have hrow : Pbx (w1.setCell ⟨w.heap.size + 1, 0, none⟩ (.slice A' (k + 1) c')) (w.heap.size + 1) A' (k + 1) c' 0 := by
        unfold Pbx; rw [heap_setCell_same _ _ _ _ _ _ HP1.out]; rfl
      have hres' : Pbx (w1.setCell ⟨w.heap.size + 1, 0, none⟩ (.slice A' (k + 1) c')) w.heap.size none 0 0 0 := by
        unfold Pbx; rw [heap_setCell_other _ _ _ _ (by show w.heap.size ≠ w.heap.size + 1; omega)]; exact HR1.out
      refine ⟨HB1.out.setCell (by show w.heap.size ≤ w.heap.size + 1; omega) _, hres', A', c', hrow, ?_⟩
      have h2 := ownsRow_setCell_below HO'.out (a := ⟨w.heap.size + 1, 0, none⟩) (by show w.heap.size + 1 < w.heap.size + 2; omega) (.slice A' (k + 1) c')
      rw [Pm.flat_succ, List.map_append]
      exact h2
    · obtain rfl : k = n := by omega
      have hv : Vec wr A k (Pm.flat k) := ⟨Lst.of_own hown, Pm.flat_in k⟩
      have HV := Lib.hid hv
      have HB := Lib.hid hbel
      have HR := Lib.hid hres
      have HP := Lib.hid hp
      have cp1 := hp.c1
      have r0 := hres.c0
      have r1 := hres.c1
      have f0 := frozen_of_row wr w.heap.size 0 _ _ hres
      have f1 := frozen_of_row wr w.heap.size 1 _ _ hres
      clear hown hbel hres hp hv cp
      go_wp2
      obtain ⟨W2, hW2⟩ : ∃ W2, W2 = (wr.setCell ⟨w.heap.size, 0, none⟩ (.slice A k c)).setCell ⟨w.heap.size, 1, none⟩ (.int .i64 0) := ⟨_, rfl⟩
      rw [← hW2]
      have hrow : Pbx W2 w.heap.size A k c 0 := by
        unfold Pbx; rw [hW2, heap_setCell_same _ _ _ _ _ _ (heap_setCell_same _ _ _ _ _ _ HR.out)]; rfl
      have hv : Vec W2 A k (Pm.flat k) := by rw [hW2]; exact HV.out.off_plane HR.out _ _
      have hb : Below w.heap.size w W2 := by rw [hW2]; exact (HB.out.setCell (Nat.le_refl _) _).setCell (Nat.le_refl _) _
      refine bodyPost_ret (v := .agg #[.slice A k c, .int .i64 0]) (results_cell_row (p := 2) Try.results54 _ _ w.heap.size 66 _ (0, 0) _ rfl hrow Try.underlying66 rfl Try.sizePlane) rfl ?_
      exact ⟨A, c, rfl, hv, hb⟩

/-- two vectors of two places, made one behind the other -/
theorem fst_new (w : World) (x y : Int) (hx : -2147483648 ≤ x ∧ x ≤ 2147483647) (hy : -2147483648 ≤ y ∧ y ≤ 2147483647) : Vec (w.alloc (.cells #[.int .i32 x, .int .i32 y] 21)) (some ⟨w.heap.size, 0, none⟩) 2 [x, y] := by
  have h1 : Blk (w.alloc (.cells #[.int .i32 x, .int .i32 y] 21)) w.heap.size [x, y] := heap_alloc_new w _
  exact h1.vec rfl (by intro z hz; simp at hz; rcases hz with rfl | rfl; exact hx; exact hy)
theorem both_new (w : World) (a b x y : Int) (ha : -2147483648 ≤ a ∧ a ≤ 2147483647) (hb : -2147483648 ≤ b ∧ b ≤ 2147483647) (hx : -2147483648 ≤ x ∧ x ≤ 2147483647) (hy : -2147483648 ≤ y ∧ y ≤ 2147483647) :
    Vec ((w.alloc (.cells #[.int .i32 a, .int .i32 b] 21)).alloc (.cells #[.int .i32 x, .int .i32 y] 21)) (some ⟨w.heap.size, 0, none⟩) 2 [a, b] ∧
    Vec ((w.alloc (.cells #[.int .i32 a, .int .i32 b] 21)).alloc (.cells #[.int .i32 x, .int .i32 y] 21)) (some ⟨w.heap.size + 1, 0, none⟩) 2 [x, y] ∧
    Below w.heap.size w ((w.alloc (.cells #[.int .i32 a, .int .i32 b] 21)).alloc (.cells #[.int .i32 x, .int .i32 y] 21)) := by
  have h2 := fst_new (w.alloc (.cells #[.int .i32 a, .int .i32 b] 21)) x y hx hy
  rw [show (w.alloc (.cells #[.int .i32 a, .int .i32 b] 21)).heap.size = w.heap.size + 1 from by simp] at h2
  exact ⟨(fst_new w a b ha hb).below ((Below.refl _ _).alloc (Nat.le_refl _) _), h2, ((Below.refl _ w).alloc (Nat.le_refl _) _).alloc (by simp) _⟩
theorem ex_less : Vm.less [3, 0] [1, 0] = [2, 0] := by decide +kernel
theorem ex_off : Pm.off [3, 0] [1, 0] = 8 := by decide +kernel
theorem ex_mar : Pm.mar [2, 0] 8 [3, 0] = 4 := by decide +kernel
theorem ex_mar' : Pm.mar [2, 0] 8 [1, 0] = -4 := by decide +kernel
end Go.Proofs.Ytecdgpacofojeaa
namespace Go.Proofs.Ytecdgpacofojeaa
open Go.RowKit

section
variable {w0 W : World} {A B : Option Addr} {n m : Nat} {l r : List Int} {o p : Int}
theorem refMarg_c {c d : Nat} (V : Vec w0 A n l) (V' : Vec w0 B m r) (hb : Below w0.heap.size w0 W) (hn : n ≤ 10000) (hm : m ≤ 10000) :
    Calls Try.prog 59 #[.agg #[.slice A n c, .int .i64 o], .slice B m d] W fun e w' => e = .returned (.int .i64 (Pm.mar l o r)) ∧ Below w0.heap.size w0 w' :=
  (refMarg_any A B n m c d o l r W (V.below hb) (V'.below hb) hn hm).mono fun _ _ h => ⟨h.1, hb.trans (h.2.mono hb.size)⟩
theorem sameP_c {c d : Nat} (V : Vec w0 A n l) (V' : Vec w0 B m r) (hb : Below w0.heap.size w0 W) (hn : n ≤ 10000) (hm : m ≤ 10000) :
    Calls Try.prog 46 #[.agg #[.slice A n c, .int .i64 o], .agg #[.slice B m d, .int .i64 p]] W fun e w' => e = .returned (.bool (decide (o = p ∧ l = r))) ∧ Below w0.heap.size w0 w' :=
  (sameP_any A B n m c d o p l r W (V.below hb) (V'.below hb) (by omega) (by omega)).mono fun _ _ h => ⟨h.1, hb.trans (h.2.mono hb.size)⟩
theorem chkP_c {c : Nat} {dim : Int} (V : Vec w0 A n l) (hb : Below w0.heap.size w0 W) (hn : n ≤ maxLen) :
    Calls Try.prog 47 #[.agg #[.slice A n c, .int .i64 o], .int .i64 dim] W fun e w' => e = .returned (.int .i64 (Pm.chk l o dim)) ∧ Below w0.heap.size w0 w' :=
  (chkP_any A n c o l dim W (V.below hb) hn).mono fun _ _ h => ⟨h.1, hb.trans (h.2.mono hb.size)⟩
theorem refChkP_c {c : Nat} {dim : Int} (V : Vec w0 A n l) (hb : Below w0.heap.size w0 W) (hn : n ≤ maxLen) :
    Calls Try.prog 29 #[.agg #[.slice A n c, .int .i64 o], .int .i64 dim] W fun e w' => e = .returned (.int .i64 (Pm.chk l o dim)) ∧ Below w0.heap.size w0 w' :=
  (refChkP_any A n c o l dim W (V.below hb) hn).mono fun _ _ h => ⟨h.1, hb.trans (h.2.mono hb.size)⟩
theorem refBetw_c {c d : Nat} (V : Vec w0 A n l) (V' : Vec w0 B m r) (hb : Below w0.heap.size w0 W) (hn : n ≤ 10000) (hm : m ≤ 10000) :
    Calls Try.prog 50 #[.slice A n c, .slice B m d] W fun e w' => ∃ A' c', e = .returned (.agg #[.slice A' (min n m) c', .int .i64 (Pm.off l r)]) ∧ Vec w' A' (min n m) (Vm.less l r) ∧ Below w0.heap.size w0 w' ∧ Below W.heap.size W w' :=
  (refBetw_any A B n m c d l r W (V.below hb) (V'.below hb) hn hm).mono fun _ _ ⟨A', c', h1, h2, h3⟩ => ⟨A', c', h1, h2, hb.trans (h3.mono hb.size), h3⟩
theorem refFlat_c (hb : Below w0.heap.size w0 W) (hn : n ≤ 1024) :
    Calls Try.prog 54 #[.int .i64 (n : Int)] W fun e w' => ∃ A c, e = .returned (.agg #[.slice A n c, .int .i64 0]) ∧ Vec w' A n (Pm.flat n) ∧ Below w0.heap.size w0 w' ∧ Below W.heap.size W w' :=
  (refFlat_any n W hn).mono fun _ _ ⟨A, c, h1, h2, h3⟩ => ⟨A, c, h1, h2, hb.trans (h3.mono hb.size), h3⟩
end
theorem ne_bool {x : Int} (h : ¬ x = 0) : (x != 0) = true := by simpa using h
end Go.Proofs.Ytecdgpacofojeaa
