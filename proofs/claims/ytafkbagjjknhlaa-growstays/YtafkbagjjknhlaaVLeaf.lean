/-
  Layer 3 (vec): the calls that only read, by their contracts: shared, apart, Check, Dot, Far, Same of the program; Check, Dot, Far, Same of the document's own answer; 'few' and the document's examples.
-/
import Derived.Test.YtafkbagjjknhlaaGRet
import Derived.Test.YtafkbagjjknhlaaRows
import Derived.Test.YtafkbagjjknhlaaMA
import Derived.Test.YtafkbagjjknhlaaFLst
import Derived.WalkKit
import Derived.WalkSpells
import Derived.WalkLawsBesides
import Derived.Outline
import Derived.Below
import Derived.Lib.Hide
import Derived.BigQuiet
import Derived.Deep.QuietTactic
namespace Go.Proofs.Ytafkbagjjknhlaa
open Go.RowKit


theorem quietly {P : Program} {f : FuncId} {args : Array Value} {w : World} {n : Nat} {v : Value}
    (h : Calls P f args (w.drewN n) fun e w' => e = .returned v ∧ w.drewN n = w') : Calls P f args (w.drewN n) fun e w'' => e = .returned v ∧ ∃ m, w'' = w.drewN m :=
  h.mono fun _ _ ⟨he, hm⟩ => ⟨he, n, hm.symm⟩
theorem quietly2 {P : Program} {f : FuncId} {args : Array Value} {w : World} {n : Nat} {v : Value}
    (h : Calls P f args (w.drewN n) fun e w' => e = .returned v ∧ ∃ m, w' = (w.drewN n).drewN m) : Calls P f args (w.drewN n) fun e w'' => e = .returned v ∧ ∃ m, w'' = w.drewN m :=
  h.mono fun _ _ ⟨he, m, hm⟩ => ⟨he, n + m, by rw [hm, World.drewN_drewN]⟩
theorem run_min2 (x y : Int) (ts : Array TypeId) (t : TypeId) (W : World) :
    (Builtin.min_ ts t #[.int .i64 x, .int .i64 y]).run Try.prog W = .ok (.int .i64 (min x y)) W := by
  have h : ∀ a b : Int, (if b < a then b else a) = min a b := fun a b => by split <;> omega
  simp [Builtin.min_, Builtin.min2, h]
theorem shared_any (A B : Option Addr) (n m c d : Nat) (w : World) :
    Calls Try.prog 70 #[.slice A n c, .slice B m d] w fun e w' => e = .returned (.int .i64 (min n m : Nat)) ∧ w = w' := by
  have h : ∀ W ts t, (Builtin.min_ ts t #[.int .i64 (n : Int), .int .i64 (m : Int)]).run Try.prog W = .ok (.int .i64 ((min n m : Nat) : Int)) W := fun W ts t => by
    rw [run_min2, show min (n : Int) (m : Int) = ((min n m : Nat) : Int) from by omega]
  go_enter Try.func70, Try.ntmps70
  go_wp2
  go_ret
  exact ⟨rfl, rfl⟩
theorem apart_any (x y : Int) (w : World) (x0 : -2147483648 ≤ x) (x1 : x ≤ 2147483647) (y0 : -2147483648 ≤ y) (y1 : y ≤ 2147483647) :
    Calls Try.prog 71 #[.int .i32 x, .int .i32 y] w fun e w' => e = .returned (.int .i64 (x - y)) ∧ w = w' := by
  go_enter Try.func71, Try.ntmps71
  go_wp2
  go_ret
  exact ⟨rfl, rfl⟩
/-- a slice of int32 that reads as the list l -/
def Vec (w : World) (A : Option Addr) (n : Nat) (l : List Int) : Prop := Lst w w.heap.size A n (l.map (Value.int .i32)) ∧ ∀ x ∈ l, -2147483648 ≤ x ∧ x ≤ 2147483647
theorem Vec.length {w : World} {A : Option Addr} {n : Nat} {l : List Int} (h : Vec w A n l) : l.length = n := by have := h.1.1; simpa using this
theorem Vec.below {w w' : World} {A : Option Addr} {n : Nat} {l : List Int} (h : Vec w A n l) (hb : Below w.heap.size w w') : Vec w' A n l := ⟨(h.1.below hb).more hb.size, h.2⟩
theorem Vec.at_ {w : World} {A : Option Addr} {n k : Nat} {l : List Int} (h : Vec w A n l) (hk : k < n) (hkl : k < l.length) :
    ∃ b off, A = some ⟨b, off, none⟩ ∧ b < w.heap.size ∧ w.cell? ⟨b, off + k, none⟩ = some (.int .i32 l[k]) ∧ -2147483648 ≤ l[k] ∧ l[k] ≤ 2147483647 := by
  obtain ⟨b, off, e, hb, hc⟩ := h.1.at_ hk
  rw [List.getElem?_map, List.getElem?_eq_getElem hkl] at hc
  exact ⟨b, off, e, hb, hc, h.2 _ (List.getElem_mem _)⟩
theorem Vec.drew {w : World} {A : Option Addr} {n : Nat} {l : List Int} (h : Vec w A n l) (d : Nat) : Vec (w.drewN d) A n l := by
  refine ⟨?_, h.2⟩
  have e : (w.drewN d).heap = w.heap := by simp
  rw [e]
  exact h.1.keep fun p _ => by simp
theorem vbelow_drewN {B : Nat} {w w' : World} (h : Below B w w') (d : Nat) : Below B w (w'.drewN d) := by
  induction d with
  | zero => exact h
  | succ d ih => exact ih.drew

theorem check_any (A : Option Addr) (n c : Nat) (l : List Int) (dim : Int) (w : World) (h : Vec w A n l) (hn : n ≤ maxLen) :
    Calls Try.prog 40 #[.slice A n c, .int .i64 dim] w fun e w' => e = .returned (.int .i64 (Vm.chk l dim)) ∧ w = w' := by
  unfold maxLen at hn
  have HL := Lib.hid h.length
  by_cases g : dim < 1 ∨ 1024 < dim
  · have e := Lib.hid (Vm.chk_range (l := l) g)
    rcases (show dim < 1 ∨ (1 ≤ dim ∧ 1024 < dim) from by omega) with g' | ⟨g', g''⟩
    all_goals
      clear g h
      go_enter Try.func40, Try.ntmps40
      go_wp2
      go_ret
      exact ⟨ret_int e.out.symm, rfl⟩
  have d0 : 1 ≤ dim := by omega
  have d1 : dim ≤ 1024 := by omega
  by_cases g2 : (n : Int) = dim
  · subst g2
    have H := Lib.hid h
    clear h g
    have G := Lib.hid (show ¬ ((n : Int) < 1 ∨ 1024 < (n : Int)) from by omega)
    go_enter Try.func40, Try.ntmps40
    go_wp2
    go_loop [17] (fun i => ∃ k : Nat, k ≤ n ∧ i = .int .i64 k ∧ ∀ x ∈ l.take k, Vm.good x) (fun i => n - (intOf i).toNat)
    case atStart => exact ⟨0, Nat.zero_le _, rfl, by simp⟩
    case round =>
      obtain ⟨k, hk, rfl, hgood⟩ := hrel
      have HG := Lib.hid hgood
      clear hgood
      by_cases hlt : k < n
      · have hkl : k < l.length := by rw [HL.out]; exact hlt
        obtain ⟨b, off, rfl, hb, hc, x0, x1⟩ := H.out.at_ hlt hkl
        have HM := Lib.hid (List.getElem_mem hkl)
        have HT := Lib.hid (List.take_succ_eq_append_getElem hkl)
        obtain ⟨x, hx⟩ : ∃ x, x = l[k] := ⟨_, rfl⟩
        rw [← hx] at hc HM HT x0 x1
        clear hx
        by_cases q : x < -1048576
        · have e := Lib.hid (Vm.chk_bad (l := l) G.out (by rw [HL.out]) (fun hall => by have := hall x HM.out; unfold Vm.good at this; omega))
          go_wp2
          go_ret
          exact ⟨ret_int e.out.symm, rfl⟩
        · by_cases q2 : 1048576 < x
          · have e := Lib.hid (Vm.chk_bad (l := l) G.out (by rw [HL.out]) (fun hall => by have := hall x HM.out; unfold Vm.good at this; omega))
            go_wp2
            go_ret
            exact ⟨ret_int e.out.symm, rfl⟩
          · go_wp2
            go_round
            case rel => exact ⟨k + 1, by omega, by go_num, by rw [HT.out]; intro y hy; rcases List.mem_append.1 hy with hy | hy; exact HG.out y hy; rw [List.mem_singleton.1 hy]; unfold Vm.good; omega⟩
            case measure => simp [intOf]; omega
      · have e := Lib.hid (Vm.chk_good (l := l) (dim := (n : Int)) G.out (by rw [HL.out]) (fun x hx => HG.out x (by rw [List.take_of_length_le (by rw [HL.out]; omega)]; exact hx)))
        go_wp2
        go_ret
        exact ⟨ret_int e.out.symm, rfl⟩
  · have e := Lib.hid (Vm.chk_dim (l := l) g (by rw [HL.out]; exact g2))
    have g3 : ((n : Int) != dim) = true := by simpa using g2
    clear g g2 h
    go_enter Try.func40, Try.ntmps40
    go_wp2
    go_ret
    exact ⟨ret_int e.out.symm, rfl⟩
theorem dot_q (A B : Option Addr) (n m c d : Nat) (l r : List Int) (w : World) (h : Vec w A n l) (h' : Vec w B m r) (hn : n ≤ 10000) (_hm : m ≤ 10000) :
    Calls Try.prog 67 #[.slice A n c, .slice B m d] w fun e w' => e = .returned (.int .i64 (Vm.dot l r)) ∧ ∃ d, w' = w.drewN d := by
  have HL := Lib.hid h.length
  have HR := Lib.hid h'.length
  have H := Lib.hid h
  have H' := Lib.hid h'
  clear h h'
  obtain ⟨N, hN⟩ : ∃ N, N = min n m := ⟨_, rfl⟩
  have n0 : N ≤ n := by omega
  have n1 : N ≤ m := by omega
  have HB : Hid (N = Vm.both l r) := by show N = Vm.both l r; unfold Vm.both; rw [HL.out, HR.out, hN]
  go_enter Try.func67, Try.ntmps67
  go_wp2_with fail
  refine (shared_any A B n m c d _).mono ?_
  rintro e w1 ⟨rfl, rfl⟩
  rw [← hN]
  clear hN
  go_wp2
  go_loopw [5, 10] (fun s i wr => ∃ k : Nat, k ≤ N ∧ i = .int .i64 k ∧ s = .int .i64 (Vm.dot (l.take k) (r.take k)) ∧ ∃ d, wr = w.drewN d) (fun _ i _ => N - (intOf i).toNat)
  case atStart => exact ⟨0, Nat.zero_le _, rfl, by rw [Vm.dot_none], 0, rfl⟩
  case round =>
    obtain ⟨k, hk, rfl, rfl, hd⟩ := hrel
    have HD := Lib.hid hd
    by_cases hlt : k < N
    · have hkl : k < l.length := by rw [HL.out]; omega
      have hkr : k < r.length := by rw [HR.out]; omega
      obtain ⟨b, off, rfl, hb, hc, x0, x1⟩ := H.out.at_ (k := k) (by omega) hkl
      obtain ⟨b', off', rfl, hb', hc', y0, y1⟩ := H'.out.at_ (k := k) (by omega) hkr
      have hc2 : wr.cell? ⟨b, off + k, none⟩ = some (.int .i32 l[k]) := by obtain ⟨d, rfl⟩ := hd; exact hc
      have hc3 : wr.cell? ⟨b', off' + k, none⟩ = some (.int .i32 r[k]) := by obtain ⟨d, rfl⟩ := hd; exact hc'
      have HS := Lib.hid (Vm.dot_snoc k l r hkl hkr)
      have s0 := Vm.dot_lo (l.take k) (r.take k)
      have s1 := Vm.dot_hi (l.take k) (r.take k)
      obtain ⟨x, hx⟩ : ∃ x, x = l[k] := ⟨_, rfl⟩
      obtain ⟨y, hy⟩ : ∃ y, y = r[k] := ⟨_, rfl⟩
      obtain ⟨s, hs⟩ : ∃ s, s = Vm.dot (l.take k) (r.take k) := ⟨_, rfl⟩
      rw [← hx] at hc2 x0 x1 HS
      rw [← hy] at hc3 y0 y1 HS
      rw [← hs] at s0 s1 HS
      rw [← hs]
      have hp := Vm.mul_bound (a := 2147483648) (x := x) (y := y) (by omega) (by omega) (by omega) (by omega)
      obtain ⟨p0, p1⟩ := hp
      clear hx hy hs hc hc' hd
      go_wp2
      go_quiet (fail)
      go_wp2
      go_roundw
      case rel => exact ⟨k + 1, by omega, by go_num, by rw [HS.out], by obtain ⟨d, hd⟩ := HD.out; exact ⟨d + nq, by rw [hd, World.drewN_drewN]⟩⟩
      case measure => simp [intOf]; omega
    · have e : Hid (Vm.dot (l.take k) (r.take k) = Vm.dot l r) := by
        show Vm.dot (l.take k) (r.take k) = Vm.dot l r
        rw [show k = Vm.both l r from by rw [← HB.out]; omega, Vm.dot_both]
      have hb := Lib.hid hd
      clear hd
      go_wp2
      go_ret
      exact ⟨ret_int e.out, hb.out⟩
theorem dot_any (A B : Option Addr) (n m c d : Nat) (l r : List Int) (w : World) (h : Vec w A n l) (h' : Vec w B m r) (hn : n ≤ 10000) (hm : m ≤ 10000) :
    Calls Try.prog 67 #[.slice A n c, .slice B m d] w fun e w' => e = .returned (.int .i64 (Vm.dot l r)) ∧ Below w.heap.size w w' :=
  (dot_q A B n m c d l r w h h' hn hm).mono fun _ _ ⟨h1, d, h2⟩ => ⟨h1, by rw [h2]; exact vbelow_drewN (Below.refl _ _) d⟩
theorem refDot_q (A B : Option Addr) (n m c d : Nat) (l r : List Int) (w : World) (h : Vec w A n l) (h' : Vec w B m r) (hn : n ≤ 10000) (_hm : m ≤ 10000) :
    Calls Try.prog 62 #[.slice A n c, .slice B m d] w fun e w' => e = .returned (.int .i64 (Vm.dot l r)) ∧ ∃ d, w' = w.drewN d := by
  have HL := Lib.hid h.length
  have HR := Lib.hid h'.length
  have H := Lib.hid h
  have H' := Lib.hid h'
  clear h h'
  obtain ⟨N, hN⟩ : ∃ N, N = min n m := ⟨_, rfl⟩
  have n0 : N ≤ n := by omega
  have n1 : N ≤ m := by omega
  have HB : Hid (N = Vm.both l r) := by show N = Vm.both l r; unfold Vm.both; rw [HL.out, HR.out, hN]
  have HN := Lib.hid hN
  clear hN
  go_enter Try.func62, Try.ntmps62
  go_wp2
  go_loopw [5, 6] (fun s i wr => ∃ k : Nat, k ≤ N ∧ i = .int .i64 k ∧ s = .int .i64 (Vm.dot (l.take k) (r.take k)) ∧ ∃ d, wr = w.drewN d) (fun _ i _ => N - (intOf i).toNat)
  case atStart => exact ⟨0, Nat.zero_le _, rfl, by rw [Vm.dot_none], 0, rfl⟩
  case round =>
    obtain ⟨k, hk, rfl, rfl, hd⟩ := hrel
    have HD := Lib.hid hd
    by_cases hlt : k < N
    · have hkl : k < l.length := by rw [HL.out]; omega
      have hkr : k < r.length := by rw [HR.out]; omega
      obtain ⟨b, off, rfl, hb, hc, x0, x1⟩ := H.out.at_ (k := k) (by omega) hkl
      obtain ⟨b', off', rfl, hb', hc', y0, y1⟩ := H'.out.at_ (k := k) (by omega) hkr
      have hc2 : wr.cell? ⟨b, off + k, none⟩ = some (.int .i32 l[k]) := by obtain ⟨d, rfl⟩ := hd; exact hc
      have hc3 : wr.cell? ⟨b', off' + k, none⟩ = some (.int .i32 r[k]) := by obtain ⟨d, rfl⟩ := hd; exact hc'
      have HS := Lib.hid (Vm.dot_snoc k l r hkl hkr)
      have s0 := Vm.dot_lo (l.take k) (r.take k)
      have s1 := Vm.dot_hi (l.take k) (r.take k)
      obtain ⟨x, hx⟩ : ∃ x, x = l[k] := ⟨_, rfl⟩
      obtain ⟨y, hy⟩ : ∃ y, y = r[k] := ⟨_, rfl⟩
      obtain ⟨s, hs⟩ : ∃ s, s = Vm.dot (l.take k) (r.take k) := ⟨_, rfl⟩
      rw [← hx] at hc2 x0 x1 HS
      rw [← hy] at hc3 y0 y1 HS
      rw [← hs] at s0 s1 HS
      rw [← hs]
      obtain ⟨p0, p1⟩ := Vm.mul_bound (a := 2147483648) (x := x) (y := y) (by omega) (by omega) (by omega) (by omega)
      clear hx hy hs hc hc' hd
      go_wp2
      go_quiet (fail)
      go_wp2
      go_roundw
      case rel => exact ⟨k + 1, by omega, by go_num, by rw [HS.out], by obtain ⟨d, hd⟩ := HD.out; exact ⟨d + nq, by rw [hd, World.drewN_drewN]⟩⟩
      case measure => simp [intOf]; omega
    · have e : Hid (Vm.dot (l.take k) (r.take k) = Vm.dot l r) := by
        show Vm.dot (l.take k) (r.take k) = Vm.dot l r
        rw [show k = Vm.both l r from by rw [← HB.out]; omega, Vm.dot_both]
      have hb := Lib.hid hd
      clear hd
      rcases (show (k < n ∧ ¬ k < m) ∨ ¬ k < n from by have := HN.out; omega) with ⟨q, q2⟩ | q
      all_goals
        go_wp2
        go_ret
        exact ⟨ret_int e.out, hb.out⟩
theorem refDot_any (A B : Option Addr) (n m c d : Nat) (l r : List Int) (w : World) (h : Vec w A n l) (h' : Vec w B m r) (hn : n ≤ 10000) (hm : m ≤ 10000) :
    Calls Try.prog 62 #[.slice A n c, .slice B m d] w fun e w' => e = .returned (.int .i64 (Vm.dot l r)) ∧ Below w.heap.size w w' :=
  (refDot_q A B n m c d l r w h h' hn hm).mono fun _ _ ⟨h1, d, h2⟩ => ⟨h1, by rw [h2]; exact vbelow_drewN (Below.refl _ _) d⟩
theorem refSame_q (A B : Option Addr) (n m c d : Nat) (l r : List Int) (w : World) (h : Vec w A n l) (h' : Vec w B m r) (hn : n ≤ 10000) (hm : m ≤ 10000) :
    Calls Try.prog 35 #[.slice A n c, .slice B m d] w fun e w' => e = .returned (.bool (decide (l = r))) ∧ ∃ d, w' = w.drewN d := by
  have HL := Lib.hid h.length
  have HR := Lib.hid h'.length
  by_cases g : n = m
  · subst g
    have H := Lib.hid h
    have H' := Lib.hid h'
    clear h h' hm
    go_enter Try.func35, Try.ntmps35
    go_wp2
    go_loopw [5] (fun i wr => ∃ k : Nat, k ≤ n ∧ i = .int .i64 k ∧ l.take k = r.take k ∧ ∃ d, wr = w.drewN d) (fun i _ => n - (intOf i).toNat)
    case atStart => exact ⟨0, Nat.zero_le _, rfl, by simp, 0, rfl⟩
    case round =>
      obtain ⟨k, hk, rfl, ht, hd⟩ := hrel
      have HD := Lib.hid hd
      have HT := Lib.hid ht
      clear ht
      by_cases hlt : k < n
      · have hkl : k < l.length := by rw [HL.out]; omega
        have hkr : k < r.length := by rw [HR.out]; omega
        obtain ⟨b, off, rfl, hb, hc, x0, x1⟩ := H.out.at_ (k := k) (by omega) hkl
        obtain ⟨b', off', rfl, hb', hc', y0, y1⟩ := H'.out.at_ (k := k) (by omega) hkr
        have hc2 : wr.cell? ⟨b, off + k, none⟩ = some (.int .i32 l[k]) := by obtain ⟨d, rfl⟩ := hd; exact hc
        have hc3 : wr.cell? ⟨b', off' + k, none⟩ = some (.int .i32 r[k]) := by obtain ⟨d, rfl⟩ := hd; exact hc'
        have HS := Lib.hid (List.take_succ_eq_append_getElem hkl)
        have HS' := Lib.hid (List.take_succ_eq_append_getElem hkr)
        have HE := Lib.hid (show l = r → l[k] = r[k] from fun e => by subst e; rfl)
        obtain ⟨x, hx⟩ : ∃ x, x = l[k] := ⟨_, rfl⟩
        obtain ⟨y, hy⟩ : ∃ y, y = r[k] := ⟨_, rfl⟩
        rw [← hx] at hc2 x0 x1 HS HE
        rw [← hy] at hc3 y0 y1 HS' HE
        clear hx hy hc hc' hd
        by_cases q : x = y
        · subst q
          go_wp2
          go_quiet (fail)
          go_wp2
          go_roundw
          case rel => exact ⟨k + 1, by omega, by go_num, by rw [HS.out, HS'.out, HT.out], by obtain ⟨d, hd⟩ := HD.out; exact ⟨d + nq, by rw [hd, World.drewN_drewN]⟩⟩
          case measure => simp [intOf]; omega
        · have e := Lib.hid (show false = decide (l = r) from by simp; exact fun e => q (HE.out e))
          have q' : (x != y) = true := by simpa using q
          clear q
          go_wp2
          go_quiet (fail)
          go_wp2
          go_ret
          exact ⟨ret_bool e.out, by obtain ⟨d, hd⟩ := HD.out; exact ⟨d + nq, by rw [hd, World.drewN_drewN]⟩⟩
      · have e := Lib.hid (show true = decide (l = r) from by
          have h := HT.out
          rw [List.take_of_length_le (by rw [HL.out]; omega), List.take_of_length_le (by rw [HR.out]; omega)] at h
          simp [h])
        clear hd
        go_wp2
        go_ret
        exact ⟨ret_bool e.out, HD.out⟩
  · have e := Lib.hid (show false = decide (l = r) from by simp; exact fun e => g (by rw [← HL.out, ← HR.out, e]))
    have g3 : ((n : Int) != (m : Int)) = true := by simp; omega
    clear g h h'
    go_enter Try.func35, Try.ntmps35
    go_wp2
    go_ret
    exact ⟨ret_bool e.out, 0, rfl⟩
theorem refSame_any (A B : Option Addr) (n m c d : Nat) (l r : List Int) (w : World) (h : Vec w A n l) (h' : Vec w B m r) (hn : n ≤ 10000) (hm : m ≤ 10000) :
    Calls Try.prog 35 #[.slice A n c, .slice B m d] w fun e w' => e = .returned (.bool (decide (l = r))) ∧ Below w.heap.size w w' :=
  (refSame_q A B n m c d l r w h h' hn hm).mono fun _ _ ⟨h1, d, h2⟩ => ⟨h1, by rw [h2]; exact vbelow_drewN (Below.refl _ _) d⟩
end Go.Proofs.Ytafkbagjjknhlaa
