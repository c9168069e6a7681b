/-
  MarksOrder: in whatever order ids are met, and how often, the same are marked; each list that covers is all of them, rising. No condition but that the table math/bits.deBruijn64tab holds what its initialiser lays, which the card ties to the program's text.
-/
import Derived.Test.YthjpjeflgnkgpaaDoorNAwk
import Derived.Test.YthjpjeflgnkgpaaDoorNGat
import Derived.Test.YthjpjeflgnkgpaaDoorNRef
import Derived.Test.YthjpjeflgnkgpaaDoorCards
import Derived.Test.YthjpjeflgnkgpaaDoorTie
import Derived.Lib.SmallJoins
import Derived.Lib.LaidTab
import Derived.ProofKit
import Derived.LaidMore
import Derived.OpenShut
import Derived.ShutString
import Derived.ChangeOld
import Derived.WalkSmall
import Derived.Stop.Joined
import Derived.SevenTiedAt
namespace Go.Proofs.YthjpjeflgnkgpaaDoor
open Go.RowKit Go.Joins Go.ChangeShapes Go.WideShapes Go.Deep Go.Shelf
namespace marksOrder

/-! ### which are met -/
theorem add_mem (n : Int) (L : List Int) (x y : Int) : y ∈ Nm.add n L x ↔ y ∈ L ∨ (y = x ∧ 0 ≤ x ∧ x < n) := by
  unfold Nm.add
  by_cases h : 0 ≤ x ∧ x < n ∧ x ∉ L
  · rw [if_pos h, List.mem_append, List.mem_singleton]
    constructor
    · rintro (q | rfl)
      · exact .inl q
      · exact .inr ⟨rfl, h.1, h.2.1⟩
    · rintro (q | q)
      · exact .inl q
      · exact .inr q.1
  · rw [if_neg h]
    constructor
    · exact .inl
    · rintro (q | ⟨rfl, h1, h2⟩)
      · exact q
      · exact Classical.not_not.1 fun q => h ⟨h1, h2, q⟩
/-- those of l that are met -/
def Met (n : Int) (l L : List Int) : Prop := ∀ y, y ∈ L ↔ y ∈ l ∧ 0 ≤ y ∧ y < n
theorem Met.nil (n : Int) : Met n [] [] := fun y => by simp
theorem Met.step {n : Int} {l L : List Int} {i : Nat} {x : Int} (h : Met n (l.take i) L) (hx : l[i]? = some x) : Met n (l.take (i + 1)) (Nm.add n L x) := fun y => by
  rw [add_mem, h y, List.take_add_one, hx, List.mem_append]
  simp only [Option.toList, List.mem_singleton]
  constructor
  · rintro (⟨q, q2⟩ | ⟨rfl, q⟩)
    · exact ⟨.inl q, q2⟩
    · exact ⟨.inr rfl, q⟩
  · rintro ⟨q | rfl, q2⟩
    · exact .inl ⟨q, q2⟩
    · exact .inr ⟨rfl, q2⟩
theorem met_same {n : Int} {l L1 L2 : List Int} {k : Nat} (h1 : Met n l L1) (h2 : Met n (l.drop k ++ l) L2) : Nm.uq L1 = Nm.uq L2 := (Nm.uq_ri L1).ext (Nm.uq_ri L2) fun y => by
  rw [Nm.uq_mem, Nm.uq_mem, h1 y, h2 y, List.mem_append]
  constructor
  · rintro ⟨q, q2⟩; exact ⟨.inr q, q2⟩
  · rintro ⟨q | q, q2⟩
    · exact ⟨List.mem_of_mem_drop q, q2⟩
    · exact ⟨q, q2⟩
theorem uq_length {L : List Int} (h : L.Nodup) : (Nm.uq L).length = L.length := ((List.perm_ext_iff_of_nodup (Nm.uq_ri L).nodup h).2 fun x => Nm.uq_mem L x).length_eq
theorem uq_ids {n : Int} {L : List Int} (h : Nm.Ids n L) : Nm.Ids n (Nm.uq L) := ⟨(Nm.uq_ri L).nodup, fun x hx => h.in_ x ((Nm.uq_mem L x).1 hx)⟩

/-- two sets, (s1, b1) and (s2, b2), that have met L1 and L2, and a row of one's own behind them; all made since w -/
structure Sto (w : World) (s1 b1 s2 b2 m D : Nat) (v : Value) (k : Nat) (xs : List Value) (L1 L2 : List Int) (W : World) : Prop where
  one : Mk W s1 b1 m L1
  two : Mk W s2 b2 m L2
  row : W.ownsRow D 3 1 v k xs
  be : Below w.heap.size w W
section
variable {w W W' : World} {s1 b1 s2 b2 m D k : Nat} {v : Value} {xs : List Value} {L1 L2 : List Int} {x : Int}
theorem Sto.below (h : Sto w s1 b1 s2 b2 m D v k xs L1 L2 W) (hb : Below W.heap.size W W') : Sto w s1 b1 s2 b2 m D v k xs L1 L2 W' := ⟨h.one.below hb, h.two.below hb, own_below h.row hb, h.be.trans (hb.mono h.be.size)⟩
theorem row_kept {S : Nat → Prop} {B : Nat} {e : TypeId} {n : Nat} (h : W.ownsRow B e 1 v n xs) (hk : Kept S W W') (hS : ∀ j, S j → j < B) : W'.ownsRow B e 1 v n xs := by
  refine ⟨h.1, ?_⟩
  rcases h.2 with h0 | ⟨g, cap, cur, hv, hg, hb, hr⟩
  · exact .inl h0
  · exact .inr ⟨g, cap, cur, hv, hg, (hk.block g (lt_of_block hb) (fun q => by have := hS g q; omega)).trans hb, hr⟩
theorem Sto.add1 (h : Sto w s1 b1 s2 b2 m D v k xs L1 L2 W) (hw : w.heap.size ≤ s1 ∧ w.heap.size ≤ b1) (h12 : s1 < s2 ∧ s1 < b2 ∧ b1 < s2 ∧ b1 < b2) (hD : s2 < D ∧ b2 < D) :
    Calls Tryd.prog 10 #[.pointer (some ⟨s1, 0, none⟩), .int .i64 x] W fun e W' => (∃ q, e = .returned (.bool q)) ∧ Sto w s1 b1 s2 b2 m D v k xs (Nm.add m L1 x) L2 W' := by
  refine (addS s1 b1 m L1 x W h.one).mono ?_
  rintro e W' ⟨he, h1, h2⟩
  exact ⟨⟨_, he⟩, h1, h.two.other h2 (by omega) (by omega), row_kept h.row h2 fun j hj => by omega, h.be.trans (h2.old h.be.size fun j hj => by omega)⟩
theorem Sto.add2 (h : Sto w s1 b1 s2 b2 m D v k xs L1 L2 W) (hw : w.heap.size ≤ s1 ∧ w.heap.size ≤ b1) (h12 : s1 < s2 ∧ s1 < b2 ∧ b1 < s2 ∧ b1 < b2) (hD : s2 < D ∧ b2 < D) :
    Calls Tryd.prog 10 #[.pointer (some ⟨s2, 0, none⟩), .int .i64 x] W fun e W' => (∃ q, e = .returned (.bool q)) ∧ Sto w s1 b1 s2 b2 m D v k xs L1 (Nm.add m L2 x) W' := by
  refine (addS s2 b2 m L2 x W h.two).mono ?_
  rintro e W' ⟨he, h1, h2⟩
  exact ⟨⟨_, he⟩, h.one.other h2 (by omega) (by omega), h1, row_kept h.row h2 fun j hj => by omega, h.be.trans (h2.old h.be.size fun j hj => by omega)⟩
end
theorem Ls.one {W : World} {g n c : Nat} {A : Option Addr} {l : List Int} (h : W.heap[g]? = some (.cells #[.slice A n c] 22 (0, 0))) (hs : Sl W A n c l) : Ls W (some ⟨g, 0, none⟩) 1 1 [l] := by
  refine ⟨rfl, Nat.le_refl _, fun h => (by cases h), fun k l' hl => ?_⟩
  obtain ⟨rfl, rfl⟩ : k = 0 ∧ l' = l := by
    rcases k with _ | k
    · exact ⟨rfl, by simpa using hl.symm⟩
    · simp at hl
  exact ⟨g, 0, rfl, lt_of_block h, A, n, c, by rw [cell_of_row _ _ _ _ _ _ h]; rfl, hs⟩

theorem lst_from {W : World} {A AS : Option Addr} {n c t : Nat} {l : List Int} (h : Sl W A n c l) (ht : t ≤ n) (hA : (if c = t then A else Option.map (fun x => x.add t) A) = AS) : Lst W W.heap.size AS (n - t) (ci (l.drop t)) ∧ (AS = none → c - t = 0) := by
  have hl := h.length
  have hc := h.cap
  subst hA
  constructor
  · rcases Nat.eq_zero_or_pos (n - t) with h0 | h0
    · rw [h0, List.drop_eq_nil_of_le (by omega)]
      exact Lst.nil _ _ _
    · obtain ⟨b, off, e, hb, hcell⟩ := h.lst.2 (by omega)
      subst e
      have := lst_cut h.lst (k := t) (c := c) (by omega) hc
      rw [if_neg (by omega)] at this ⊢
      simpa [Addr.add_lit] using this
  · intro e
    cases hA : A with
    | none => have := h.nil hA; omega
    | some x =>
      rw [hA] at e
      split at e <;> simp at e

set_option maxHeartbeats 1600000 in
set_option maxRecDepth 100000 in
theorem walk (a : Int) (a0 : Option Addr) (len0 cap0 : Nat) (z0 : List Int) (b : Int) (w : World) (wa : (Lit.int .i64 a).wf = true) (w0 : IsRow .i64 w a0 len0 cap0 z0) (wb : (Lit.int .i64 b).wf = true) (hT : TabAt 0 Lib.deBruijn64tab w) :
    Calls Tryd.prog 5 #[.int .i64 a, .slice a0 len0 cap0, .int .i64 b] w fun e w' => e = .returned (.bool true) ∧ Below w.heap.size w w' := by
  obtain ⟨i0, hi, hz0, hz1, hz2⟩ := info_parts Tryd.infoI
  have hV := Sl.of_row w0
  obtain ⟨l, hl⟩ : ∃ l, z0.take len0 = l := ⟨_, rfl⟩
  rw [hl] at hV
  have V := Lib.hid hV
  have HT := Lib.hid hT
  clear w0 wa wb hl hV hT
  go_enter Tryd.func5, Tryd.ntmps5
  go_wp2_with fail
  refine (awake_any _).mono ?_
  rintro _ W1 ⟨rfl, b1⟩
  have B1 := Lib.hid b1
  clear b1
  by_cases g0 : a < 0
  · have d0 : decide (a < 0) = true := decide_eq_true g0
    go_wp2
    go_ret
    exact ⟨rfl, B1.out⟩
  have d0 : decide (a < 0) = false := decide_eq_false g0
  by_cases g1 : 2000 < a
  · have d1 : decide (2000 < a) = true := decide_eq_true g1
    go_wp2
    go_ret
    exact ⟨rfl, B1.out⟩
  have d1 : decide (2000 < a) = false := decide_eq_false g1
  by_cases g2 : 200 < len0
  · have d2 : decide (200 < (len0 : Int)) = true := by simp; omega
    go_wp2
    go_ret
    exact ⟨rfl, B1.out⟩
  have d2 : decide (200 < (len0 : Int)) = false := by simp; omega
  by_cases g3 : b < 0
  · have d3 : decide (b < 0) = true := decide_eq_true g3
    go_wp2
    go_ret
    exact ⟨rfl, B1.out⟩
  have d3 : decide (b < 0) = false := decide_eq_false g3
  by_cases g4 : (len0 : Int) < b
  · have d4 : decide ((len0 : Int) < b) = true := decide_eq_true g4
    go_wp2
    go_ret
    exact ⟨rfl, B1.out⟩
  have d4 : decide ((len0 : Int) < b) = false := decide_eq_false g4
  obtain ⟨m, rfl⟩ : ∃ m : Nat, a = (m : Int) := ⟨a.toNat, by omega⟩
  obtain ⟨t, rfl⟩ : ∃ t : Nat, b = (t : Int) := ⟨b.toNat, by omega⟩
  have n0 : len0 ≤ 200 := by omega
  have m0 : m ≤ 2000 := by omega
  have ht : t ≤ len0 := by omega
  clear g0 g1 g2 g3 g4
  have hn1 := newS (m : Int) (by omega)
  rw [Int.toNat_natCast] at hn1
  have HN := Lib.hid hn1
  clear hn1
  go_wp2_with fail
  refine (HN.out _).mono ?_
  rintro _ W2 ⟨s1, b1, rfl, h2, hs2, hb2, bl2⟩
  have M2 := Lib.hid h2
  have B2 := Lib.hid (B1.out.trans (bl2.mono B1.out.size))
  have lt1 := h2.lts
  have lt2 := h2.ltb
  clear h2 bl2
  go_wp2_with fail
  refine (HN.out _).mono ?_
  rintro _ W3 ⟨s2, b2, rfl, h3, hs3, hb3, bl3⟩
  have M3 := Lib.hid (M2.out.below bl3)
  have N3 := Lib.hid h3
  have B3 := Lib.hid (B2.out.trans (bl3.mono B2.out.size))
  have lt3 := h3.lts
  have lt4 := h3.ltb
  have sz1 := B1.out.size
  clear h3 bl3
  have Ba := Lib.hid (show Below W3.heap.size W3 (W3.alloc (.cells #[] 3)) from (Below.refl _ W3).alloc (Nat.le_refl _) _)
  have Oa := Lib.hid (show (W3.alloc (.cells #[] 3)).ownsRow W3.heap.size 3 1 (.slice (some ⟨W3.heap.size, 0, none⟩) 0 0) 0 [] from own_none (heap_alloc_new W3 _) (Nat.le_refl _))
  have V3 := Lib.hid (V.out.below B3.out)
  have k1 : (0 : Int) ≤ (t : Int) := by omega
  have k2 : (t : Int) ≤ (len0 : Int) := by omega
  obtain ⟨AS, hAS⟩ : ∃ AS, (if cap0 = t then a0 else Option.map (fun x => x.add t) a0) = AS := ⟨_, rfl⟩
  have HLS := Lib.hid (lst_from V3.out ht hAS)
  go_wp2_with (first
    | (at_builtin; refine append_lst _ rfl (.tmp 47) (.tmp 50) 22 rfl W3.heap.size 3 i0 (.int .i64 0) 8 Tryd.underlying22 hi hz0 hz1 hz2 rfl (.slice (some ⟨W3.heap.size, 0, none⟩) 0 0) 0 [] rfl Oa.out W3.heap.size AS (len0 - t) (cap0 - t) (ci (l.drop t)) rfl HLS.out.2 (HLS.out.1.below Ba.out) (ints_one .i64 _) (by unfold maxLen; omega) (by omega) Ba.out.size ?_; intro v1 w2 q1 q2; rw [Nat.zero_add, List.nil_append] at q1; have O2 := Lib.hid q1; have B4 := Lib.hid (Ba.out.grown q2 Ba.out.size (own_block Oa.out)); clear q1 q2)
    | (at_builtin; refine append_lst _ rfl (.tmp 51) (.tmp 52) 22 rfl W3.heap.size 3 i0 (.int .i64 0) 8 Tryd.underlying22 hi hz0 hz1 hz2 rfl v1 (len0 - t) (ci (l.drop t)) rfl O2.out W3.heap.size a0 len0 cap0 (ci l) rfl V3.out.nil (V3.out.lst.below B4.out) (ints_one .i64 _) (by unfold maxLen; omega) (by omega) B4.out.size ?_; intro v2 w3 q1 q2; have O3 := Lib.hid q1; have B5 := Lib.hid (B4.out.grown q2 B4.out.size (own_block O2.out)); clear q1 q2))
  obtain ⟨N, hN⟩ : ∃ N, len0 - t + len0 = N := ⟨_, rfl⟩
  have hN4 : N ≤ 400 := by omega
  rw [hN] at O3
  obtain ⟨AM, cM, rfl, -, -⟩ := own_form O3.out
  obtain ⟨ml, hml⟩ : ∃ ml, ml = l.drop t ++ l := ⟨_, rfl⟩
  have HML := Lib.hid hml
  have hrow : w3.ownsRow W3.heap.size 3 1 (.slice AM N cM) N (ci ml) := by rw [hml, ← ci_app]; exact O3.out
  have HS0 := Lib.hid (show Sto w s1 b1 s2 b2 m W3.heap.size (.slice AM N cM) N (ci ml) [] [] w3 from ⟨M3.out.below B5.out, N3.out.below B5.out, hrow, B3.out.trans (B5.out.mono B3.out.size)⟩)
  have hw : w.heap.size ≤ s1 ∧ w.heap.size ≤ b1 := by omega
  have h12 : s1 < s2 ∧ s1 < b2 ∧ b1 < s2 ∧ b1 < b2 := by omega
  have hD : s2 < W3.heap.size ∧ b2 < W3.heap.size := by omega
  clear hml hrow O3 O2 B4 B5 HLS hAS Oa Ba
  go_loopw [10] (fun p wr => ∃ (i : Nat) (L : List Int), p = .int .i64 (i : Int) ∧ i ≤ len0 ∧ Met m (l.take i) L ∧ Sto w s1 b1 s2 b2 m W3.heap.size (.slice AM N cM) N (ci ml) L [] wr) (fun p _ => len0 - (Go.RowKit.intOf p).toNat)
  case atStart => exact ⟨0, [], rfl, Nat.zero_le _, Met.nil _, HS0.out⟩
  case round =>
    obtain ⟨i, L, rfl, hil, hmt, hst⟩ := hrel
    have HM := Lib.hid hmt
    have HS := Lib.hid hst
    clear hmt hst HS0
    by_cases hlt : i < len0
    · obtain ⟨x, hx⟩ := V.out.get hlt
      obtain ⟨bb, off, rfl, hbb, c0⟩ := V.out.at_ hx
      have c1 := (HS.out.be.cell (p := ⟨bb, off + i, none⟩) hbb).trans c0
      have HST := Lib.hid (HM.out.step hx)
      have HA := Lib.hid (HS.out.add1 (x := x) hw h12 hD)
      clear hx hbb c0
      go_wp2_with fail
      refine HA.out.mono ?_
      rintro _ W5 ⟨⟨q, rfl⟩, h5⟩
      have H5 := Lib.hid h5
      clear h5 HA c1 HS
      go_wp2
      go_roundw
      case rel => exact ⟨i + 1, _, congrArg (Value.int .i64) (by omega), by omega, HST.out, H5.out⟩
      case measure => simp [Go.RowKit.intOf]; omega
    · obtain rfl : i = len0 := by omega
      have hm1 := HM.out
      rw [List.take_of_length_le (by rw [V.out.length]; exact Nat.le_refl _)] at hm1
      have HM1 := Lib.hid hm1
      clear hm1 HM
      go_wp2
      go_loopw [11] (fun p ws => ∃ (j : Nat) (L2 : List Int), p = .int .i64 (j : Int) ∧ j ≤ N ∧ Met m (ml.take j) L2 ∧ Sto w s1 b1 s2 b2 m W3.heap.size (.slice AM N cM) N (ci ml) L L2 ws) (fun p _ => N - (Go.RowKit.intOf p).toNat)
      case atStart => exact ⟨0, [], rfl, Nat.zero_le _, Met.nil _, HS.out⟩
      case round =>
        obtain ⟨j, L2, rfl, hjN, hmt, hst⟩ := hrel
        have HM2 := Lib.hid hmt
        have HS2 := Lib.hid hst
        have HSM := Lib.hid (Sl.of_own hst.row)
        clear hmt hst HS
        by_cases hlt2 : j < N
        · obtain ⟨x, hx⟩ := HSM.out.get hlt2
          obtain ⟨bb, off, rfl, hbb, c1⟩ := HSM.out.at_ hx
          have HST := Lib.hid (HM2.out.step hx)
          have HA := Lib.hid (HS2.out.add2 (x := x) hw h12 hD)
          clear hx hbb
          go_wp2_with fail
          refine HA.out.mono ?_
          rintro _ W5 ⟨⟨q, rfl⟩, h5⟩
          have H5 := Lib.hid h5
          clear h5 HA c1 HS2 HSM
          go_wp2
          go_roundw
          case rel => exact ⟨j + 1, _, congrArg (Value.int .i64) (by omega), by omega, HST.out, H5.out⟩
          case measure => simp [Go.RowKit.intOf]; omega
        · obtain rfl : j = N := by omega
          have hm2 := HM2.out
          rw [List.take_of_length_le (by rw [HSM.out.length]; exact Nat.le_refl _), HML.out] at hm2
          have HM2 := Lib.hid hm2
          clear hm2
          have hu := met_same HM1.out HM2.out
          obtain ⟨LL, hLL⟩ : ∃ LL, LL = Nm.uq L := ⟨_, rfl⟩
          rw [← hLL] at hu
          have HLL := Lib.hid hLL
          have HU := Lib.hid hu.symm
          have hids := HS2.out.one.ids
          have hlen : LL.length = L.length := by rw [hLL]; exact uq_length hids.nd
          have HIDS := Lib.hid (show Nm.Ids (m : Int) LL by rw [hLL]; exact uq_ids hids)
          have hlm : LL.length ≤ 2000 := by rw [hlen]; have := hids.len; omega
          have HLEN := Lib.hid hlen
          clear hu hLL hids hlen
          have HT0 := Lib.hid (tab_below HT.out HS2.out.be)
          have HAL := Lib.hid (allS s1 b1 m L _ HS2.out.one)
          rw [← HLL.out] at HAL
          go_wp2_with fail
          refine HAL.out.mono ?_
          rintro _ W6 ⟨g1, g2, rfl, ha6, b6⟩
          have S6 := Lib.hid (HS2.out.below b6)
          have T6 := Lib.hid (tab_below HT0.out b6)
          have HC6 := Lib.hid (collA _ g1 g2 LL W6 ha6 T6.out (by omega))
          clear ha6 b6 HAL
          go_wp2_with fail
          refine HC6.out.mono ?_
          rintro _ W7 ⟨v7, rfl, o7, b7⟩
          obtain ⟨A7, c7, rfl, -, -⟩ := own_form o7
          have Q7 := Lib.hid (Sl.of_own o7)
          have S7 := Lib.hid (S6.out.below b7)
          have T7 := Lib.hid (tab_below T6.out b7)
          have HAL := Lib.hid (allS s2 b2 m L2 W7 S7.out.two)
          rw [HU.out] at HAL
          clear o7 b7 HC6
          go_wp2_with fail
          refine HAL.out.mono ?_
          rintro _ W8 ⟨g3, g4, rfl, ha8, b8⟩
          have S8 := Lib.hid (S7.out.below b8)
          have T8 := Lib.hid (tab_below T7.out b8)
          have Q8 := Lib.hid (Q7.out.below b8)
          have HC8 := Lib.hid (collA _ g3 g4 LL W8 ha8 T8.out (by omega))
          clear ha8 b8 HAL
          go_wp2_with fail
          refine HC8.out.mono ?_
          rintro _ W9 ⟨v9, rfl, o9, b9⟩
          obtain ⟨A9, c9, rfl, -, -⟩ := own_form o9
          have R9 := Lib.hid (Sl.of_own o9)
          have Q9 := Lib.hid (Q8.out.below b9)
          have S9 := Lib.hid (S8.out.below b9)
          have hll : LL.length ≤ 1000000 := by omega
          clear o9 b9 HC8 S8 T8 Q8 S7 T7 Q7 S6 T6 HT0
          go_wp2_with fail
          refine (refSame A7 A9 LL.length c7 LL.length c9 LL LL W9 Q9.out R9.out hll).mono ?_
          rintro _ W10 ⟨he, b10⟩
          rw [decide_eq_true rfl] at he
          subst he
          have S10 := Lib.hid (S9.out.below b10)
          have Q10 := Lib.hid (Q9.out.below b10)
          have HL := Lib.hid (lenS s1 b1 m L W10 S10.out.one)
          rw [← HLEN.out] at HL
          clear b10 S9 Q9 R9
          go_wp2_with fail
          refine HL.out.mono ?_
          rintro _ WA ⟨rfl, hWA⟩
          rw [hWA]
          clear hWA HL
          obtain ⟨n7, hn7⟩ : ∃ n7, LL.length = n7 := ⟨_, rfl⟩
          rw [hn7] at Q10 hll
          have HN7 := Lib.hid hn7
          obtain ⟨W11, hW11⟩ : ∃ W11, W11 = W10.alloc (.cells #[.slice A7 n7 c7] 22) := ⟨_, rfl⟩
          have b11 : Below W10.heap.size W10 W11 := by rw [hW11]; exact (Below.refl _ W10).alloc (Nat.le_refl _) _
          have h11 : W11.heap[W10.heap.size]? = some (.cells #[.slice A7 n7 c7] 22 (0, 0)) := by rw [hW11]; exact heap_new W10 _ _
          have L11 := Lib.hid (Ls.one h11 (Q10.out.below b11))
          have B11 := Lib.hid (S10.out.be.trans (b11.mono S10.out.be.size))
          have HW11 := Lib.hid hW11
          obtain ⟨β, hβ⟩ : ∃ β, ((n7 : Int) == (m : Int)) = β := ⟨_, rfl⟩
          have hcv : Nm.cov (m : Int) [LL].flatten = β := by
            rw [show [LL].flatten = LL from by simp, cov_all (n := (m : Int)) (by rw [Int.toNat_natCast]; exact HIDS.out), Int.toNat_natCast, hn7, ← hβ]
            exact Bool.eq_iff_iff.2 (by rw [decide_eq_true_iff, beq_iff_eq]; omega)
          have HCV := Lib.hid hcv
          rw [hn7]
          clear hW11 b11 h11 hn7 S10 Q10 hcv
          go_wp2_with fail
          rw [← HW11.out]
          refine (valsL _ 1 1 _).mono ?_
          rintro _ W12 ⟨rfl, hw12⟩
          have b12 : Below W11.heap.size W11 W12 := by rw [hw12]; exact (Below.refl _ W11).alloc (Nat.le_refl _) _
          have q12 : W12.heap[W11.heap.size]? = some (.cells #[.slice (some ⟨W10.heap.size, 0, none⟩) 1 1] 48 (0, 0)) := by rw [hw12]; exact heap_new W11 _ _
          have hc12 := coversL (m : Int) _ _ _ _ _ W12 (by omega) q12 (L11.out.below b12) (by omega) (by intro l' hl'; simp at hl'; subst hl'; rw [HN7.out]; omega)
          rw [HCV.out] at hc12
          have HC12 := Lib.hid hc12
          have B12 := Lib.hid (B11.out.trans (b12.mono B11.out.size))
          clear hw12 b12 q12 hc12
          go_wp2_with fail
          refine HC12.out.mono ?_
          rintro _ W13 ⟨rfl, b13⟩
          have B13 := Lib.hid (B12.out.trans (b13.mono B12.out.size))
          clear b13 HC12
          have e0 : (β == β) = true := by simp
          go_wp2
          go_ret
          exact ⟨rfl, B13.out⟩
theorem own : ownKnob Tryd.prog.godebug = none := by kernel_rfl
theorem laidOut : laidOutB Tryd.prog = true := by kernel_rfl
theorem gTab : Tryd.prog.globalNamed "math/bits.deBruijn64tab" = some 0 := by kernel_rfl
theorem gTabType : (Tryd.prog.globals[0]?).map (·.type) = some 66 := by kernel_rfl
abbrev laid1 : List (String × DataW Unit) := [("math/bits.deBruijn64tab", Rows.laid_math_bits_deBruijn64tab)]
theorem door_met (os : Os) (args : Array Value) : laidMetH Tryd.prog laid1 ((World.doorLaid Tryd.prog 400 os).forCall (fun _ _ => 0) ⟨#[], args, []⟩).memory :=
  laidMetH_of_parts3 (fuel := 8) (laidMet_of_run' 8 (by kernel_rfl) (by kernel_rfl)) (by kernel_rfl) (by kernel_rfl)
theorem of_laid {W : World} (h : laidMetH Tryd.prog laid1 W) : TabAt 0 Lib.deBruijn64tab W := by
  rw [MakeChecks.laidMetH_plain _ _ _ (by kernel_rfl)] at h
  have hL : laidMet Tryd.prog [("math/bits.deBruijn64tab", Lib.tabData (H := Unit) .u8 (Lib.deBruijn64tab.map Int.ofNat))] W := h
  have hT := Lib.tabIs_of_head gTab gTabType Tryd.underlying66 Tryd.underlying5 (by kernel_rfl) (by kernel_rfl) hL
  intro j hj
  have := hT.cell gTab j (by simpa using hj)
  rw [this]
  simp [List.getD_eq_getElem?_getD, hj]
set_option maxRecDepth 100000 in
theorem lifted (os : Os) (started : os.Started) (H : Type) (enc : TypeId × Value → H) :
    ReturnsInHanded {} Tryd.checked os 5 .any (fun w args => (Rows.marksOrderSpec.pre enc Tryd.prog Tryd.f5 [] false w args ∧ laidMetH Tryd.prog laid1 w) ∧ sizedMet enc Tryd.prog Tryd.f5 (OpenSpec.ofChange Rows.marksOrderSpec) false w args) (Rows.marksOrderSpec.post enc Tryd.prog Tryd.f5 false true false false) := by
  refine returnsInHanded_of_change_and (C := Tryd.checked) (X := fun w _ => laidMetH Tryd.prog laid1 w) (fun _ _ _ hh h => h.of_heap hh) own started (by kernel_rfl) Tryd.func5
    (ChangeSpec.witness_shaped (enc := enc) (C := Tryd.checked) (os := os) (X := fun w _ => laidMetH Tryd.prog laid1 w) false (World.doorLaid Tryd.prog 400 os) #[.int .i64 0, .slice none 0 0, .int .i64 0] 8 rfl (World.shaped_of_RefB (by kernel_rfl) (by kernel_rfl)) (by kernel_rfl) (by kernel_rfl) (by kernel_rfl) (door_met os _)) ?_
  intro W base args ds gs before hval0 hW _ _ hL _
  have hval : ∀ (j : Nat) t v, Tryd.f5.params[j]? = some t → args[j]? = some v → Value.okWide Tryd.prog W .any base t v := hval0
  have hW' := hW
  obtain ⟨p, q, hA0, hV, rfl, hfz, hnd⟩ := hW
  have hA : DataW.TrodAll enc Tryd.prog W 0 (fun _ => true) true Tryd.f5.params.toList args.toList ds p := hA0
  rw [Tryd.params5] at hA hval
  obtain ⟨v0, vs0, d0, ds0, p0, q0, hargs, rfl, rfl, h0, r0⟩ := trodAll_cons hA
  obtain ⟨v1, vs1, d1, ds1, p1, q1, rfl, rfl, rfl, h1, r1⟩ := trodAll_cons r0
  obtain ⟨v2, vs2, d2, ds2, p2, q2, rfl, rfl, rfl, h2, r2⟩ := trodAll_cons r1
  obtain ⟨rfl, rfl, rfl⟩ := trodAll_nil r2
  obtain rfl : args = #[v0, v1, v2] := by cases args; simp_all
  obtain ⟨rfl, rfl⟩ := trodVars_none hV
  obtain ⟨a0, rfl, rfl, rfl, w0⟩ := open_int Tryd.underlying3 (hval 0 3 v0 rfl rfl) h0
  obtain ⟨a1, len1, cap1, rfl⟩ := okWide_slice Tryd.underlying22 (hval 1 22 v1 rfl rfl)
  have k1 := h1
  have lt1 : ∀ x ∈ p1, x.block < W.heap.size := by obtain ⟨m, hm⟩ := k1; exact DataW.trod_lt m _ _ _ hm
  obtain ⟨z1, w1⟩ : ∃ zs, IsRow .i64 W a1 len1 cap1 zs := by
    obtain ⟨fuel, hf⟩ := h1
    rcases open_ints Tryd.underlying22 Tryd.underlying3 (by kernel_rfl) hf with ⟨hcs, _⟩ | ⟨x, l, c, zs, hcs, _, hl, hm, hz, _, hcell, hwz⟩
    · simp [Value.cells] at hcs
      obtain ⟨rfl, rfl, rfl⟩ := hcs
      exact ⟨[], .inl ⟨rfl, rfl, rfl, rfl⟩⟩
    · simp [Value.cells] at hcs
      obtain ⟨rfl, rfl, rfl⟩ := hcs
      exact ⟨zs, .inr ⟨_, rfl, hl, hm, by simpa using hz, hcell, hwz⟩⟩
  obtain ⟨a2, rfl, rfl, rfl, w2⟩ := open_int Tryd.underlying3 (hval 2 3 v2 rfl rfl) h2
  clear hA0 hval0
  refine (walk a0 a1 len1 cap1 z1 a2 W w0 w1 w2 (of_laid hL)).mono fun e W' ⟨he, bel⟩ => ?_
  subst he
  exact ⟨_, rfl, _, _, _, [], _, [], hW', trodAll_mk1 (shut_bool Tryd.underlying4 _), (trodAll_cons_mk (shut_int Tryd.underlying3 w0) (trodAll_cons_mk (Below.trod laidOut (by kernel_rfl) (of_decide_eq_true (by kernel_rfl)) k1 bel lt1) (trodAll_cons_mk (shut_int Tryd.underlying3 w2) trodAll_mk0))), rfl, bel.frame _, fun h => by cases h⟩
theorem over : Rows.marksOrderRow.holds Tryd.pinned (OpenSpec.ofChange Rows.marksOrderSpec) :=
  OpenClaim.holds_of_wide 5 Tryd.f5 rfl rfl rfl rfl rfl rfl rfl ⟨rfl, rfl, rfl, rfl, rfl⟩ rfl rfl rfl rfl rfl (by kernel_rfl) Tryd.func5 (by kernel_rfl)
    (of_decide_eq_true (by kernel_rfl)) (by unfold Func.isWrapper; first | (rw [if_pos (by decide +kernel)]; kernel_rfl) | (rw [if_neg (by decide +kernel)]; exact ⟨rfl, rfl⟩))
    (fun os started H enc _ => lifted os started H enc)
/-- the statement -/
theorem proved : Rows.MarksOrderSaid := over
#print axioms proved
set_option maxRecDepth 100000 in
/-- the statement -/
theorem card : Rows.MarksOrderCardSaid :=
  Claim7.holds_tied_plain_at .later [] [.data] true (true, "ae89c69fc24b343251305817e6ee83197e533825873119f2a17488a5861b46de") true
    proved (fun _ h => by cases h) (by kernel_rfl) (fun _ h => by cases h) marksOrder_row_tie rfl ⟨rfl, rfl⟩ (by kernel_rfl) rfl
    (fun f fn hf hfn => by
      obtain rfl : f = 5 := Option.some.inj ((show Tryd.prog.funcNamed "shelterbelt/shelterbeltlaw09.MarksOrder" = some 5 by kernel_rfl).symm.trans hf) |>.symm
      obtain rfl : fn = Tryd.f5 := (Option.some.inj (Tryd.func5.symm.trans hfn)).symm
      exact ⟨by kernel_rfl, fun j t ht => by
        rw [Tryd.params5] at ht
        have hm : t ∈ [3, 22, 3] := by simpa using Array.mem_of_getElem? ht
        have hall : ([3, 22, 3].all fun u => !Tryd.prog.wantsStandIn u) = true := by kernel_rfl
        exact (show Tryd.prog.wantsStandIn t = false by simpa using List.all_eq_true.1 hall t hm)⟩)
    (by kernel_rfl)
#print axioms card
end marksOrder
end Go.Proofs.YthjpjeflgnkgpaaDoor
