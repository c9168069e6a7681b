/-
  MarksBreak: marks that are broken off are the first of all; texts come each once, too. No condition but that the table math/bits.deBruijn64tab holds what its initialiser lays, which the card ties to the program's text.
-/
import Derived.Test.YthjpjeflgnkgpaaDoorNAwk
import Derived.Test.YthjpjeflgnkgpaaDoorNGat
import Derived.Test.YthjpjeflgnkgpaaDoorNStr
import Derived.Test.YthjpjeflgnkgpaaDoorCards
import Derived.Test.YthjpjeflgnkgpaaDoorTie
import Derived.Lib.SmallJoins
import Derived.Lib.LaidTab
import Derived.ProofKit
import Derived.LaidMore
import Derived.OpenShut
import Derived.ShutString
import Derived.ChangeOld
import Derived.WalkSmall
import Derived.Stop.Joined
import Derived.SevenTiedAt
namespace Go.Proofs.YthjpjeflgnkgpaaDoor
open Go.RowKit Go.Joins Go.ChangeShapes Go.WideShapes Go.Deep Go.Shelf
namespace marksBreak
attribute [local go_sem] Oper.semAt_some

theorem add_mem (n : Int) (L : List Int) (x y : Int) : y ∈ Nm.add n L x ↔ y ∈ L ∨ (y = x ∧ 0 ≤ x ∧ x < n) := by
  unfold Nm.add
  by_cases h : 0 ≤ x ∧ x < n ∧ x ∉ L
  · rw [if_pos h, List.mem_append, List.mem_singleton]
    constructor
    · rintro (q | rfl)
      · exact .inl q
      · exact .inr ⟨rfl, h.1, h.2.1⟩
    · rintro (q | q)
      · exact .inl q
      · exact .inr q.1
  · rw [if_neg h]
    constructor
    · exact .inl
    · rintro (q | ⟨rfl, h1, h2⟩)
      · exact q
      · exact Classical.not_not.1 fun q => h ⟨h1, h2, q⟩
/-- just those of l are met -/
def Met (l L : List Int) : Prop := ∀ y, y ∈ L ↔ y ∈ l
theorem Met.step {n : Int} {l L : List Int} {i : Nat} {x : Int} (h : Met (l.take i) L) (hx : l[i]? = some x) (hb : 0 ≤ x ∧ x < n) : Met (l.take (i + 1)) (Nm.add n L x) := fun y => by
  rw [add_mem, h y, List.take_add_one, hx, List.mem_append]
  simp only [Option.toList, List.mem_singleton]
  constructor
  · rintro (q | ⟨rfl, q⟩)
    · exact .inl q
    · exact .inr rfl
  · rintro (q | rfl)
    · exact .inl q
    · exact .inr ⟨rfl, hb⟩
theorem met_uq {l L : List Int} (h : Met l L) : Nm.uq L = Nm.uniq l := (Nm.uq_ri L).ext (Nm.uniq_ri l) fun y => by rw [Nm.uq_mem, Nm.uniq_mem, h y]

/-- k ids were told: the number stands in block nb; the loop begins in WD -/
structure Brk (WD : World) (nb k : Nat) (W : World) : Prop where
  num : W.heap[nb]? = some (.cells #[.int .i64 (k : Int)] 3 (0, 0))
  kp : Kept (fun q => q = nb) WD W
  sz : WD.heap.size + 2 ≤ W.heap.size
theorem Brk.off {WD W W' : World} {nb k : Nat} (h : Brk WD nb k W) (hn : nb < WD.heap.size) (ho : Off (WD.heap.size + 1) W W') : Brk WD nb k W' :=
  ⟨(ho.block _ (by omega)).trans h.num, h.kp.trans (S' := fun q => q = WD.heap.size + 1) ⟨ho.os, ho.tape, ho.output, by rw [ho.size]; exact Nat.le_refl _, fun j _ hj => ho.block j hj⟩ fun j hj => .inr (by omega), by rw [ho.size]; exact h.sz⟩
theorem Brk.step {WD W : World} {nb k : Nat} (h : Brk WD nb k W) : Brk WD nb (k + 1) (W.setCell ⟨nb, 0, none⟩ (.int .i64 ((k : Int) + 1))) ∧ KeepsFrom WD.heap.size W (W.setCell ⟨nb, 0, none⟩ (.int .i64 ((k : Int) + 1))) :=
  ⟨⟨by rw [one_set h.num]; simp, h.kp.setCell (.inl rfl), by simp [World.setCell]; exact h.sz⟩, kf_cell h.num⟩
theorem sl_kept {S : Nat → Prop} {W W' : World} {A : Option Addr} {n c : Nat} {l : List Int} (h : Sl W A n c l) (hk : Kept S W W') (hS : ∀ b off, A = some ⟨b, off, none⟩ → ¬ S b) : Sl W' A n c l := by
  refine ⟨⟨h.lst.1, fun h0 => ?_⟩, h.cap, h.nil⟩
  obtain ⟨b, off, e, hb, hc⟩ := h.lst.2 h0
  refine ⟨b, off, e, Nat.lt_of_lt_of_le hb hk.size, fun j u hu => ?_⟩
  exact (World.cell?_of_block (a := ⟨b, off + j, none⟩) (hk.block b hb (hS b off e))).trans (hc j u hu)
theorem row_kept {W W' : World} {S : Nat → Prop} {B : Nat} {e : TypeId} {n : Nat} {v : Value} {xs : List Value} (h : W.ownsRow B e 1 v n xs) (hk : Kept S W W') (hS : ∀ j, S j → j < B) : W'.ownsRow B e 1 v n xs := by
  refine ⟨h.1, ?_⟩
  rcases h.2 with h0 | ⟨g, cap, cur, hv, hg, hb, hr⟩
  · exact .inl h0
  · exact .inr ⟨g, cap, cur, hv, hg, (hk.block g (lt_of_block hb) (fun q => by have := hS g q; omega)).trans hb, hr⟩

set_option maxHeartbeats 3200000 in
set_option maxRecDepth 100000 in
theorem walk (a0 : Option Addr) (len0 cap0 : Nat) (z0 : List Int) (b : Int) (a2 : Option Addr) (len2 cap2 : Nat) (z2 : List (List UInt8)) (w : World) (w0 : IsRow .u8 w a0 len0 cap0 z0) (_wb : (Lit.int .i64 b).wf = true) (w2 : Ss w a2 len2 cap2 z2) (hT : TabAt 0 Lib.deBruijn64tab w) :
    Calls Tryd.prog 4 #[.slice a0 len0 cap0, .int .i64 b, .slice a2 len2 cap2] w fun e w' => e = .returned (.bool true) ∧ Below w.heap.size w w' := by
  obtain ⟨i0, hi, hz0, hz1, hz2⟩ := info_parts Tryd.infoI
  obtain ⟨hL, hln, hlc, hwf, hA⟩ := w0.lst
  obtain ⟨l, hl⟩ : ∃ l, z0.take len0 = l := ⟨_, rfl⟩
  rw [hl] at hL hwf
  have hll : l.length = len0 := by have := hL.1; simpa using this
  have V := Lib.hid hL
  have HLL := Lib.hid hll
  have HWF := Lib.hid (show ∀ x ∈ l, 0 ≤ x ∧ x < 256 from fun x hx => by
    have := hwf x hx
    simp [Lit.wf, IntKind.min, IntKind.max, IntKind.signed, IntKind.bits] at this
    omega)
  have VS := Lib.hid w2
  have HT := Lib.hid hT
  clear w0 _wb w2 hl hL hln hlc hwf hA hll hT
  obtain ⟨W0, hW0⟩ : ∃ W0, W0 = (w.alloc (.cells #[.int .i64 b] 3)).alloc (.cells #[.bool false] 4) := ⟨_, rfl⟩
  have b0 : Below w.heap.size w W0 := by rw [hW0]; exact ((Below.refl _ w).alloc (Nat.le_refl _) _).alloc (by simp) _
  have rs : W0.heap[w.heap.size]? = some (.cells #[.int .i64 b] 3 (0, 0)) := by rw [hW0, Below.heap_alloc _ _ _ (by simp)]; exact heap_new w _ _
  have rr : W0.heap[w.heap.size + 1]? = some (.cells #[.bool false] 4 (0, 0)) := by
    rw [hW0]
    have := heap_new (w.alloc (.cells #[.int .i64 b] 3)) #[.bool false] 4
    rwa [show (w.alloc (.cells #[.int .i64 b] 3)).heap.size = w.heap.size + 1 from by simp] at this
  have sz0 : W0.heap.size = w.heap.size + 1 + 1 := by rw [hW0]; simp
  have HW0 := Lib.hid hW0
  have B0 := Lib.hid b0
  have RS := Lib.hid rs
  have RR := Lib.hid rr
  clear hW0 b0 rs rr
  refine (callsIn_wide (n := 6)).1 ?_
  refine callsIn_of_wp_marks Tryd.func4 rfl trivial ?_ rfl
  simp only [Tryd.ntmps4, List.size_toArray, List.length_cons, List.length_nil, Nat.reduceAdd, Nat.reduceSub, Array.replicate_succ, Array.replicate_zero, List.push_toArray, List.append_toArray, List.nil_append, List.cons_append]
  gi_wp2_with fail
  rw [← HW0.out]
  refine ⟨trivial, ?_⟩
  refine (callsIn_wide.2 (awake_any _)).mono ?_
  rintro _ W1 ⟨rfl, b1⟩
  have B1 := Lib.hid (B0.out.trans (b1.mono B0.out.size))
  have RS1 := Lib.hid ((b1.block _ (by omega)).trans RS.out)
  have rr1 := (b1.block _ (by omega)).trans RR.out
  have c1 : W1.cell? ⟨w.heap.size + 1, 0, none⟩ = some (.bool false) := by rw [cell_of_row _ _ _ _ _ _ rr1]; rfl
  have f1 := frozen_of_row W1 (w.heap.size + 1) 0 _ _ rr1
  have RR1 := Lib.hid rr1
  have sz1 := b1.size
  clear b1 rr1 RS RR
  by_cases g0 : 200 < len0
  · have d0 : decide (200 < (len0 : Int)) = true := by simp; omega
    have HR3 := Lib.hid (one_set (u := .bool true) RR1.out)
    gi_wp2
    refine ⟨_, result_bool rfl _ _ (w.heap.size + 1) true rfl ?_, rfl, B1.out.setCell (p := ⟨w.heap.size + 1, 0, none⟩) (by show w.heap.size ≤ w.heap.size + 1; omega) _⟩
    rw [cell_of_row _ _ _ _ _ _ HR3.out]; rfl
  have d0 : decide (200 < (len0 : Int)) = false := by simp; omega
  by_cases g1 : 100 < len2
  · have d1 : decide (100 < (len2 : Int)) = true := by simp; omega
    have HR3 := Lib.hid (one_set (u := .bool true) RR1.out)
    gi_wp2
    refine ⟨_, result_bool rfl _ _ (w.heap.size + 1) true rfl ?_, rfl, B1.out.setCell (p := ⟨w.heap.size + 1, 0, none⟩) (by show w.heap.size ≤ w.heap.size + 1; omega) _⟩
    rw [cell_of_row _ _ _ _ _ _ HR3.out]; rfl
  have d1 : decide (100 < (len2 : Int)) = false := by simp; omega
  have n0 : len0 ≤ 200 := by omega
  have n2 : len2 ≤ 100 := by omega
  clear g0 g1 c1 f1
  have hn1 := newS 256 (by omega) W1
  rw [show (256 : Int).toNat = 256 from rfl] at hn1
  have HN := Lib.hid hn1
  clear hn1
  gi_wp2_with fail
  refine ⟨trivial, ?_⟩
  refine (callsIn_wide.2 HN.out).mono ?_
  rintro _ W2 ⟨s, b2, rfl, h2, hs2, hb2, bl2⟩
  have M2 := Lib.hid h2
  have B2 := Lib.hid (B1.out.trans (bl2.mono B1.out.size))
  have RS2 := Lib.hid ((bl2.block _ (by omega)).trans RS1.out)
  have RR2 := Lib.hid ((bl2.block _ (by omega)).trans RR1.out)
  have lts := h2.lts
  have ltb := h2.ltb
  have sz2 := bl2.size
  clear h2 bl2 HN RS1 RR1 B1
  gi_wp2
  gi_loopw [8, 9] (fun v p wr => ∃ (i : Nat) (L : List Int), p = .int .i64 (i : Int) ∧ i ≤ len0 ∧ Mk wr s b2 256 L ∧ Met (l.take i) L ∧ wr.ownsRow W2.heap.size 3 1 v i (ci (l.take i)) ∧ Kept (fun q => q = s ∨ q = b2) W2 wr) (fun _ p _ => len0 - (Go.RowKit.intOf p).toNat)
  case atStart => exact ⟨0, [], rfl, Nat.zero_le _, M2.out, fun y => by simp, World.ownsRow_nil _ _ _ _, Kept.refl _ _⟩
  case round =>
    obtain ⟨i, L, rfl, hil, hmk, hmt, hrow, hkp⟩ := hrel
    clear M2
    by_cases hlt : i < len0
    · obtain ⟨x, hx⟩ : ∃ x, l[i]? = some x := ⟨_, List.getElem?_eq_getElem (by rw [HLL.out]; exact hlt)⟩
      obtain ⟨bb, off, rfl, hbb, c0⟩ := V.out.at_ hlt
      rw [List.getElem?_map, hx] at c0
      have hBe : Below w.heap.size w wr := B2.out.trans (hkp.old B2.out.size fun j hj => by omega)
      have c1 : wr.cell? ⟨bb, off + i, none⟩ = some (.int .u8 x) := (hBe.cell (p := ⟨bb, off + i, none⟩) hbb).trans c0
      have hxb := HWF.out x (List.mem_of_getElem? hx)
      have hwx : IntKind.i64.wrap x = x := IntWalk.i64_in _ (by omega)
      have HA := Lib.hid (show Calls Tryd.prog 10 #[.pointer (some ⟨s, 0, none⟩), .int .i64 x] wr fun e W' => (∃ q, e = .returned (.bool q)) ∧ Mk W' s b2 256 (Nm.add (256 : Int) L x) ∧ Kept (fun q => q = s ∨ q = b2) wr W' from (addS s b2 256 L x wr hmk).mono fun e W' h => ⟨⟨_, h.1⟩, h.2.1, h.2.2⟩)
      have HST := Lib.hid (hmt.step (n := 256) hx hxb)
      have HRW := Lib.hid hrow
      have HKP := Lib.hid hkp
      have HBE := Lib.hid hBe
      have HTK := Lib.hid (show ci (l.take i) ++ [.int .i64 x] = ci (l.take (i + 1)) by rw [List.take_add_one, hx]; simp [ci])
      clear hx c0 hmk hmt hrow hkp hBe
      gi_wp2_with fail
      refine ⟨trivial, ?_⟩
      refine (callsIn_wide.2 HA.out).mono ?_
      rintro _ W5 ⟨⟨q, rfl⟩, h5, k5⟩
      have c5 : W5.cell? ⟨bb, off + i, none⟩ = some (.int .u8 x) := ((HBE.out.trans (k5.old HBE.out.size fun j hj => by omega)).cell (p := ⟨bb, off + i, none⟩) hbb).trans ((HBE.out.cell (p := ⟨bb, off + i, none⟩) hbb).symm.trans c1)
      have M5 := Lib.hid h5
      have K5 := Lib.hid (HKP.out.trans k5 fun j hj => .inl hj)
      have R5 := Lib.hid (row_kept HRW.out k5 fun j hj => by omega)
      have sz5 := (HKP.out.trans k5 fun j hj => .inl hj).size
      clear h5 k5 HA c1 HRW HKP
      gi_wp2_with (gi_at_builtin; refine push_in _ rfl (.tmp 40) (.tmp 46) 22 rfl W2.heap.size 3 i0 (.int .i64 0) 8 Tryd.underlying22 hi hz0 hz1 hz2 rfl _ i (ci (l.take i)) rfl (own_below R5.out ((Below.refl _ W5).alloc (Nat.le_refl _) _)) W5.heap.size (.int .i64 x) rfl (heap_new _ _ _) rfl (by omega) (by omega) (by simp; omega) ?_; intro g cap' W6 r1 r2 r3; rw [HTK.out] at r1; have R6 := Lib.hid r1; have K6 := Lib.hid ((K5.out.below ((Below.refl _ W5).alloc (Nat.le_refl _) (.cells #[.int .i64 x] 3))).grown r2 fun j e => .inr (own_block R5.out j e)); have M6 := Lib.hid ((M5.out.below ((Below.refl _ W5).alloc (Nat.le_refl _) (.cells #[.int .i64 x] 3))).keep (r2.block s (by simp; omega) (fun e => by have := own_block R5.out s e.symm; omega)) (r2.block b2 (by simp; omega) (fun e => by have := own_block R5.out b2 e.symm; omega))); clear r1 r2 r3)
      go_roundw
      case rel => exact ⟨i + 1, _, congrArg (Value.int .i64) (by omega), by omega, M6.out, HST.out, R6.out, K6.out⟩
      case measure => simp [Go.RowKit.intOf]; omega
    · obtain rfl : i = len0 := by omega
      rw [List.take_of_length_le (by rw [HLL.out]; exact Nat.le_refl _)] at hmt hrow
      obtain ⟨AM, cM, rfl, -, -⟩ := own_form hrow
      have M3 := Lib.hid hmk
      have HEQ := Lib.hid (met_uq hmt)
      have K3 := Lib.hid hkp
      have R3 := Lib.hid hrow
      have hun := uniqI AM i cM l wr (Sl.of_own hrow) (by omega)
      obtain ⟨UU, hUU⟩ : ∃ UU, UU = Nm.uniq l := ⟨_, rfl⟩
      rw [← hUU] at hun HEQ
      obtain ⟨n, hn⟩ : ∃ n, UU.length = n := ⟨_, rfl⟩
      rw [hn] at hun
      have hnl : n ≤ 200 := by rw [← hn, hUU]; have := Nm.uniq_le l; rw [HLL.out] at this; omega
      have HUN := Lib.hid hun
      have HLN := Lib.hid hn
      have HB3 := Lib.hid (show Below w.heap.size w wr from B2.out.trans (hkp.old B2.out.size fun j hj => by omega))
      have sz3 := hkp.size
      clear hmt hrow hmk hkp hun hUU hn
      gi_wp2_with fail
      refine ⟨trivial, ?_⟩
      refine (callsIn_wide.2 HUN.out).mono ?_
      rintro _ W4 ⟨AU, cU, rfl, o4, b4⟩
      have hU4 : ∀ x off, AU = some ⟨x, off, none⟩ → wr.heap.size ≤ x := fun x off e => own_block o4 x (by rw [e]; rfl)
      obtain ⟨W5, hW5⟩ : ∃ W5, W5 = W4.alloc (.cells #[.slice AU n cU] 22) := ⟨_, rfl⟩
      obtain ⟨W6, hW6⟩ : ∃ W6, W6 = W5.alloc (.cells #[.int .i64 0] 3) := ⟨_, rfl⟩
      have b5 : Below W4.heap.size W4 W5 := by rw [hW5]; exact (Below.refl _ W4).alloc (Nat.le_refl _) _
      have b6 : Below W5.heap.size W5 W6 := by rw [hW6]; exact (Below.refl _ W5).alloc (Nat.le_refl _) _
      have s5 : W5.heap.size = W4.heap.size + 1 := by rw [hW5]; simp
      have s6 : W6.heap.size = W4.heap.size + 1 + 1 := by rw [hW6]; simp [s5]
      have u5 : W5.heap[W4.heap.size]? = some (.cells #[.slice AU n cU] 22 (0, 0)) := by rw [hW5]; exact heap_new W4 _ _
      have u6 := (b6.block _ (by omega)).trans u5
      have v6 : W6.heap[W4.heap.size + 1]? = some (.cells #[.int .i64 0] 3 (0, 0)) := by rw [hW6, ← s5]; exact heap_new W5 _ _
      have b46 : Below wr.heap.size wr W6 := (b4.trans (b5.mono b4.size)).trans (b6.mono (by have := b4.size; omega))
      have HSU := Lib.hid ((Sl.of_own o4).below (b5.trans (b6.mono (by omega))))
      have M6 := Lib.hid (M3.out.below b46)
      have HU6 := Lib.hid u6
      have HV6 := Lib.hid v6
      have HB46 := Lib.hid b46
      have HW5 := Lib.hid hW5
      have HW6 := Lib.hid hW6
      have HUB := Lib.hid hU4
      have HUBL := Lib.hid (show ∀ x off, AU = some ⟨x, off, none⟩ → x < W4.heap.size from fun x off e => o4.lt x (by rw [e]; rfl) |>.2)
      have HS5 := Lib.hid s5
      have s4 := b4.size
      clear o4 b4 hU4 hW5 hW6 b5 b6 s5 u5 u6 v6 b46 HUN
      have HAL := Lib.hid (allS s b2 256 _ W6 M6.out)
      rw [HEQ.out] at HAL
      gi_wp2_with fail
      rw [← HW5.out, ← HW6.out]
      refine ⟨trivial, ?_⟩
      refine (callsIn_wide.2 HAL.out).mono ?_
      rintro _ W7 ⟨g1, g2, rfl, ha7, b7⟩
      have HA7 := Lib.hid ha7
      have s7 := b7.size
      have HB7 := Lib.hid (show Below w.heap.size w W7 from (HB3.out.trans (HB46.out.mono HB3.out.size)).trans (b7.mono (by omega)))
      have HU7 := Lib.hid ((b7.block _ (by omega)).trans HU6.out)
      have HV7 := Lib.hid ((b7.block _ (by omega)).trans HV6.out)
      have HSU7 := Lib.hid (HSU.out.below b7)
      have HRS7 := Lib.hid ((b7.block _ (by omega)).trans ((HB46.out.block _ (by omega)).trans ((K3.out.block _ (by omega) (by omega)).trans RS2.out)))
      have HRR7 := Lib.hid ((b7.block _ (by omega)).trans ((HB46.out.block _ (by omega)).trans ((K3.out.block _ (by omega) (by omega)).trans RR2.out)))
      have HT7 := Lib.hid (tab_below HT.out HB7.out)
      clear ha7 b7 HAL HU6 HV6 HSU HB46 HB3 M6 M3 K3 R3 RS2 RR2
      gi_wp2
      have hnb : W4.heap.size + 1 < W7.heap.size := by omega
      refine range_keeps (n := 6) rfl (by omega) (gf := 26) (lb := #[.pointer (some ⟨g1, 0, none⟩), .pointer (some ⟨g2, 0, none⟩)]) rfl trivial (enters_of Tryd.func26 (by kernel_rfl) rfl)
        (fun k W => Brk W7 (W4.heap.size + 1) k W)
        (fun k vs W => ∃ x, UU[k]? = some x ∧ vs = #[.int .i64 x] ∧ Brk W7 (W4.heap.size + 1) k W)
        (fun W => Brk W7 (W4.heap.size + 1) UU.length W)
        (fun c W => c = .exit 2 ∧ ∃ k : Nat, (k : Int) = b ∧ k ≤ UU.length ∧ Brk W7 (W4.heap.size + 1) k W)
        (fun vs t => (t.setIfInBounds 52 (vs.getD 0 undef)).setIfInBounds 12 (vs.getD 0 undef))
        (fun k W W' h ho => h.off hnb ho) (fun k vs W W' h ho => by obtain ⟨x, h1, h2, h3⟩ := h; exact ⟨x, h1, h2, h3.off hnb ho⟩) (fun W W' h ho => h.off hnb ho)
        (fun c W W' h ho => by obtain ⟨h1, k, h2, h3, h4⟩ := h; exact ⟨h1, k, h2, h3, h4.off hnb ho⟩) (fun k vs W h => by obtain ⟨x, h1, h2, h3⟩ := h; rw [h2]; rfl)
        (fun W hb hs => ⟨(hb.block _ hnb).trans HV7.out, Kept.of_below hb, by omega⟩) ?iter ?assign ?body ?done ?stop
      case iter =>
        intro y Kk Y hK hY W hI hKW
        exact iterA (m := 4) HA7.out (fun k W => Brk W7 (W4.heap.size + 1) k W) Kk Y (fun k W h => ⟨⟨h.kp.os, h.kp.tape, h.kp.output, h.kp.size, fun j hj hn => h.kp.block j hj (fun e => hn (by omega))⟩, tab_below HT.out (HB7.out.trans (h.kp.old HB7.out.size fun j hj => by omega))⟩) (fun k x W hx hI hKW => hY k _ W ⟨x, hx, rfl, hI⟩ hKW) W hI hKW
      case assign =>
        rintro y k vs W K ⟨x, -, rfl, -⟩ hK
        gi_wp2
        exact hK
      case body =>
        rintro y k vs W ⟨x, hx, rfl, hg⟩
        have hkl : k < UU.length := (List.getElem?_eq_some_iff.1 hx).1
        rw [HLN.out] at hkl
        have hUk : W.heap[W4.heap.size]? = some (.cells #[.slice AU n cU] 22 (0, 0)) := (hg.kp.block _ (by omega) (by omega)).trans HU7.out
        have cu : W.cell? ⟨W4.heap.size, 0, none⟩ = some (.slice AU n cU) := by rw [cell_of_row _ _ _ _ _ _ hUk]; rfl
        have cn : W.cell? ⟨W4.heap.size + 1, 0, none⟩ = some (.int .i64 (k : Int)) := by rw [cell_of_row _ _ _ _ _ _ hg.num]; rfl
        have fn := frozen_of_row W (W4.heap.size + 1) 0 _ _ hg.num
        have cs : W.cell? ⟨w.heap.size, 0, none⟩ = some (.int .i64 b) := by rw [cell_of_row _ _ _ _ _ _ ((hg.kp.block _ (by omega) (by omega)).trans HRS7.out)]; rfl
        obtain ⟨bb, off, rfl, hbb, hc7⟩ := HSU7.out.at_ hx
        have hbw := HUB.out bb off rfl
        have hne : bb ≠ W4.heap.size + 1 := fun e => by
          have hv := HV7.out
          rw [← e] at hv
          have hlt := HUBL.out bb off rfl
          omega
        have ce : W.cell? ⟨bb, off + k, none⟩ = some (.int .i64 x) := (World.cell?_of_block (a := ⟨bb, off + k, none⟩) (hg.kp.block bb hbb hne)).trans hc7
        obtain ⟨hst, hkf⟩ := hg.step
        obtain ⟨V, hV⟩ : ∃ V, V = W.setCell ⟨W4.heap.size + 1, 0, none⟩ (.int .i64 ((k : Int) + 1)) := ⟨_, rfl⟩
        have cn' : (W.setCell ⟨W4.heap.size + 1, 0, none⟩ (.int .i64 ((k : Int) + 1))).cell? ⟨W4.heap.size + 1, 0, none⟩ = some (.int .i64 ((k : Int) + 1)) := by rw [cell_of_row _ _ _ _ _ _ hst.num]; simp
        have cs' : (W.setCell ⟨W4.heap.size + 1, 0, none⟩ (.int .i64 ((k : Int) + 1))).cell? ⟨w.heap.size, 0, none⟩ = some (.int .i64 b) := by
          rw [cell_of_row _ _ _ _ _ _ ((Below.heap_setCell _ _ _ _ (show w.heap.size ≠ W4.heap.size + 1 by omega)).trans ((hg.kp.block _ (by omega) (by omega)).trans HRS7.out))]; rfl
        have g1 : decide ((k : Int) ≥ (n : Int)) = false := by simp; omega
        have g2 : decide (n ≤ k) = false := by simp; omega
        have gw : IntKind.i64.wrap ((k : Int) + 1) = (k : Int) + 1 := IntWalk.i64_in _ (by omega)
        have HST := Lib.hid hst
        have HKF := Lib.hid hkf
        generalize hP : leftBy W7.heap.size _ _ W = Pst
        have HP := Lib.hid hP
        clear hst hkf hg hUk hx hbb hc7 hP hV V hbw hne
        by_cases hkb : (k : Int) + 1 = b
        · have gb : ((k : Int) + 1 == b) = true := by rw [beq_iff_eq]; exact hkb
          have HKB := Lib.hid hkb
          clear hkb
          gi_wp2
          rw [← HP.out]
          exact ⟨HKF.out, rfl, k + 1, by have := HKB.out; push_cast; omega, by rw [HLN.out]; omega, HST.out⟩
        · have gb : ((k : Int) + 1 == b) = false := by rw [Bool.eq_false_iff, Ne, beq_iff_eq]; exact hkb
          clear hkb
          gi_wp2
          rw [← HP.out]
          exact ⟨HKF.out, HST.out⟩
      case' done =>
        rintro D W rfl hg hK
        rw [HLN.out] at hg
        have HE : Hid (∃ k : Nat, Brk W7 (W4.heap.size + 1) k W ∧ (k = n ∨ (k : Int) = b) ∧ k ≤ n) := ⟨n, hg, .inl rfl, Nat.le_refl _⟩
        clear hg
      case' stop =>
        rintro D c W rfl ⟨rfl, k, hkb, hkn, hg⟩ hK
        rw [HLN.out] at hkn
        have HE : Hid (∃ k : Nat, Brk W7 (W4.heap.size + 1) k W ∧ (k = n ∨ (k : Int) = b) ∧ k ≤ n) := ⟨k, hg, .inr hkb, hkn⟩
        clear hg hkb hkn k
      all_goals
        obtain ⟨k, hg, hkc, hkn⟩ := HE.out
        have hUk : W.heap[W4.heap.size]? = some (.cells #[.slice AU n cU] 22 (0, 0)) := (hg.kp.block _ (by omega) (by omega)).trans HU7.out
        have cu : W.cell? ⟨W4.heap.size, 0, none⟩ = some (.slice AU n cU) := by rw [cell_of_row _ _ _ _ _ _ hUk]; rfl
        have cn : W.cell? ⟨W4.heap.size + 1, 0, none⟩ = some (.int .i64 (k : Int)) := by rw [cell_of_row _ _ _ _ _ _ hg.num]; rfl
        have cs : W.cell? ⟨w.heap.size, 0, none⟩ = some (.int .i64 b) := by rw [cell_of_row _ _ _ _ _ _ ((hg.kp.block _ (by omega) (by omega)).trans HRS7.out)]; rfl
        have BW := Lib.hid (show Below w.heap.size w W from HB7.out.trans (hg.kp.old HB7.out.size fun j hj => by omega))
        have RRW := Lib.hid ((hg.kp.block _ (by omega) (by omega)).trans HRR7.out)
        have HKD := Lib.hid hK
        have szW := hg.sz
        have HSW := Lib.hid (VS.out.below BW.out)
        have HUS := Lib.hid (uniqS a2 len2 cap2 z2 W HSW.out (by omega))
        obtain ⟨TT, hTT⟩ : ∃ TT, TT = uniqT z2 := ⟨_, rfl⟩
        rw [← hTT] at HUS
        obtain ⟨N, hN⟩ : ∃ N, TT.length = N := ⟨_, rfl⟩
        rw [hN] at HUS
        have hNl : N ≤ len2 := by rw [← hN, hTT, ← VS.out.length]; exact uniqT_le z2
        have HTT := Lib.hid hTT
        have HNN := Lib.hid hN
        clear hg hUk hK HE hTT hN HB7 HSU7 HU7 HV7 HRS7 HRR7 HA7 HT7
        by_cases e : k = n
        case' pos =>
          have gA : ((k : Int) != (n : Int)) = false := by rw [bne_eq_false_iff_eq]; omega
          clear e hkc
          gi_wp2_with fail
          clear gA
        case' neg =>
          have gA : ((k : Int) != (n : Int)) = true := by rw [bne_iff_ne]; omega
          have gB : ((k : Int) != b) = false := by rw [bne_eq_false_iff_eq]; omega
          clear e hkc
          gi_wp2_with fail
          clear gA gB
      all_goals
        refine ⟨trivial, ?_⟩
        refine (callsIn_wide.2 HUS.out).mono ?_
        rintro _ W8 ⟨A8, c8, rfl, o8, b8⟩
        have S8 := Lib.hid (Ss.of_own o8)
        have s8 := b8.size
        have B8 := Lib.hid (BW.out.trans (b8.mono BW.out.size))
        have R8 := Lib.hid ((b8.block _ (by omega)).trans RRW.out)
        have K8 := Lib.hid ((b8.block _ (by omega)).trans HKD.out)
        clear o8 b8 cu cn cs BW RRW HKD HSW HUS
        gi_wp2
        gi_loopw [14] (fun p wr => ∃ j : Nat, p = .int .i64 (j : Int) ∧ 1 ≤ j ∧ Below W8.heap.size W8 wr) (fun p _ => N - (Go.RowKit.intOf p).toNat)
        case atStart => exact ⟨1, rfl, Nat.le_refl _, Below.refl _ _⟩
        case round =>
          obtain ⟨j, rfl, hj1, hbr⟩ := hrel
          have HBR := Lib.hid hbr
          clear hbr
          by_cases hlt : j < N
          · obtain ⟨x, hx⟩ := S8.out.get hlt
            obtain ⟨y, hy⟩ := S8.out.get (k := j - 1) (by omega)
            obtain ⟨bb, off, rfl, hbb, c1⟩ := S8.out.at_ hx
            obtain ⟨bb', off', e', hbb', c2⟩ := S8.out.at_ hy
            injection e' with e'
            injection e' with e1 e2
            subst e1
            subst e2
            have hle : y ≤ x ∧ y ≠ x := by
              have hp := uniqT_ri z2
              rw [← HTT.out] at hp
              have h1 := List.getElem?_eq_some_iff.1 hx
              have h2 := List.getElem?_eq_some_iff.1 hy
              have := (List.pairwise_iff_getElem.1 hp) (j - 1) j h2.1 h1.1 (by omega)
              rwa [h1.2, h2.2] at this
            obtain ⟨X, hX⟩ : ∃ X : ByteArray, X = ⟨x.toArray⟩ := ⟨_, rfl⟩
            obtain ⟨Y, hY⟩ : ∃ Y : ByteArray, Y = ⟨y.toArray⟩ := ⟨_, rfl⟩
            have tX : X.toList = x := by rw [Lib.toList_data, hX]
            have tY : Y.toList = y := by rw [Lib.toList_data, hY]
            have q1 : Op.bytesLess X.toList Y.toList = false := by rw [bytesLess_eq, tX, tY]; exact decide_eq_false fun h => hle.2 (List.le_antisymm hle.1 (List.le_of_lt h))
            have q2 : (X.toList == Y.toList) = false := by rw [tX, tY, Bool.eq_false_iff, Ne, beq_iff_eq]; exact fun h => hle.2 h.symm
            have d1 : wr.cell? ⟨bb, off + j, none⟩ = some (.string X) := by rw [hX]; exact (HBR.out.cell (p := ⟨bb, off + j, none⟩) hbb).trans c1
            have d2 : wr.cell? ⟨bb, off + (j - 1), none⟩ = some (.string Y) := by rw [hY]; exact (HBR.out.cell (p := ⟨bb, off + (j - 1), none⟩) hbb).trans c2
            have r1 : IntKind.i64.wrap ((j : Int) - 1) = (j : Int) - 1 := IntWalk.i64_in _ (by omega)
            have r2 : 1 ≤ (j : Int) := by omega
            have r3 : (j : Int) - 1 < (N : Int) := by omega
            have r4 : ((j : Int) - 1).toNat = j - 1 := by omega
            have r5 : (0 : Int) ≤ (j : Int) - 1 := by omega
            clear hx hy hbb c1 c2 hle hX hY tX tY hbb'
            gi_wp2
            refine wpIn_mono (?_ : Code.wpIn _ _ _ _ (NoPanic _) _ _) NoPanic.imp
            refine wpIn_wide.2 ?_
            go_quiet (fail)
            refine NoPanic.normal ?_
            have HB2 := Lib.hid (bdrew HBR.out nq)
            clear d1 d2 r1 r2 r3 r4 r5 q1 q2
            go_simp
            gi_wp2
            go_roundw
            case rel => exact ⟨j + 1, congrArg (Value.int .i64) (by omega), by omega, HB2.out⟩
            case measure => simp [Go.RowKit.intOf]; omega
          · gi_wp2
            gi_loopw [15] (fun p ws => ∃ q : Nat, p = .int .i64 (q : Int) ∧ q ≤ len2 ∧ ws = wr) (fun p _ => len2 - (Go.RowKit.intOf p).toNat)
            case atStart => exact ⟨0, rfl, Nat.zero_le _, rfl⟩
            case round =>
              obtain ⟨q, rfl, hq, hws⟩ := hrel
              subst hws
              by_cases hlt2 : q < len2
              · obtain ⟨x, hx⟩ := VS.out.get hlt2
                obtain ⟨bb, off, rfl, hbb, c0⟩ := VS.out.at_ hx
                have hBe := B8.out.trans (HBR.out.mono B8.out.size)
                have c1 := (hBe.cell (p := ⟨bb, off + q, none⟩) hbb).trans c0
                have hm : x ∈ TT := by rw [HTT.out, uniqT_mem]; exact List.mem_of_getElem? hx
                have hct := fun W (h : Ss W A8 N c8 TT) => contT A8 N c8 TT x W h (by omega) hm
                obtain ⟨X, hX⟩ : ∃ X, X = encStr x := ⟨_, rfl⟩
                rw [← hX] at c1 hct
                have HCT := Lib.hid (hct _ (S8.out.below HBR.out))
                clear hx hbb c0 hBe hm hct hX
                gi_wp2_with fail
                refine ⟨trivial, ?_⟩
                refine (callsIn_wide.2 HCT.out).mono ?_
                rintro _ WZ ⟨rfl, hwz⟩
                rw [hwz]
                clear hwz c1 HCT
                gi_wp2
                go_roundw
                case rel => exact ⟨q + 1, congrArg (Value.int .i64) (by omega), by omega, by simp⟩
                case measure => simp [Go.RowKit.intOf]; omega
              · obtain rfl : q = len2 := by omega
                have hrz := (HBR.out.block _ (lt_of_block R8.out)).trans R8.out
                have cr := (show wr.cell? ⟨w.heap.size + 1, 0, none⟩ = some (.bool false) from by rw [cell_of_row _ _ _ _ _ _ hrz]; rfl)
                have fr := frozen_of_row wr (w.heap.size + 1) 0 _ _ hrz
                have gl : decide ((N : Int) ≤ (q : Int)) = true := by simp; omega
                have gl2 : decide (N ≤ q) = true := by simp; omega
                have HRZ := Lib.hid (one_set (u := .bool true) hrz)
                have HKZ := Lib.hid (show (wr.setCell ⟨w.heap.size + 1, 0, none⟩ (.bool true)).heap[W7.heap.size]? = some (.deferred (some [])) from by rw [Below.heap_setCell _ _ _ _ (show W7.heap.size ≠ w.heap.size + 1 by omega)]; exact (HBR.out.block _ (lt_of_block K8.out)).trans K8.out)
                have HUZ := Lib.hid ((B8.out.trans (HBR.out.mono B8.out.size)).setCell (p := ⟨w.heap.size + 1, 0, none⟩) (by show w.heap.size ≤ w.heap.size + 1; omega) (.bool true))
                clear hrz
                gi_wp2
                refine ⟨by simp, .inl ⟨_, _, rfl, run_takeDeferred HKZ.out, ?_⟩⟩
                refine ⟨_, result_bool rfl _ _ (w.heap.size + 1) true rfl ?_, rfl, HUZ.out.trans (below_put (by omega) _)⟩
                rw [cell_of_row _ _ _ _ _ _ ((World.putObj_heap_other (by omega)).trans HRZ.out)]
                rfl
theorem own : ownKnob Tryd.prog.godebug = none := by kernel_rfl
theorem laidOut : laidOutB Tryd.prog = true := by kernel_rfl
theorem gTab : Tryd.prog.globalNamed "math/bits.deBruijn64tab" = some 0 := by kernel_rfl
theorem gTabType : (Tryd.prog.globals[0]?).map (·.type) = some 66 := by kernel_rfl
abbrev laid1 : List (String × DataW Unit) := [("math/bits.deBruijn64tab", Rows.laid_math_bits_deBruijn64tab)]
theorem door_met (os : Os) (args : Array Value) : laidMetH Tryd.prog laid1 ((World.doorLaid Tryd.prog 400 os).forCall (fun _ _ => 0) ⟨#[], args, []⟩).memory :=
  laidMetH_of_parts3 (fuel := 8) (laidMet_of_run' 8 (by kernel_rfl) (by kernel_rfl)) (by kernel_rfl) (by kernel_rfl)
theorem of_laid {W : World} (h : laidMetH Tryd.prog laid1 W) : TabAt 0 Lib.deBruijn64tab W := by
  rw [MakeChecks.laidMetH_plain _ _ _ (by kernel_rfl)] at h
  have hL : laidMet Tryd.prog [("math/bits.deBruijn64tab", Lib.tabData (H := Unit) .u8 (Lib.deBruijn64tab.map Int.ofNat))] W := h
  have hT := Lib.tabIs_of_head gTab gTabType Tryd.underlying66 Tryd.underlying5 (by kernel_rfl) (by kernel_rfl) hL
  intro j hj
  have := hT.cell gTab j (by simpa using hj)
  rw [this]
  simp [List.getD_eq_getElem?_getD, hj]
set_option maxRecDepth 100000 in
theorem lifted (os : Os) (started : os.Started) (H : Type) (enc : TypeId × Value → H) :
    ReturnsInHanded {} Tryd.checked os 4 .any (fun w args => (Rows.marksBreakSpec.pre enc Tryd.prog Tryd.f4 [] false w args ∧ laidMetH Tryd.prog laid1 w) ∧ sizedMet enc Tryd.prog Tryd.f4 (OpenSpec.ofChange Rows.marksBreakSpec) false w args) (Rows.marksBreakSpec.post enc Tryd.prog Tryd.f4 false true false false) := by
  refine returnsInHanded_of_change_and (C := Tryd.checked) (X := fun w _ => laidMetH Tryd.prog laid1 w) (fun _ _ _ hh h => h.of_heap hh) own started (by kernel_rfl) Tryd.func4
    (ChangeSpec.witness_shaped (enc := enc) (C := Tryd.checked) (os := os) (X := fun w _ => laidMetH Tryd.prog laid1 w) false (World.doorLaid Tryd.prog 400 os) #[.slice none 0 0, .int .i64 0, .slice none 0 0] 8 rfl (World.shaped_of_RefB (by kernel_rfl) (by kernel_rfl)) (by kernel_rfl) (by kernel_rfl) (by kernel_rfl) (door_met os _)) ?_
  intro W base args ds gs before hval0 hW _ _ hL _
  have hval : ∀ (j : Nat) t v, Tryd.f4.params[j]? = some t → args[j]? = some v → Value.okWide Tryd.prog W .any base t v := hval0
  have hW' := hW
  obtain ⟨p, q, hA0, hV, rfl, hfz, hnd⟩ := hW
  have hA : DataW.TrodAll enc Tryd.prog W 0 (fun _ => true) true Tryd.f4.params.toList args.toList ds p := hA0
  rw [Tryd.params4] at hA hval
  obtain ⟨v0, vs0, d0, ds0, p0, q0, hargs, rfl, rfl, h0, r0⟩ := trodAll_cons hA
  obtain ⟨v1, vs1, d1, ds1, p1, q1, rfl, rfl, rfl, h1, r1⟩ := trodAll_cons r0
  obtain ⟨v2, vs2, d2, ds2, p2, q2, rfl, rfl, rfl, h2, r2⟩ := trodAll_cons r1
  obtain ⟨rfl, rfl, rfl⟩ := trodAll_nil r2
  obtain rfl : args = #[v0, v1, v2] := by cases args; simp_all
  obtain ⟨rfl, rfl⟩ := trodVars_none hV
  obtain ⟨a0, len0, cap0, rfl⟩ := okWide_slice Tryd.underlying37 (hval 0 37 v0 rfl rfl)
  have k0 := h0
  have lt0 : ∀ x ∈ p0, x.block < W.heap.size := by obtain ⟨m, hm⟩ := k0; exact DataW.trod_lt m _ _ _ hm
  obtain ⟨z0, w0⟩ : ∃ zs, IsRow .u8 W a0 len0 cap0 zs := by
    obtain ⟨fuel, hf⟩ := h0
    rcases open_ints Tryd.underlying37 Tryd.underlying5 (by kernel_rfl) hf with ⟨hcs, _⟩ | ⟨x, l, c, zs, hcs, _, hl, hm, hz, _, hcell, hwz⟩
    · simp [Value.cells] at hcs
      obtain ⟨rfl, rfl, rfl⟩ := hcs
      exact ⟨[], .inl ⟨rfl, rfl, rfl, rfl⟩⟩
    · simp [Value.cells] at hcs
      obtain ⟨rfl, rfl, rfl⟩ := hcs
      exact ⟨zs, .inr ⟨_, rfl, hl, hm, by simpa using hz, hcell, hwz⟩⟩
  obtain ⟨a1, rfl, rfl, rfl, w1⟩ := open_int Tryd.underlying3 (hval 1 3 v1 rfl rfl) h1
  obtain ⟨a2, len2, cap2, rfl⟩ := okWide_slice Tryd.underlying38 (hval 2 38 v2 rfl rfl)
  have k2 := h2
  have lt2 : ∀ x ∈ p2, x.block < W.heap.size := by obtain ⟨m, hm⟩ := k2; exact DataW.trod_lt m _ _ _ hm
  obtain ⟨z2, w2⟩ : ∃ ss, Ss W a2 len2 cap2 ss := by
    obtain ⟨fuel, hf⟩ := h2
    rcases Go.Deep.open_strs Tryd.underlying38 Tryd.underlying9 (by kernel_rfl) hf with ⟨hcs, _⟩ | ⟨x, l, c, m, Sx, hcs, _, hl, _, hmm, _, hx⟩
    · simp [Value.cells] at hcs
      obtain ⟨rfl, rfl, rfl⟩ := hcs
      exact ⟨[], Ss.nil_ _⟩
    · simp [Value.cells] at hcs
      obtain ⟨rfl, rfl, rfl⟩ := hcs
      simp only [if_true] at hmm
      exact ⟨_, Ss.of_cells hl (fun j hj => (hx j (by omega)).1)⟩
  clear hA0 hval0
  refine (walk a0 len0 cap0 z0 a1 a2 len2 cap2 z2 W w0 w1 w2 (of_laid hL)).mono fun e W' ⟨he, bel⟩ => ?_
  subst he
  exact ⟨_, rfl, _, _, _, [], _, [], hW', trodAll_mk1 (shut_bool Tryd.underlying4 _), (trodAll_cons_mk (Below.trod laidOut (by kernel_rfl) (of_decide_eq_true (by kernel_rfl)) k0 bel lt0) (trodAll_cons_mk (shut_int Tryd.underlying3 w1) (trodAll_cons_mk (Below.trod laidOut (by kernel_rfl) (of_decide_eq_true (by kernel_rfl)) k2 bel lt2) trodAll_mk0))), rfl, bel.frame _, fun h => by cases h⟩
theorem over : Rows.marksBreakRow.holds Tryd.pinned (OpenSpec.ofChange Rows.marksBreakSpec) :=
  OpenClaim.holds_of_wide 4 Tryd.f4 rfl rfl rfl rfl rfl rfl rfl ⟨rfl, rfl, rfl, rfl, rfl⟩ rfl rfl rfl rfl rfl (by kernel_rfl) Tryd.func4 (by kernel_rfl)
    (of_decide_eq_true (by kernel_rfl)) (by unfold Func.isWrapper; first | (rw [if_pos (by decide +kernel)]; kernel_rfl) | (rw [if_neg (by decide +kernel)]; exact ⟨rfl, rfl⟩))
    (fun os started H enc _ => lifted os started H enc)
/-- the statement -/
theorem proved : Rows.MarksBreakSaid := over
#print axioms proved
set_option maxRecDepth 100000 in
/-- the statement -/
theorem card : Rows.MarksBreakCardSaid :=
  Claim7.holds_tied_plain_at .later [] [.data] true (true, "ae89c69fc24b343251305817e6ee83197e533825873119f2a17488a5861b46de") true
    proved (fun _ h => by cases h) (by kernel_rfl) (fun _ h => by cases h) marksBreak_row_tie rfl ⟨rfl, rfl⟩ (by kernel_rfl) rfl
    (fun f fn hf hfn => by
      obtain rfl : f = 4 := Option.some.inj ((show Tryd.prog.funcNamed "shelterbelt/shelterbeltlaw09.MarksBreak" = some 4 by kernel_rfl).symm.trans hf) |>.symm
      obtain rfl : fn = Tryd.f4 := (Option.some.inj (Tryd.func4.symm.trans hfn)).symm
      exact ⟨by kernel_rfl, fun j t ht => by
        rw [Tryd.params4] at ht
        have hm : t ∈ [37, 3, 38] := by simpa using Array.mem_of_getElem? ht
        have hall : ([37, 3, 38].all fun u => !Tryd.prog.wantsStandIn u) = true := by kernel_rfl
        exact (show Tryd.prog.wantsStandIn t = false by simpa using List.all_eq_true.1 hall t hm)⟩)
    (by kernel_rfl)
#print axioms card
end marksBreak
end Go.Proofs.YthjpjeflgnkgpaaDoor
