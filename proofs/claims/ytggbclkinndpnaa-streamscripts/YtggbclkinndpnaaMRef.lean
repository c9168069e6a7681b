/-
  Layer 6 (stream): the document's own source and its own streams, by contracts.
-/
import Derived.Test.YtggbclkinndpnaaMOf
import Derived.Deep.RegionLaw
import Derived.Deep.AppendLies
import Derived.Deep.RegionHeld3
namespace Go.Proofs.Ytggbclkinndpnaa
open Go.RowKit

/-- the document's source in blocks from m on below hi, itself in block m, behind N draws -/
def Rdr (w : World) (m hi : Nat) (f : Nat → Int) (N : Nat) : Prop :=
  ∃ (mixed : Bool) (s : Int) (A : Option Addr) (n c : Nat) (xs : List Int), m < hi ∧ hi ≤ w.heap.size ∧
    w.heap[m]? = some (.cells #[.bool mixed, .int .u64 s, .slice A n c, .int .i64 (N : Int)] 46 (0, 0)) ∧ Lsr w (m + 1) hi A n xs ∧ n ≤ 1000 ∧ f = Rm.dr (ofF mixed s xs) N
section
variable {w w' : World} {m hi N lo' hi' : Nat} {f g : Nat → Int}
theorem Rdr.keep (h : Rdr w m hi f N) (hs : w.heap.size ≤ w'.heap.size) (hk : ∀ k, m ≤ k → k < hi → w'.heap[k]? = w.heap[k]?) : Rdr w' m hi f N := by
  obtain ⟨mixed, s, A, n, c, xs, h1, h2, hb, hl, hn, hf⟩ := h
  exact ⟨mixed, s, A, n, c, xs, h1, by omega, (hk m (Nat.le_refl _) h1).trans hb, hl.keep fun p hp hq => World.cell?_of_block (hk p.block (by omega) hq), hn, hf⟩
theorem Rdr.size (h : Rdr w m hi f N) : hi ≤ w.heap.size := by obtain ⟨_, _, _, _, _, _, _, h, _⟩ := h; exact h
theorem Rdr.lt (h : Rdr w m hi f N) : m < hi := by obtain ⟨_, _, _, _, _, _, h, _⟩ := h; exact h
theorem Rdr.other (h : Rdr w m hi f N) (hb : Btw lo' hi' w w') (ho : hi ≤ lo' ∨ hi' ≤ m) : Rdr w' m hi f N := h.keep hb.size fun k h1 h2 => hb.block k (by have := h.size; omega) (by omega)
theorem Rdr.below (h : Rdr w m hi f N) (hb : Below w.heap.size w w') : Rdr w' m hi f N := h.keep hb.size fun k _ h2 => hb.block k (by have := h.size; omega)
theorem Rdr.same (h : Rdr w m hi f N) (e : f = g) : Rdr w m hi g N := e ▸ h
end

theorem nth_any (s : Int) (n : Nat) (w : World) (n1 : n < 2000000) :
    Calls Try.prog 12 #[.int .u64 s, .int .i64 (n : Int)] w fun e w' => e = .returned (.int .u64 (Rm.mixAt s n)) ∧ w = w' := by
  have e := Lib.hid (Rm.ref_eq s n)
  go_enter Try.func12, Try.ntmps12
  go_wp2
  go_ret
  exact ⟨ret_int e.out, rfl⟩
theorem set_three {w : World} {m : Nat} {a b c d u : Value} {t : TypeId} (hb : w.heap[m]? = some (.cells #[a, b, c, d] t (0, 0))) : (w.setCell ⟨m, 3, none⟩ u).heap[m]? = some (.cells #[a, b, c, u] t (0, 0)) := by
  rw [heap_setCell_same _ _ _ _ _ _ hb]; rfl

theorem refDraw_any {w : World} {m hi N : Nat} {f : Nat → Int} (h : Rdr w m hi f N) (hN : N < 1000000) :
    Calls Try.prog 10 #[.pointer (some ⟨m, 0, none⟩)] w fun e w' => e = .returned (.int .u64 (f 0)) ∧ Rdr w' m hi (Rm.dr f 1) (N + 1) ∧ Btw m hi w w' := by
  obtain ⟨mixed, s, A, n, c, xs, h1, h2, hb, hl, hn, rfl⟩ := h
  have R : Hid (Rdr (w.setCell ⟨m, 3, none⟩ (.int .i64 ((N : Int) + 1))) m hi (Rm.dr (Rm.dr (ofF mixed s xs) N) 1) (N + 1) ∧ Btw m hi w (w.setCell ⟨m, 3, none⟩ (.int .i64 ((N : Int) + 1)))) :=
    ⟨⟨mixed, s, A, n, c, xs, h1, by rw [size_set]; exact h2, set_three hb, hl.keep fun p hp hq => World.cell?_of_block (heap_setCell_other _ _ _ _ (by show p.block ≠ m; omega)), hn, Rm.dr_dr _ _ _⟩, (Btw.refl _ _ _).setCell 3 (Nat.le_refl _) h1 _⟩
  have c0 : w.cell? ⟨m, 0, none⟩ = some (.bool mixed) := by rw [cell_of_row _ _ _ _ _ _ hb]; rfl
  have c1 : w.cell? ⟨m, 1, none⟩ = some (.int .u64 s) := by rw [cell_of_row _ _ _ _ _ _ hb]; rfl
  have c2 : w.cell? ⟨m, 2, none⟩ = some (.slice A n c) := by rw [cell_of_row _ _ _ _ _ _ hb]; rfl
  have c3 : w.cell? ⟨m, 3, none⟩ = some (.int .i64 (N : Int)) := by rw [cell_of_row _ _ _ _ _ _ hb]; rfl
  have f3 := frozen_of_row w m 3 _ _ hb
  cases mixed with
  | true =>
    have hK := Lib.hid (fun w => nth_any s N w (by omega))
    have e := Lib.hid (show Rm.mixAt s N = Rm.dr (ofF true s xs) N 0 from by rw [Rm.dr_at, Nat.zero_add]; rfl)
    clear hb hl h1 h2
    go_enter Try.func10, Try.ntmps10
    go_wp2_with fail
    refine (hK.out _).mono ?_
    rintro _ _ ⟨rfl, rfl⟩
    go_wp2
    go_ret
    exact ⟨ret_int e.out, R.out⟩
  | false =>
    by_cases hlt : N < n
    · obtain ⟨b, off, rfl, hg1, hg2, hcell⟩ := hl.2 (by omega)
      have hxl : N < xs.length := by have := hl.1; omega
      have hcell' : w.cell? ⟨b, off + N, none⟩ = some (.int .u64 xs[N]) := hcell N _ (List.getElem?_eq_getElem hxl)
      have e := Lib.hid (show xs[N] = Rm.dr (ofF false s xs) N 0 from by rw [Rm.dr_at, Nat.zero_add]; show _ = lstF xs N; unfold lstF; rw [List.getElem?_eq_getElem hxl]; rfl)
      obtain ⟨x, hxx⟩ : ∃ x, x = xs[N] := ⟨_, rfl⟩
      rw [← hxx] at hcell' e
      have hne : b ≠ m := by omega
      clear hb hl hcell hxx hxl
      go_enter Try.func10, Try.ntmps10
      go_wp2
      go_ret
      exact ⟨ret_int e.out, R.out⟩
    · have e := Lib.hid (show 0 = Rm.dr (ofF false s xs) N 0 from by
        rw [Rm.dr_at, Nat.zero_add]; show _ = lstF xs N; unfold lstF; rw [List.getElem?_eq_none (by have := hl.1; omega)]; rfl)
      clear hb hl
      go_enter Try.func10, Try.ntmps10
      go_wp2
      go_ret
      exact ⟨ret_int e.out, R.out⟩

theorem own_heap {w w' : World} {base : Nat} {e : TypeId} {v : Value} {n : Nat} {xs : List Value} (h : w.ownsRow base e 1 v n xs) (hh : w'.heap = w.heap) : w'.ownsRow base e 1 v n xs := by
  unfold World.ownsRow at *
  rw [hh]
  exact h
theorem cell_heap {w w' : World} (hh : w'.heap = w.heap) (p : Addr) : w'.cell? p = w.cell? p := by
  unfold World.cell?
  rw [hh]
theorem grown_block {w w' : World} {row : Option Nat} (h : w.grownBy w' row) {k : Nat} (hk : k < w.heap.size) (hr : row ≠ some k) : w'.heap[k]? = w.heap[k]? := h.block k hk (fun e => hr e.symm)
theorem Rdr.new {w : World} (mixed : Bool) (s : Int) (xs : List Int) (e : xs = []) :
    Rdr (w.alloc (.cells #[.bool mixed, .int .u64 s, .slice none 0 0, .int .i64 0] 46)) w.heap.size (w.heap.size + 1) (ofF mixed s xs) 0 :=
  ⟨mixed, s, none, 0, 0, xs, by omega, by simp, heap_new _ _ _, ⟨by rw [e]; rfl, fun h => absurd h (by omega)⟩, by omega, rfl⟩

set_option maxHeartbeats 1600000 in
theorem refOf_any (sc : Bool) (s : Int) (A : Option Addr) (len c : Nat) (xs : List Int) (t n : Int) (w : World) (h : Dws w w.heap.size s A len c xs) (hl : len ≤ 1000) (hn : n ≤ 1000000) :
    Calls Try.prog 9 #[.agg #[.bool sc, .int .u64 s, .slice A len c], .int .i64 t, .int .i64 n] w fun e w' => ∃ m, e = .returned (.pointer (some ⟨m, 0, none⟩)) ∧ w.heap.size ≤ m ∧ Rdr w' m w'.heap.size (Sm.strF sc s xs t n) 0 ∧ Below w.heap.size w w' := by
  have HB : Hid (Below w.heap.size w (w.alloc (.cells #[.bool sc, .int .u64 s, .slice A len c] 25))) := (Below.refl _ _).alloc (Nat.le_refl _) _
  have HD := Lib.hid h
  clear h
  by_cases q : t < 0 ∨ n ≤ t
  · rw [Sm.strF_none q]
    rcases (show (t < 0) ∨ (¬ t < 0 ∧ n ≤ t) from by omega) with q1 | ⟨q1, q2⟩
    all_goals
      clear q
      go_enter Try.func9, Try.ntmps9
      go_wp2
      go_ret
      refine ⟨_, rfl, by omega, ?_, HB.out.alloc HB.out.size _⟩
      have := Rdr.new (w := w.alloc (.cells #[.bool sc, .int .u64 s, .slice A len c] 25)) false 0 [] rfl
      rw [World.size_alloc] at this
      rw [World.size_alloc, World.size_alloc]
      exact this
  · have t0 : 0 ≤ t := by omega
    have tn : ¬ n ≤ t := by omega
    obtain ⟨i, rfl⟩ : ∃ i : Nat, t = i := ⟨t.toNat, by omega⟩
    obtain ⟨p, rfl⟩ : ∃ p : Nat, n = p := ⟨n.toNat, by omega⟩
    cases sc with
    | false =>
      have HK := Lib.hid (fun w => nth_any s i w (by omega))
      rw [Sm.strF_seed q]
      clear q HD
      rw [show (i : Int).toNat = i from rfl]
      obtain ⟨x, hx⟩ : ∃ x, x = Rm.mixAt s i := ⟨_, rfl⟩
      rw [← hx] at HK ⊢
      clear hx
      go_enter Try.func9, Try.ntmps9
      go_wp2_with fail
      refine (HK.out _).mono ?_
      rintro _ _ ⟨rfl, rfl⟩
      go_wp2
      go_ret
      refine ⟨_, rfl, by omega, ?_, HB.out.alloc HB.out.size _⟩
      have := Rdr.new (w := w.alloc (.cells #[.bool false, .int .u64 s, .slice A len c] 25)) true x [] rfl
      rw [World.size_alloc] at this
      rw [World.size_alloc, World.size_alloc]
      exact this
    | true =>
      obtain ⟨i0, hi, hz0, hz1, hz2⟩ := info_parts Try.infoU64
      rw [Sm.strF_list q]
      have HX := Lib.hid HD.out.len
      have HL := Lib.hid HD.out.l
      clear q
      obtain ⟨D, hD⟩ : ∃ D, D = w.alloc (.cells #[.bool true, .int .u64 s, .slice A len c] 25) := ⟨_, rfl⟩
      have hds : D.heap.size = w.heap.size + 1 := by rw [hD]; simp
      have HD0 := Lib.hid (show D.cell? ⟨w.heap.size, 2, none⟩ = some (.slice A len c) from by rw [hD, cell_of_row _ _ _ _ _ _ (heap_new _ _ _)]; rfl)
      have HBD : Hid (Below w.heap.size w D) := by rw [hD]; exact HB.out
      clear HB
      go_enter Try.func9, Try.ntmps9
      go_wp2
      rw [← hD]
      go_loopw [8] (fun j wr => ∃ (k : Nat) (v : Value), k ≤ Sm.cnt len i p ∧ j = .int .i64 ((i + k * p : Nat) : Int) ∧ wr.heap[w.heap.size + 1]? = some (.cells #[.bool false, .int .u64 0, v, .int .i64 0] 46 (0, 0)) ∧ wr.ownsRow (w.heap.size + 2) 22 1 v k ((Sm.part xs i p k).map (Value.int .u64)) ∧ Below D.heap.size D wr ∧ w.heap.size + 2 ≤ wr.heap.size) (fun j _ => len + p - (intOf j).toNat)
      case atStart =>
        refine ⟨0, .slice none 0 0, Nat.zero_le _, by simp, ?_, World.ownsRow_nil _ _ _ _, (Below.refl _ _).alloc (Nat.le_refl _) _, by simp; omega⟩
        rw [← hds]; exact heap_new _ _ _
      case round =>
        obtain ⟨k, v, hk, rfl, hM, hown, hbel, hsz⟩ := hrel
        obtain ⟨A0, c0, rfl, -⟩ := own_form hown
        have HBB := Lib.hid hbel
        have HMM := Lib.hid hM
        have d2 := (hbel.cell (p := ⟨w.heap.size, 2, none⟩) (by show w.heap.size < _; omega)).trans HD0.out
        by_cases hlt : k < Sm.cnt len i p
        · have hin : i + k * p < len := (Sm.lt_cnt (by omega)).1 hlt
          obtain ⟨b, off, rfl, hb, hc⟩ := HL.out.at_ hin
          rw [List.getElem?_map, List.getElem?_eq_getElem (by rw [HX.out]; exact hin)] at hc
          have hc1 := (HBD.out.cell (p := ⟨b, off + (i + k * p), none⟩) hb).trans hc
          have hc2 := (hbel.cell (p := ⟨b, off + (i + k * p), none⟩) (by show b < _; omega)).trans hc1
          have HS := Lib.hid (Sm.part_succ xs i p k)
          obtain ⟨x, hx⟩ : ∃ x, x = xs[i + k * p]'(by rw [HX.out]; exact hin) := ⟨_, rfl⟩
          rw [List.getElem?_eq_getElem (by rw [HX.out]; exact hin), ← hx] at HS
          rw [← hx] at hc2
          obtain ⟨j, hj⟩ : ∃ j, j = i + k * p := ⟨_, rfl⟩
          rw [← hj] at hc2 hin ⊢
          have HJ := Lib.hid hj
          have hk1 : k < 1000 := by have := Sm.cnt_le len i p (by omega); omega
          have m2 : wr.cell? ⟨w.heap.size + 1, 2, none⟩ = some (.slice A0 k c0) := by rw [cell_of_row _ _ _ _ _ _ hM]; rfl
          have f2 := frozen_of_row wr (w.heap.size + 1) 2 _ _ hM
          have hwO : ∀ W : World, W.heap = (wr.alloc (.cells #[.int .u64 x] 22)).heap → W.ownsRow (w.heap.size + 2) 22 1 (.slice A0 k c0) k ((Sm.part xs i p k).map (Value.int .u64)) := fun W e => own_heap (hown.alloc _) e
          have hwN : ∀ W : World, W.heap = (wr.alloc (.cells #[.int .u64 x] 22)).heap → ∀ j u, ([.int .u64 x] : List Value)[j]? = some u → W.cell? ((⟨wr.heap.size, 0, none⟩ : Addr).add j) = some u := fun W e j u hu => by
            rw [cell_heap e]; exact cell_one_new _ _ _ j u hu
          have HwO := Lib.hid hwO
          have HwN := Lib.hid hwN
          have HwM : Hid (∀ W : World, W.heap = (wr.alloc (.cells #[.int .u64 x] 22)).heap → W.heap[w.heap.size + 1]? = some (.cells #[.bool false, .int .u64 0, .slice A0 k c0, .int .i64 0] 46 (0, 0))) := Lib.hid (fun W e => by rw [e]; exact (Below.heap_alloc _ _ _ (by omega)).trans HMM.out)
          have HOLD := Lib.hid hown
          have a1 := (World.cell?_of_block (w := wr) (a := ⟨w.heap.size + 1, 2, none⟩) (Below.heap_alloc wr (.cells #[.int .u64 x] 22) _ (by show w.heap.size + 1 < _; omega))).trans m2
          have a2 := (World.cell?_of_block (w := wr) (a := ⟨w.heap.size, 2, none⟩) (Below.heap_alloc wr (.cells #[.int .u64 x] 22) _ (by show w.heap.size < _; omega))).trans d2
          have a3 := (World.cell?_of_block (w := wr) (a := ⟨b, off + j, none⟩) (Below.heap_alloc wr (.cells #[.int .u64 x] 22) _ (by show b < _; omega))).trans hc2
          clear hx hc hc1 hbel hM hown hj hwO hwN hD
          go_wp2
          go_region_law (refine step_append_lies _ rfl (.tmp 42) (.tmp 48) 23 rfl (w.heap.size + 2) 22 i0 (.int .u64 0) 1 8 Try.underlying23 hi hz0 hz1 hz2 rfl (by decide) (.slice A0 k c0) k _ (by simp [Act.eval]) (HwO.out _ rfl) ⟨wr.heap.size, 0, none⟩ 1 1 [.int .u64 x] (by simp [Act.eval]) rfl (HwN.out _ rfl) (ints_one .u64 [x]) (by omega) (by unfold maxLen; omega) (by omega) (by simp; omega) _ rfl ?_; intro g cap w1 hown1 hgrow hat hltg; have hM1 := (grown_block hgrow (k := w.heap.size + 1) (by simp; omega) (by intro h; have := ownBlock_ge HOLD.out _ h; omega)).trans (HwM.out _ rfl); have m3 := cell_of_row _ _ 2 _ _ _ hM1; have f3 := frozen_of_row _ _ 2 _ _ hM1)
          all_goals
            have HO2 : Hid ((w1.setCell ⟨w.heap.size + 1, 2, none⟩ (.slice (some ⟨g, 0, none⟩) (k + 1) cap)).ownsRow (w.heap.size + 2) 22 1 (.slice (some ⟨g, 0, none⟩) (k + 1) cap) (k + 1) ((Sm.part xs i p (k + 1)).map (Value.int .u64))) := Lib.hid (by
              rw [HS.out, List.map_append]; exact ownsRow_setCell_below hown1 (by show w.heap.size + 1 < _; omega) _)
            have HM2 : Hid ((w1.setCell ⟨w.heap.size + 1, 2, none⟩ (.slice (some ⟨g, 0, none⟩) (k + 1) cap)).heap[w.heap.size + 1]? = some (.cells #[.bool false, .int .u64 0, .slice (some ⟨g, 0, none⟩) (k + 1) cap, .int .i64 0] 46 (0, 0))) := Lib.hid (by
              rw [heap_setCell_same _ _ _ _ _ _ hM1]; rfl)
            have HB2 : Hid (Below D.heap.size D (w1.setCell ⟨w.heap.size + 1, 2, none⟩ (.slice (some ⟨g, 0, none⟩) (k + 1) cap))) := Lib.hid (((show Below D.heap.size D _ from (HBB.out.alloc HBB.out.size (.cells #[.int .u64 x] 22)).drew).grown hgrow (by simp; omega) (fun q hq => by have := ownBlock_ge HOLD.out q hq; omega)).setCell (by show _ ≤ w.heap.size + 1; omega) _)
            have hs2 : w.heap.size + 2 ≤ (w1.setCell ⟨w.heap.size + 1, 2, none⟩ (.slice (some ⟨g, 0, none⟩) (k + 1) cap)).heap.size := by
              rw [size_set]; have := hgrow.size; simp at this; omega
            have HSZ := Lib.hid hs2
            obtain ⟨W2, hW2⟩ : ∃ W2, W2 = w1.setCell ⟨w.heap.size + 1, 2, none⟩ (.slice (some ⟨g, 0, none⟩) (k + 1) cap) := ⟨_, rfl⟩
            rw [← hW2] at HO2 HM2 HB2 HSZ ⊢
            clear hown1 hgrow hat hltg HwO HwN HwM HOLD HBB hM1 m3 f3 hs2 hW2 a1 a2 a3 m2 f2 d2 hc2 HMM
            go_wp2
            go_roundw
            case rel => exact ⟨k + 1, _, by omega, congrArg (Value.int .i64) (by rw [Nat.add_mul, HJ.out]; omega), HM2.out, HO2.out, HB2.out, HSZ.out⟩
            case measure => simp [intOf]; omega
        · have hge : len ≤ i + k * p := Nat.le_of_not_lt fun h => hlt ((Sm.lt_cnt (by omega)).2 h)
          obtain rfl : k = Sm.cnt len i p := by omega
          have R : Hid (Rdr wr (w.heap.size + 1) wr.heap.size (fun k => xs[(i : Int).toNat + k * (p : Int).toNat]?.getD 0) 0) := by
            refine ⟨false, 0, A0, _, c0, Sm.share xs i p, by omega, Nat.le_refl _, hM, ?_, ?_, ?_⟩
            · have := Lsr.of_own hown
              unfold Sm.share; rw [HX.out]; exact this
            · have := Sm.cnt_le len i p (by omega); omega
            · funext q
              exact (Sm.share_at xs i p (by omega) q).symm
          obtain ⟨j, hj⟩ : ∃ j, j = i + Sm.cnt len i p * p := ⟨_, rfl⟩
          rw [← hj] at hge ⊢
          clear hM hown hbel HMM hj hk hlt hD
          go_wp2
          go_ret
          exact ⟨_, rfl, by omega, R.out, HBD.out.trans (HBB.out.mono (by omega))⟩
end Go.Proofs.Ytggbclkinndpnaa
