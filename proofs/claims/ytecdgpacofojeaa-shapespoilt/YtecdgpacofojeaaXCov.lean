/-
  Layer 14 (shape): Covers of whatever tells lists, by contract.
-/
import Derived.Test.YtecdgpacofojeaaMN
import Derived.Test.YtecdgpacofojeaaMG
import Derived.Test.YtecdgpacofojeaaWMem
import Derived.Test.YtecdgpacofojeaaMH
namespace Go.Proofs.Ytecdgpacofojeaa
open Go.RowKit Go.Shelf
attribute [local go_sem] Oper.semAt_some

/-- of what stood in w0 all is as it was that stood ahead of base, or from lo on -/
def Keeps (base lo : Nat) (w0 V : World) : Prop := w0.heap.size ≤ V.heap.size ∧ ∀ q, q < w0.heap.size → (q < base ∨ lo ≤ q) → V.heap[q]? = w0.heap[q]?
theorem Keeps.of_below {base lo : Nat} {w0 V : World} (h : Below w0.heap.size w0 V) : Keeps base lo w0 V := ⟨h.size, fun q hq _ => h.block q hq⟩
theorem Keeps.of_kept {base lo nb : Nat} {w0 V : World} (h : Kept (fun q => q = nb) w0 V) (h1 : base ≤ nb) (h2 : nb < lo) : Keeps base lo w0 V := ⟨h.size, fun q hq ho => h.block q hq (by omega)⟩
/-- what tells the lists L, one behind the other, as long as it is asked: each stands in memory that was there ahead (w0), or in blocks from D on; the teller itself changes nothing but blocks from D on, and no loop's record -/
def TellsL (gf : Nat) (lb : Array Value) (base lo : Nat) (w0 : World) (L : List (List Int)) : Prop :=
  ∀ (m y D : Nat) (I : Nat → World → Prop) (K Y : World → Prop) (W : World), (∀ k V, I k V → Keeps base lo w0 V ∧ D ≤ V.heap.size) → (∀ k V V', I k V → Below D V V' → I k V') → (∀ V V', K V → KeepsFrom 0 V V' → K V') →
    (∀ k l A n c V, L[k]? = some l → Sl V A n c l → (0 < n → ∀ b off s, A = some ⟨b, off, s⟩ → b < w0.heap.size ∨ D ≤ b) → I k V → K V →
      YieldAt Fence.wide (m + 1 - 1) Try.prog y #[.slice A n c] V fun e V' => (e = .returned (.bool true) ∧ I (k + 1) V' ∧ K V') ∨ (e = .returned (.bool false) ∧ Y V')) →
    I 0 W → K W → CallsIn Fence.wide (m + 1) Try.prog gf (#[.func (.yield y) #[] #[]] ++ lb) W fun e W' => (∃ v, e = .returned v) ∧ ((I L.length W' ∧ K W') ∨ Y W')
/-- what tells pairs of numbers, one behind the other, as long as it is asked; what it keeps for itself from D on (S) is left alone -/
def TellsV (gf : Nat) (lb : Array Value) (base lo : Nat) (w0 : World) (l : List Om.E) : Prop :=
  ∀ (m y D : Nat) (I : Nat → World → Prop) (K Y : World → Prop) (W : World), (∀ k V, I k V → Keeps base lo w0 V ∧ D ≤ V.heap.size) → (∀ k V V', I k V → Below D V V' → I k V') → (∀ V V', K V → KeepsFrom 0 V V' → K V') →
    (∀ k a b V (S : World → Prop), (∀ V V', S V → Later D V V' → S V') → l[k]? = some (a, b) → I k V → S V → K V →
      YieldAt Fence.wide (m + 1 - 1) Try.prog y #[.int .i64 a, .int .i64 b] V fun e V' => (e = .returned (.bool true) ∧ I (k + 1) V' ∧ S V' ∧ K V') ∨ (e = .returned (.bool false) ∧ Y V')) →
    I 0 W → K W → CallsIn Fence.wide (m + 1) Try.prog gf (#[.func (.yield y) #[] #[]] ++ lb) W fun e W' => (∃ v, e = .returned v) ∧ ((I l.length W' ∧ K W') ∨ Y W')
theorem kf_low {D : Nat} {W W' : World} (h : KeepsFrom 0 W W') : KeepsFrom D W W' := ⟨h.1, fun k o _ => h.2 k o (Nat.zero_le _)⟩
theorem StC.low {w W W' : World} {s b m r v D : Nat} {LL : List Int} (h : StC w s b m r v LL W) (hb : Below D W W') (hd : s < D ∧ b < D ∧ v < D ∧ r < D) (hw : w.heap.size ≤ D) : StC w s b m r v LL W' :=
  h.keep (hb.block _ hd.1) (hb.block _ hd.2.1) (hb.block _ hd.2.2.1) (hb.block _ hd.2.2.2) (h.be.trans (hb.mono hw))
theorem kf_below {D : Nat} {W W' : World} (h : Below W.heap.size W W') : KeepsFrom D W W' := kf_kept (S := fun _ => False) (Kept.of_below h) fun _ h => h.elim
/-- one id is met; all but the set's blocks stays -/
theorem StC.add2 {w W : World} {s b m r v D : Nat} {LL : List Int} (h : StC w s b m r v LL W) (hn : v ≠ s ∧ v ≠ b ∧ r ≠ s ∧ r ≠ b) (hd : s < D ∧ b < D) (hw : w.heap.size ≤ s ∧ w.heap.size ≤ b) (x : Int) :
    Calls Try.prog 40 #[.pointer (some ⟨s, 0, none⟩), .int .i64 x] W fun e W' => e = .returned (.bool (decide (0 ≤ x ∧ x < (m : Int) ∧ x ∉ LL))) ∧ StC w s b m r v (Nm.add m LL x) W' ∧ KeepsFrom D W W' ∧
      W.heap.size ≤ W'.heap.size ∧ ∀ q, q < W.heap.size → q ≠ s → q ≠ b → W'.heap[q]? = W.heap[q]? := by
  refine (addS s b m LL x W h.set).mono ?_
  rintro e W' ⟨he, h1, h2⟩
  exact ⟨he, ⟨h1, (h2.block v (lt_of_block h.var) (by omega)).trans h.var, (h2.block r (lt_of_block h.res) (by omega)).trans h.res, h.be.trans (h2.old h.be.size fun j hj => by omega)⟩, kf_kept h2 fun k hk => by omega,
    h2.size, fun q hq h3 h4 => h2.block q hq (fun h => by rcases h with h | h; exact h3 h; exact h4 h)⟩
set_option maxHeartbeats 1600000 in
set_option maxRecDepth 100000 in
theorem coversG (n : Int) (gf : Nat) (lb : Array Value) (eg : ∀ args w, (callFunc gf args).run Try.prog w = .ok (.enter gf args) w) (L : List (List Int)) (w : World) (hn : n ≤ 1000000000) {base lo : Nat} (hT : TellsL gf lb base lo w L) (hin : ∀ l ∈ L, l.length ≤ 1000000) :
    Calls Try.prog 26 #[.int .i64 n, .func (.func gf) #[] lb] w fun e w' => e = .returned (.bool (Nm.cov n L.flatten)) ∧ Below w.heap.size w w' := by
  have HIN := Lib.hid hin
  obtain ⟨m, hm⟩ : ∃ m : Nat, n.toNat = m := ⟨_, rfl⟩
  have HMM := Lib.hid hm
  have HTL := Lib.hid hT
  clear hT hin hm
  refine (callsIn_wide (n := 6)).1 ?_
  refine callsIn_of_wp_marks Try.func26 rfl trivial ?_ rfl
  simp only [Try.ntmps26, List.size_toArray, List.length_cons, List.length_nil, Nat.reduceAdd, Nat.reduceSub, Array.replicate_succ, Array.replicate_zero, List.push_toArray, List.append_toArray, List.nil_append, List.cons_append]
  obtain ⟨W0, hW0⟩ : ∃ W0, W0 = w.alloc (.cells #[.bool false] 4) := ⟨_, rfl⟩
  have HW0 := Lib.hid hW0
  have b0 : Below w.heap.size w W0 := by rw [hW0]; exact (Below.refl _ w).alloc (Nat.le_refl _) _
  have r0 : W0.heap[w.heap.size]? = some (.cells #[.bool false] 4 (0, 0)) := by rw [hW0]; exact heap_new w _ _
  have B0 := Lib.hid b0
  have R0 := Lib.hid r0
  clear hW0 b0 r0
  gi_wp2_with fail
  rw [← HW0.out]
  refine ⟨trivial, ?_⟩
  refine (callsIn_wide.2 (newS n hn _)).mono ?_
  rintro _ W1 ⟨s, b, rfl, h1, hs1, hb1, b1⟩
  rw [HMM.out] at h1
  have hsz0 := lt_of_block R0.out
  obtain ⟨W2, hW2⟩ : ∃ W2, W2 = W1.alloc (.cells #[.pointer (some ⟨s, 0, none⟩)] 85) := ⟨_, rfl⟩
  have b2 : Below W1.heap.size W1 W2 := by rw [hW2]; exact (Below.refl _ W1).alloc (Nat.le_refl _) _
  have hs2 : W2.heap.size = W1.heap.size + 1 := by rw [hW2]; simp
  have lts := h1.lts
  have ltb := h1.ltb
  have hsv := b1.size
  have HST := Lib.hid (show StC w s b m w.heap.size W1.heap.size [] W2 from ⟨h1.below b2, by rw [hW2]; exact heap_new W1 _ _, ((b2.block _ (by omega)).trans (b1.block _ hsz0)).trans R0.out, B0.out.trans ((b1.mono B0.out.size).trans (b2.mono (by have := B0.out.size; omega)))⟩)
  have hbw := B0.out.size
  have HW2 := Lib.hid hW2
  clear h1 b1 b2 hW2 B0 R0
  gi_wp2
  rw [← HW2.out]
  have hd : s < W2.heap.size ∧ b < W2.heap.size ∧ W1.heap.size < W2.heap.size ∧ w.heap.size < W2.heap.size := by omega
  have hne : W1.heap.size ≠ s ∧ W1.heap.size ≠ b ∧ w.heap.size ≠ s ∧ w.heap.size ≠ b := by omega
  have hww : w.heap.size ≤ W2.heap.size := by omega
  have hsb : w.heap.size ≤ s ∧ w.heap.size ≤ b := by omega
  have nw := hww
  refine range_keeps (n := 6) rfl (by omega) (gf := gf) (lb := lb) rfl trivial eg
    (fun k W => StC w s b m w.heap.size W1.heap.size (L.take k).flatten W ∧ W2.heap.size + 2 ≤ W.heap.size)
    (fun k vs W => ∃ l A' n' c', L[k]? = some l ∧ vs = #[.slice A' n' c'] ∧ Sl W A' n' c' l ∧ Inn (fun q => q < w.heap.size ∨ W2.heap.size + 2 ≤ q) n' A' ∧ StC w s b m w.heap.size W1.heap.size (L.take k).flatten W ∧ W2.heap.size + 2 ≤ W.heap.size)
    (fun W => StC w s b m w.heap.size W1.heap.size L.flatten W)
    (fun c W => c = .ret ∧ StX w w.heap.size n L W)
    (fun vs t => (t.setIfInBounds 12 (vs.getD 0 undef)).setIfInBounds 6 (vs.getD 0 undef))
    (fun k W W' h ho => ⟨h.1.off hd hww ho, by rw [ho.size]; exact h.2⟩)
    ?hM (fun W W' h ho => h.off hd hww ho)
    ?hX ?hps ?h0 ?iter ?assign ?body ?done ?stop
  case hM => rintro k vs W W' ⟨l, A', n', c', h1, h2, h3, h4, h5, h6⟩ ho; exact ⟨l, A', n', c', h1, h2, h3.keepIn h4 (by rw [ho.size]; exact Nat.le_refl _) (fun q hq hp => ho.block q (by omega)), h4, h5.off hd hww ho, by rw [ho.size]; exact h6⟩
  case hX => rintro c W W' ⟨h1, h2, h3, h4⟩ ho; exact ⟨h1, (ho.block _ (by omega)).trans h2, h3, h4.trans ⟨ho.os, ho.tape, ho.output, by rw [ho.size]; exact Nat.le_refl _, fun j hj => ho.block j (by omega)⟩⟩
  case hps => rintro k vs W ⟨l, A', n', c', -, rfl, -, -, -, -⟩; rfl
  case h0 => intro W hb hs; exact ⟨by simpa using HST.out.below hb, by omega⟩
  case iter =>
    intro y Kk Y hK hY W hI hKW
    refine (HTL.out 4 y (W2.heap.size + 2) (fun k W => StC w s b m w.heap.size W1.heap.size (L.take k).flatten W ∧ W2.heap.size + 2 ≤ W.heap.size) Kk Y W (fun k V h => ⟨Keeps.of_below h.1.be, h.2⟩) (fun k V V' h hb => ⟨h.1.low hb (by omega) (by omega), Nat.le_trans h.2 hb.size⟩) (fun V V' h hb => hK V V' h (kf_low hb)) ?_ hI hKW).mono ?_
    · intro k l A' n' c' V hl hs hp hI hKV
      exact hY k _ V ⟨l, A', n', c', hl, rfl, hs, hp, hI.1, hI.2⟩ hKV
    · rintro e W' ⟨hv, h | h⟩
      · refine ⟨hv, .inl ⟨?_, h.2⟩⟩
        have := h.1.1
        rwa [List.take_of_length_le (Nat.le_refl _)] at this
      · exact ⟨hv, .inr h⟩
  case assign =>
    rintro y k vs W K ⟨l, A', n', c', -, rfl, -, -, -, -⟩ hK
    gi_wp2
    exact hK
  case body =>
    rintro y k vs W ⟨l, A', n', c', hl, rfl, hs, hpr, hst, hsz2⟩
    have HPR := Lib.hid hpr
    have HLK := Lib.hid hl
    have HS := Lib.hid hs
    have HI := Lib.hid hst
    have hn' : n' ≤ 1000000 := by rw [← hs.length]; exact HIN.out l (List.mem_of_getElem? hl)
    have hbe := hst.be.size
    have hds := hst.set.lts
    have hdb := hst.set.ltb
    have hdr := lt_of_block hst.res
    have hdv := lt_of_block hst.var
    clear hl hs hst hpr
    generalize hP : leftBy W2.heap.size _ _ W = Pst
    have HP := Lib.hid hP
    clear hP
    gi_wp2
    gi_loopw [15] (fun p wr => ∃ i : Nat, p = .int .i64 (i : Int) ∧ i ≤ n' ∧ StC w s b m w.heap.size W1.heap.size ((L.take k).flatten ++ l.take i) wr ∧ KeepsFrom W2.heap.size W wr ∧ W.heap.size ≤ wr.heap.size ∧ ∀ q, q < W.heap.size → q ≠ s → q ≠ b → wr.heap[q]? = W.heap[q]?) (fun p _ => n' - (intOf p).toNat)
    case atStart => exact ⟨0, rfl, Nat.zero_le _, by simpa using HI.out, KeepsFrom.refl _ _, Nat.le_refl _, fun _ _ _ _ => rfl⟩
    case round => 
      obtain ⟨i, rfl, hi, hst, hkf, hsw, hkp⟩ := hrel
      have HKP := Lib.hid hkp
      have HT := Lib.hid hst
      have HK := Lib.hid hkf
      clear hst hkf hkp HI
      by_cases hlt : i < n'
      · obtain ⟨x, hx⟩ := HS.out.get hlt
        obtain ⟨bb, off, rfl, hbb, c0⟩ := HS.out.at_ hx
        have hbp := HPR.out (by omega) bb off none rfl
        have c1 : wr.cell? ⟨bb, off + i, none⟩ = some (.int .i64 x) := (World.cell?_of_block (w := W) (HKP.out bb hbb (by omega) (by omega))).trans c0
        have cv : wr.cell? ⟨W1.heap.size, 0, none⟩ = some (.pointer (some ⟨s, 0, none⟩)) := by rw [cell_of_row _ _ _ _ _ _ HT.out.var]; rfl
        have HA := Lib.hid (HT.out.add2 (D := W2.heap.size) hne ⟨hd.1, hd.2.1⟩ hsb x)
        have HX := Lib.hid hx
        clear c0 hbb hx hbp
        by_cases hc : 0 ≤ x ∧ x < (m : Int) ∧ x ∉ (L.take k).flatten ++ l.take i
        · have e1 : decide (0 ≤ x ∧ x < (m : Int) ∧ x ∉ (L.take k).flatten ++ l.take i) = true := decide_eq_true hc
          have e2 : Nm.add (m : Int) ((L.take k).flatten ++ l.take i) x = (L.take k).flatten ++ l.take (i + 1) := by unfold Nm.add; rw [if_pos hc, List.take_add_one, HX.out]; simp
          have HE1 := Lib.hid e1
          have HE2 := Lib.hid e2
          clear e1 e2 hc
          gi_wp2_with fail
          refine ⟨trivial, ?_⟩
          refine CallsIn.inRound y ((callsIn_wide.2 HA.out).mono ?_)
          rintro _ W5 ⟨rfl, h5, hk5, hsz5, hkp5⟩
          rw [HE2.out] at h5
          have HKP5 : Hid (∀ q, q < W.heap.size → q ≠ s → q ≠ b → W5.heap[q]? = W.heap[q]?) := Lib.hid fun q h1 h2 h3 => (hkp5 q (by omega) h2 h3).trans (HKP.out q h1 h2 h3)
          rw [HE1.out]
          have H5 := Lib.hid h5
          have HK5 := Lib.hid (kf_trans HK.out hk5)
          clear h5 hk5 hkp5 HA HE1 HE2
          gi_wp2
          go_roundw
          case rel => exact ⟨i + 1, congrArg (Value.int .i64) (by omega), by omega, H5.out, HK5.out, by omega, HKP5.out⟩
          case measure => simp [intOf]; omega
        · have e1 : decide (0 ≤ x ∧ x < (m : Int) ∧ x ∉ (L.take k).flatten ++ l.take i) = false := decide_eq_false hc
          have HE1 := Lib.hid e1
          have HNO := Lib.hid (show Nm.cov n L.flatten = false from by rw [flat_cut HLK.out i x HX.out]; exact cov_stop (by rw [HMM.out]; exact hc))
          clear e1 hc
          gi_wp2_with fail
          refine ⟨trivial, ?_⟩
          refine CallsIn.inRound y ((callsIn_wide.2 HA.out).mono ?_)
          rintro _ W5 ⟨rfl, h5, hk5, -, -⟩
          rw [HE1.out]
          have cr : W5.cell? ⟨w.heap.size, 0, none⟩ = some (.bool false) := by rw [cell_of_row _ _ _ _ _ _ h5.res]; rfl
          have fr := frozen_of_row W5 w.heap.size 0 _ _ h5.res
          have HX5 := Lib.hid (show StX w w.heap.size n L (W5.setCell ⟨w.heap.size, 0, none⟩ (.bool false)) from ⟨one_set (u := .bool false) h5.res, HNO.out, h5.be.setCell (p := ⟨w.heap.size, 0, none⟩) (Nat.le_refl _) _⟩)
          have HK5 := Lib.hid (kf_trans HK.out (kf_trans hk5 (kf_cell (o := 0) (u := .bool false) h5.res)))
          clear h5 hk5 HA HE1
          gi_wp2
          rw [← HP.out]
          exact ⟨HK5.out, rfl, HX5.out⟩
      · obtain rfl : i = n' := by omega
        have e := flat_take HLK.out
        have HIK : Hid (StC w s b m w.heap.size W1.heap.size (L.take (k + 1)).flatten wr) := by
          have := HT.out
          rwa [List.take_of_length_le (show l.length ≤ i by rw [HS.out.length]; exact Nat.le_refl _), ← e] at this
        clear e
        gi_wp2
        rw [← HP.out]
        exact ⟨HK.out, HIK.out, by show W2.heap.size + 2 ≤ wr.heap.size; omega⟩
  case done =>
    rintro D W rfl hst hK
    have HT := Lib.hid hst
    have HKD := Lib.hid hK
    have cv : W.cell? ⟨W1.heap.size, 0, none⟩ = some (.pointer (some ⟨s, 0, none⟩)) := by rw [cell_of_row _ _ _ _ _ _ hst.var]; rfl
    have cn : W.cell? ⟨s, 0, none⟩ = some (.int .i64 (m : Int)) := hst.set.c0
    have cr : W.cell? ⟨w.heap.size, 0, none⟩ = some (.bool false) := by rw [cell_of_row _ _ _ _ _ _ hst.res]; rfl
    have fr := frozen_of_row W w.heap.size 0 _ _ hst.res
    obtain ⟨bv, hbv⟩ : ∃ bv, bv = Nm.cov n L.flatten := ⟨_, rfl⟩
    have hcv := cov_all (n := n) (a := L.flatten) (by rw [HMM.out]; exact hst.set.ids)
    rw [HMM.out] at hcv
    obtain ⟨N, hN⟩ : ∃ N, L.flatten.length = N := ⟨_, rfl⟩
    have hlen := lenS s b m L.flatten W.drew (hst.set.below (Below.refl _ W).drew)
    rw [hN] at hcv hlen
    rw [hcv] at hbv
    have heq : (((N : Nat) : Int) == (m : Int)) = bv := by rw [hbv]; exact Bool.eq_iff_iff.2 (by rw [beq_iff_eq, decide_eq_true_iff]; omega)
    have HLEN := Lib.hid hlen
    have HBV := Lib.hid (show bv = Nm.cov n L.flatten from by rw [hbv, hcv])
    have HU := Lib.hid (hst.be.setCell (p := ⟨w.heap.size, 0, none⟩) (Nat.le_refl _) (.bool bv)).drew
    have HR := Lib.hid (show (W.setCell ⟨w.heap.size, 0, none⟩ (.bool bv)).drew.heap[w.heap.size]? = some (.cells #[.bool bv] 4 (0, 0)) from one_set (u := .bool bv) hst.res)
    have HKZ := Lib.hid (show (W.setCell ⟨w.heap.size, 0, none⟩ (.bool bv)).drew.heap[W2.heap.size]? = some (.deferred (some [])) from by show (W.setCell ⟨w.heap.size, 0, none⟩ (.bool bv)).heap[W2.heap.size]? = _; rw [Below.heap_setCell _ _ _ _ (show W2.heap.size ≠ w.heap.size by omega)]; exact hK)
    clear hst hK HST hcv hbv hlen hs2
    gi_wp2
    refine wpIn_mono (?_ : Code.wpIn _ _ _ _ (NoPanic _) _ _) NoPanic.imp
    gi_region_with (refine ⟨trivial, ?_⟩; refine (callsIn_wide.2 HLEN.out).mono ?_; rintro _ U1 ⟨rfl, rfl⟩)
    all_goals
      refine NoPanic.normal ?_
      clear cv cn cr fr heq
      go_simp
      gi_wp2
      refine ⟨by simp, .inl ⟨_, _, rfl, run_takeDeferred HKZ.out, ?_⟩⟩
      refine ⟨_, result_bool rfl _ _ w.heap.size bv rfl ?_, ?_, HU.out.trans (below_put (by omega) _)⟩
      · rw [cell_of_row _ _ _ _ _ _ ((World.putObj_heap_other (by omega)).trans HR.out)]; rfl
      · rw [HBV.out]
  case stop =>
    rintro D c W rfl ⟨rfl, hx⟩ hK
    have HX := Lib.hid hx
    have HKD := Lib.hid hK
    clear hx hK HST
    gi_wp2
    refine ⟨by simp, .inl ⟨_, _, rfl, run_takeDeferred HKD.out, ?_⟩⟩
    refine ⟨_, result_bool rfl _ _ w.heap.size false rfl ?_, ?_, HX.out.2.2.trans (below_put (by omega) _)⟩
    · rw [cell_of_row _ _ _ _ _ _ ((World.putObj_heap_other (by omega)).trans HX.out.1)]; rfl
    · rw [HX.out.2.1]
end Go.Proofs.Ytecdgpacofojeaa
