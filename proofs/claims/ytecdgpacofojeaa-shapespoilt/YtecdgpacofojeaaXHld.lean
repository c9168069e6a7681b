/-
  Layer 14 (shape): held: what tells each leaf's ids as they stand, by contract.
-/
import Derived.Test.YtecdgpacofojeaaXChk
import Derived.Test.YtecdgpacofojeaaXCov
namespace Go.Proofs.Ytecdgpacofojeaa
open Go.RowKit Go.Shelf
attribute [local go_sem] Oper.semAt_some

/-- a node's cells in a block -/
def Ndb (w : World) (g : Nat) (x : Xm.Nd) (A1 : Option Addr) (n1 c1 : Nat) (A2 : Option Addr) (n2 c2 : Nat) : Prop :=
  w.heap[g]? = some (.cells #[.bool x.leaf, .slice A1 n1 c1, .slice A2 n2 c2, .int .i64 x.po, .int .i64 x.lt, .int .i64 x.rt] 68 (0, 0))
/-- what tells the lists L, each as it stands in memory that was there ahead: the teller makes memory alone, and writes into none -/
def TellsH (gf : Nat) (lb : Array Value) (base lo : Nat) (w0 : World) (L : List (List Int)) : Prop :=
  ∀ (m y : Nat) (I : Nat → World → Prop) (K Y : World → Prop) (W : World), (∀ k V, I k V → Keeps base lo w0 V) → (∀ k V V', I k V → Below V.heap.size V V' → I k V') → (∀ V V', K V → KeepsFrom 0 V V' → K V') →
    (∀ k l A n c V, L[k]? = some l → Sl V A n c l → (0 < n → ∀ b off s, A = some ⟨b, off, s⟩ → b < w0.heap.size) → I k V → K V →
      YieldAt Fence.wide (m + 1 - 1) Try.prog y #[.slice A n c] V fun e V' => (e = .returned (.bool true) ∧ I (k + 1) V' ∧ K V') ∨ (e = .returned (.bool false) ∧ Y V')) →
    I 0 W → K W → CallsIn Fence.wide (m + 1) Try.prog gf (#[.func (.yield y) #[] #[]] ++ lb) W fun e W' => (∃ v, e = .returned v) ∧ ((I L.length W' ∧ K W') ∨ Y W')
theorem TellsH.lists {gf : Nat} {lb : Array Value} {base lo : Nat} {w0 : World} {L : List (List Int)} (h : TellsH gf lb base lo w0 L) : TellsL gf lb base lo w0 L := fun m y _ I K Y W h1 h2 h3 h4 h5 h6 =>
  h m y I K Y W (fun k V hi => (h1 k V hi).1) (fun k V V' hi hb => h2 k V V' hi (hb.mono (h1 k V hi).2)) h3 (fun k l A n c V hl hs hp hi hk => h4 k l A n c V hl hs (fun h0 b off s e => .inl (hp h0 b off s e)) hi hk) h5 h6
namespace Xm
theorem drop_cons' {T : List Nd} {p : Nat} {x : Nd} (h : T[p]? = some x) : T.drop p = x :: T.drop (p + 1) := by
  obtain ⟨h1, rfl⟩ := List.getElem?_eq_some_iff.1 h
  exact List.drop_eq_getElem_cons h1
end Xm
section
variable {w w' : World} {A A1 A2 : Option Addr} {n c g n1 c1 n2 c2 : Nat} {T : List Xm.Nd} {x : Xm.Nd}
theorem Ndb.lt (h : Ndb w g x A1 n1 c1 A2 n2 c2) : g < w.heap.size := lt_of_block h
theorem Ndb.below (h : Ndb w g x A1 n1 c1 A2 n2 c2) (hb : Below w.heap.size w w') : Ndb w' g x A1 n1 c1 A2 n2 c2 := (hb.block g h.lt).trans h
theorem Ndb.new (w : World) (x : Xm.Nd) (A1 : Option Addr) (n1 c1 : Nat) (A2 : Option Addr) (n2 c2 : Nat) : Ndb (w.alloc (.cells #[.bool x.leaf, .slice A1 n1 c1, .slice A2 n2 c2, .int .i64 x.po, .int .i64 x.lt, .int .i64 x.rt] 68)) w.heap.size x A1 n1 c1 A2 n2 c2 := heap_alloc_new w _
theorem Ndb.cells (h : Ndb w g x A1 n1 c1 A2 n2 c2) : w.cell? ⟨g, 0, none⟩ = some (.bool x.leaf) ∧ w.cell? ⟨g, 1, none⟩ = some (.slice A1 n1 c1) ∧ w.cell? ⟨g, 2, none⟩ = some (.slice A2 n2 c2) ∧ w.cell? ⟨g, 3, none⟩ = some (.int .i64 x.po) ∧
    w.cell? ⟨g, 4, none⟩ = some (.int .i64 x.lt) ∧ w.cell? ⟨g, 5, none⟩ = some (.int .i64 x.rt) :=
  ⟨by rw [cell_of_row _ _ _ _ _ _ h]; rfl, by rw [cell_of_row _ _ _ _ _ _ h]; rfl, by rw [cell_of_row _ _ _ _ _ _ h]; rfl, by rw [cell_of_row _ _ _ _ _ _ h]; rfl, by rw [cell_of_row _ _ _ _ _ _ h]; rfl, by rw [cell_of_row _ _ _ _ _ _ h]; rfl⟩
/-- nodes that stand below a block are kept by what keeps all below it -/
theorem Xds.keeps {wb : World} (h : Xds wb A n c T) {base lo : Nat} {w0 V : World} (hb : Below wb.heap.size wb w0) (hk : Keeps base lo w0 V) (hbase : wb.heap.size ≤ base) : ∀ q, q < wb.heap.size → V.heap[q]? = wb.heap[q]? :=
  fun q hq => (hk.2 q (Nat.lt_of_lt_of_le hq hb.size) (.inl (by omega))).trans (hb.block q hq)
theorem Xds.at_in {wb : World} (h : Xds wb A n c T) {V : World} (hs : wb.heap.size ≤ V.heap.size) (hk : ∀ q, q < wb.heap.size → V.heap[q]? = wb.heap[q]?) {k : Nat} (hx : T[k]? = some x) : ∃ b off, A = some ⟨b, off, none⟩ ∧ b < wb.heap.size ∧ ∃ A1 n1 c1 A2 n2 c2, XdA V x A1 n1 c1 A2 n2 c2 ∧
    (0 < n1 → ∀ b off s, A1 = some ⟨b, off, s⟩ → b < wb.heap.size) ∧
    V.cell? ⟨b, off + k * 6, none⟩ = some (.bool x.leaf) ∧ V.cell? ⟨b, off + k * 6 + 1, none⟩ = some (.slice A1 n1 c1) ∧ V.cell? ⟨b, off + k * 6 + 2, none⟩ = some (.slice A2 n2 c2) ∧
    V.cell? ⟨b, off + k * 6 + 3, none⟩ = some (.int .i64 x.po) ∧ V.cell? ⟨b, off + k * 6 + 4, none⟩ = some (.int .i64 x.lt) ∧ V.cell? ⟨b, off + k * 6 + 5, none⟩ = some (.int .i64 x.rt) := by
  obtain ⟨b, off, e, hlt, A1, n1, c1, A2, n2, c2, ha, g0, g1, g2, g3, g4, g5⟩ := h.at_ k x hx
  have up : ∀ (j : Nat) (v : Value), wb.cell? ⟨b, j, none⟩ = some v → V.cell? ⟨b, j, none⟩ = some v := fun j v hv => (World.cell?_of_block (a := ⟨b, j, none⟩) (hk b hlt)).trans hv
  have tr : ∀ (N : Nat) (B : Option Addr), Inn (fun _ => True) N B := fun _ _ _ _ _ _ _ => trivial
  refine ⟨b, off, e, hlt, A1, n1, c1, A2, n2, c2, ⟨ha.ids.keepIn (tr _ _) hs fun q hq _ => hk q hq, ha.pn.keepIn (tr _ _) hs fun q hq _ => hk q hq, ha.l1, ha.l2⟩, ?_, up _ _ g0, up _ _ g1, up _ _ g2, up _ _ g3, up _ _ g4, up _ _ g5⟩
  intro h0 b' off' s e'
  obtain ⟨b3, off3, e3, h3, -⟩ := ha.ids.lst.2 h0
  rw [e'] at e3
  injection e3 with e3
  injection e3 with e3
  omega
theorem Xm.leaves_take {k : Nat} (h : T[k]? = some x) : Xm.leaves (T.take (k + 1)) = Xm.leaves (T.take k) + if x.leaf = true then 1 else 0 := by rw [Xm.take_snoc h, Xm.leaves_snoc]
theorem Xm.lists_at {k : Nat} (h : T[k]? = some x) (hl : x.leaf = true) : (Xm.lists T)[Xm.leaves (T.take k)]? = some x.ids := by
  have e : T.take k ++ x :: T.drop (k + 1) = T := by rw [← Xm.drop_cons' h, List.take_append_drop]
  have key : ∀ P R : List Xm.Nd, (Xm.lists (P ++ x :: R))[Xm.leaves P]? = some x.ids := by
    intro P R
    unfold Xm.lists Xm.leaves
    rw [List.filter_append, List.map_append, List.getElem?_append_right (by simp), List.filter_cons, if_pos hl]
    simp
  have := key (T.take k) (T.drop (k + 1))
  rwa [e] at this
set_option maxHeartbeats 1600000 in
set_option maxRecDepth 100000 in
theorem heldH {wb : World} (h : Xds wb A n c T) (hb : Below wb.heap.size wb w) (hn : n ≤ 100000) : Calls Try.prog 27 #[.slice A n c] w fun e w' => e = .returned (.func (.func 42) #[] #[.pointer (some ⟨w.heap.size, 0, none⟩)]) ∧
    TellsH 42 #[.pointer (some ⟨w.heap.size, 0, none⟩)] wb.heap.size w.heap.size w' (Xm.lists T) ∧ Below w.heap.size w w' := by
  go_enter Try.func27, Try.ntmps27
  go_wp2
  go_ret
  refine ⟨rfl, ?_, (Below.refl _ w).alloc (Nat.le_refl _) _⟩
  obtain ⟨w0, hw0⟩ : ∃ w0, w0 = w.alloc (.cells #[.slice A n c] 22) := ⟨_, rfl⟩
  rw [← hw0]
  obtain ⟨q, hq⟩ : ∃ q, q = w.heap.size := ⟨_, rfl⟩
  have hs0 : w0.heap.size = q + 1 := by rw [hw0, hq]; simp
  have hb0 : Below wb.heap.size wb w0 := by rw [hw0]; exact hb.trans (((Below.refl _ w).alloc (Nat.le_refl _) _).mono hb.size)
  have hr0 : w0.heap[q]? = some (.cells #[.slice A n c] 22 (0, 0)) := by rw [hw0, hq]; exact heap_new w _ _
  rw [← hq]
  clear hw0 hb hq
  intro m y I K Y W hI1 hI2 hK hY h0 hK0
  have cq : W.cell? ⟨q, 0, none⟩ = some (.slice A n c) := by rw [cell_of_row _ _ _ _ _ _ (((hI1 0 W h0).2 q (by omega) (.inr (Nat.le_refl _))).trans hr0)]; rfl
  have HX := Lib.hid h
  have HI1 := Lib.hid hI1
  have HI2 := Lib.hid hI2
  have HK := Lib.hid hK
  have HY := Lib.hid hY
  have H0 := Lib.hid h0
  have HK0 := Lib.hid hK0
  have HB0 := Lib.hid hb0
  clear h hI1 hI2 hK hY h0 hK0 hb0 hr0
  refine callsIn_of_wp Try.func42 rfl trivial ?_ rfl
  simp only [Try.ntmps42, List.size_toArray, List.length_cons, List.length_nil, Nat.reduceAdd, Nat.reduceSub, Array.replicate_succ, Array.replicate_zero, List.push_toArray, List.append_toArray, List.nil_append, List.cons_append]
  gi_wp2
  gi_loopw [7] (fun p wr => ∃ k : Nat, p = .int .i64 (k : Int) ∧ k ≤ n ∧ I (Xm.leaves (T.take k)) wr ∧ K wr) (fun p _ => n - (intOf p).toNat)
  case atStart => exact ⟨0, rfl, Nat.zero_le _, H0.out, HK0.out⟩
  case round =>
    clear H0 HK0 cq
    obtain ⟨k, rfl, hkn, hI, hKr⟩ := hrel
    by_cases hk : k < n
    · obtain ⟨x, hx⟩ := HX.out.get hk
      have hkp := HI1.out _ _ hI
      obtain ⟨b, off, rfl, hlt, A1, n1, c1, A2, n2, c2, ha, hin, g0, g1, g2, g3, g4, g5⟩ := HX.out.at_in (V := wr) (Nat.le_trans HB0.out.size hkp.1) (HX.out.keeps HB0.out hkp (Nat.le_refl _)) hx
      obtain ⟨W1, hW1⟩ : ∃ W1, W1 = wr.alloc (.cells #[.bool x.leaf, .slice A1 n1 c1, .slice A2 n2 c2, .int .i64 x.po, .int .i64 x.lt, .int .i64 x.rt] 68) := ⟨_, rfl⟩
      have hb1 : Below wr.heap.size wr W1 := by rw [hW1]; exact (Below.refl _ wr).alloc (Nat.le_refl _) _
      have hN : Ndb W1 wr.heap.size x A1 n1 c1 A2 n2 c2 := by rw [hW1]; exact Ndb.new wr x A1 n1 c1 A2 n2 c2
      obtain ⟨q0, q1, q2, q3, q4, q5⟩ := hN.cells
      have HW1 := Lib.hid hW1
      have HI' := Lib.hid (HI2.out _ _ _ hI hb1)
      have HK' := Lib.hid (HK.out _ _ hKr (kf_low (kf_below hb1)))
      have HX1 := Lib.hid hx
      obtain ⟨lf, hlf⟩ : ∃ lf, lf = x.leaf := ⟨_, rfl⟩
      obtain ⟨po, hpo⟩ : ∃ po, po = x.po := ⟨_, rfl⟩
      obtain ⟨lt, hlt'⟩ : ∃ lt, lt = x.lt := ⟨_, rfl⟩
      obtain ⟨rt, hrt⟩ : ∃ rt, rt = x.rt := ⟨_, rfl⟩
      rw [← hlf] at g0 q0 HW1
      rw [← hpo] at g3 q3 HW1
      rw [← hlt'] at g4 q4 HW1
      rw [← hrt] at g5 q5 HW1
      have HLF := Lib.hid hlf
      have HSL := Lib.hid (ha.ids.below hb1)
      have HIN := Lib.hid hin
      clear hx hI hKr hkp ha hin hN hb1 hW1 hlf hpo hlt' hrt
      cases lf with
      | true =>
        have HLV : Hid ((Xm.lists T)[Xm.leaves (T.take k)]? = some x.ids) := Lib.hid (Xm.lists_at HX1.out HLF.out.symm)
        have HLN : Hid (Xm.leaves (T.take (k + 1)) = Xm.leaves (T.take k) + 1) := Lib.hid (by rw [Xm.leaves_take HX1.out, ← HLF.out]; rfl)
        obtain ⟨fn, tmps, assign, body, hy, hR⟩ := HY.out _ _ _ _ _ _ HLV.out HSL.out (fun h0 b off s e => by have := HIN.out h0 b off s e; have := HB0.out.size; omega) HI'.out HK'.out
        have HR := Lib.hid hR
        clear hR
        have hW := HW1.out
        clear HW1
        subst hW
        gi_wp2
        refine HR.out.mono ?_
        rintro e W3 (⟨rfl, hI3, hK3⟩ | ⟨rfl, hY3⟩)
        · have HI3 := Lib.hid hI3
          have HK3 := Lib.hid hK3
          clear hI3 hK3 HR hy
          gi_wp2
          go_roundw
          case rel => exact ⟨k + 1, congrArg (Value.int .i64) (by omega), by omega, by rw [HLN.out]; exact HI3.out, HK3.out⟩
          case measure => simp [intOf]; omega
        · have HY3 := Lib.hid hY3
          clear hY3 HR hy
          gi_wp2
          refine bodyPost_ret (results_none rfl _ _ _) rfl ?_
          exact ⟨⟨_, rfl⟩, .inr HY3.out⟩
      | false =>
        have HLN : Hid (Xm.leaves (T.take (k + 1)) = Xm.leaves (T.take k)) := Lib.hid (by rw [Xm.leaves_take HX1.out, ← HLF.out]; rfl)
        gi_wp2
        rw [← HW1.out]
        refine ⟨(fun f h => by cases h), ?_⟩
        gi_wp2
        go_roundw
        case rel => exact ⟨k + 1, congrArg (Value.int .i64) (by omega), by omega, by rw [HLN.out]; exact HI'.out, HK'.out⟩
        case measure => simp [intOf]; omega
    · obtain rfl : k = n := by omega
      have HI := Lib.hid hI
      have HKr := Lib.hid hKr
      have HE : Hid (Xm.leaves (T.take k) = (Xm.lists T).length) := Lib.hid (by rw [Xm.lists_length, List.take_of_length_le (by rw [HX.out.len]; exact Nat.le_refl _)])
      clear hI hKr
      gi_wp2
      go_end0
      exact ⟨⟨_, rfl⟩, .inl ⟨by rw [← HE.out]; exact HI.out, HKr.out⟩⟩
theorem heldX {wb : World} (h : Xds wb A n c T) (hb : Below wb.heap.size wb w) (hn : n ≤ 100000) : Calls Try.prog 27 #[.slice A n c] w fun e w' => e = .returned (.func (.func 42) #[] #[.pointer (some ⟨w.heap.size, 0, none⟩)]) ∧
    TellsL 42 #[.pointer (some ⟨w.heap.size, 0, none⟩)] wb.heap.size w.heap.size w' (Xm.lists T) ∧ Below w.heap.size w w' :=
  (heldH h hb hn).mono fun _ _ ⟨h1, h2, h3⟩ => ⟨h1, h2.lists, h3⟩
end
end Go.Proofs.Ytecdgpacofojeaa
