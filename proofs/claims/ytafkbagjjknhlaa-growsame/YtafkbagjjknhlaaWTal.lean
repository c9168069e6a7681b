/-
  Layer 13 (grow): Tree of the program, in the words that laws ask.
-/
import Derived.Test.YtafkbagjjknhlaaWTrp
import Derived.Test.YtafkbagjjknhlaaWTrn
namespace Go.Proofs.Ytafkbagjjknhlaa
open Go.RowKit

section
variable {w : World} {S : Nat → Prop} {s : Nat} {d : Int} {L : List (List Int)} {tr sd : Int} {sc : Bool} {pA : Option Addr} {pn pc : Nat}
set_option maxRecDepth 100000 in
theorem treeT {T lo hi b N0 lim dp : Nat} {f : Nat → Int} (x : It w S s d L) (hS : ∀ k, S k → k < lo ∨ hi ≤ k) (hr : Src T w lo hi b f N0) (hN : N0 ≤ 800000) (hn : L.length ≤ 1000) (hn1 : 1 ≤ L.length) (hc : Wm.chk tr (lim : Int) (dp : Int) = 0) :
    Calls Try.prog 12 #[.pointer (some ⟨s, 0, none⟩), .agg #[.int .i64 tr, .int .i64 (lim : Int), .int .i64 (dp : Int), .bool sc, .int .u64 sd, .slice pA pn pc], .iface T (.pointer (some ⟨b, 0, none⟩))] w fun e w' => ∃ A' c',
      e = .returned (.tuple #[.slice A' (growT L d lim dp f).1.length c', .int .i64 0]) ∧ Nds (fun k => w.heap.size ≤ k) w' A' (growT L d lim dp f).1.length c' (growT L d lim dp f).1 ∧
      Src T w' lo hi b (Rm.dr f (growT L d lim dp f).2) (N0 + (growT L d lim dp f).2) ∧ Btw lo hi w w' := by
  obtain ⟨Res, hRes⟩ : ∃ Res, Res = growT L d lim dp f := ⟨_, rfl⟩
  rw [← hRes]
  obtain ⟨W0, hW0⟩ : ∃ W0, W0 = w.alloc (.cells #[.int .i64 tr, .int .i64 (lim : Int), .int .i64 (dp : Int), .bool sc, .int .u64 sd, .slice pA pn pc] 28) := ⟨_, rfl⟩
  have hb0 : Below w.heap.size w W0 := by rw [hW0]; exact (Below.refl _ w).alloc (Nat.le_refl _) _
  have hp0 : Prx W0 w.heap.size tr (lim : Int) (dp : Int) sc sd pA pn pc := by rw [hW0]; exact Prx.new w _ _ _ _ _ _ _ _
  have s0 : W0.heap.size = w.heap.size + 1 := by rw [hW0]; simp
  have HI := Lib.hid (x.below hb0)
  have HR := Lib.hid (hr.below hb0)
  have HSS := Lib.hid hS
  have HP := Lib.hid hp0
  have HB0 := Lib.hid hb0
  have HW0 := Lib.hid hW0
  have HC := Lib.hid hc
  have HRS := Lib.hid hRes
  clear x hS hr hb0 hp0 hW0 hc hRes
  obtain ⟨M, hM⟩ : ∃ M, M = L.length := ⟨_, rfl⟩
  rw [← hM] at hn hn1
  have HM := Lib.hid hM
  clear hM
  have hne : ¬ M = 0 := by omega
  go_enter Try.func12, Try.ntmps12
  go_wp2_with fail
  rw [← HW0.out]
  clear HW0
  refine (chkW tr (lim : Int) (dp : Int) sc sd pA pn pc W0).mono ?_
  rintro _ w1 ⟨rfl, hb1⟩
  rw [HC.out]
  have s1 := hb1.size
  have FL1 := lenD (HI.out.below hb1)
  rw [← HM.out] at FL1
  have FLN := Lib.hid FL1
  have hpx : Prx w1 w.heap.size tr (lim : Int) (dp : Int) sc sd pA pn pc := (hb1.block w.heap.size (by omega)).trans HP.out
  have q0 := hpx.c0
  have q1 := hpx.c1
  have q2 := hpx.c2
  have q3 := hpx.c3
  have q4 := hpx.c4
  have q5 := hpx.c5
  have FG := Lib.hid (grownT (tr := tr) (sc := sc) (sd := sd) (pA := pA) (pn := pn) (pc := pc) (HI.out.below hb1) HSS.out (HR.out.below hb1) hN (by rw [← HM.out]; exact hn) (by rw [← HM.out]; exact hn1) HC.out)
  have BB := Lib.hid (HB0.out.trans (hb1.mono (by omega)))
  clear hb1 FL1 hpx
  go_wp2_with fail
  refine FLN.out.mono ?_
  rintro _ _ ⟨rfl, rfl⟩
  clear FLN
  go_wp2_with fail
  refine FG.out.mono ?_
  rintro _ w2 ⟨A', c', rfl, hnd, hsr, hbt⟩
  rw [← HRS.out] at hnd hsr ⊢
  obtain ⟨n2, hn2⟩ : ∃ n2, n2 = Res.1.length := ⟨_, rfl⟩
  have HN2 := Lib.hid hn2
  have HND : Hid (Nds (fun k => w.heap.size ≤ k) w2 A' Res.1.length c' Res.1) := Lib.hid (hnd.mono fun k hk => by omega)
  have HSR := Lib.hid hsr
  have HBT := Lib.hid hbt
  rw [← hn2]
  clear hnd hsr hbt hn2
  go_wp2
  go_ret2
  rw [HN2.out]
  exact ⟨A', c', rfl, HND.out, HSR.out, (Btw.of_below BB.out).trans HBT.out⟩
theorem treeW {T lo hi b N lim dp : Nat} {f : Nat → Int} (x : It w S s d L) (hS : ∀ k, S k → k < lo ∨ hi ≤ k) (hr : Src T w lo hi b f N) (hN : N ≤ 800000) (hn : L.length ≤ 1000) (hn1 : 1 ≤ L.length) (hc : Wm.chk tr (lim : Int) (dp : Int) = 0) :
    Calls Try.prog 12 #[.pointer (some ⟨s, 0, none⟩), .agg #[.int .i64 tr, .int .i64 (lim : Int), .int .i64 (dp : Int), .bool sc, .int .u64 sd, .slice pA pn pc], .iface T (.pointer (some ⟨b, 0, none⟩))] w fun e w' => ∃ A' c',
      e = .returned (.tuple #[.slice A' (growT L d lim dp f).1.length c', .int .i64 0]) ∧ Nds (fun k => w.heap.size ≤ k) w' A' (growT L d lim dp f).1.length c' (growT L d lim dp f).1 ∧
      Src T w' lo hi b (Rm.dr f (growT L d lim dp f).2) (N + (growT L d lim dp f).2) ∧ Btw lo hi w w' := treeT x hS hr hN hn hn1 hc
theorem treeW_no {lf dp : Int} {v : Value} (x : It w S s d L) (hc : Wm.chk tr lf dp ≠ 0 ∨ L = []) :
    Calls Try.prog 12 #[.pointer (some ⟨s, 0, none⟩), .agg #[.int .i64 tr, .int .i64 lf, .int .i64 dp, .bool sc, .int .u64 sd, .slice pA pn pc], v] w fun e w' => ∃ A' c',
      e = .returned (.tuple #[.slice A' 0 c', .int .i64 (if Wm.chk tr lf dp = 0 then 15 else Wm.chk tr lf dp)]) ∧ Below w.heap.size w w' :=
  (treeW_nil x hc).mono fun _ _ ⟨A', c', h1, _, h3⟩ => ⟨A', c', h1, h3⟩
/-- what is answered for items, params and draws: an error's number, or a tree -/
theorem treeW_all {lf dp : Int} {f : Nat → Int} (hn : L.length ≤ 1000) : ∃ (er : Int) (G : List Wm.Nd), G.length ≤ 2000 ∧ (∀ t ∈ G, t.ids.length ≤ 1000000) ∧ ∀ (V : World) (S : Nat → Prop) (s lo b : Nat) (T : Nat), It V S s d L → (∀ k, S k → k < lo) → Src T V lo V.heap.size b f 0 →
    Calls Try.prog 12 #[.pointer (some ⟨s, 0, none⟩), .agg #[.int .i64 tr, .int .i64 lf, .int .i64 dp, .bool sc, .int .u64 sd, .slice pA pn pc], .iface T (.pointer (some ⟨b, 0, none⟩))] V fun e w' => ∃ A' c',
      e = .returned (.tuple #[.slice A' G.length c', .int .i64 er]) ∧ Nds (fun k => V.heap.size ≤ k) w' A' G.length c' G ∧ Btw lo V.heap.size V w' := by
  by_cases hc : Wm.chk tr lf dp ≠ 0 ∨ L = []
  · refine ⟨if Wm.chk tr lf dp = 0 then 15 else Wm.chk tr lf dp, [], by simp, fun t ht => absurd ht List.not_mem_nil, fun V S s lo b T x _ _ => ?_⟩
    exact (treeW_nil x hc).mono fun _ w' ⟨A', c', h1, h2, h3⟩ => ⟨A', c', h1, ⟨rfl, Nat.zero_le _, h2, [], rfl, fun h => absurd h (Nat.lt_irrefl 0)⟩, Btw.of_below h3⟩
  · have hck := Wm.chk_ok (show Wm.chk tr lf dp = 0 from by omega)
    obtain ⟨lim, hlim⟩ : ∃ lim : Nat, lf = (lim : Int) := ⟨lf.toNat, by omega⟩
    obtain ⟨dn, hdn⟩ : ∃ dn : Nat, dp = (dn : Int) := ⟨dp.toNat, by omega⟩
    subst hlim
    subst hdn
    have hL : 1 ≤ L.length := by
      rcases Nat.eq_zero_or_pos L.length with h | h
      · exact absurd (List.eq_nil_of_length_eq_zero h) (fun h => hc (.inr h))
      · exact h
    obtain ⟨dt, htr⟩ := Wm.grow_tr (L := L) (d := d.toNat) (lim := lim) (by omega) dn (Wm.upto L.length) 0 f
    have hfew := htr.few (by rw [Wm.upto_length]; exact hL)
    have htw := htr.twice
    have hper := htr.perm.length_eq
    rw [Wm.upto_length] at hfew hper
    refine ⟨0, (growT L d lim dn f).1, by unfold growT; omega, fun t ht => ?_, fun V S s lo b T x hS hr => ?_⟩
    · have := Wm.held_le ht
      unfold growT at this
      omega
    · refine (treeW (N := 0) (lo := lo) (hi := V.heap.size) x (fun k hk => .inl (hS k hk)) hr (by omega) hn hL (by omega)).mono ?_
      rintro _ w' ⟨A', c', h1, h2, -, h4⟩
      exact ⟨A', c', h1, h2, h4⟩
end
end Go.Proofs.Ytafkbagjjknhlaa
