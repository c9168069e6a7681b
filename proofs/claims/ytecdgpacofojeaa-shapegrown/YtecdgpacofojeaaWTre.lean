/-
  Layer 13 (grow): the document's own tree of all ids, and whether two trees are the same, by contracts.
-/
import Derived.Test.YtecdgpacofojeaaMW
namespace Go.Proofs.Ytecdgpacofojeaa
open Go.RowKit

section
variable {A : Option Addr} {n c dd mm B lim dp : Nat} {L : List (List Int)} {w0 : World} {tr sd : Int} {sc : Bool} {pA : Option Addr} {pn pc : Nat}
set_option maxRecDepth 100000 in
theorem refTree {w : World} {f : Nat → Int} {N : Nat} (hn : n ≤ 1000) (hn1 : 1 ≤ n) (hL : ∀ l ∈ L, l.length ≤ 10000) (hd : dd ≤ 1024) (hlim : 1 ≤ lim) (hdp : dp ≤ 64) (hmm : mm < w.heap.size) (hr : Rfs w B mm f N) (hN : N ≤ 1000) (w0 : World) (h0 : Lv w0 A n c L) (hb0 : Below w0.heap.size w0 w) (hm0 : w0.heap.size ≤ mm) :
    Calls Try.prog 22 #[.slice A n c, .int .i64 (dd : Int), .agg #[.int .i64 tr, .int .i64 (lim : Int), .int .i64 (dp : Int), .bool sc, .int .u64 sd, .slice pA pn pc], .pointer (some ⟨mm, 0, none⟩)] w fun e w' => ∃ A' c',
      e = .returned (.slice A' (Wm.grow L dd lim dp (Wm.upto n) 0 f).1.length c') ∧ Nds (fun k => k ≠ mm) w' A' (Wm.grow L dd lim dp (Wm.upto n) 0 f).1.length c' (Wm.grow L dd lim dp (Wm.upto n) 0 f).1 ∧
      Rfs w' B mm (Rm.dr f (Wm.grow L dd lim dp (Wm.upto n) 0 f).2) (N + (Wm.grow L dd lim dp (Wm.upto n) 0 f).2) ∧ Btw mm (mm + 1) w w' := by
  obtain ⟨i0, hi, hz0, hz1, hz2⟩ := info_parts Try.infoI
  obtain ⟨W, hW⟩ : ∃ W, W = w.alloc (.cells #[.int .i64 tr, .int .i64 (lim : Int), .int .i64 (dp : Int), .bool sc, .int .u64 sd, .slice pA pn pc] 54) := ⟨_, rfl⟩
  have hb : Below w.heap.size w W := by rw [hW]; exact (Below.refl _ w).alloc (Nat.le_refl _) _
  have hp : Prx W w.heap.size tr (lim : Int) (dp : Int) sc sd pA pn pc := by rw [hW]; exact Prx.new w _ _ _ _ _ _ _ _
  have hsW : W.heap.size = w.heap.size + 1 := by rw [hW]; simp
  have hBm : B ≤ mm := by obtain ⟨_, _, _, _, _, _, _, _, _, hB, _⟩ := hr; exact hB
  have hsz0 := hb0.size
  have HP := Lib.hid hp
  have HB := Lib.hid hb
  have HW := Lib.hid hW
  have HL0 := Lib.hid h0
  have HB0 := Lib.hid (hb0.trans (hb.mono hsz0))
  have HR := Lib.hid (hr.keep (w' := W) fun k hk => hb.block k (by omega))
  have HLL := Lib.hid hL
  have NW := Lib.hid (show W.ownsRow W.heap.size 3 1 (.slice none 0 0) 0 (ci (Wm.upto 0)) from World.ownsRow_nil _ _ _ _)
  clear hW hb hp h0 hb0 hr hL
  go_enter Try.func22, Try.ntmps22
  go_wp2_with fail
  rw [← HW.out]
  clear HW
  go_wp2
  go_loopw [9, 10] (fun v i wr => ∃ k : Nat, k ≤ n ∧ i = .int .i64 k ∧ wr.ownsRow W.heap.size 3 1 v k (ci (Wm.upto k)) ∧ Below W.heap.size W wr) (fun _ i _ => n - (intOf i).toNat)
  case atStart => exact ⟨0, Nat.zero_le _, rfl, NW.out, Below.refl _ _⟩
  case round =>
    obtain ⟨k, hk, rfl, hown, hbel⟩ := hrel
    have HO := Lib.hid hown
    have HBB := Lib.hid hbel
    have hsz := hbel.size
    clear hown hbel
    by_cases hlt : k < n
    · go_wp2_with (at_builtin; refine wpList_append_own _ rfl (.tmp 17) (.tmp 19) 42 rfl W.heap.size 3 i0 (.int .i64 0) 1 8 Try.underlying42 hi hz0 hz1 hz2 rfl (by decide) u9 k (ci (Wm.upto k)) rfl (HO.out.alloc _) ⟨wr.heap.size, 0, none⟩ 1 1 [.int .i64 k] rfl rfl (World.news_of_block (heap_alloc_new wr _)) (by intro u hu; simp at hu; subst hu; rfl) (by unfold maxLen; omega) (by omega) (by simp; omega) ?_; intro v' w1 hown' hgrow _; have HO' := Lib.hid hown'; have HB1 := Lib.hid ((HBB.out.alloc (by omega) (.cells #[.int .i64 k] 3)).grown hgrow (by simp; omega) (own_block HO.out)); clear hown' hgrow)
      refine ⟨⟨k + 1, by omega, by go_num, ?_, HB1.out⟩, by simp [intOf]; omega⟩
      have h2 := HO'.out
      rw [Wm.upto_succ, ← ci_app]
      exact h2
    · obtain rfl : k = n := by omega
      obtain ⟨A2, c2, rfl, -, -⟩ := own_form HO.out
      have hP := HP.out.below (HBB.out.mono (Nat.le_refl _))
      have q0 := hP.c0
      have q1 := hP.c1
      have q2 := hP.c2
      have q3 := hP.c3
      have q4 := hP.c4
      have q5 := hP.c5
      have FG0 := refGrow (tr := tr) (sd := sd) (sc := sc) (pA := pA) (pn := pn) (pc := pc) HL0 hm0 (by unfold maxLen; omega) HLL hd hlim hdp dp (Wm.upto k) 0 f N wr 0 A2 k c2 (by omega) (HB0.out.trans (HBB.out.mono HB0.out.size)) (Sl.of_own HO.out) ((New.of_own HO.out).out (by omega)) hn1 (by omega) (by omega) (HR.out.keep fun q hq => HBB.out.block q (by omega)) (by omega)
      have FG := Lib.hid FG0
      clear FG0 hP
      go_wp2_with fail
      refine FG.out.mono ?_
      rintro _ w2 ⟨A', c', rfl, h1, h2, h3⟩
      have FIN := Lib.hid (And.intro h1 (And.intro h2 (((Btw.of_below HB.out).trans (Btw.of_below HBB.out)).trans h3)))
      clear h1 h2 h3 FG
      go_wp2
      go_ret
      exact ⟨A', c', rfl, FIN.out⟩
end

end Go.Proofs.Ytecdgpacofojeaa
