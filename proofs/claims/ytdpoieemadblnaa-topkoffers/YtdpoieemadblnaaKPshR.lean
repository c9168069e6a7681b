/-
  Layer 8 (topk): a heap of entries: Push.
-/
import Derived.Test.YtdpoieemadblnaaKOpsR
import Derived.Test.YtdpoieemadblnaaKRisR
import Derived.Test.YtdpoieemadblnaaKVec
import Derived.Deep.RegionLaw
namespace Go.Proofs.Ytdpoieemadblnaa
open Go.RowKit

set_option maxHeartbeats 800000 in
theorem kpushR (cb : Nat) (S : Nat → Prop) (B : Nat) (l : List Km.Ent) (x1 x2 x3 : Int) (w : World) (h : HpkR cb w S B l) (hn : l.length ≤ 100000) :
    Calls Try.prog 45 #[.pointer (some ⟨B, 0, none⟩), .agg #[.int .i64 x1, .int .i64 x2, .int .i64 x3]] w fun e w' => e = .returned (.tuple #[]) ∧ ∃ S', HpkR cb w' S' B (((x1, x2), x3) :: l) ∧ Kept S w w' ∧ ∀ k, S' k → S k ∨ w.heap.size ≤ k := by
  obtain ⟨xs, h1, h2, h3⟩ := h
  obtain ⟨i0, hi, hz0, hz1, hz2⟩ := info_parts Try.kinfoR
  obtain ⟨A, c, hb, cl, fl, -, ho, hS, -⟩ := h1.d.list
  have hN : xs.length ≤ 100000 := by rw [h3.length_eq]; exact hn
  obtain ⟨n, hnn⟩ : ∃ n, n = xs.length := ⟨_, rfl⟩
  have HR := Lib.hid (h2.push ((x1, x2), x3))
  have HP := Lib.hid h3
  have HNN := Lib.hid hnn
  have hbg := h1.bg _ cl
  have hbB := h1.bB
  have hcp := h1.cap
  have hsc := h1.sc
  replace h1 := h1.d
  rw [← hnn] at cl ho hb hS hN h1 hbg
  have HH := Lib.hid h1
  have hBl := h1.lt
  have hb1 : Below w.heap.size w (w.alloc (.cells #[.int .i64 x1, .int .i64 x2, .int .i64 x3] 80)) := (Below.refl _ w).alloc (Nat.le_refl _) _
  have hb2 : Below w.heap.size w ((w.alloc (.cells #[.int .i64 x1, .int .i64 x2, .int .i64 x3] 80)).alloc (.cells #[.int .i64 x1, .int .i64 x2, .int .i64 x3] 80)).drew := (hb1.alloc hb1.size _).drew
  have HO := Lib.hid (show ((w.alloc (.cells #[.int .i64 x1, .int .i64 x2, .int .i64 x3] 80)).alloc (.cells #[.int .i64 x1, .int .i64 x2, .int .i64 x3] 80)).drew.ownsRow 0 80 3 (.slice A n c) n (ce3 xs) from own_heap3 ((ho.alloc _).alloc _) rfl)
  have HNW := Lib.hid (show ((w.alloc (.cells #[.int .i64 x1, .int .i64 x2, .int .i64 x3] 80)).alloc (.cells #[.int .i64 x1, .int .i64 x2, .int .i64 x3] 80)).drew.heap[w.heap.size + 1]? = some (.cells #[.int .i64 x1, .int .i64 x2, .int .i64 x3] 80 (0, 0)) from heap_next w _ _)
  have HPU := Lib.hid (fun W2 g' cap' hg hl => kpushed (W2 := W2) (g' := g') (cap' := cap') h1 hb hS hb2 hg hl (cs' := ce3 xs ++ [.int .i64 x1, .int .i64 x2, .int .i64 x3]) (n' := n + 1))
  have HCP := Lib.hid (show ∀ W2 : World, ((w.alloc (.cells #[.int .i64 x1, .int .i64 x2, .int .i64 x3] 80)).alloc (.cells #[.int .i64 x1, .int .i64 x2, .int .i64 x3] 80)).drew.grownBy W2 (Value.slice A n c).ownBlock → ∀ v, CapR (W2.setCell ⟨B, 1, none⟩ v) cb from fun W2 hg v => by
    unfold CapR
    rw [Below.heap_setCell _ _ _ _ hbB, hg.block cb (Nat.lt_of_lt_of_le hcp.lt hb2.size) (fun e => hbg e.symm)]
    exact hcp.below hb2)
  have HNE := Lib.hid (show ∀ g', ((Value.slice A n c).ownBlock = some g' ∨ g' = ((w.alloc (.cells #[.int .i64 x1, .int .i64 x2, .int .i64 x3] 80)).alloc (.cells #[.int .i64 x1, .int .i64 x2, .int .i64 x3] 80)).drew.heap.size) → cb ≠ g' from fun g' hg => by
    rcases hg with e | e
    · exact fun q => hbg (by rw [q]; exact e)
    · have h1 := Nat.lt_of_lt_of_le hcp.lt hb2.size
      omega)
  have HBB := Lib.hid hbB
  have HSC := Lib.hid hsc
  have cl1 := (hb1.cell (p := ⟨B, 1, none⟩) hBl).trans cl
  have cl2 : ((w.alloc (.cells #[.int .i64 x1, .int .i64 x2, .int .i64 x3] 80)).alloc (.cells #[.int .i64 x1, .int .i64 x2, .int .i64 x3] 80)).cell? ⟨B, 1, none⟩ = some (.slice A n c) := (hb2.cell (p := ⟨B, 1, none⟩) hBl).trans cl
  clear h1 h2 h3 hnn ho hb hS hn hb1 hb2 fl hbg hbB hcp hsc
  go_enter Try.func45, Try.ntmps45
  go_wp2
  go_region_law (refine step_append_lies _ rfl (.tmp 8) (.tmp 10) 88 rfl 0 80 i0 (.agg #[.int .i64 0, .int .i64 0, .int .i64 0]) 3 24 Try.underlying88 hi hz0 hz1 hz2 rfl (by decide) (.slice A n c) n (ce3 xs) (by simp [Act.eval]) HO.out ⟨w.heap.size + 1, 0, none⟩ 1 1 [.int .i64 x1, .int .i64 x2, .int .i64 x3] (by simp [Act.eval]) rfl (World.news_of_block HNW.out) (by simp [Value.oneCell']) (by decide) (by unfold maxLen; omega) (by omega) (Nat.zero_le _) _ rfl ?_; intro g' cap' W2 r1 r2 r3 r4; obtain ⟨q1, q2, q3, q4⟩ := HPU.out W2 g' cap' r2 r3 r1; have c2 := cell_of_row W2 B 1 _ _ _ q1; have f2 := frozen_of_row W2 B 1 _ _ q1; have Q1 := Lib.hid q1; have Q2 := Lib.hid q2; have Q3 := Lib.hid q3; have Q4 := Lib.hid q4; have Q5 := Lib.hid (HCP.out W2 r2 (.slice (some ⟨g', 0, none⟩) (n + 1) cap')); have Q6 := Lib.hid (HNE.out g' r3); clear r1 r2 r3 r4 q1 q2 q3 q4)
  all_goals
    go_wp2_with fail
    have q4 := Q4.out
    rw [show ce3 xs ++ [.int .i64 x1, .int .i64 x2, .int .i64 x3] = ce3 (xs ++ [((x1, x2), x3)]) from by rw [ce3_append]; rfl] at q4
    have q5 := HR.out
    rw [← HNN.out] at q5
    refine (kriseR cb B g' (n + 1) cap' n (xs ++ [((x1, x2), x3)]) _ ⟨q4, Q5.out, Q6.out, HBB.out⟩ q5 (by omega) (by omega)).mono ?_
    rintro _ w4 ⟨rfl, l4, i4, s4, p4, b4⟩
    have HK := Lib.hid (Q2.out.but b4 Q3.out)
    have HF : Hid (HpkR cb w4 (fun k => S k ∨ k = g') B (((x1, x2), x3) :: l)) := by
      refine ⟨l4, i4.hd (.inl HH.out.1) (.inr rfl) (.inl HSC.out) (fun k hk => ?_), s4, p4.trans ((List.perm_append_singleton ((x1, x2), x3) xs).trans (List.Perm.cons _ HP.out))⟩
      rcases hk with hk | rfl
      · exact Nat.lt_of_lt_of_le (HH.out.2.1 k hk) HK.out.size
      · exact i4.i.row.lt
    have HQ : Hid (∀ k, (fun k => S k ∨ k = g') k → S k ∨ w.heap.size ≤ k) := by
      intro k hk
      rcases hk with hk | rfl
      · exact .inl hk
      · exact Q3.out
    clear q4 q5 i4 s4 p4 b4 c2 f2
    go_wp2
    exact bodyPost_end (results_none Try.results45 _ _ _) rfl ⟨rfl, _, HF.out, HK.out, HQ.out⟩
end Go.Proofs.Ytdpoieemadblnaa
