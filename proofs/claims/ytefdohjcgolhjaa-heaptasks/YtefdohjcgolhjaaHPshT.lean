/-
  Layer 7 (heap): a heap of structs of two numbers: Push.
-/
import Derived.Test.YtefdohjcgolhjaaHOpsT
import Derived.Test.YtefdohjcgolhjaaHRisT
import Derived.Deep.RegionLaw
namespace Go.Proofs.Ytefdohjcgolhjaa
open Go.RowKit

/-- what an append to a heap's list comes to, ahead of the store -/
theorem pushed2 {T t : TypeId} {F : Value} {sz : Nat} {w W0 W2 : World} {S : Nat → Prop} {B n c g' cap' : Nat} {A : Option Addr} {cs : List Value}
    (h : Hd T F t sz w S B n cs) (hb : w.heap[B]? = some (.cells #[F, .slice A n c] T (0, 0))) (hS : ∀ k, (Value.slice A n c).ownBlock = some k → S k ∧ k ≠ B)
    (hW : Below w.heap.size w W0) (hg : W0.grownBy W2 (Value.slice A n c).ownBlock) (hl : (Value.slice A n c).ownBlock = some g' ∨ g' = W0.heap.size) {cs' : List Value} {n' : Nat} (ho : W2.ownsRow 0 t sz (.slice (some ⟨g', 0, none⟩) n' cap') n' cs') :
    W2.heap[B]? = some (.cells #[F, .slice A n c] T (0, 0)) ∧ Kept S w (W2.setCell ⟨B, 1, none⟩ (.slice (some ⟨g', 0, none⟩) n' cap')) ∧ (S g' ∨ w.heap.size ≤ g') ∧
    In T F t sz (W2.setCell ⟨B, 1, none⟩ (.slice (some ⟨g', 0, none⟩) n' cap')) B g' n' cap' cs' := by
  have hs0 := hW.size
  have hBlt := h.lt
  have hB0 : W0.heap[B]? = some (.cells #[F, .slice A n c] T (0, 0)) := (hW.block B hBlt).trans hb
  have hB2 : W2.heap[B]? = some (.cells #[F, .slice A n c] T (0, 0)) := by
    rw [hg.block B (by omega) (fun e => (hS B e.symm).2 rfl)]
    exact hB0
  have hg' : S g' ∨ w.heap.size ≤ g' := by
    rcases hl with e | e
    · exact .inl (hS g' e).1
    · exact .inr (by omega)
  have hne : B ≠ g' := by
    rcases hl with e | e
    · exact fun q => (hS g' e).2 q.symm
    · omega
  have k2 : Kept S w W2 := (Kept.of_below hW).grown hg fun i e => .inl (hS i e).1
  refine ⟨hB2, k2.setCell (.inl h.1), hg', In.of_own (base := 0) (by rw [heap_setCell_same _ _ _ _ _ _ hB2]; rfl) ?_ hne⟩
  refine ho.kept (row := some B) ⟨rfl, rfl, rfl, by simp [World.setCell], fun k _ hk => Below.heap_setCell _ _ _ _ (fun e => hk (by rw [e]))⟩ (.inr (by simp [Value.ownBlock]; exact fun e => hne e.symm))

set_option maxHeartbeats 800000 in
theorem pushT (S : Nat → Prop) (B : Nat) (l : List Om.E) (x1 x2 : Int) (w : World) (h : HeapT w S B l) (hn : l.length ≤ 100000) :
    Calls Try.prog 27 #[.pointer (some ⟨B, 0, none⟩), .agg #[.int .i64 x1, .int .i64 x2]] w fun e w' => e = .returned (.tuple #[]) ∧ ∃ S', HeapT w' S' B ((x1, x2) :: l) ∧ Kept S w w' ∧ ∀ k, S' k → S k ∨ w.heap.size ≤ k := by
  obtain ⟨xs, h1, h2, h3⟩ := h
  obtain ⟨i0, hi, hz0, hz1, hz2⟩ := info_parts Try.infoT
  obtain ⟨A, c, hb, cl, fl, -, ho, hS, -⟩ := h1.list
  have hN : xs.length ≤ 100000 := by rw [h3.length_eq]; exact hn
  obtain ⟨n, hnn⟩ : ∃ n, n = xs.length := ⟨_, rfl⟩
  have HR := Lib.hid (h2.push (x1, x2))
  have HP := Lib.hid h3
  have HNN := Lib.hid hnn
  unfold HdT at h1
  rw [← hnn] at cl ho hb hS hN h1
  have HH := Lib.hid h1
  have hBl := h1.lt
  have hb1 : Below w.heap.size w (w.alloc (.cells #[.int .i64 x1, .int .i64 x2] 56)) := (Below.refl _ w).alloc (Nat.le_refl _) _
  have hb2 : Below w.heap.size w ((w.alloc (.cells #[.int .i64 x1, .int .i64 x2] 56)).alloc (.cells #[.int .i64 x1, .int .i64 x2] 56)).drew := (hb1.alloc hb1.size _).drew
  have HO := Lib.hid (show ((w.alloc (.cells #[.int .i64 x1, .int .i64 x2] 56)).alloc (.cells #[.int .i64 x1, .int .i64 x2] 56)).drew.ownsRow 0 56 2 (.slice A n c) n (cel xs) from own_heap2 ((ho.alloc _).alloc _) rfl)
  have HNW := Lib.hid (show ((w.alloc (.cells #[.int .i64 x1, .int .i64 x2] 56)).alloc (.cells #[.int .i64 x1, .int .i64 x2] 56)).drew.heap[w.heap.size + 1]? = some (.cells #[.int .i64 x1, .int .i64 x2] 56 (0, 0)) from heap_next w _ _)
  have HPU := Lib.hid (fun W2 g' cap' hg hl => pushed2 (W2 := W2) (g' := g') (cap' := cap') h1 hb hS hb2 hg hl (cs' := cel xs ++ [.int .i64 x1, .int .i64 x2]) (n' := n + 1))
  have cl1 := (hb1.cell (p := ⟨B, 1, none⟩) hBl).trans cl
  have cl2 : ((w.alloc (.cells #[.int .i64 x1, .int .i64 x2] 56)).alloc (.cells #[.int .i64 x1, .int .i64 x2] 56)).cell? ⟨B, 1, none⟩ = some (.slice A n c) := (hb2.cell (p := ⟨B, 1, none⟩) hBl).trans cl
  clear h1 h2 h3 hnn ho hb hS hn hb1 hb2 fl
  go_enter Try.func27, Try.ntmps27
  go_wp2
  go_region_law (refine step_append_lies _ rfl (.tmp 8) (.tmp 10) 72 rfl 0 56 i0 (.agg #[.int .i64 0, .int .i64 0]) 2 16 Try.underlying72 hi hz0 hz1 hz2 rfl (by decide) (.slice A n c) n (cel xs) (by simp [Act.eval]) HO.out ⟨w.heap.size + 1, 0, none⟩ 1 1 [.int .i64 x1, .int .i64 x2] (by simp [Act.eval]) rfl (World.news_of_block HNW.out) (by simp [Value.oneCell']) (by decide) (by unfold maxLen; omega) (by omega) (Nat.zero_le _) _ rfl ?_; intro g' cap' W2 r1 r2 r3 r4; obtain ⟨q1, q2, q3, q4⟩ := HPU.out W2 g' cap' r2 r3 r1; have c2 := cell_of_row W2 B 1 _ _ _ q1; have f2 := frozen_of_row W2 B 1 _ _ q1; have Q1 := Lib.hid q1; have Q2 := Lib.hid q2; have Q3 := Lib.hid q3; have Q4 := Lib.hid q4; clear r1 r2 r3 r4 q1 q2 q3 q4)
  all_goals
    go_wp2_with fail
    have q4 := Q4.out
    rw [show cel xs ++ [.int .i64 x1, .int .i64 x2] = cel (xs ++ [(x1, x2)]) from by rw [cel_append]; rfl] at q4
    have q5 := HR.out
    rw [← HNN.out] at q5
    refine (riseT B g' (n + 1) cap' n (xs ++ [(x1, x2)]) _ q4 q5 (by omega) (by omega)).mono ?_
    rintro _ w4 ⟨rfl, l4, i4, s4, p4, b4⟩
    have L4 := InT.length i4
    have HK := Lib.hid (Q2.out.but b4 Q3.out)
    have HF : Hid (HeapT w4 (fun k => S k ∨ k = g') B ((x1, x2) :: l)) := by
      refine ⟨l4, ⟨.inl HH.out.1, fun k hk => ?_, .inr ⟨g', cap', .inr rfl, by rw [L4]; exact i4⟩⟩, s4, p4.trans ((List.perm_append_singleton (x1, x2) xs).trans (List.Perm.cons _ HP.out))⟩
      rcases hk with hk | rfl
      · exact Nat.lt_of_lt_of_le (HH.out.2.1 k hk) HK.out.size
      · exact i4.row.lt
    have HQ : Hid (∀ k, (fun k => S k ∨ k = g') k → S k ∨ w.heap.size ≤ k) := by
      intro k hk
      rcases hk with hk | rfl
      · exact .inl hk
      · exact Q3.out
    clear q4 q5 i4 s4 p4 b4 L4 c2 f2
    go_wp2
    exact bodyPost_end (results_none Try.results27 _ _ _) rfl ⟨rfl, _, HF.out, HK.out, HQ.out⟩
end Go.Proofs.Ytefdohjcgolhjaa
