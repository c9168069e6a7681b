/-
  Layer 10 (data): All, and what it hands back, ranged over, by contracts: each id, rising, and the item as new memory.
-/
import Derived.Test.YtafkbagjjknhlaaDOps
import Derived.Test.YtafkbagjjknhlaaGRng
namespace Go.Proofs.Ytafkbagjjknhlaa
open Go.RowKit Go.Shelf
attribute [local go_sem] Oper.semAt_some

/-- what All hands back, its variable at block g: L is told -/
structure Tol (w : World) (S : Nat → Prop) (g : Nat) (d : Int) (L : List (List Int)) : Prop where
  own : S g
  lt : ∀ k, S k → k < w.heap.size
  ok : Dm.Ok d L
  ex : ∃ A c gs, w.heap[g]? = some (.cells #[.slice A L.length c] 22 (0, 0)) ∧ w.ownsRow 0 55 1 (.slice A L.length c) L.length (gs.map (sl d.toNat)) ∧
    (∀ k, (Value.slice A L.length c).ownBlock = some k → S k) ∧ (∀ g ∈ gs, S g) ∧ Bks w gs L
section
variable {w w' : World} {S T : Nat → Prop} {g s : Nat} {d : Int} {L : List (List Int)}
theorem Tol.keep (h : Tol w S g d L) (hs : w.heap.size ≤ w'.heap.size) (hk : ∀ k, S k → w'.heap[k]? = w.heap[k]?) : Tol w' S g d L := by
  obtain ⟨A, c, gs, h1, h2, h3, h4, h5⟩ := h.ex
  exact ⟨h.own, fun k hS => Nat.lt_of_lt_of_le (h.lt k hS) hs, h.ok, A, c, gs, (hk g h.own).trans h1, own_keepS h2 fun k e => hk k (h3 k e), h3, h4, h5.keep fun g hg => hk g (h4 g hg)⟩
theorem Tol.below (h : Tol w S g d L) (hb : Below w.heap.size w w') : Tol w' S g d L := h.keep hb.size fun k hS => hb.block k (h.lt k hS)
theorem Tol.open_ (h : Tol w S g d L) : ∃ A c, w.cell? ⟨g, 0, none⟩ = some (.slice A L.length c) ∧ L.length ≤ c ∧
    ∀ k l, L[k]? = some l → ∃ b off g1, A = some ⟨b, off, none⟩ ∧ S b ∧ w.cell? ⟨b, off + k, none⟩ = some (.slice (some ⟨g1, 0, none⟩) d.toNat d.toNat) ∧ S g1 ∧ Blk w g1 l := by
  obtain ⟨A, c, gs, h1, h2, h3, h4, h5⟩ := h.ex
  obtain ⟨A', c', e1, e2, e3⟩ := own_form h2
  injection e1 with e1 _ e4
  subst e1
  subst e4
  refine ⟨A, c, by rw [cell_of_row _ _ _ _ _ _ h1]; rfl, e3, fun k l hl => ?_⟩
  have hk : k < L.length := (List.getElem?_eq_some_iff.1 hl).1
  have hkg : k < gs.length := by rw [h5.1]; exact hk
  obtain ⟨b, off, e, hb, hc⟩ := (Lst.of_own h2).at_ hk
  refine ⟨b, off, gs[k], e, h3 b ?_, by rw [hc]; simp [sl, hkg], h4 _ (List.getElem_mem hkg), h5.2 k _ l (List.getElem?_eq_getElem hkg) hl⟩
  rcases h2.2 with ⟨e0, h0⟩ | ⟨x, cap, cur, e0, _⟩
  · omega
  · rw [e0]
    rw [e] at e0
    injection e0 with e0
    injection e0 with e0
    injection e0 with e0
    rw [e0]; rfl
theorem allD (h : It w S s d L) : Calls Try.prog 23 #[.pointer (some ⟨s, 0, none⟩)] w fun e w' => e = .returned (.func (.func 33) #[] #[.pointer (some ⟨w.heap.size, 0, none⟩)]) ∧ Tol w' (fun k => S k ∨ k = w.heap.size) w.heap.size d L ∧ Below w.heap.size w w' := by
  obtain ⟨A, c, gs, k1, k2, k3, k4, k5⟩ := h.ex
  have c1 : w.cell? ⟨s, 1, none⟩ = some (.slice A L.length c) := by rw [cell_of_row _ _ _ _ _ _ k1]; rfl
  have hb : Below w.heap.size w (w.alloc (.cells #[.slice A L.length c] 22)) := (Below.refl _ w).alloc (Nat.le_refl _) _
  have HT := Lib.hid (show Tol (w.alloc (.cells #[.slice A L.length c] 22)) (fun k => S k ∨ k = w.heap.size) w.heap.size d L from
    ⟨.inr rfl, fun k hk => (by rcases hk with hk | rfl
                               · exact Nat.lt_of_lt_of_le (h.lt k hk) hb.size
                               · simp), h.ok, A, c, gs, heap_new w _ _, own_below k2 hb, fun k e => .inl (k3 k e), fun g hg => .inl (k4 g hg), k5.below hb⟩)
  have HB := Lib.hid hb
  have hs := h.lt s h.own
  obtain ⟨N, hN⟩ : ∃ N, N = L.length := ⟨_, rfl⟩
  rw [← hN] at c1 HT HB
  clear h k1 k2 k3 k4 k5 hb hN
  go_enter Try.func23, Try.ntmps23
  go_wp2
  go_ret
  exact ⟨rfl, HT.out, HB.out⟩

set_option maxHeartbeats 1600000 in
theorem iterD {m y : Nat} {w0 : World} (ht : Tol w0 S g d L) (hn : L.length ≤ 1048576)
    (I : Nat → World → Prop) (K Y : World → Prop) (hI : ∀ k W, I k W → w0.heap.size ≤ W.heap.size ∧ ∀ q, S q → W.heap[q]? = w0.heap[q]?) (hK : ∀ W W', K W → Below W.heap.size W W' → K W')
    (hY : ∀ (k : Nat) l g1 W W', L[k]? = some l → I k W → Below W.heap.size W W' → W.heap.size ≤ g1 → Blk W' g1 l → K W' → YieldAt Fence.wide (m + 1 - 1) Try.prog y #[.int .i64 (k : Int), .slice (some ⟨g1, 0, none⟩) d.toNat d.toNat] W' fun e W'' => (e = .returned (.bool true) ∧ I (k + 1) W'' ∧ K W'') ∨ (e = .returned (.bool false) ∧ Y W''))
    (W : World) (h0 : I 0 W) (hK0 : K W) :
    CallsIn Fence.wide (m + 1) Try.prog 33 #[.func (.yield y) #[] #[], .pointer (some ⟨g, 0, none⟩)] W fun e W' => (∃ v, e = .returned v) ∧ ((I L.length W' ∧ K W') ∨ Y W') := by
  obtain ⟨A, c, o1, o2, o3⟩ := ht.open_
  have cq := (World.cell?_of_block (a := ⟨g, 0, none⟩) ((hI 0 W h0).2 g ht.own)).trans o1
  have HO := Lib.hid o3
  have HT := Lib.hid ht
  have H0 := Lib.hid h0
  have HK0 := Lib.hid hK0
  obtain ⟨N, hN⟩ : ∃ N, N = L.length := ⟨_, rfl⟩
  have HN := Lib.hid hN
  rw [← hN] at cq hn o2 ⊢
  clear h0 hK0 ht o1 o3 hN
  refine callsIn_of_wp Try.func33 rfl trivial ?_ rfl
  simp only [Try.ntmps33, List.size_toArray, List.length_cons, List.length_nil, Nat.reduceAdd, Nat.reduceSub, Array.replicate_succ, Array.replicate_zero, List.push_toArray, List.append_toArray, List.nil_append, List.cons_append]
  gi_wp2
  gi_loopw [7] (fun p wr => ∃ k : Nat, p = .int .i64 (k : Int) ∧ k ≤ N ∧ I k wr ∧ K wr) (fun p _ => N - (Go.RowKit.intOf p).toNat)
  case atStart => exact ⟨0, rfl, by omega, H0.out, HK0.out⟩
  case round =>
    clear H0 HK0 cq
    obtain ⟨k, rfl, hkn, hIk0, hKr⟩ := hrel
    by_cases hk : k < N
    · obtain ⟨l, hx⟩ : ∃ l, L[k]? = some l := ⟨_, List.getElem?_eq_getElem (by rw [← HN.out]; exact hk)⟩
      obtain ⟨b, off, g1, rfl, hb, c0, hg1, hB⟩ := HO.out k l hx
      have hIk := hI k wr hIk0
      have c1 := (World.cell?_of_block (a := ⟨b, off + k, none⟩) (hIk.2 b hb)).trans c0
      have hB2 : Blk wr g1 l := (hIk.2 g1 hg1).trans hB
      have hc := HT.out.ok.at_ hx
      have HC := Lib.hid (clone_any (some ⟨g1, 0, none⟩) d.toNat d.toNat l wr (hB2.vecD hc) (by have := dim_max hc; omega))
      have HX := Lib.hid hx
      have HI0 := Lib.hid hIk0
      have HKR := Lib.hid hKr
      clear hIk0 hKr hx hb hB hB2 hc hg1 c0 hIk
      gi_wp2_with fail
      refine ⟨trivial, ?_⟩
      refine (callsIn_wide.2 HC.out).mono ?_
      rintro _ W2 ⟨g2, rfl, q1, q2, q3⟩
      obtain ⟨fn, tmps, assign, body, hy, hR⟩ := hY k l g2 _ _ HX.out HI0.out q3 q1 q2 (hK _ _ HKR.out q3)
      have HR := Lib.hid hR
      clear hR q1 q2 q3 HC
      gi_wp2
      refine HR.out.mono ?_
      rintro e W3 (⟨rfl, hI3, hK3⟩ | ⟨rfl, hY3⟩)
      · have HI3 := Lib.hid hI3
        have HK3 := Lib.hid hK3
        clear hI3 hK3 HR hy c1
        gi_wp2
        go_roundw
        case rel => exact ⟨k + 1, congrArg (Value.int .i64) (by omega), by omega, HI3.out, HK3.out⟩
        case measure => simp [Go.RowKit.intOf]; omega
      · have HY3 := Lib.hid hY3
        clear hY3 HR hy c1
        gi_wp2
        refine bodyPost_ret (results_none rfl _ _ _) rfl ?_
        exact ⟨⟨_, rfl⟩, .inr HY3.out⟩
    · obtain rfl : k = N := by omega
      have HI := Lib.hid hIk0
      have HKr := Lib.hid hKr
      clear hIk0 hKr
      gi_wp2
      go_end0
      exact ⟨⟨_, rfl⟩, .inl ⟨HI.out, HKr.out⟩⟩
end
end Go.Proofs.Ytafkbagjjknhlaa
