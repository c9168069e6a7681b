/-
  Layer 10 (data): own words for memory: a slice of vectors, and items at a block.
-/
import Derived.Test.YtafkbagjjknhlaaVAll
import Derived.Test.YtafkbagjjknhlaaDMath
import Derived.Test.YtafkbagjjknhlaaNMem
namespace Go.Proofs.Ytafkbagjjknhlaa
open Go.RowKit

theorem Try.infoV : (Try.prog.info? 55).map (fun i => (i.zero, i.size, i.bytes)) = some (some (.slice none 0 0), 1, 24) := by kernel_rfl
/-- a block's slice of d numbers -/
def sl (d g : Nat) : Value := .slice (some ⟨g, 0, none⟩) d d
/-- slices that read as vectors -/
def Vl (w : World) (vs : List Value) (L : List (List Int)) : Prop :=
  vs.length = L.length ∧ ∀ (k : Nat) (l : List Int), L[k]? = some l → ∃ A n c, vs[k]? = some (.slice A n c) ∧ Vec w A n l ∧ n ≤ maxLen
section
variable {w w' : World} {vs : List Value} {L : List (List Int)} {l : List Int} {A : Option Addr} {n c k : Nat}
theorem Vl.nil (w : World) : Vl w [] [] := ⟨rfl, fun k l h => by simp at h⟩
theorem Vl.below (h : Vl w vs L) (hb : Below w.heap.size w w') : Vl w' vs L :=
  ⟨h.1, fun k l hl => by obtain ⟨A, n, c, h1, h2, h3⟩ := h.2 k l hl; exact ⟨A, n, c, h1, h2.below hb, h3⟩⟩
theorem Vl.snoc (h : Vl w vs L) (hv : Vec w A n l) (hn : n ≤ maxLen) : Vl w (vs ++ [.slice A n c]) (L ++ [l]) := by
  refine ⟨by simp [h.1], fun k x hx => ?_⟩
  rcases Nat.lt_or_ge k L.length with hk | hk
  · rw [List.getElem?_append_left hk] at hx
    obtain ⟨A', n', c', h1, h2, h3⟩ := h.2 k x hx
    exact ⟨A', n', c', by rw [List.getElem?_append_left (by rw [h.1]; exact hk)]; exact h1, h2, h3⟩
  · have hk2 : k = L.length := by
      have := (List.getElem?_eq_some_iff.1 hx).1
      simp at this
      omega
    subst hk2
    rw [List.getElem?_append_right (Nat.le_refl _)] at hx
    simp at hx
    subst hx
    exact ⟨A, n, c, by rw [← h.1, List.getElem?_append_right (Nat.le_refl _)]; simp, hv, hn⟩

/-- a slice of vectors that reads as L -/
structure Lv (w : World) (A : Option Addr) (n c : Nat) (L : List (List Int)) : Prop where
  len : L.length = n
  cap : n ≤ c
  nil : A = none → c = 0
  at_ : ∀ (k : Nat) (l : List Int), L[k]? = some l → ∃ b off, A = some ⟨b, off, none⟩ ∧ b < w.heap.size ∧ ∃ A' n' c', w.cell? ⟨b, off + k, none⟩ = some (.slice A' n' c') ∧ Vec w A' n' l ∧ n' ≤ maxLen
theorem Lv.below (h : Lv w A n c L) (hb : Below w.heap.size w w') : Lv w' A n c L := by
  refine ⟨h.len, h.cap, h.nil, fun k l hl => ?_⟩
  obtain ⟨b, off, e, h1, A', n', c', h2, h3, h4⟩ := h.at_ k l hl
  exact ⟨b, off, e, Nat.lt_of_lt_of_le h1 hb.size, A', n', c', (hb.cell (p := ⟨b, off + k, none⟩) h1).trans h2, h3.below hb, h4⟩
theorem Lv.drewN (h : Lv w A n c L) (d : Nat) : Lv (w.drewN d) A n c L := h.below (bdrew (Below.refl _ w) d)
theorem Lv.get (h : Lv w A n c L) (hk : k < n) : ∃ l, L[k]? = some l := ⟨_, List.getElem?_eq_getElem (by rw [h.len]; exact hk)⟩
theorem Lv.nil_ (w : World) : Lv w none 0 0 [] := ⟨rfl, Nat.le_refl _, fun _ => rfl, fun k l h => by simp at h⟩
theorem Lv.of_lst (h : Lst w w.heap.size A n vs) (hv : Vl w vs L) (hc : n ≤ c) (hA : A = none → c = 0) : Lv w A n c L := by
  have hn := h.1
  refine ⟨by rw [← hv.1, hn], hc, hA, fun k l hl => ?_⟩
  have hk : k < n := by have := (List.getElem?_eq_some_iff.1 hl).1; have := hv.1; omega
  obtain ⟨b, off, e, hb, hcell⟩ := h.at_ hk
  obtain ⟨A', n', c', h1, h2, h3⟩ := hv.2 k l hl
  exact ⟨b, off, e, hb, A', n', c', by rw [hcell, h1], h2, h3⟩
theorem Lv.of_own {base : Nat} {e : TypeId} (h : w.ownsRow base e 1 (.slice A n c) n vs) (hv : Vl w vs L) : Lv w A n c L := by
  obtain ⟨A', c', e1, h1, h2⟩ := own_form h
  injection e1 with e1 _ e3
  subst e1
  subst e3
  exact Lv.of_lst (Lst.of_own h) hv h2 h1

/-- vectors in blocks of their own -/
def Bks (w : World) (gs : List Nat) (L : List (List Int)) : Prop := gs.length = L.length ∧ ∀ (k g : Nat) (l : List Int), gs[k]? = some g → L[k]? = some l → Blk w g l
theorem Bks.nil (w : World) : Bks w [] [] := ⟨rfl, fun k g l h => by simp at h⟩
theorem Bks.keep {gs : List Nat} (h : Bks w gs L) (hk : ∀ g ∈ gs, w'.heap[g]? = w.heap[g]?) : Bks w' gs L :=
  ⟨h.1, fun k g l h1 h2 => (hk g (List.mem_of_getElem? h1)).trans (h.2 k g l h1 h2)⟩
theorem Bks.lt {gs : List Nat} (h : Bks w gs L) {g : Nat} (hg : g ∈ gs) : g < w.heap.size := by
  obtain ⟨k, hk⟩ := List.getElem?_of_mem hg
  have hk2 : k < L.length := by have := (List.getElem?_eq_some_iff.1 hk).1; have := h.1; omega
  exact lt_of_block (h.2 k g _ hk (List.getElem?_eq_getElem hk2))
theorem Bks.below {gs : List Nat} (h : Bks w gs L) (hb : Below w.heap.size w w') : Bks w' gs L := h.keep fun g hg => hb.block g (h.lt hg)
theorem Bks.snoc {gs : List Nat} {g : Nat} (h : Bks w gs L) (hb : Blk w g l) : Bks w (gs ++ [g]) (L ++ [l]) := by
  refine ⟨by simp [h.1], fun k x y hx hy => ?_⟩
  rcases Nat.lt_or_ge k L.length with hk | hk
  · rw [List.getElem?_append_left hk] at hy
    rw [List.getElem?_append_left (by rw [h.1]; exact hk)] at hx
    exact h.2 k x y hx hy
  · have hk2 : k = L.length := by
      have := (List.getElem?_eq_some_iff.1 hy).1
      simp at this
      omega
    subst hk2
    rw [List.getElem?_append_right (Nat.le_refl _)] at hy
    rw [← h.1, List.getElem?_append_right (Nat.le_refl _)] at hx
    simp at hx hy
    subst hx
    subst hy
    exact hb
theorem Blk.vecD {g : Nat} {d : Int} (h : Blk w g l) (hc : Vm.chk l d = 0) : Vec w (some ⟨g, 0, none⟩) d.toNat l := h.vec (Dm.len_of hc) (Dm.in_of hc)
theorem dim_max {d : Int} (hc : Vm.chk l d = 0) : d.toNat ≤ 1024 ∧ d.toNat ≤ maxLen := by have := Vm.chk_ok hc; unfold maxLen; omega
theorem Bks.vl {gs : List Nat} {d : Int} (h : Bks w gs L) (hok : Dm.Ok d L) : Vl w (gs.map (sl d.toNat)) L := by
  refine ⟨by simp [h.1], fun k l hl => ?_⟩
  have hk : k < gs.length := by have := (List.getElem?_eq_some_iff.1 hl).1; have := h.1; omega
  have hc := hok.at_ hl
  exact ⟨some ⟨gs[k], 0, none⟩, d.toNat, d.toNat, by simp [sl, hk], (h.2 k _ l (List.getElem?_eq_getElem hk) hl).vecD hc, (dim_max hc).2⟩
/-- a block of numbers is no row of slices -/
theorem blk_row {g : Nat} {cs : Array Value} (h : Blk w g l) (h2 : w.heap[g]? = some (.cells cs 55 (0, 0))) : False := by
  unfold Blk at h
  rw [h] at h2
  injection h2 with h2
  injection h2 with _ h2
  exact absurd h2 (by decide)
theorem blk_items {g : Nat} {cs : Array Value} (h : Blk w g l) (h2 : w.heap[g]? = some (.cells cs 87 (0, 0))) : False := by
  unfold Blk at h
  rw [h] at h2
  injection h2 with h2
  injection h2 with _ h2
  exact absurd h2 (by decide)
theorem row_items {g : Nat} {cs cs' : Array Value} (h : w.heap[g]? = some (.cells cs 55 (0, 0))) (h2 : w.heap[g]? = some (.cells cs' 87 (0, 0))) : False := by
  rw [h] at h2
  injection h2 with h2
  injection h2 with _ h2
  exact absurd h2 (by decide)
theorem own_at {base : Nat} {e : TypeId} {v : Value} {n : Nat} {xs : List Value} (h : w.ownsRow base e 1 v n xs) {k : Nat} (hk : v.ownBlock = some k) : ∃ cs, w.heap[k]? = some (.cells cs e (0, 0)) := by
  rcases h.2 with ⟨rfl, _⟩ | ⟨g, cap, cur, rfl, _, hb, _⟩
  · simp [Value.ownBlock] at hk
  · have e : g = k := by simpa [Value.ownBlock] using hk
    subst e
    exact ⟨cur, hb⟩
theorem own_keepS {base : Nat} {e : TypeId} {v : Value} {n : Nat} {xs : List Value} (h : w.ownsRow base e 1 v n xs) (hk : ∀ k, v.ownBlock = some k → w'.heap[k]? = w.heap[k]?) : w'.ownsRow base e 1 v n xs := by
  refine ⟨h.1, ?_⟩
  rcases h.2 with h0 | ⟨g, cap, cur, hv, hg, hb, hr⟩
  · exact .inl h0
  · exact .inr ⟨g, cap, cur, hv, hg, (hk g (by rw [hv]; rfl)).trans hb, hr⟩
end

/-- items of dimension d at block s, all of them within the blocks of S: those of L -/
structure It (w : World) (S : Nat → Prop) (s : Nat) (d : Int) (L : List (List Int)) : Prop where
  own : S s
  lt : ∀ k, S k → k < w.heap.size
  dim : 1 ≤ d ∧ d ≤ 1024
  ok : Dm.Ok d L
  ex : ∃ A c gs, w.heap[s]? = some (.cells #[.int .i64 d, .slice A L.length c] 87 (0, 0)) ∧ w.ownsRow 0 55 1 (.slice A L.length c) L.length (gs.map (sl d.toNat)) ∧
    (∀ k, (Value.slice A L.length c).ownBlock = some k → S k) ∧ (∀ g ∈ gs, S g) ∧ Bks w gs L
section
variable {w w' : World} {S S' T : Nat → Prop} {s : Nat} {d : Int} {L : List (List Int)}
theorem It.keep (h : It w S s d L) (hs : w.heap.size ≤ w'.heap.size) (hk : ∀ k, S k → w'.heap[k]? = w.heap[k]?) : It w' S s d L := by
  obtain ⟨A, c, gs, h1, h2, h3, h4, h5⟩ := h.ex
  exact ⟨h.own, fun k hS => Nat.lt_of_lt_of_le (h.lt k hS) hs, h.dim, h.ok, A, c, gs, (hk s h.own).trans h1, own_keepS h2 fun k e => hk k (h3 k e), h3, h4, h5.keep fun g hg => hk g (h4 g hg)⟩
theorem It.below (h : It w S s d L) (hb : Below w.heap.size w w') : It w' S s d L := h.keep hb.size fun k hS => hb.block k (h.lt k hS)
theorem It.drewN (h : It w S s d L) (m : Nat) : It (w.drewN m) S s d L := h.below (bdrew (Below.refl _ w) m)
theorem It.other (h : It w S s d L) (hb : Kept T w w') (ho : ∀ k, S k → ¬ T k) : It w' S s d L := h.keep hb.size fun k hS => hb.block k (h.lt k hS) (ho k hS)
theorem It.wide (h : It w S s d L) (hS : ∀ k, S k → S' k) (hl : ∀ k, S' k → k < w.heap.size) : It w S' s d L := by
  obtain ⟨A, c, gs, h1, h2, h3, h4, h5⟩ := h.ex
  exact ⟨hS s h.own, hl, h.dim, h.ok, A, c, gs, h1, h2, fun k e => hS k (h3 k e), fun g hg => hS g (h4 g hg), h5⟩
/-- its two cells, and what the second one leads to -/
theorem It.open_ (h : It w S s d L) : ∃ A c, w.cell? ⟨s, 0, none⟩ = some (.int .i64 d) ∧ w.cell? ⟨s, 1, none⟩ = some (.slice A L.length c) ∧ w.frozen? ⟨s, 1, none⟩ = false ∧ L.length ≤ c ∧ (A = none → c = 0) ∧
    ∀ k l, L[k]? = some l → ∃ b off g, A = some ⟨b, off, none⟩ ∧ b < w.heap.size ∧ w.cell? ⟨b, off + k, none⟩ = some (.slice (some ⟨g, 0, none⟩) d.toNat d.toNat) ∧ Blk w g l := by
  obtain ⟨A, c, gs, h1, h2, h3, h4, h5⟩ := h.ex
  obtain ⟨A', c', e1, e2, e3⟩ := own_form h2
  injection e1 with e1 _ e4
  subst e1
  subst e4
  refine ⟨A, c, by rw [cell_of_row _ _ _ _ _ _ h1]; rfl, by rw [cell_of_row _ _ _ _ _ _ h1]; rfl, frozen_of_row _ _ _ _ _ h1, e3, e2, fun k l hl => ?_⟩
  have hk : k < L.length := (List.getElem?_eq_some_iff.1 hl).1
  have hkg : k < gs.length := by rw [h5.1]; exact hk
  obtain ⟨b, off, e, hb, hc⟩ := (Lst.of_own h2).at_ hk
  exact ⟨b, off, gs[k], e, hb, by rw [hc]; simp [sl, hkg], h5.2 k _ l (List.getElem?_eq_getElem hkg) hl⟩
theorem It.new (w : World) {d : Int} (h0 : 1 ≤ d) (h1 : d ≤ 1024) : It (w.alloc (.cells #[.int .i64 d, .slice none 0 0] 87)) (fun k => k = w.heap.size) w.heap.size d [] :=
  ⟨rfl, fun k e => by subst e; simp, ⟨h0, h1⟩, Dm.Ok.nil d, none, 0, [], heap_new w _ _, World.ownsRow_nil _ _ _ _, (fun k e => by simp [Value.ownBlock] at e), (fun g hg => by cases hg), Bks.nil _⟩
/-- one more: the vector lies in block g, made behind w; the row was grown from W0 to W2 -/
theorem It.push {W0 W2 : World} {A : Option Addr} {c g g' cap' : Nat} {gs : List Nat} {v : List Int} (h : It w S s d L) (hv : Vm.chk v d = 0)
    (h1 : w.heap[s]? = some (.cells #[.int .i64 d, .slice A L.length c] 87 (0, 0))) (h2 : w.ownsRow 0 55 1 (.slice A L.length c) L.length (gs.map (sl d.toNat)))
    (h3 : ∀ k, (Value.slice A L.length c).ownBlock = some k → S k) (h4 : ∀ g ∈ gs, S g) (h5 : Bks w gs L)
    (hb : Below w.heap.size w W0) (hgl : w.heap.size ≤ g) (hg : Blk W0 g v)
    (r1 : W2.ownsRow 0 55 1 (.slice (some ⟨g', 0, none⟩) (L.length + 1) cap') (L.length + 1) (gs.map (sl d.toNat) ++ [sl d.toNat g])) (r2 : W0.grownBy W2 (Value.slice A L.length c).ownBlock) (r3 : (Value.slice A L.length c).ownBlock = some g' ∨ w.heap.size ≤ g') :
    W2.cell? ⟨s, 1, none⟩ = some (.slice A L.length c) ∧ W2.frozen? ⟨s, 1, none⟩ = false ∧
    It (W2.setCell ⟨s, 1, none⟩ (.slice (some ⟨g', 0, none⟩) (L.length + 1) cap')) (fun k => S k ∨ k = g ∨ k = g') s d (L ++ [v]) ∧ Kept S w (W2.setCell ⟨s, 1, none⟩ (.slice (some ⟨g', 0, none⟩) (L.length + 1) cap')) := by
  have hslt := h.lt s h.own
  have nrow : ∀ k, (Value.slice A L.length c).ownBlock = some k → k ≠ s ∧ k ≠ g ∧ k ∉ gs := fun k e => by
    obtain ⟨cs, hcs⟩ := own_at h2 e
    refine ⟨fun q => ?_, fun q => ?_, fun q => ?_⟩
    · subst q; exact row_items hcs h1
    · have := lt_of_block hcs; omega
    · obtain ⟨j, hj⟩ := List.getElem?_of_mem q
      have hj2 : j < L.length := by have := (List.getElem?_eq_some_iff.1 hj).1; have := h5.1; omega
      exact blk_row (h5.2 j k _ hj (List.getElem?_eq_getElem hj2)) hcs
  have kold : ∀ k, k < w.heap.size → (Value.slice A L.length c).ownBlock ≠ some k → W2.heap[k]? = w.heap[k]? := fun k hk hn =>
    (r2.block k (Nat.lt_of_lt_of_le hk hb.size) (fun e => hn e.symm)).trans (hb.block k hk)
  have hs2 : W2.heap[s]? = some (.cells #[.int .i64 d, .slice A L.length c] 87 (0, 0)) := (kold s hslt fun e => (nrow s e).1 rfl).trans h1
  have hgW0 : g < W0.heap.size := lt_of_block hg
  have hgW2 : Blk W2 g v := (r2.block g hgW0 fun e => (nrow g e.symm).2.1 rfl).trans hg
  have hne : g' ≠ s := by
    rcases r3 with e | e
    · exact (nrow g' e).1
    · omega
  have hk2 : Kept S w W2 := (Kept.of_below hb).grown r2 fun i e => .inl (h3 i e)
  have hg2 : g' < W2.heap.size := by
    obtain ⟨cs, hcs⟩ := own_at r1 (k := g') rfl
    exact lt_of_block hcs
  refine ⟨by rw [cell_of_row _ _ _ _ _ _ hs2]; rfl, frozen_of_row _ _ _ _ _ hs2, ⟨.inl h.own, fun k hk => ?_, h.dim, h.ok.app hv, some ⟨g', 0, none⟩, cap', gs ++ [g], ?_, ?_, fun k e => ?_, fun k hk => ?_, ?_⟩, hk2.setCell (.inl h.own)⟩
  · have hsz : (W2.setCell ⟨s, 1, none⟩ (.slice (some ⟨g', 0, none⟩) (L.length + 1) cap')).heap.size = W2.heap.size := by simp [World.setCell]
    rw [hsz]
    rcases hk with hk | rfl | rfl
    · exact Nat.lt_of_lt_of_le (h.lt k hk) hk2.size
    · exact Nat.lt_of_lt_of_le hgW0 r2.size
    · exact hg2
  · rw [heap_setCell_same _ _ _ _ _ _ hs2, List.length_append]; rfl
  · rw [List.length_append, List.map_append]
    exact own_keepS r1 fun k e => by
      have e2 : g' = k := by simpa [Value.ownBlock] using e
      subst e2
      exact Below.heap_setCell _ _ _ _ hne
  · have e2 : g' = k := by simpa [Value.ownBlock] using e
    exact .inr (.inr e2.symm)
  · rcases List.mem_append.1 hk with hk | hk
    · exact .inl (h4 k hk)
    · simp at hk; exact .inr (.inl hk)
  · refine Bks.snoc (h5.keep fun j hj => ?_) ((Below.heap_setCell _ _ _ _ (show g ≠ s by omega)).trans hgW2)
    have hjl := h5.lt hj
    have hjs : j ≠ s := fun q => by
      subst q
      obtain ⟨i, hi⟩ := List.getElem?_of_mem hj
      have hi2 : i < L.length := by have := (List.getElem?_eq_some_iff.1 hi).1; have := h5.1; omega
      exact blk_items (h5.2 i j _ hi (List.getElem?_eq_getElem hi2)) h1
    exact (Below.heap_setCell _ _ _ _ hjs).trans (kold j hjl fun e => (nrow j e).2.2 hj)
end
end Go.Proofs.Ytafkbagjjknhlaa
