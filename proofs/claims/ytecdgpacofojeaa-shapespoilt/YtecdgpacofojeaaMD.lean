/-
  Layer 10 (data), in lists alone: which vectors may be items of a dimension, the first error of many, and what is kept of them. Nothing of the program stands here.
  Layer 10 (data): own words for memory: a slice of vectors, and items at a block.
  Layer 10 (data): New, Add, Len, Dim, At, Far and All, by contracts.
  Layer 10 (data): Of, by contracts.
-/
import Derived.Test.YtecdgpacofojeaaVMath
import Derived.Test.YtecdgpacofojeaaMV
import Derived.Test.YtecdgpacofojeaaNMem
import Derived.StillTailTactics
import Derived.Deep.RegionHeld3
import Derived.Deep.RegionLaw
namespace Go.Proofs.Ytecdgpacofojeaa.Dm
open Go Go.RowKit

/-- the first error of vectors of a dimension; 0, if there is none -/
def first (d : Int) : List (List Int) → Int
  | [] => 0
  | l :: r => if Vm.chk l d = 0 then first d r else Vm.chk l d
/-- the first error of a list that is to be items -/
def chks (d : Int) (L : List (List Int)) : Int := if d < 1 ∨ 1024 < d then 1 else first d L
/-- each may be -/
def Ok (d : Int) (L : List (List Int)) : Prop := ∀ l ∈ L, Vm.chk l d = 0
/-- those that may be -/
def kept (d : Int) (L : List (List Int)) : List (List Int) := L.filter fun l => decide (Vm.chk l d = 0)

section
variable {d : Int} {L : List (List Int)} {k : Nat} {x : List Int}
theorem Ok.nil (d : Int) : Ok d [] := fun _ h => by cases h
theorem first_ok (h : Ok d L) : first d L = 0 := by
  induction L with
  | nil => rfl
  | cons l r ih =>
    rw [first, if_pos (h l (.head _))]
    exact ih fun y hy => h y (.tail _ hy)
theorem first_at (h : Ok d (L.take k)) (hx : L[k]? = some x) (hc : Vm.chk x d ≠ 0) : first d L = Vm.chk x d := by
  induction L generalizing k with
  | nil => simp at hx
  | cons l r ih =>
    cases k with
    | zero =>
      simp at hx
      subst hx
      rw [first, if_neg hc]
    | succ k =>
      rw [first, if_pos (h l (by simp))]
      exact ih (k := k) (fun y hy => h y (by rw [List.take_succ_cons]; exact .tail _ hy)) (by simpa using hx)
theorem ok_of_first (h : first d L = 0) : Ok d L := by
  induction L with
  | nil => exact Ok.nil d
  | cons l r ih =>
    by_cases c : Vm.chk l d = 0
    · rw [first, if_pos c] at h
      intro y hy
      rcases List.mem_cons.1 hy with rfl | hy
      · exact c
      · exact ih h y hy
    · rw [first, if_neg c] at h
      exact absurd h c
theorem Ok.snoc (h : Ok d (L.take k)) (hx : L[k]? = some x) (hc : Vm.chk x d = 0) : Ok d (L.take (k + 1)) := by
  intro y hy
  rw [List.take_add_one, hx] at hy
  rcases List.mem_append.1 hy with hy | hy
  · exact h y hy
  · simp at hy; subst hy; exact hc
theorem Ok.app (h : Ok d L) (hc : Vm.chk x d = 0) : Ok d (L ++ [x]) := by
  intro y hy
  rcases List.mem_append.1 hy with hy | hy
  · exact h y hy
  · simp at hy; subst hy; exact hc
theorem Ok.at_ (h : Ok d L) (hx : L[k]? = some x) : Vm.chk x d = 0 := h x (List.mem_of_getElem? hx)
theorem chks_range (h : d < 1 ∨ 1024 < d) : chks d L = 1 := by unfold chks; rw [if_pos h]
theorem chks_first (h0 : 1 ≤ d) (h1 : d ≤ 1024) : chks d L = first d L := by unfold chks; rw [if_neg (by omega)]
theorem chks_zero (h : chks d L = 0) : 1 ≤ d ∧ d ≤ 1024 ∧ Ok d L := by
  by_cases g : d < 1 ∨ 1024 < d
  · rw [chks_range g] at h; omega
  · have h0 : 1 ≤ d := by omega
    have h1 : d ≤ 1024 := by omega
    rw [chks_first h0 h1] at h
    exact ⟨h0, h1, ok_of_first h⟩
theorem chks_ok (h0 : 1 ≤ d) (h1 : d ≤ 1024) (h : Ok d L) : chks d L = 0 := by rw [chks_first h0 h1, first_ok h]
/-- a vector that may be: as long as the dimension -/
theorem len_of (h : Vm.chk x d = 0) : x.length = d.toNat := by have := Vm.chk_ok h; omega
theorem in_of (h : Vm.chk x d = 0) : ∀ y ∈ x, -2147483648 ≤ y ∧ y ≤ 2147483647 := fun y hy => by
  have := (Vm.chk_ok h).2.2.2 y hy
  unfold Vm.good at this
  omega
/-- how far two are that may be: 0 just of the same ones -/
theorem far_zero {y : List Int} (hx : Vm.chk x d = 0) (hy : Vm.chk y d = 0) : Vm.far x y = 0 ↔ x = y := by
  obtain ⟨h0, h1, h2, h3⟩ := Vm.chk_ok hx
  obtain ⟨_, _, h4, h5⟩ := Vm.chk_ok hy
  have hb := Vm.farZ_bound x y h3 h5
  have e : Vm.far x y = Vm.farZ x y := Vm.wrap_in (by omega) (by omega)
  rw [e]
  exact Vm.farZ_zero x y (by omega)
theorem kept_nil (d : Int) : kept d [] = [] := rfl
theorem kept_yes (hx : L[k]? = some x) (hc : Vm.chk x d = 0) : kept d (L.take (k + 1)) = kept d (L.take k) ++ [x] := by
  unfold kept
  rw [List.take_add_one, hx, List.filter_append]
  simp [hc]
theorem kept_no (hx : L[k]? = some x) (hc : Vm.chk x d ≠ 0) : kept d (L.take (k + 1)) = kept d (L.take k) := by
  unfold kept
  rw [List.take_add_one, hx, List.filter_append]
  simp [hc]
theorem kept_ok (d : Int) (L : List (List Int)) : Ok d (kept d L) := fun y hy => by
  unfold kept at hy
  simpa using (List.mem_filter.1 hy).2
theorem kept_le (d : Int) (L : List (List Int)) : (kept d L).length ≤ L.length := List.length_filter_le _ _
theorem kept_take_le (d : Int) (L : List (List Int)) (k : Nat) : (kept d (L.take k)).length ≤ k := by
  have := kept_le d (L.take k)
  rw [List.length_take] at this
  omega
end
end Go.Proofs.Ytecdgpacofojeaa.Dm
namespace Go.Proofs.Ytecdgpacofojeaa
open Go.RowKit

theorem Try.infoV : (Try.prog.info? 64).map (fun i => (i.zero, i.size, i.bytes)) = some (some (.slice none 0 0), 1, 24) := by kernel_rfl
/-- a block's slice of d numbers -/
def sl (d g : Nat) : Value := .slice (some ⟨g, 0, none⟩) d d
/-- slices that read as vectors -/
def Vl (w : World) (vs : List Value) (L : List (List Int)) : Prop :=
  vs.length = L.length ∧ ∀ (k : Nat) (l : List Int), L[k]? = some l → ∃ A n c, vs[k]? = some (.slice A n c) ∧ Vec w A n l ∧ n ≤ maxLen
section
variable {w w' : World} {vs : List Value} {L : List (List Int)} {l : List Int} {A : Option Addr} {n c k : Nat}
theorem Vl.nil (w : World) : Vl w [] [] := ⟨rfl, fun k l h => by simp at h⟩
theorem Vl.below (h : Vl w vs L) (hb : Below w.heap.size w w') : Vl w' vs L :=
  ⟨h.1, fun k l hl => by obtain ⟨A, n, c, h1, h2, h3⟩ := h.2 k l hl; exact ⟨A, n, c, h1, h2.below hb, h3⟩⟩
theorem Vl.snoc (h : Vl w vs L) (hv : Vec w A n l) (hn : n ≤ maxLen) : Vl w (vs ++ [.slice A n c]) (L ++ [l]) := by
  refine ⟨by simp [h.1], fun k x hx => ?_⟩
  rcases Nat.lt_or_ge k L.length with hk | hk
  · rw [List.getElem?_append_left hk] at hx
    obtain ⟨A', n', c', h1, h2, h3⟩ := h.2 k x hx
    exact ⟨A', n', c', by rw [List.getElem?_append_left (by rw [h.1]; exact hk)]; exact h1, h2, h3⟩
  · have hk2 : k = L.length := by
      have := (List.getElem?_eq_some_iff.1 hx).1
      simp at this
      omega
    subst hk2
    rw [List.getElem?_append_right (Nat.le_refl _)] at hx
    simp at hx
    subst hx
    exact ⟨A, n, c, by rw [← h.1, List.getElem?_append_right (Nat.le_refl _)]; simp, hv, hn⟩

/-- a slice of vectors that reads as L -/
structure Lv (w : World) (A : Option Addr) (n c : Nat) (L : List (List Int)) : Prop where
  len : L.length = n
  cap : n ≤ c
  nil : A = none → c = 0
  at_ : ∀ (k : Nat) (l : List Int), L[k]? = some l → ∃ b off, A = some ⟨b, off, none⟩ ∧ b < w.heap.size ∧ ∃ A' n' c', w.cell? ⟨b, off + k, none⟩ = some (.slice A' n' c') ∧ Vec w A' n' l ∧ n' ≤ maxLen
theorem Lv.below (h : Lv w A n c L) (hb : Below w.heap.size w w') : Lv w' A n c L := by
  refine ⟨h.len, h.cap, h.nil, fun k l hl => ?_⟩
  obtain ⟨b, off, e, h1, A', n', c', h2, h3, h4⟩ := h.at_ k l hl
  exact ⟨b, off, e, Nat.lt_of_lt_of_le h1 hb.size, A', n', c', (hb.cell (p := ⟨b, off + k, none⟩) h1).trans h2, h3.below hb, h4⟩
theorem Lv.drewN (h : Lv w A n c L) (d : Nat) : Lv (w.drewN d) A n c L := h.below (bdrew (Below.refl _ w) d)
theorem Lv.get (h : Lv w A n c L) (hk : k < n) : ∃ l, L[k]? = some l := ⟨_, List.getElem?_eq_getElem (by rw [h.len]; exact hk)⟩
theorem Lv.nil_ (w : World) : Lv w none 0 0 [] := ⟨rfl, Nat.le_refl _, fun _ => rfl, fun k l h => by simp at h⟩
theorem Lv.of_lst (h : Lst w w.heap.size A n vs) (hv : Vl w vs L) (hc : n ≤ c) (hA : A = none → c = 0) : Lv w A n c L := by
  have hn := h.1
  refine ⟨by rw [← hv.1, hn], hc, hA, fun k l hl => ?_⟩
  have hk : k < n := by have := (List.getElem?_eq_some_iff.1 hl).1; have := hv.1; omega
  obtain ⟨b, off, e, hb, hcell⟩ := h.at_ hk
  obtain ⟨A', n', c', h1, h2, h3⟩ := hv.2 k l hl
  exact ⟨b, off, e, hb, A', n', c', by rw [hcell, h1], h2, h3⟩
theorem Lv.of_own {base : Nat} {e : TypeId} (h : w.ownsRow base e 1 (.slice A n c) n vs) (hv : Vl w vs L) : Lv w A n c L := by
  obtain ⟨A', c', e1, h1, h2⟩ := own_form h
  injection e1 with e1 _ e3
  subst e1
  subst e3
  exact Lv.of_lst (Lst.of_own h) hv h2 h1

/-- vectors in blocks of their own -/
def Bks (w : World) (gs : List Nat) (L : List (List Int)) : Prop := gs.length = L.length ∧ ∀ (k g : Nat) (l : List Int), gs[k]? = some g → L[k]? = some l → Blk w g l
theorem Bks.nil (w : World) : Bks w [] [] := ⟨rfl, fun k g l h => by simp at h⟩
theorem Bks.keep {gs : List Nat} (h : Bks w gs L) (hk : ∀ g ∈ gs, w'.heap[g]? = w.heap[g]?) : Bks w' gs L :=
  ⟨h.1, fun k g l h1 h2 => (hk g (List.mem_of_getElem? h1)).trans (h.2 k g l h1 h2)⟩
theorem Bks.lt {gs : List Nat} (h : Bks w gs L) {g : Nat} (hg : g ∈ gs) : g < w.heap.size := by
  obtain ⟨k, hk⟩ := List.getElem?_of_mem hg
  have hk2 : k < L.length := by have := (List.getElem?_eq_some_iff.1 hk).1; have := h.1; omega
  exact lt_of_block (h.2 k g _ hk (List.getElem?_eq_getElem hk2))
theorem Bks.below {gs : List Nat} (h : Bks w gs L) (hb : Below w.heap.size w w') : Bks w' gs L := h.keep fun g hg => hb.block g (h.lt hg)
theorem Bks.snoc {gs : List Nat} {g : Nat} (h : Bks w gs L) (hb : Blk w g l) : Bks w (gs ++ [g]) (L ++ [l]) := by
  refine ⟨by simp [h.1], fun k x y hx hy => ?_⟩
  rcases Nat.lt_or_ge k L.length with hk | hk
  · rw [List.getElem?_append_left hk] at hy
    rw [List.getElem?_append_left (by rw [h.1]; exact hk)] at hx
    exact h.2 k x y hx hy
  · have hk2 : k = L.length := by
      have := (List.getElem?_eq_some_iff.1 hy).1
      simp at this
      omega
    subst hk2
    rw [List.getElem?_append_right (Nat.le_refl _)] at hy
    rw [← h.1, List.getElem?_append_right (Nat.le_refl _)] at hx
    simp at hx hy
    subst hx
    subst hy
    exact hb
theorem Blk.vecD {g : Nat} {d : Int} (h : Blk w g l) (hc : Vm.chk l d = 0) : Vec w (some ⟨g, 0, none⟩) d.toNat l := h.vec (Dm.len_of hc) (Dm.in_of hc)
theorem dim_max {d : Int} (hc : Vm.chk l d = 0) : d.toNat ≤ 1024 ∧ d.toNat ≤ maxLen := by have := Vm.chk_ok hc; unfold maxLen; omega
theorem Bks.vl {gs : List Nat} {d : Int} (h : Bks w gs L) (hok : Dm.Ok d L) : Vl w (gs.map (sl d.toNat)) L := by
  refine ⟨by simp [h.1], fun k l hl => ?_⟩
  have hk : k < gs.length := by have := (List.getElem?_eq_some_iff.1 hl).1; have := h.1; omega
  have hc := hok.at_ hl
  exact ⟨some ⟨gs[k], 0, none⟩, d.toNat, d.toNat, by simp [sl, hk], (h.2 k _ l (List.getElem?_eq_getElem hk) hl).vecD hc, (dim_max hc).2⟩
/-- a block of numbers is no row of slices -/
theorem blk_row {g : Nat} {cs : Array Value} (h : Blk w g l) (h2 : w.heap[g]? = some (.cells cs 64 (0, 0))) : False := by
  unfold Blk at h
  rw [h] at h2
  injection h2 with h2
  injection h2 with _ h2
  exact absurd h2 (by decide)
theorem own_at {base : Nat} {e : TypeId} {v : Value} {n : Nat} {xs : List Value} (h : w.ownsRow base e 1 v n xs) {k : Nat} (hk : v.ownBlock = some k) : ∃ cs, w.heap[k]? = some (.cells cs e (0, 0)) := by
  rcases h.2 with ⟨rfl, _⟩ | ⟨g, cap, cur, rfl, _, hb, _⟩
  · simp [Value.ownBlock] at hk
  · have e : g = k := by simpa [Value.ownBlock] using hk
    subst e
    exact ⟨cur, hb⟩
theorem own_keepS {base : Nat} {e : TypeId} {v : Value} {n : Nat} {xs : List Value} (h : w.ownsRow base e 1 v n xs) (hk : ∀ k, v.ownBlock = some k → w'.heap[k]? = w.heap[k]?) : w'.ownsRow base e 1 v n xs := by
  refine ⟨h.1, ?_⟩
  rcases h.2 with h0 | ⟨g, cap, cur, hv, hg, hb, hr⟩
  · exact .inl h0
  · exact .inr ⟨g, cap, cur, hv, hg, (hk g (by rw [hv]; rfl)).trans hb, hr⟩
end

section
variable {w w' : World} {S S' T : Nat → Prop} {s : Nat} {d : Int} {L : List (List Int)}
end
end Go.Proofs.Ytecdgpacofojeaa
namespace Go.Proofs.Ytecdgpacofojeaa
open Go.RowKit


section
variable {w : World} {S : Nat → Prop} {s : Nat} {d : Int} {L : List (List Int)}


theorem far_nil (v : List Int) : Vm.far [] v = 0 := (Vm.wrap_in (by cases v <;> simp [Vm.farZ]) (by cases v <;> simp [Vm.farZ])).trans (by cases v <;> simp [Vm.farZ])
end
end Go.Proofs.Ytecdgpacofojeaa
namespace Go.Proofs.Ytecdgpacofojeaa
open Go.RowKit

section
variable {w : World} {A : Option Addr} {n c : Nat} {L : List (List Int)}
end
end Go.Proofs.Ytecdgpacofojeaa
