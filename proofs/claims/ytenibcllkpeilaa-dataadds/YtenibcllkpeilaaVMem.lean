/-
  Layer 3 (vec): the calls that make memory, by their contracts: Clone and Less of the program, Less of the document's own answer; the document's examples hold ('awake' answers true).
-/
import Derived.Test.YtenibcllkpeilaaVLeaf
import Derived.Laws.CopyOwn
import Derived.Deep.RegionWith
import Derived.Deep.RegionLaw
import Derived.Deep.AppendLies
namespace Go.Proofs.Ytenibcllkpeilaa
open Go.RowKit

theorem Try.infoI32 : (Try.prog.info? 21).map (fun i => (i.zero, i.size, i.bytes)) = some (some (.int .i32 0), 1, 4) := by kernel_rfl
theorem Try.sizeI32 : (Try.prog.info? 21).map (·.size) = some 1 := by kernel_rfl

/-- a block of the list's numbers alone -/
def Blk (w : World) (g : Nat) (l : List Int) : Prop := w.heap[g]? = some (.cells (l.map (Value.int .i32)).toArray 21 (0, 0))
theorem Blk.vec {w : World} {g n : Nat} {l : List Int} (h : Blk w g l) (hn : l.length = n) (hl : ∀ x ∈ l, -2147483648 ≤ x ∧ x ≤ 2147483647) : Vec w (some ⟨g, 0, none⟩) n l := by
  refine ⟨⟨by simpa using hn, fun _ => ⟨g, 0, rfl, lt_of_block h, fun j u hu => ?_⟩⟩, hl⟩
  rw [Nat.zero_add, cell_of_row _ _ _ _ _ _ h]
  simpa using hu
theorem Blk.below {w w' : World} {g : Nat} {l : List Int} (h : Blk w g l) (hb : Below w.heap.size w w') : Blk w' g l := by
  unfold Blk; rw [hb.block g (lt_of_block h)]; exact h

/-- what make answers -/
theorem made_i32 (n : Nat) (hn : n ≤ 100000) : ∃ M : Array Value, M.size = n ∧ (∀ j, j < n → M[j]? = some (.int .i32 0)) ∧
    ∀ W : World, (Instr.makeSlice 31 (.int .i64 (n : Int)) (.int .i64 (n : Int))).run Try.prog W = .ok (.slice (some ⟨W.heap.size, 0, none⟩) n n) (W.alloc (.cells M 21)) := by
  obtain ⟨i0, hi, hz0, hz1, hz2⟩ := info_parts Try.infoI32
  obtain ⟨M, hM⟩ : ∃ M, M = madeCells (Value.int .i32 0).cells ((n : Int).toNat * i0.size) := ⟨_, rfl⟩
  refine ⟨M, by rw [hM, size_madeCells, hz1]; simp, ?_, fun W => ?_⟩
  · intro j hj
    rw [hM, hz1, ← Array.getElem?_toList, show (Value.int .i32 0).cells = #[Value.int .i32 0] from rfl, toList_madeCells_one]
    simp [hj]
  · have h := run_make (P := Try.prog) W 31 21 i0 (.int .i32 0) Try.underlying31 hi hz0 .i64 .i64 (n : Int) (n : Int) (by omega) (by omega) (by rw [hz2]; omega) (by omega)
    rw [← hM] at h
    simpa using h

theorem copy_i32 (A : Option Addr) (n c : Nat) (l : List Int) (w : World) (M : Array Value) (h : Vec w A n l) (hM : M.size = n) :
    ∃ w2, (Builtin.copy_ #[31, 31] 3 #[.slice (some ⟨w.heap.size, 0, none⟩) n n, .slice A n c]).run Try.prog (w.alloc (.cells M 21)) = .ok (.int .i64 (n : Int)) w2 ∧
      Blk w2 w.heap.size l ∧ Below w.heap.size w w2 := by
  have hl := h.length
  have hnew := heap_alloc_new w (.cells M 21)
  have hb1 : Below w.heap.size w (w.alloc (.cells M 21)) := (Below.refl _ w).alloc (Nat.le_refl _) _
  by_cases h0 : n = 0
  · subst h0
    obtain rfl : l = [] := List.length_eq_zero_iff.1 hl
    obtain rfl : M = #[] := Array.size_eq_zero_iff.1 hM
    exact ⟨_, run_copy_none (P := Try.prog) _ 31 31 3 21 _ _ 0 0 0 c Try.underlying31 Try.sizeI32 rfl, hnew, hb1⟩
  · obtain ⟨b, off, hA, hb, hc⟩ := h.1.2 (by omega)
    subst hA
    have hr := run_copy_row (P := Try.prog) (w.alloc (.cells M 21)) 31 31 3 21 w.heap.size 0 n n ⟨b, off, none⟩ n c M 21 (l.map (Value.int .i32)) Try.underlying31 Try.sizeI32 hnew (by simpa using hl)
      (fun j v hv => by rw [Addr.add_lit]; exact (hb1.cell (p := ⟨b, off + j, none⟩) hb).trans (hc j v hv)) (by simp; omega) (ints_one .i32 l)
    refine ⟨_, by rw [hr, List.length_map, hl]; rfl, ?_, below_setRow hb1 (Nat.le_refl _) _⟩
    have := setRow_heap (w.alloc (.cells M 21)) w.heap.size M (M.toList.take 0 ++ l.map (Value.int .i32) ++ M.toList.drop (0 + n)).toArray 21 (0, 0) hnew
    unfold Blk
    rw [this]
    simp
    omega

theorem clone_any (A : Option Addr) (n c : Nat) (l : List Int) (w : World) (h : Vec w A n l) (hn : n ≤ 10000) :
    Calls Try.prog 23 #[.slice A n c] w fun e w' => ∃ g, e = .returned (.slice (some ⟨g, 0, none⟩) n n) ∧ w.heap.size ≤ g ∧ Blk w' g l ∧ Below w.heap.size w w' := by
  obtain ⟨M, hM, -, hmk⟩ := made_i32 n (by omega)
  obtain ⟨w2, hcp, hblk, hb⟩ := copy_i32 A n c l w M h hM
  have HK := Lib.hid hblk
  have HB := Lib.hid hb
  clear hM h hblk hb
  go_enter Try.func23, Try.ntmps23
  go_wp2
  go_ret
  exact ⟨_, rfl, Nat.le_refl _, HK.out, HB.out⟩

/-- a row that is filled up to a place -/
def RowK (g n : Nat) (L : List Int) (k : Nat) (w wr : World) : Prop :=
  (∃ C : Array Value, wr.heap[g]? = some (.cells C 21 (0, 0)) ∧ C.size = n ∧ ∀ j, j < k → C[j]? = (L.map (Value.int .i32))[j]?) ∧ Below w.heap.size w wr
theorem rowK_cell {g n k : Nat} {L : List Int} {w wr : World} (h : RowK g n L k w wr) (hk : k < n) : ∃ v, wr.cell? ⟨g, k, none⟩ = some v ∧ wr.frozen? ⟨g, k, none⟩ = false := by
  obtain ⟨⟨C, h1, h2, h3⟩, hb⟩ := h
  exact ⟨C[k]'(by omega), by rw [cell_of_row _ _ _ _ _ _ h1, Array.getElem?_eq_getElem], frozen_of_row _ _ _ _ _ h1⟩
theorem rowK_step {g n k : Nat} {L : List Int} {w wr : World} (h : RowK g n L k w wr) (hk : k < n) (hg : w.heap.size ≤ g) (x : Int) (hx : L[k]? = some x) :
    RowK g n L (k + 1) w (wr.setCell ⟨g, k, none⟩ (.int .i32 x)).drew := by
  obtain ⟨⟨C, h1, h2, h3⟩, hb⟩ := h
  refine ⟨⟨C.setIfInBounds k (.int .i32 x), heap_setCell_same _ _ _ _ _ _ h1, by simpa using h2, fun j hj => ?_⟩, (hb.setCell hg _).drew⟩
  · rw [Array.getElem?_setIfInBounds]
    by_cases e : k = j
    · subst e; rw [if_pos rfl, if_pos (by omega), List.getElem?_map, hx]; rfl
    · rw [if_neg e]; exact h3 j (by omega)
theorem rowK_blk {g n : Nat} {L : List Int} {w wr : World} (h : RowK g n L n w wr) (hL : L.length = n) : Blk wr g L := by
  obtain ⟨⟨C, h1, h2, h3⟩, hb⟩ := h
  unfold Blk
  rw [h1]
  congr 2
  refine Array.ext' (List.ext_getElem? fun j => ?_)
  rw [List.toList_toArray]
  rcases Nat.lt_or_ge j n with hj | hj
  · rw [Array.getElem?_toList]; exact h3 j hj
  · rw [List.getElem?_eq_none (by simpa using by omega), List.getElem?_eq_none (by simp; omega)]

theorem vownBlock_ge {w : World} {B0 : Nat} {e : TypeId} {v : Value} {n : Nat} {xs : List Value} (hown : w.ownsRow B0 e 1 v n xs) : ∀ k, v.ownBlock = some k → B0 ≤ k := by
  rcases hown.2 with ⟨rfl, _⟩ | ⟨g, cap, cur, rfl, hg, _⟩
  · simp [Value.ownBlock]
  · intro k hk
    have e : g = k := by simpa [Value.ownBlock] using hk
    omega
theorem vown_heap {w w' : World} {base : Nat} {e : TypeId} {v : Value} {n : Nat} {xs : List Value} (h : w.ownsRow base e 1 v n xs) (hh : w'.heap = w.heap) : w'.ownsRow base e 1 v n xs := by
  unfold World.ownsRow at *
  rw [hh]
  exact h
theorem vcell_heap {w w' : World} (hh : w'.heap = w.heap) (p : Addr) : w'.cell? p = w.cell? p := by
  unfold World.cell?
  rw [hh]
theorem vown_form {w : World} {base : Nat} {e : TypeId} {v : Value} {n : Nat} {xs : List Value} (h : w.ownsRow base e 1 v n xs) : ∃ A c, v = .slice A n c := by
  rcases h.2 with ⟨rfl, rfl⟩ | ⟨g, cap, cur, rfl, _⟩
  · exact ⟨none, 0, rfl⟩
  · exact ⟨_, cap, rfl⟩

theorem two_new (w : World) : Vec ((w.alloc (.cells #[.int .i32 1, .int .i32 2] 21)).alloc (.cells #[.int .i32 3, .int .i32 4] 21)) (some ⟨w.heap.size, 0, none⟩) 2 [1, 2] ∧
    Vec ((w.alloc (.cells #[.int .i32 1, .int .i32 2] 21)).alloc (.cells #[.int .i32 3, .int .i32 4] 21)) (some ⟨w.heap.size + 1, 0, none⟩) 2 [3, 4] ∧
    Below w.heap.size w ((w.alloc (.cells #[.int .i32 1, .int .i32 2] 21)).alloc (.cells #[.int .i32 3, .int .i32 4] 21)) := by
  have h1 : Blk (w.alloc (.cells #[.int .i32 1, .int .i32 2] 21)) w.heap.size [1, 2] := heap_alloc_new w _
  have h2 : Blk ((w.alloc (.cells #[.int .i32 1, .int .i32 2] 21)).alloc (.cells #[.int .i32 3, .int .i32 4] 21)) (w.heap.size + 1) [3, 4] := by
    have := heap_alloc_new (w.alloc (.cells #[.int .i32 1, .int .i32 2] 21)) (.cells #[.int .i32 3, .int .i32 4] 21)
    rwa [show (w.alloc (.cells #[.int .i32 1, .int .i32 2] 21)).heap.size = w.heap.size + 1 from by simp] at this
  refine ⟨(h1.below ((Below.refl _ _).alloc (Nat.le_refl _) _)).vec rfl (by simp), h2.vec rfl (by simp), ((Below.refl _ w).alloc (Nat.le_refl _) _).alloc (by simp) _⟩
theorem awake_d : Vm.dot [1, 2] [3, 4] = 11 := Vm.wrap_in (by decide) (by decide) |>.trans (by decide)
theorem awake_f : Vm.far [1, 2] [3, 4] = 8 := Vm.wrap_in (by decide) (by decide) |>.trans (by decide)

end Go.Proofs.Ytenibcllkpeilaa
