/-
  Layer 2 (seal): Turn of the document's own answer (a text with a bit turned over), by its contract.
-/
import Derived.Test.YtabfjlokemkpjaaSStep
import Derived.Test.YtabfjlokemkpjaaSThree
import Derived.BigRegion
import Derived.Laws.IdiomStrings
namespace Go.Proofs.Ytabfjlokemkpjaa
open Go.RowKit

/-- bytes of a text, as a new row -/
theorem bytes_row (s : ByteArray) (w : World) : ∃ C W1, (convert 9 35 (.string s)).run Try.prog w = .ok (.slice (some ⟨w.heap.size, 0, none⟩) s.size C) W1 ∧
    Below w.heap.size w W1 ∧ w.heap.size < W1.heap.size ∧ (∀ j (h : j < s.size), W1.cell? ⟨w.heap.size, j, none⟩ = some (.int .u8 (s[j].toNat : Int)) ∧ W1.frozen? ⟨w.heap.size, j, none⟩ = false) := by
  refine ⟨_, _, run_bytes_of_string w 9 35 5 s Try.underlying9 Try.underlying35 Try.underlying5, (Below.refl _ w).drew.alloc (Nat.le_refl _) _, by simp, fun j h => ?_⟩
  constructor
  · have := cell_of_row _ _ j _ _ _ (heap_alloc_new w.drew (.cells (bytesRow s (grownCap w s.size 0 5)) 5 ((bytesRow s (grownCap w s.size 0 5)).size, (bytesRow s (grownCap w s.size 0 5)).size + 1)))
    refine this.trans ?_
    unfold bytesRow
    rw [Array.getElem?_append_left (by simpa using h), Array.getElem?_map, Array.getElem?_eq_getElem (by simpa using h)]
    rfl
  · unfold World.frozen?
    rw [show (w.drew.alloc (.cells (bytesRow s (grownCap w s.size 0 5)) 5 ((bytesRow s (grownCap w s.size 0 5)).size, (bytesRow s (grownCap w s.size 0 5)).size + 1))).heap[w.heap.size]? = _ from heap_alloc_new w.drew _]
    have : s.size ≤ (bytesRow s (grownCap w s.size 0 5)).size := by unfold bytesRow; simp
    simp
    omega

theorem xor_u8 (a b : UInt8) : bits .xor .u8 (a.toNat : Int) (b.toNat : Int) = ((a ^^^ b).toNat : Int) := by
  have ha := a.toNat_lt
  have hb := b.toNat_lt
  have h1 : ∀ c : UInt8, BitVec.ofInt 8 (c.toNat : Int) = c.toBitVec := fun c => by
    rw [BitVec.ofInt_natCast]; exact BitVec.ofNat_toNat 8 c.toBitVec |>.trans (BitVec.setWidth_eq _)
  show IntKind.u8.wrap ((BitVec.ofInt 8 (a.toNat : Int) ^^^ BitVec.ofInt 8 (b.toNat : Int)).toNat : Int) = _
  rw [h1, h1, IntKind.wrap_u8]
  have e : (a.toBitVec ^^^ b.toBitVec).toNat = (a ^^^ b).toNat := rfl
  have := (a ^^^ b).toNat_lt
  rw [e]
  omega
theorem one_shl (j : Nat) (h : j < 8) : (2 : Int) ^ j % 256 = (((1 : UInt8) <<< UInt8.ofNat j).toNat : Int) := by
  have : ∀ j : Fin 8, (2 : Int) ^ j.val % 256 = (((1 : UInt8) <<< UInt8.ofNat j.val).toNat : Int) := by decide
  exact this ⟨j, h⟩
theorem back_row (s : ByteArray) (m C B : Nat) (W1 : World) (hm8 : m / 8 < s.size) (hrow : ∀ j (h : j < s.size), W1.cell? ⟨B, j, none⟩ = some (.int .u8 (s[j].toNat : Int)) ∧ W1.frozen? ⟨B, j, none⟩ = false) (x : UInt8)
    (hx : x = s[m / 8] ^^^ ((1 : UInt8) <<< UInt8.ofNat (m % 8))) :
    (convert 35 9 (.slice (some ⟨B, 0, none⟩) s.size C)).run Try.prog (W1.setCell ⟨B, m / 8, none⟩ (.int .u8 (x.toNat : Int))).drew =
      .ok (.string ⟨(Sm.turn s.data.toList m).toArray⟩) (W1.setCell ⟨B, m / 8, none⟩ (.int .u8 (x.toNat : Int))).drew := by
  have hl : (Sm.turn s.data.toList m).length = s.size := by rw [Sm.turn_length]; simp
  have := run_convert_bytes_back (P := Try.prog) (W1.setCell ⟨B, m / 8, none⟩ (.int .u8 (x.toNat : Int))).drew 35 9 5 ⟨B, 0, none⟩ C (Sm.turn s.data.toList m) Try.underlying35 Try.underlying5 Try.underlying9 ?_
  · rwa [hl] at this
  · intro j hj
    rw [Addr.add_lit, Nat.zero_add, World.cell?_drew]
    rw [hl] at hj
    have e : (Sm.turn s.data.toList m)[j]'(by rw [hl]; exact hj) = if m / 8 = j then x else s[j] := by
      unfold Sm.turn
      rw [List.getElem_modify]
      by_cases h : m / 8 = j
      · subst h; rw [if_pos rfl, if_pos rfl, hx]; rfl
      · rw [if_neg h, if_neg h]; rfl
    rw [e]
    by_cases h : m / 8 = j
    · rw [if_pos h, ← h]
      exact World.cell?_setCell_same _ _ _ (hrow (m / 8) hm8).1
    · rw [if_neg h, World.cell?_setCell_other _ _ _ _ (fun e => h (congrArg Addr.off e))]
      exact (hrow j hj).1
theorem turn_any (s : ByteArray) (k : Int) (w : World) (hs : s.size ≤ 100000) (k0 : -9223372036854775808 ≤ k) (k1 : k ≤ 9223372036854775807) :
    Calls Try.prog 18 #[.string s, .int .i64 k] w fun e w' => ∃ S : ByteArray, e = .returned (.string S) ∧ S.data.toList = Sm.turnI s.data.toList k ∧ Below w.heap.size w w' := by
  by_cases hn : k < 0
  · have e := Lib.hid (Sm.turnI_no (l := s.data.toList) (k := k) (by omega)).symm
    go_enter Try.func18, Try.ntmps18
    go_wp2
    go_ret
    exact ⟨s, rfl, e.out, Below.refl _ _⟩
  by_cases hm : 8 * (s.size : Int) ≤ k
  · have e := Lib.hid (Sm.turnI_no (l := s.data.toList) (k := k) (by simp; omega)).symm
    have hn' : decide (k < 0) = false := by simp; omega
    have hm' : decide (8 * (s.size : Int) ≤ k) = true := by simp; omega
    go_enter Try.func18, Try.ntmps18
    go_wp2
    go_ret
    exact ⟨s, rfl, e.out, Below.refl _ _⟩
  obtain ⟨m, rfl⟩ := Int.eq_ofNat_of_zero_le (show 0 ≤ k by omega)
  have hm8 : m / 8 < s.size := by omega
  obtain ⟨C, W1, hcv, hbel, hsz, hrow⟩ := bytes_row s w
  obtain ⟨hc, hf⟩ := hrow (m / 8) hm8
  have HB := Lib.hid hbel
  have HR := Lib.hid hrow
  clear hbel hrow
  have hn' : decide ((m : Int) < 0) = false := by simp
  have hm' : decide (8 * (s.size : Int) ≤ (m : Int)) = false := by simp; omega
  have hq : (m : Int) / 8 < (s.size : Int) := by omega
  go_enter Try.func18, Try.ntmps18
  go_wp2
  obtain ⟨x, hx⟩ : ∃ x, x = s[m / 8] ^^^ ((1 : UInt8) <<< UInt8.ofNat (m % 8)) := ⟨_, rfl⟩
  have hxc : bits BinOp.xor IntKind.u8 (s[m / 8].toNat : Int) ((2 : Int) ^ (m % 8) % 256) = (x.toNat : Int) := by
    rw [hx, one_shl _ (by omega), xor_u8]
  have hback := back_row s m C w.heap.size W1 hm8 HR.out x hx
  have HT : Hid ((⟨(Sm.turn s.data.toList m).toArray⟩ : ByteArray).data.toList = Sm.turnI s.data.toList (m : Int)) := by
    show (⟨(Sm.turn s.data.toList m).toArray⟩ : ByteArray).data.toList = Sm.turnI s.data.toList (m : Int)
    rw [Sm.turnI_yes (by simp; omega)]; simp
  generalize (⟨(Sm.turn s.data.toList m).toArray⟩ : ByteArray) = S at hback HT
  clear hx
  go_region
  go_wp2
  go_ret
  exact ⟨S, rfl, HT.out, (HB.out.setCell (Nat.le_refl _) _).drew⟩
end Go.Proofs.Ytabfjlokemkpjaa
