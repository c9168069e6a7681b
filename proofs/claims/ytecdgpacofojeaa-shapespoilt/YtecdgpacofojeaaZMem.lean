/-
  Layer 12 (split): own words for memory: what stands outside of a source's blocks, and the document's own items, sides, and what is good, by contracts.
-/
import Derived.Test.YtecdgpacofojeaaZMath
import Derived.Test.YtecdgpacofojeaaMV
import Derived.Test.YtecdgpacofojeaaMR
import Derived.Test.YtecdgpacofojeaaMD
import Derived.Test.YtecdgpacofojeaaNRef
namespace Go.Proofs.Ytecdgpacofojeaa
open Go.RowKit

/-- a slice that doesn't stand in some blocks -/
def Out (lo hi n : Nat) (A : Option Addr) : Prop := 0 < n → ∀ b off s, A = some ⟨b, off, s⟩ → b < lo ∨ hi ≤ b
/-- a slice that stands in a block from B on -/
def New (B : Nat) (A : Option Addr) : Prop := ∀ b off s, A = some ⟨b, off, s⟩ → B ≤ b
theorem New.of_own {w : World} {base : Nat} {e : TypeId} {A : Option Addr} {n c : Nat} {xs : List Value} (h : w.ownsRow base e 1 (.slice A n c) n xs) : New base A := by
  intro b off s e
  rcases h.2 with ⟨hv, _⟩ | ⟨g, cap, cur, hv, hg, _⟩
  · injection hv with h1; rw [h1] at e; cases e
  · injection hv with h1; rw [h1] at e; injection e with e; injection e with e1; omega
theorem New.mono {B B' : Nat} {A : Option Addr} (h : New B A) (hB : B' ≤ B) : New B' A := fun b off s e => Nat.le_trans hB (h b off s e)
theorem New.ne {B q : Nat} {A : Option Addr} (h : New B A) (hq : q < B) : ∀ b off s, A = some ⟨b, off, s⟩ → b ≠ q := fun b off s e => by have := h b off s e; omega
/-- what stood somewhere before some blocks were made doesn't stand in them -/
theorem Sl.out {w : World} {lo hi n c : Nat} {A : Option Addr} {l : List Int} (h : Sl w A n c l) (hb : w.heap.size ≤ lo) : Out lo hi n A := fun hn b off s e => by
  obtain ⟨b', off', e', hlt, _⟩ := h.lst.2 hn
  rw [e'] at e; injection e with e; injection e with e1; left; omega
section
variable {w w' : World} {lo hi n c : Nat} {A : Option Addr} {l : List Int}
theorem Sl.off {q : Nat} (h : Sl w A n c l) (ho : ∀ b off s, A = some ⟨b, off, s⟩ → b ≠ q) (hs : w'.heap.size = w.heap.size) (hk : ∀ k, k ≠ q → w'.heap[k]? = w.heap[k]?) : Sl w' A n c l := by
  refine ⟨⟨h.lst.1, fun hn => ?_⟩, h.cap, h.nil⟩
  obtain ⟨b, off, e, hlt, hc⟩ := h.lst.2 hn
  exact ⟨b, off, e, by omega, fun j u hu => (World.cell?_of_block (w := w) (hk b (ho b off none e))).trans (hc j u hu)⟩
theorem Sl.btw (h : Sl w A n c l) (ho : Out lo hi n A) (hb : Btw lo hi w w') : Sl w' A n c l := by
  refine ⟨⟨h.lst.1, fun hn => ?_⟩, h.cap, h.nil⟩
  obtain ⟨b, off, e, hlt, hc⟩ := h.lst.2 hn
  exact ⟨b, off, e, Nat.lt_of_lt_of_le hlt hb.size, fun j u hu => (hb.cell (p := ⟨b, off + j, none⟩) hlt (ho hn b off none e)).trans (hc j u hu)⟩
end

/-- a slice that stands where another one does, or in a block from B on -/
def Oft (B n : Nat) (A : Option Addr) (n' : Nat) (A' : Option Addr) : Prop := ∀ lo hi, hi ≤ B → Out lo hi n A → Out lo hi n' A'
theorem New.out {B lo hi n : Nat} {A : Option Addr} (h : New B A) (hB : hi ≤ B) : Out lo hi n A := fun _ b off s e => .inr (Nat.le_trans hB (h b off s e))
theorem New.off {B n n' : Nat} {A A' : Option Addr} (h : New B A') : Oft B n A n' A' := fun _ _ hB _ => h.out hB
theorem Vec.btw {w w' : World} {lo hi n : Nat} {A : Option Addr} {l : List Int} (h : Vec w A n l) (ho : Out lo hi n A) (hb : Btw lo hi w w') : Vec w' A n l := by
  refine ⟨⟨h.1.1, fun hn => ?_⟩, h.2⟩
  obtain ⟨b, off, e, hlt, hc⟩ := h.1.2 hn
  exact ⟨b, off, e, Nat.lt_of_lt_of_le hlt hb.size, fun j u hu => (hb.cell (p := ⟨b, off + j, none⟩) hlt (ho hn b off none e)).trans (hc j u hu)⟩

/-- a plane put into its variable, whether that is there already or is made for it -/
theorem plane_put {B : Nat} {D W : World} {A A' : Option Addr} {n c m c' q : Nat} {o o' : Int} {l : List Int} (h : Pbx W q A n c o) (v : Vec W A' m l) (hb : Below B D W) (hq : B ≤ q) :
    Below B D ((W.setCell ⟨q, 0, none⟩ (.slice A' m c')).setCell ⟨q, 1, none⟩ (.int .i64 o')) ∧ Pbx ((W.setCell ⟨q, 0, none⟩ (.slice A' m c')).setCell ⟨q, 1, none⟩ (.int .i64 o')) q A' m c' o' ∧ Vec ((W.setCell ⟨q, 0, none⟩ (.slice A' m c')).setCell ⟨q, 1, none⟩ (.int .i64 o')) A' m l :=
  ⟨(hb.setCell hq _).setCell hq _, by unfold Pbx; rw [heap_setCell_same _ _ _ _ _ _ (heap_setCell_same _ _ _ _ _ _ h)]; rfl, v.off_plane h _ _⟩
theorem plane_new {B : Nat} {D W : World} {A' : Option Addr} {m c' : Nat} {o' : Int} {l : List Int} (v : Vec W A' m l) (hb : Below B D W) (hq : B ≤ W.heap.size) :
    Below B D (W.alloc (.cells #[.slice A' m c', .int .i64 o'] 66)) ∧ Pbx (W.alloc (.cells #[.slice A' m c', .int .i64 o'] 66)) W.heap.size A' m c' o' ∧ Vec (W.alloc (.cells #[.slice A' m c', .int .i64 o'] 66)) A' m l :=
  ⟨hb.alloc hq _, Pbx.new _ _ _ _ _, v.below ((Below.refl _ _).alloc (Nat.le_refl _) _)⟩
theorem cell_put2 (W : World) {g q : Nat} (hg : g ≠ q) (j : Nat) (u0 u1 : Value) : ((W.setCell ⟨q, 0, none⟩ u0).setCell ⟨q, 1, none⟩ u1).cell? ⟨g, j, none⟩ = W.cell? ⟨g, j, none⟩ :=
  World.cell?_of_block (by show _ = W.heap[g]?; rw [heap_setCell_other _ _ _ _ (by show g ≠ q; exact hg), heap_setCell_other _ _ _ _ (by show g ≠ q; exact hg)])

/-- an id's item, as the document's list holds it -/
theorem item_lv {w : World} {A : Option Addr} {n c : Nat} {L : List (List Int)} (h : Lv w A n c L) (hL : ∀ l ∈ L, l.length ≤ 10000) (_hn : n ≤ maxLen) (id : Int) : ∃ A' n' c', Vec w A' n' (Zm.item L id) ∧ n' ≤ 10000 ∧
    ∀ V, Below w.heap.size w V → Calls Try.prog 51 #[.slice A n c, .int .i64 id] V fun e w' => e = .returned (.slice A' n' c') ∧ V = w' := by
  have hn := _hn
  unfold maxLen at hn
  have hlen := h.len
  by_cases g : id < 0
  · refine ⟨none, 0, 0, ?_, by omega, fun V hV => ?_⟩
    · rw [Zm.item_low g]; exact ⟨Lst.nil _ _ _, by simp⟩
    · go_enter Try.func51, Try.ntmps51
      go_wp2
      go_ret
      exact ⟨rfl, rfl⟩
  by_cases g2 : (n : Int) ≤ id
  · refine ⟨none, 0, 0, ?_, by omega, fun V hV => ?_⟩
    · rw [Zm.item_high (by omega)]; exact ⟨Lst.nil _ _ _, by simp⟩
    · clear hlen h
      go_enter Try.func51, Try.ntmps51
      go_wp2
      go_ret
      exact ⟨rfl, rfl⟩
  · obtain ⟨k, rfl⟩ : ∃ k : Nat, id = k := ⟨id.toNat, by omega⟩
    have hk : k < L.length := by omega
    obtain ⟨b, off, rfl, hb, A', n', c', h2, h3, -⟩ := h.at_ k L[k] (List.getElem?_eq_getElem hk)
    refine ⟨A', n', c', by rw [Zm.item_in hk]; exact h3, by rw [← h3.length]; exact hL _ (List.getElem_mem _), fun V hV => ?_⟩
    have hc := (hV.cell (p := ⟨b, off + k, none⟩) hb).trans h2
    clear h h2 h3 hL hV hlen hb
    go_enter Try.func51, Try.ntmps51
    go_wp2
    go_ret
    exact ⟨rfl, rfl⟩

theorem refGood_any (n m : Nat) (w : World) (hn : n ≤ 100000000) (hm : m ≤ 100000000) :
    Calls Try.prog 53 #[.int .i64 (n : Int), .int .i64 (m : Int)] w fun e w' => e = .returned (.bool (Zm.good n m)) ∧ w = w' := by
  have hg := Lib.hid (show Zm.good n m = decide (0 < n ∧ 0 < m ∧ n + m ≤ 8 * n ∧ n + m ≤ 8 * m) from rfl)
  have fin : ∀ b : Bool, (b = decide (0 < n ∧ 0 < m ∧ n + m ≤ 8 * n ∧ n + m ≤ 8 * m)) → Ending.returned (.bool b) = .returned (.bool (Zm.good n m)) := fun b hb => by rw [hb, hg.out]
  have FIN := Lib.hid fin
  clear fin
  by_cases g0 : 0 < (n : Int)
  case neg =>
    have e := Lib.hid (show false = decide (0 < n ∧ 0 < m ∧ n + m ≤ 8 * n ∧ n + m ≤ 8 * m) from (decide_eq_false (by omega)).symm)
    go_enter Try.func53, Try.ntmps53
    go_wp2
    go_ret
    exact ⟨FIN.out _ e.out, rfl⟩
  by_cases g1 : 0 < (m : Int)
  case neg =>
    have e := Lib.hid (show false = decide (0 < n ∧ 0 < m ∧ n + m ≤ 8 * n ∧ n + m ≤ 8 * m) from (decide_eq_false (by omega)).symm)
    go_enter Try.func53, Try.ntmps53
    go_wp2
    go_ret
    exact ⟨FIN.out _ e.out, rfl⟩
  by_cases g2 : (n : Int) + m ≤ 8 * n
  case neg =>
    have e := Lib.hid (show false = decide (0 < n ∧ 0 < m ∧ n + m ≤ 8 * n ∧ n + m ≤ 8 * m) from (decide_eq_false (by omega)).symm)
    have q2 : decide ((n : Int) + m ≤ 8 * n) = false := decide_eq_false g2
    go_enter Try.func53, Try.ntmps53
    go_wp2
    go_ret
    exact ⟨FIN.out _ e.out, rfl⟩
  by_cases g3 : (n : Int) + m ≤ 8 * m
  case neg =>
    have e := Lib.hid (show false = decide (0 < n ∧ 0 < m ∧ n + m ≤ 8 * n ∧ n + m ≤ 8 * m) from (decide_eq_false (by omega)).symm)
    have q2 : decide ((n : Int) + m ≤ 8 * n) = true := decide_eq_true g2
    have q3 : decide ((n : Int) + m ≤ 8 * m) = false := decide_eq_false g3
    go_enter Try.func53, Try.ntmps53
    go_wp2
    go_ret
    exact ⟨FIN.out _ e.out, rfl⟩
  · have e := Lib.hid (show true = decide (0 < n ∧ 0 < m ∧ n + m ≤ 8 * n ∧ n + m ≤ 8 * m) from (decide_eq_true (by omega)).symm)
    have q2 : decide ((n : Int) + m ≤ 8 * n) = true := decide_eq_true g2
    have q3 : decide ((n : Int) + m ≤ 8 * m) = true := decide_eq_true g3
    go_enter Try.func53, Try.ntmps53
    go_wp2
    go_ret
    exact ⟨FIN.out _ e.out, rfl⟩
end Go.Proofs.Ytecdgpacofojeaa
