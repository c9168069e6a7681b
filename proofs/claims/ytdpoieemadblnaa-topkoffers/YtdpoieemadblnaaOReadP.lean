/-
  Layer 4 (order): Sorted of the program, and whether two lists are the same of the document's own answer, at one type of elements.
-/
import Derived.Test.YtdpoieemadblnaaOEqP
import Derived.Test.YtdpoieemadblnaaOSlc
import Derived.Test.YtdpoieemadblnaaOChnk
import Derived.StillTailTactics
namespace Go.Proofs.Ytdpoieemadblnaa
open Go.RowKit

theorem sameP (A B : Option Addr) (n m c d : Nat) (l r : List Om.E) (w : World) (h : VecE w A n l) (h' : VecE w B m r) (hn : n ≤ 100000) (hm : m ≤ 100000) :
    Calls Try.prog 15 #[.slice A n c, .slice B m d] w fun e w' => e = .returned (.bool (decide (l = r))) ∧ Below w.heap.size w w' := by
  have HL := Lib.hid h.length
  have HR := Lib.hid h'.length
  by_cases g : n = m
  · subst g
    have H := Lib.hid h
    have H' := Lib.hid h'
    clear h h' hm
    go_enter Try.func15, Try.ntmps15
    go_wp2
    go_loopw [5] (fun i wr => ∃ k : Nat, k ≤ n ∧ i = .int .i64 k ∧ l.take k = r.take k ∧ ∃ d, wr = w.drewN d) (fun i _ => n - (intOf i).toNat)
    case atStart => exact ⟨0, Nat.zero_le _, rfl, by simp, 0, rfl⟩
    case round =>
      obtain ⟨k, hk, rfl, ht, hd⟩ := hrel
      have HD := Lib.hid hd
      have HT := Lib.hid ht
      clear ht
      by_cases hlt : k < n
      · obtain ⟨x, hx⟩ : ∃ x, l[k]? = some x := ⟨_, List.getElem?_eq_getElem (by rw [HL.out]; omega)⟩
        obtain ⟨y, hy⟩ : ∃ y, r[k]? = some y := ⟨_, List.getElem?_eq_getElem (by rw [HR.out]; omega)⟩
        obtain ⟨b, off, rfl, hb, hc1, hc2⟩ := H.out.at_ hx
        obtain ⟨b', off', rfl, hb', hc3, hc4⟩ := H'.out.at_ hy
        have HS := Lib.hid (Om.take_snoc hx)
        have HS' := Lib.hid (Om.take_snoc hy)
        have HE := Lib.hid (show l = r → x = y from fun e => by subst e; rw [hx] at hy; injection hy)
        obtain ⟨x1, x2⟩ := x
        obtain ⟨y1, y2⟩ := y
        have c1 : wr.cell? ⟨b, off + k * 2, none⟩ = some (.int .i64 x1) := by obtain ⟨d, rfl⟩ := hd; simpa using hc1
        have c2 : wr.cell? ⟨b, off + k * 2 + 1, none⟩ = some (.int .i64 x2) := by obtain ⟨d, rfl⟩ := hd; simpa using hc2
        have c3 : wr.cell? ⟨b', off' + k * 2, none⟩ = some (.int .i64 y1) := by obtain ⟨d, rfl⟩ := hd; simpa using hc3
        have c4 : wr.cell? ⟨b', off' + k * 2 + 1, none⟩ = some (.int .i64 y2) := by obtain ⟨d, rfl⟩ := hd; simpa using hc4
        clear hx hy hc1 hc2 hc3 hc4 hd
        have hg := fun op x y W => guardP op x y x1 x2 y1 y2 W
        by_cases q : x1 = y1 ∧ x2 = y2
        · have hne := fun W => neqP x1 x2 y1 y2 W
          rw [show (!decide (x1 = y1 ∧ x2 = y2)) = false from by simp [q]] at hne
          obtain ⟨rfl, rfl⟩ := q
          go_wp2
          go_quiet (fail)
          go_wp2
          go_roundw
          case rel => exact ⟨k + 1, by omega, by go_num, by rw [HS.out, HS'.out, HT.out], by obtain ⟨d, hd⟩ := HD.out; exact ⟨d + nq, by rw [hd, World.drewN_drewN]⟩⟩
          case measure => simp [intOf]; omega
        · have e := Lib.hid (show false = decide (l = r) from by simp; exact fun e => q (by have := HE.out e; simpa using this))
          have hne := fun W => neqP x1 x2 y1 y2 W
          rw [show (!decide (x1 = y1 ∧ x2 = y2)) = true from by rw [decide_eq_false q]; rfl] at hne
          clear q
          go_wp2
          go_quiet (fail)
          go_wp2
          go_ret
          exact ⟨ret_bool e.out, by obtain ⟨d, rfl⟩ := HD.out; exact below_drewN (below_drewN (Below.refl _ _) d) nq⟩
      · have e := Lib.hid (show true = decide (l = r) from by
          have h := HT.out
          rw [List.take_of_length_le (by rw [HL.out]; omega), List.take_of_length_le (by rw [HR.out]; omega)] at h
          simp [h])
        clear hd
        go_wp2
        go_ret
        exact ⟨ret_bool e.out, by obtain ⟨d, rfl⟩ := HD.out; exact below_drewN (Below.refl _ _) d⟩
  · have e := Lib.hid (show false = decide (l = r) from by simp; exact fun e => g (by rw [← HL.out, ← HR.out, e]))
    have g3 : ((n : Int) != (m : Int)) = true := by simp; omega
    clear g h h'
    go_enter Try.func15, Try.ntmps15
    go_wp2
    go_ret
    exact ⟨ret_bool e.out, Below.refl _ _⟩

end Go.Proofs.Ytdpoieemadblnaa
