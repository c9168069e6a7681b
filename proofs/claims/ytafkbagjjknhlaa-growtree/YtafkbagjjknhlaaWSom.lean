/-
  Layer 13 (grow): the items of a law, and the document's example, by contracts.
-/
import Derived.Test.YtafkbagjjknhlaaWTal
namespace Go.Proofs.Ytafkbagjjknhlaa
open Go.RowKit

theorem chks_lensW {d : Int} {L : List (List Int)} (h : Dm.chks d L = 0) : ∀ l ∈ L, l.length ≤ 10000 := by
  obtain ⟨d0, d1, hok⟩ := Dm.chks_zero h
  intro l hl
  have := (Vm.chk_ok (hok l hl)).2.2.1
  omega
theorem someW {w : World} {A : Option Addr} {n c : Nat} {L : List (List Int)} (h : Lv w A n c L) (d : Int) :
    Calls Try.prog 9 #[.int .i64 d, .slice A n c] w fun e w' => (e = .returned (.pointer none) ∧ Below w.heap.size w w') ∨
      (∃ s S, e = .returned (.pointer (some ⟨s, 0, none⟩)) ∧ It w' S s d L ∧ (∀ k, S k → w.heap.size ≤ k) ∧ Below w.heap.size w w' ∧ Dm.chks d L = 0 ∧ n ≤ 301) := by
  have HL := Lib.hid h
  have F := Lib.hid (fewD h)
  clear h
  by_cases hc : Dm.chks d L = 0
  · have HC := Lib.hid hc
    go_enter Try.func9, Try.ntmps9
    go_wp2_with fail
    refine F.out.mono ?_
    rintro _ w1 (⟨rfl, rfl⟩ | ⟨rfl, hn, rfl⟩)
    · go_wp2
      go_ret
      exact .inl ⟨rfl, Below.refl _ _⟩
    · go_wp2_with fail
      refine (ofD HL.out (by omega) d HC.out).mono ?_
      rintro _ w2 ⟨s, S, rfl, hit, hS, hb⟩
      have HI := Lib.hid hit
      have HS := Lib.hid hS
      have HB := Lib.hid hb
      clear hit hS hb hc
      go_wp2
      go_ret
      exact .inr ⟨s, S, rfl, HI.out, HS.out, HB.out, HC.out, hn⟩
  · obtain ⟨p, hp⟩ : ∃ p, Dm.chks d L = p := ⟨_, rfl⟩
    have q := ne_bool hc
    rw [hp] at q
    have HP := Lib.hid hp
    have HC := Lib.hid hc
    clear hp hc
    go_enter Try.func9, Try.ntmps9
    go_wp2_with fail
    refine F.out.mono ?_
    rintro _ w1 (⟨rfl, rfl⟩ | ⟨rfl, hn, rfl⟩)
    · go_wp2
      go_ret
      exact .inl ⟨rfl, Below.refl _ _⟩
    · go_wp2_with fail
      refine (ofD_no HL.out (by omega) d HC.out).mono ?_
      rintro _ w2 ⟨rfl, hb⟩
      rw [HP.out]
      have HB := Lib.hid hb
      clear hb
      go_wp2
      go_ret
      exact .inl ⟨rfl, HB.out⟩
end Go.Proofs.Ytafkbagjjknhlaa
