/-
  Layer 10 (data): the document's own answer, by contracts: Few, Check, Same.
-/
import Derived.Test.YtljgmcdkomhmbaaDMem
namespace Go.Proofs.Ytljgmcdkomhmbaa
open Go.RowKit

theorem refSame_t {w : World} {A B : Option Addr} {n m c d : Nat} {l : List Int} (h : Vec w A n l) (h' : Vec w B m l) (hn : n ≤ 10000) (hm : m ≤ 10000) :
    Calls Try.prog 39 #[.slice A n c, .slice B m d] w fun e w' => e = .returned (.bool true) ∧ ∃ m, w' = w.drewN m :=
  (refSame_q A B n m c d l l w h h' hn hm).mono fun _ _ g => ⟨g.1.trans (by simp), g.2⟩
section
variable {w : World} {A B : Option Addr} {n m c c' : Nat} {L : List (List Int)}
theorem fewD (h : Lv w A n c L) : Calls Try.prog 25 #[.slice A n c] w fun e w' => (e = .returned (.bool false) ∧ w = w') ∨ (e = .returned (.bool true) ∧ n ≤ 301 ∧ w = w') := by
  have HL := Lib.hid h
  clear h
  go_enter Try.func25, Try.ntmps25
  go_wp2
  go_loop [3, 4] (fun s i => ∃ (k : Nat) (z : Int), s = .int .i64 z ∧ i = .int .i64 k ∧ k ≤ n ∧ k ≤ 301) (fun _ i => n - (intOf i).toNat)
  case atStart => exact ⟨0, 0, rfl, rfl, by omega, by omega⟩
  case round =>
    obtain ⟨k, z, rfl, rfl, hk, hk1⟩ := hrel
    by_cases hlt : k < n
    · obtain ⟨l, hx⟩ := HL.out.get hlt
      obtain ⟨b, off, rfl, hb, A', n', c', hc, -, -⟩ := HL.out.at_ k l hx
      obtain ⟨z', hz⟩ : ∃ z', IntKind.i64.wrap (z + (n' : Int)) = z' := ⟨_, rfl⟩
      clear hx hb
      by_cases g1 : 6000 < z'
      · go_wp2
        go_ret
        exact .inl ⟨rfl, rfl⟩
      · by_cases g2 : 300 < k
        · go_wp2
          go_ret
          exact .inl ⟨rfl, rfl⟩
        · go_wp2
          go_round
          case rel => exact ⟨k + 1, _, rfl, by go_num, by omega, by omega⟩
          case measure => simp [intOf]; omega
    · go_wp2
      go_ret
      exact .inr ⟨rfl, by omega, rfl⟩
end
end Go.Proofs.Ytljgmcdkomhmbaa
