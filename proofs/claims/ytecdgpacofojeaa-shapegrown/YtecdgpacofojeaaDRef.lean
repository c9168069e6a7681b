/-
  Layer 10 (data): the document's own answer, by contracts: Few, Check, Same.
-/
import Derived.Test.YtecdgpacofojeaaMD
namespace Go.Proofs.Ytecdgpacofojeaa
open Go.RowKit

section
variable {w : World} {A B : Option Addr} {n m c c' : Nat} {L : List (List Int)}
theorem fewD (h : Lv w A n c L) : Calls Try.prog 19 #[.slice A n c] w fun e w' => (e = .returned (.bool false) ∧ w = w') ∨ (e = .returned (.bool true) ∧ n ≤ 301 ∧ w = w') := by
  have HL := Lib.hid h
  clear h
  go_enter Try.func19, Try.ntmps19
  go_wp2
  go_loop [3, 4] (fun s i => ∃ (k : Nat) (z : Int), s = .int .i64 z ∧ i = .int .i64 k ∧ k ≤ n ∧ k ≤ 301) (fun _ i => n - (intOf i).toNat)
  case atStart => exact ⟨0, 0, rfl, rfl, by omega, by omega⟩
  case round =>
    obtain ⟨k, z, rfl, rfl, hk, hk1⟩ := hrel
    by_cases hlt : k < n
    · obtain ⟨l, hx⟩ := HL.out.get hlt
      obtain ⟨b, off, rfl, hb, A', n', c', hc, -, -⟩ := HL.out.at_ k l hx
      obtain ⟨z', hz⟩ : ∃ z', IntKind.i64.wrap (z + (n' : Int)) = z' := ⟨_, rfl⟩
      clear hx hb
      by_cases g1 : 6000 < z'
      · go_wp2
        go_ret
        exact .inl ⟨rfl, rfl⟩
      · by_cases g2 : 300 < k
        · go_wp2
          go_ret
          exact .inl ⟨rfl, rfl⟩
        · go_wp2
          go_round
          case rel => exact ⟨k + 1, _, rfl, by go_num, by omega, by omega⟩
          case measure => simp [intOf]; omega
    · go_wp2
      go_ret
      exact .inr ⟨rfl, by omega, rfl⟩
theorem refCheckD (h : Lv w A n c L) (hn : n ≤ maxLen) (d : Int) : Calls Try.prog 20 #[.int .i64 d, .slice A n c] w fun e w' => e = .returned (.int .i64 (Dm.chks d L)) ∧ w = w' := by
  unfold maxLen at hn
  by_cases g : d < 1 ∨ 1024 < d
  · have e := Lib.hid (Dm.chks_range (L := L) g)
    rcases (show d < 1 ∨ (1 ≤ d ∧ 1024 < d) from by omega) with g' | ⟨g', g''⟩
    all_goals
      clear g h
      go_enter Try.func20, Try.ntmps20
      go_wp2
      go_ret
      exact ⟨ret_int e.out.symm, rfl⟩
  have d0 : 1 ≤ d := by omega
  have d1 : d ≤ 1024 := by omega
  have HL := Lib.hid h
  clear h g
  go_enter Try.func20, Try.ntmps20
  go_wp2
  go_loopw [5] (fun i wr => ∃ k : Nat, k ≤ n ∧ i = .int .i64 k ∧ Dm.Ok d (L.take k) ∧ wr = w) (fun i _ => n - (intOf i).toNat)
  case atStart => exact ⟨0, Nat.zero_le _, rfl, by rw [List.take_zero]; exact Dm.Ok.nil d, rfl⟩
  case round =>
    obtain ⟨k, hk, rfl, hok, rfl⟩ := hrel
    have HK := Lib.hid hok
    clear hok
    by_cases hlt : k < n
    · obtain ⟨l, hx⟩ := HL.out.get hlt
      obtain ⟨b, off, rfl, hb, A', n', c', hc, hv, hn'⟩ := HL.out.at_ k l hx
      have HC := Lib.hid (refCheck_any A' n' c' l d wr hv hn')
      have HX := Lib.hid hx
      obtain ⟨z, hz⟩ : ∃ z, z = Vm.chk l d := ⟨_, rfl⟩
      rw [← hz] at HC
      have HZ := Lib.hid hz
      clear hx hb hv hn' hz
      go_wp2_with fail
      refine HC.out.mono ?_
      rintro _ _ ⟨rfl, rfl⟩
      by_cases q : z = 0
      · have HS := Lib.hid (HK.out.snoc HX.out (by rw [← HZ.out]; exact q))
        subst q
        go_wp2
        go_roundw
        case rel => exact ⟨k + 1, by omega, by go_num, HS.out, by first | rfl | trivial⟩
        case measure => simp [intOf]; omega
      · have e := Lib.hid (show z = Dm.chks d L by rw [Dm.chks_first d0 d1, Dm.first_at HK.out HX.out (by rw [← HZ.out]; exact q), HZ.out])
        have q' : (z != 0) = true := by simpa using q
        clear q
        go_wp2
        go_ret
        exact ⟨ret_int e.out, rfl⟩
    · have e := Lib.hid (show 0 = Dm.chks d L by
        have h := HK.out
        rw [List.take_of_length_le (by rw [HL.out.len]; omega)] at h
        rw [Dm.chks_ok d0 d1 h])
      go_wp2
      go_ret
      exact ⟨ret_int e.out, rfl⟩
end
end Go.Proofs.Ytecdgpacofojeaa
