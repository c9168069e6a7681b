/-
  Layer 10 (data): the document's own answer, by contracts: Few, Check, Same.
-/
import Derived.Test.YtafkbagjjknhlaaDMem
namespace Go.Proofs.Ytafkbagjjknhlaa
open Go.RowKit

theorem refSame_t {w : World} {A B : Option Addr} {n m c d : Nat} {l : List Int} (h : Vec w A n l) (h' : Vec w B m l) (hn : n ≤ 10000) (hm : m ≤ 10000) :
    Calls Try.prog 35 #[.slice A n c, .slice B m d] w fun e w' => e = .returned (.bool true) ∧ ∃ m, w' = w.drewN m :=
  (refSame_q A B n m c d l l w h h' hn hm).mono fun _ _ g => ⟨g.1.trans (by simp), g.2⟩
section
variable {w : World} {A B : Option Addr} {n m c c' : Nat} {L : List (List Int)}
theorem fewD (h : Lv w A n c L) : Calls Try.prog 25 #[.slice A n c] w fun e w' => (e = .returned (.bool false) ∧ w = w') ∨ (e = .returned (.bool true) ∧ n ≤ 301 ∧ w = w') := by
  have HL := Lib.hid h
  clear h
  go_enter Try.func25, Try.ntmps25
  go_wp2
  go_loop [3, 4] (fun s i => ∃ (k : Nat) (z : Int), s = .int .i64 z ∧ i = .int .i64 k ∧ k ≤ n ∧ k ≤ 301) (fun _ i => n - (intOf i).toNat)
  case atStart => exact ⟨0, 0, rfl, rfl, by omega, by omega⟩
  case round =>
    obtain ⟨k, z, rfl, rfl, hk, hk1⟩ := hrel
    by_cases hlt : k < n
    · obtain ⟨l, hx⟩ := HL.out.get hlt
      obtain ⟨b, off, rfl, hb, A', n', c', hc, -, -⟩ := HL.out.at_ k l hx
      obtain ⟨z', hz⟩ : ∃ z', IntKind.i64.wrap (z + (n' : Int)) = z' := ⟨_, rfl⟩
      clear hx hb
      by_cases g1 : 6000 < z'
      · go_wp2
        go_ret
        exact .inl ⟨rfl, rfl⟩
      · by_cases g2 : 300 < k
        · go_wp2
          go_ret
          exact .inl ⟨rfl, rfl⟩
        · go_wp2
          go_round
          case rel => exact ⟨k + 1, _, rfl, by go_num, by omega, by omega⟩
          case measure => simp [intOf]; omega
    · go_wp2
      go_ret
      exact .inr ⟨rfl, by omega, rfl⟩
/-- two slices of the same vectors -/
theorem refSameD (h : Lv w A n c L) (h' : Lv w B n c' L) (hn : n ≤ 1000000) (hl : ∀ l ∈ L, l.length ≤ 10000) :
    Calls Try.prog 24 #[.slice A n c, .slice B n c'] w fun e w' => e = .returned (.bool true) ∧ ∃ m, w' = w.drewN m := by
  have H := Lib.hid h
  have H' := Lib.hid h'
  have HLN := Lib.hid hl
  clear h h' hl
  go_enter Try.func24, Try.ntmps24
  go_wp2
  go_loopw [5] (fun i wr => ∃ k : Nat, k ≤ n ∧ i = .int .i64 k ∧ ∃ m, wr = w.drewN m) (fun i _ => n - (intOf i).toNat)
  case atStart => exact ⟨0, Nat.zero_le _, rfl, 0, rfl⟩
  case round =>
    obtain ⟨k, hk, rfl, hd⟩ := hrel
    have HD := Lib.hid hd
    by_cases hlt : k < n
    · obtain ⟨l, hx⟩ := H.out.get hlt
      have hll := HLN.out l (List.mem_of_getElem? hx)
      have HW : Hid (Lv wr A n c L) := by obtain ⟨d, rfl⟩ := hd; exact H.out.drewN d
      have HW' : Hid (Lv wr B n c' L) := by obtain ⟨d, rfl⟩ := hd; exact H'.out.drewN d
      obtain ⟨b, off, rfl, hb, A', n', c1, hc, hv, hn'⟩ := HW.out.at_ k l hx
      obtain ⟨b2, off2, rfl, hb2, A2, n2, c2, hc2, hv2, hn2⟩ := HW'.out.at_ k l hx
      have HV := Lib.hid hv
      have HV2 := Lib.hid hv2
      have e1 := hv.length
      have e2 := hv2.length
      clear hx hb hb2 hv hv2 hn' hn2 hd
      go_wp2
      go_quiet ((go_at_call 35; exact quietly2 (refSame_t (HV.out.drew _) (HV2.out.drew _) (by omega) (by omega))))
      go_wp2
      go_roundw
      case rel => exact ⟨k + 1, by omega, by go_num, by obtain ⟨d, hd⟩ := HD.out; exact ⟨d + nq, by rw [hd, World.drewN_drewN]⟩⟩
      case measure => simp [intOf]; omega
    · clear hd
      go_wp2
      go_ret
      exact ⟨rfl, HD.out⟩
end
end Go.Proofs.Ytafkbagjjknhlaa
