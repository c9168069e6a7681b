/-
  Layer 4 (order): whether none falls ('rises').
-/
import Derived.Test.YtfefhandlkbeoaaOTag
import Derived.Test.YtfefhandlkbeoaaOSlc
import Derived.Test.YtfefhandlkbeoaaOLeaf
namespace Go.Proofs.Ytfefhandlkbeoaa
open Go.RowKit

theorem rises_any (A : Option Addr) (n c : Nat) (z : List Int) (R : Bool) (w : World) (h : Lst w w.heap.size A n (z.map (Value.int .i64))) (hn : n ≤ 100000) (hR : R = true ↔ Om.Rise z n) :
    Calls Try.prog 20 #[.slice A n c] w fun e w' => e = .returned (.bool R) ∧ Below w.heap.size w w' := by
  have HL := Lib.hid (show z.length = n from by have := h.1; simpa using this)
  have H := Lib.hid h
  have HR := Lib.hid hR
  clear h hR
  go_enter Try.func20, Try.ntmps20
  go_wp2
  go_loopw [3] (fun i wr => ∃ k : Nat, i = .int .i64 (k : Int) ∧ 1 ≤ k ∧ k ≤ n + 1 ∧ Om.Rise z k ∧ ∃ d, wr = w.drewN d) (fun i _ => n - (intOf i).toNat)
  case atStart => exact ⟨1, rfl, Nat.le_refl _, by omega, Om.rise_one _, 0, rfl⟩
  case round =>
    obtain ⟨k, rfl, k1, kn, hN, hd⟩ := hrel
    have HN := Lib.hid hN
    have HD := Lib.hid hd
    clear hN
    by_cases hlt : k < n
    · obtain ⟨x, hx⟩ : ∃ x, z[k - 1]? = some x := ⟨_, List.getElem?_eq_getElem (by rw [HL.out]; omega)⟩
      obtain ⟨y, hy⟩ : ∃ y, z[k]? = some y := ⟨_, List.getElem?_eq_getElem (by rw [HL.out]; omega)⟩
      obtain ⟨b, off, rfl, hb, hc⟩ := H.out.2 (by omega)
      have HX := Lib.hid hx
      have HY := Lib.hid hy
      have c1 : wr.cell? ⟨b, off + (k - 1), none⟩ = some (.int .i64 x) := by obtain ⟨d, rfl⟩ := hd; simpa using hc (k - 1) _ (by rw [List.getElem?_map, hx]; rfl)
      have c2 : wr.cell? ⟨b, off + k, none⟩ = some (.int .i64 y) := by obtain ⟨d, rfl⟩ := hd; simpa using hc k _ (by rw [List.getElem?_map, hy]; rfl)
      have v2 : (1 : Int) ≤ (k : Int) := by omega
      have v4 : (k : Int) - 1 < (n : Int) := by omega
      have v3 : ((k : Int) - 1).toNat = k - 1 := by omega
      have v1 : IntKind.i64.wrap ((k : Int) - 1) = (k : Int) - 1 := IntWalk.i64_in _ (by omega)
      clear hx hy hc hd
      by_cases hf : y < x
      · have e : Hid (false = R) := by
          show false = R
          cases hh : R with
          | false => rfl
          | true => exact absurd (HR.out.1 hh) (Om.rise_no HX.out HY.out k1 hlt hf)
        go_wp2
        go_quiet (fail)
        clear v1 v3
        go_wp2
        go_ret
        exact ⟨ret_bool e.out, by obtain ⟨d, rfl⟩ := HD.out; exact below_drewN (below_drewN (Below.refl _ _) d) nq⟩
      · have HF := Lib.hid hf
        go_wp2
        go_quiet (fail)
        clear v1 v3
        go_wp2
        go_roundw
        case rel => exact ⟨k + 1, congrArg (Value.int .i64) (by omega), by omega, by omega, Om.rise_step HN.out HX.out HY.out k1 (by have := HF.out; omega), by obtain ⟨d, hd⟩ := HD.out; exact ⟨d + nq, by rw [hd, World.drewN_drewN]⟩⟩
        case measure => simp [intOf]; omega
    · have e := Lib.hid (show true = R from (HR.out.2 (Om.rise_few HN.out (by omega))).symm)
      clear hd
      go_wp2
      go_ret
      exact ⟨ret_bool e.out, by obtain ⟨d, rfl⟩ := HD.out; exact below_drewN (Below.refl _ _) d⟩
end Go.Proofs.Ytfefhandlkbeoaa
