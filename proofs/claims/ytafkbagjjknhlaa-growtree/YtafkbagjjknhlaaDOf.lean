/-
  Layer 10 (data): Of, by contracts.
-/
import Derived.Test.YtafkbagjjknhlaaDOps
namespace Go.Proofs.Ytafkbagjjknhlaa
open Go.RowKit

section
variable {w : World} {A : Option Addr} {n c : Nat} {L : List (List Int)}
/-- items that are being made: the first k of L -/
structure Mkg (w : World) (s : Nat) (d : Int) (L : List (List Int)) (k : Nat) (W : World) : Prop where
  ex : ∃ S, It W S s d (L.take k) ∧ ∀ q, S q → w.heap.size ≤ q
  be : Below w.heap.size w W
theorem ofD_no (h : Lv w A n c L) (hn : n ≤ 1000000) (d : Int) (hc : Dm.chks d L ≠ 0) :
    Calls Try.prog 21 #[.int .i64 d, .slice A n c] w fun e w' => e = .returned (.tuple #[.pointer none, .int .i64 (Dm.chks d L)]) ∧ Below w.heap.size w w' := by
  by_cases g : d < 1 ∨ 1024 < d
  · have HC := Lib.hid (newD_no d w g)
    have e := Lib.hid (Dm.chks_range (L := L) g)
    clear h hc g
    go_enter Try.func21, Try.ntmps21
    go_wp2_with fail
    refine HC.out.mono ?_
    rintro _ _ ⟨rfl, rfl⟩
    go_wp2
    go_ret2
    exact ⟨by rw [e.out]; rfl, Below.refl _ _⟩
  have d0 : 1 ≤ d := by omega
  have d1 : d ≤ 1024 := by omega
  have HN := Lib.hid (newD d w d0 d1)
  have HL := Lib.hid h
  have HF := Lib.hid (Dm.chks_first (L := L) d0 d1)
  have HCC := Lib.hid hc
  clear h hc g
  go_enter Try.func21, Try.ntmps21
  go_wp2_with fail
  refine HN.out.mono ?_
  rintro _ w1 ⟨rfl, hi, hb⟩
  have HM : Hid (Mkg w w.heap.size d L 0 w1) := ⟨⟨_, hi, fun q e => by rw [e]; exact Nat.le_refl _⟩, hb⟩
  clear hi hb HN
  go_wp2_with fail
  go_loopw [22] (fun i wr => ∃ k : Nat, k ≤ n ∧ i = .int .i64 k ∧ Mkg w w.heap.size d L k wr) (fun i _ => n - (intOf i).toNat)
  case atStart => exact ⟨0, Nat.zero_le _, rfl, HM.out⟩
  case round =>
    clear HM
    obtain ⟨k, hk, rfl, ⟨S, hi, hS⟩, hb⟩ := hrel
    have HB := Lib.hid hb
    have HI := Lib.hid hi
    have HS := Lib.hid hS
    clear hi hS
    by_cases hlt : k < n
    · have hL2 := HL.out.below hb
      obtain ⟨l, hx⟩ := hL2.get hlt
      obtain ⟨b, off, rfl, hbb, A', n', c', h2, hv, hn'⟩ := hL2.at_ k l hx
      have HX := Lib.hid hx
      have hkl : (L.take k).length = k := by rw [List.length_take, HL.out.len]; omega
      by_cases q : Vm.chk l d = 0
      · have HA := Lib.hid (addD (c := c') HI.out hv q (by rw [hkl]; omega))
        rw [hkl] at HA
        have HT := Lib.hid (show L.take (k + 1) = L.take k ++ [l] by rw [List.take_add_one, hx]; rfl)
        clear hb hL2 hx hbb hv hn' q hkl
        go_wp2_with fail
        refine HA.out.mono ?_
        rintro _ W2 ⟨rfl, S', i2, k2, s2⟩
        have HM2 : Hid (Mkg w w.heap.size d L (k + 1) W2) := ⟨⟨S', by rw [HT.out]; exact i2, fun q hq => by
          rcases s2 q hq with h | h
          · exact HS.out q h
          · exact Nat.le_trans HB.out.size h⟩, HB.out.trans (k2.old HB.out.size HS.out)⟩
        clear i2 k2 s2 HA HI HS HB
        go_wp2
        go_roundw
        case rel => exact ⟨k + 1, by omega, by go_num, HM2.out⟩
        case measure => simp [intOf]; omega
      · have HA := Lib.hid (addD_no (c := c') HI.out hv hn' q)
        have e := Lib.hid (show Vm.chk l d = Dm.chks d L by rw [HF.out, Dm.first_at HI.out.ok hx q])
        obtain ⟨z, hz⟩ : ∃ z, z = Vm.chk l d := ⟨_, rfl⟩
        rw [← hz] at HA e q
        have q' : (z != 0) = true := by simpa using q
        clear hb hL2 hx hbb hv hn' q hkl hz
        go_wp2_with fail
        refine HA.out.mono ?_
        rintro _ _ ⟨rfl, rfl⟩
        go_wp2
        go_ret2
        exact ⟨by rw [← e.out]; rfl, HB.out⟩
    · exact absurd (by
        rw [HF.out]
        have h := HI.out.ok
        rw [List.take_of_length_le (by rw [HL.out.len]; omega)] at h
        exact Dm.first_ok h) HCC.out
theorem ofD (h : Lv w A n c L) (hn : n ≤ 1000000) (d : Int) (hc : Dm.chks d L = 0) :
    Calls Try.prog 21 #[.int .i64 d, .slice A n c] w fun e w' => ∃ s S, e = .returned (.tuple #[.pointer (some ⟨s, 0, none⟩), .int .i64 0]) ∧ It w' S s d L ∧ (∀ k, S k → w.heap.size ≤ k) ∧ Below w.heap.size w w' := by
  obtain ⟨d0, d1, hok⟩ := Dm.chks_zero hc
  have HN := Lib.hid (newD d w d0 d1)
  have HL := Lib.hid h
  have HOK := Lib.hid hok
  clear h hc hok
  go_enter Try.func21, Try.ntmps21
  go_wp2_with fail
  refine HN.out.mono ?_
  rintro _ w1 ⟨rfl, hi, hb⟩
  have HM : Hid (Mkg w w.heap.size d L 0 w1) := ⟨⟨_, hi, fun q e => by rw [e]; exact Nat.le_refl _⟩, hb⟩
  clear hi hb HN
  go_wp2_with fail
  go_loopw [22] (fun i wr => ∃ k : Nat, k ≤ n ∧ i = .int .i64 k ∧ Mkg w w.heap.size d L k wr) (fun i _ => n - (intOf i).toNat)
  case atStart => exact ⟨0, Nat.zero_le _, rfl, HM.out⟩
  case round =>
    clear HM
    obtain ⟨k, hk, rfl, ⟨S, hi, hS⟩, hb⟩ := hrel
    have HB := Lib.hid hb
    have HI := Lib.hid hi
    have HS := Lib.hid hS
    clear hi hS
    by_cases hlt : k < n
    · have hL2 := HL.out.below hb
      obtain ⟨l, hx⟩ := hL2.get hlt
      obtain ⟨b, off, rfl, hbb, A', n', c', h2, hv, hn'⟩ := hL2.at_ k l hx
      have hkl : (L.take k).length = k := by rw [List.length_take, HL.out.len]; omega
      have HA := Lib.hid (addD (c := c') HI.out hv (HOK.out.at_ hx) (by rw [hkl]; omega))
      rw [hkl] at HA
      have HT := Lib.hid (show L.take (k + 1) = L.take k ++ [l] by rw [List.take_add_one, hx]; rfl)
      clear hb hL2 hx hbb hv hn' hkl
      go_wp2_with fail
      refine HA.out.mono ?_
      rintro _ W2 ⟨rfl, S', i2, k2, s2⟩
      have HM2 : Hid (Mkg w w.heap.size d L (k + 1) W2) := ⟨⟨S', by rw [HT.out]; exact i2, fun q hq => by
        rcases s2 q hq with h | h
        · exact HS.out q h
        · exact Nat.le_trans HB.out.size h⟩, HB.out.trans (k2.old HB.out.size HS.out)⟩
      clear i2 k2 s2 HA HI HS HB
      go_wp2
      go_roundw
      case rel => exact ⟨k + 1, by omega, by go_num, HM2.out⟩
      case measure => simp [intOf]; omega
    · have HI2 : Hid (It wr S w.heap.size d L) := by
        have h := HI.out
        rw [List.take_of_length_le (by rw [HL.out.len]; omega)] at h
        exact h
      clear hb HI
      go_wp2
      go_ret2
      exact ⟨_, S, rfl, HI2.out, HS.out, HB.out⟩
end
end Go.Proofs.Ytafkbagjjknhlaa
