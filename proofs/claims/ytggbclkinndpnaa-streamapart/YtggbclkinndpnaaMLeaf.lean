/-
  Layer 6 (stream): Nth and share, by contracts.
-/
import Derived.Test.YtggbclkinndpnaaMMath
import Derived.Test.YtggbclkinndpnaaRMake
import Derived.Laws.MakeOwn
namespace Go.Proofs.Ytggbclkinndpnaa
open Go.RowKit

theorem strNth_any (s n : Int) (w : World) (hn : n ≤ 9223372036854775807) :
    Calls Try.prog 11 #[.int .u64 s, .int .i64 n] w fun e w' => e = .returned (.int .u64 (if n < 0 then 0 else Rm.mixAt s n.toNat)) ∧ Below w.heap.size w w' := by
  by_cases c : n < 0
  · rw [if_pos c]
    go_enter Try.func11, Try.ntmps11
    go_wp2
    go_ret
    exact ⟨rfl, Below.refl _ _⟩
  · rw [if_neg c]
    obtain ⟨k, rfl⟩ : ∃ k : Nat, n = k := ⟨n.toNat, by omega⟩
    have e := Lib.hid (Sm.mix_ahead s k)
    have b := Rm.wrap_in (s + IntKind.u64.wrap ((k : Int) * 11400714819323198485))
    have hK := Lib.hid (fun w => mix_new _ w b.1 b.2)
    have hk : IntKind.u64.wrap (k : Int) = k := IntWalk.u64_in _ (by omega)
    clear b c
    go_enter Try.func11, Try.ntmps11
    go_wp2_with fail
    refine (hK.out _).mono ?_
    rintro _ w1 ⟨b, rfl, h2, b2⟩
    obtain ⟨m1, m2, m3⟩ := h2.meth
    have HB := Lib.hid b2
    have HD := Lib.hid (bas_draw h2)
    clear h2 b2 hK
    go_wp2_with fail
    refine HD.out.mono ?_
    rintro _ w2 ⟨rfl, h3, b3⟩
    have HB2 := Lib.hid (HB.out.trans (b3.old HB.out.size (Nat.le_refl _)))
    clear h3 b3 HD m1 m2 m3
    go_wp2
    go_ret
    exact ⟨ret_int (by rw [e.out]; simp), HB2.out⟩
/-- what make answers: an empty row with so many places -/
theorem made_u64 (n : Nat) (hn : n ≤ 100000) : ∃ M : Array Value, M.size = n ∧
    ∀ W : World, (Instr.makeSlice 23 (.int .i64 0) (.int .i64 (n : Int))).run Try.prog W = .ok (.slice (some ⟨W.heap.size, 0, none⟩) 0 n) (W.alloc (.cells M 22)) := by
  obtain ⟨i0, hi, hz0, hz1, hz2⟩ := info_parts Try.infoU64
  obtain ⟨M, hM⟩ : ∃ M, M = madeCells (Value.int .u64 0).cells ((n : Int).toNat * i0.size) := ⟨_, rfl⟩
  refine ⟨M, by rw [hM, size_madeCells, hz1]; simp, fun W => ?_⟩
  have h := run_make (P := Try.prog) W 23 22 i0 (.int .u64 0) Try.underlying23 hi hz0 .i64 .i64 0 (n : Int) (by omega) (by omega) (by rw [hz2]; omega) (by omega)
  rw [← hM] at h
  simpa using h
theorem own_made (w : World) (e : TypeId) (M : Array Value) (hM : M.size ≤ maxLen) : (w.alloc (.cells M e)).ownsRow w.heap.size e 1 (.slice (some ⟨w.heap.size, 0, none⟩) 0 M.size) 0 [] :=
  ⟨rfl, .inr ⟨w.heap.size, M.size, M, rfl, Nat.le_refl _, heap_alloc_new w _, Nat.zero_le _, hM, by simp, by simp⟩⟩
theorem lst_one (w : World) (v : Value) (e : TypeId) : Lst (w.alloc (.cells #[v] e)) (w.heap.size + 1) (some ⟨w.heap.size, 0, none⟩) 1 [v] :=
  ⟨rfl, fun _ => ⟨w.heap.size, 0, rfl, by omega, fun j u hu => by rw [cell_of_row _ _ _ _ _ _ (heap_new w _ _), Nat.zero_add]; simpa using hu⟩⟩
theorem ownBlock_ge {w : World} {B0 : Nat} {e : TypeId} {v : Value} {n : Nat} {xs : List Value} (hown : w.ownsRow B0 e 1 v n xs) : ∀ k, v.ownBlock = some k → B0 ≤ k := by
  rcases hown.2 with ⟨rfl, _⟩ | ⟨g, cap, cur, rfl, hg, _⟩
  · simp [Value.ownBlock]
  · intro k hk
    have e : g = k := by simpa [Value.ownBlock] using hk
    omega

set_option maxHeartbeats 800000 in
theorem share_any (A : Option Addr) (len c : Nat) (xs : List Int) (t n : Nat) (w : World) (h : Lst w w.heap.size A len (xs.map (Value.int .u64))) (hl : len ≤ 1000) (ht : t < n) (hn : n ≤ 1000000) :
    Calls Try.prog 15 #[.slice A len c, .int .i64 (t : Int), .int .i64 (n : Int)] w fun e w' => ∃ A' m c', e = .returned (.slice A' m c') ∧ (A' = none → c' = 0) ∧ m ≤ 1000 ∧ Lst w' w'.heap.size A' m ((Sm.share xs t n).map (Value.int .u64)) ∧ Below w.heap.size w w' := by
  have HX : Hid (xs.length = len) := Lib.hid (by have := h.1; simpa using this)
  have H := Lib.hid h
  clear h
  by_cases q : len ≤ t
  · go_enter Try.func15, Try.ntmps15
    go_wp2
    go_ret
    refine ⟨none, 0, 0, rfl, fun _ => rfl, by omega, ?_, Below.refl _ _⟩
    have : Sm.share xs t n = [] := List.length_eq_zero_iff.1 (by rw [Sm.share_length, HX.out, Sm.cnt, if_neg (by omega)])
    rw [this]
    exact Lst.nil _ _ _
  · obtain ⟨i0, hi, hz0, hz1, hz2⟩ := info_parts Try.infoU64
    obtain ⟨m, hm⟩ : ∃ m, m = (len - 1 - t) / n := ⟨_, rfl⟩
    have hmL : m < 1000 := by
      have := Nat.div_le_self (len - 1 - t) n
      omega
    have hq : ((len : Int) - 1 - (t : Int)).tdiv (n : Int) = (m : Int) := by
      rw [show (len : Int) - 1 - (t : Int) = ((len - 1 - t : Nat) : Int) from by omega, hm]
      rfl
    have HC : Hid (Sm.cnt len t n = m + 1) := by show Sm.cnt len t n = m + 1; unfold Sm.cnt; rw [if_pos (by omega), hm]; omega
    obtain ⟨M, hM, hmk⟩ := made_u64 (m + 1) (by omega)
    rw [show ((m + 1 : Nat) : Int) = 1 + (m : Int) from by omega] at hmk
    have HM := Lib.hid hM
    clear hm hM
    go_enter Try.func15, Try.ntmps15
    go_wp2
    clear hmk
    go_loopw [8, 26] (fun v i wr => ∃ k : Nat, k ≤ m + 1 ∧ i = .int .i64 k ∧ wr.ownsRow w.heap.size 22 1 v k ((Sm.part xs t n k).map (Value.int .u64)) ∧ Below w.heap.size w wr) (fun _ i _ => m + 1 - (intOf i).toNat)
    case atStart => exact ⟨0, Nat.zero_le _, rfl, by have := own_made w 22 M (by rw [HM.out]; unfold maxLen; omega); rw [HM.out] at this; exact this, (Below.refl _ w).alloc (Nat.le_refl _) _⟩
    case round =>
      obtain ⟨k, hk, rfl, hown, hbel⟩ := hrel
      have hsz := hbel.size
      have HBB := Lib.hid hbel
      by_cases hlt : k < m + 1
      · have hin : t + k * n < len := (Sm.lt_cnt (by omega)).1 (by rw [HC.out]; exact hlt)
        obtain ⟨b, off, rfl, hb, hc⟩ := H.out.at_ hin
        rw [List.getElem?_map, List.getElem?_eq_getElem (by rw [HX.out]; exact hin)] at hc
        have hc2 := (hbel.cell (p := ⟨b, off + (t + k * n), none⟩) hb).trans hc
        have HS := Lib.hid (Sm.part_succ xs t n k)
        obtain ⟨x, hx⟩ : ∃ x, x = xs[t + k * n]'(by rw [HX.out]; exact hin) := ⟨_, rfl⟩
        rw [List.getElem?_eq_getElem (by rw [HX.out]; exact hin), ← hx] at HS
        rw [← hx] at hc2
        obtain ⟨p, hp⟩ : ∃ p, p = k * n := ⟨_, rfl⟩
        have hp' : (k : Int) * (n : Int) = (p : Int) := by rw [hp]; simp
        rw [← hp] at hc2 hin
        have HO := Lib.hid (hown.alloc (.cells #[.int .u64 x] 22))
        have HOLD := Lib.hid hown
        clear hx hc hbel hp hown
        go_wp2_with (at_builtin; refine append_lst _ rfl (.tmp 29) (.tmp 38) 23 rfl w.heap.size 22 i0 (.int .u64 0) 8 Try.underlying23 hi hz0 hz1 hz2 rfl u8 k ((Sm.part xs t n k).map (Value.int .u64)) rfl HO.out (wr.heap.size + 1) (some ⟨wr.heap.size, 0, none⟩) 1 1 [.int .u64 x] rfl (fun h => by cases h) (lst_one wr _ _) (ints_one .u64 [x]) (by unfold maxLen; omega) (by omega) (by simp; omega) ?_; intro v1 w2 hown1 hg1; have HB2 := Lib.hid ((HBB.out.alloc hsz (.cells #[.int .u64 x] 22)).grown hg1 (by simp; omega) (ownBlock_ge HOLD.out)); have HO1 := Lib.hid hown1; clear hown1 hg1)
        go_roundw
        case rel =>
          refine ⟨k + 1, by omega, by go_num, ?_, HB2.out⟩
          have := HO1.out
          rw [HS.out, List.map_append]
          exact this
        case measure => simp [intOf]; omega
      · obtain rfl : k = m + 1 := by omega
        obtain ⟨A', c', rfl, -⟩ := own_form hown
        have hR := Lst.of_own hown
        have hA' : A' = none → c' = 0 := by
          rintro rfl
          rcases hown.2 with ⟨h1, _⟩ | ⟨g, cap, cur, h1, _⟩
          · injection h1
          · injection h1 with h1; cases h1
        have HR := Lib.hid hR
        have HA := Lib.hid hA'
        have HL := HX.out
        have HE : Hid (Sm.share xs t n = Sm.part xs t n (m + 1)) := Lib.hid (by unfold Sm.share; rw [HX.out, HC.out])
        clear hown hbel hR hA' HL
        go_wp2
        go_ret
        exact ⟨A', m + 1, c', rfl, HA.out, by omega, by rw [HE.out]; exact HR.out, HBB.out⟩
end Go.Proofs.Ytggbclkinndpnaa
