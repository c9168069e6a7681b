/-
  SealTurns holds for every input: of three texts of one length, put together byte by byte (xor), the sum is that of the sums. No condition.
-/
import Derived.Test.YtabfjlokemkpjaaSAwake
import Derived.Test.YtabfjlokemkpjaaSTurn
import Derived.Deep.RegionWith
import Derived.BigRegion
import Derived.ProofKit
import Derived.OpenShut
import Derived.ShutString
import Derived.ChangeOld
import Derived.WalkSmall
namespace Go.Proofs.Ytabfjlokemkpjaa.sealTurns
open Go.ChangeShapes Go.WideShapes Go.ChangeAt Go.RowKit
open Go.ChangeMaps (open_string shut_string)
set_option linter.unusedVariables false

theorem sum_chain {w0 : World} (s : ByteArray) (A : BitVec 32) (W : World) (hA : Hid (Sm.sum s.data.toList = A)) (hs : s.size ≤ 1000) (hb : Below w0.heap.size w0 W) :
    Calls Try.prog 12 #[.string s] W fun e w' => e = .returned (.int .u32 (rn A : Nat)) ∧ Below w0.heap.size w0 w' :=
  (sum_any s W (by unfold maxLen; omega)).mono fun _ _ h => ⟨by rw [h.1, hA.out], hb.trans (h.2.mono hb.size)⟩
/-- the row of three texts' bytes, put together up to a place -/
def Row3 (B n : Nat) (L : List UInt8) (k : Nat) (w wr : World) : Prop :=
  (∃ C : Array Value, wr.heap[B]? = some (.cells C 5 (0, 0)) ∧ C.size = n ∧ ∀ j, j < k → C[j]? = some (.int .u8 ((L.getD j 0).toNat : Int))) ∧ Below w.heap.size w wr
theorem row3_step {B n k : Nat} {L : List UInt8} {w wr : World} (h : Row3 B n L k w wr) (hk : k < n) (hB : w.heap.size ≤ B) (x : UInt8) (hx : L.getD k 0 = x) :
    Row3 B n L (k + 1) w (wr.setCell ⟨B, k, none⟩ (.int .u8 (x.toNat : Int))).drew := by
  obtain ⟨⟨C, h1, h2, h3⟩, hb⟩ := h
  refine ⟨⟨C.setIfInBounds k (.int .u8 (x.toNat : Int)), heap_setCell_same _ _ _ _ _ _ h1, by simpa using h2, fun j hj => ?_⟩, (hb.setCell hB _).drew⟩
  rw [Array.getElem?_setIfInBounds]
  by_cases e : k = j
  · subst e; rw [if_pos rfl, if_pos (by omega), hx]
  · rw [if_neg e]; exact h3 j (by omega)
theorem row3_cell {B n k : Nat} {L : List UInt8} {w wr : World} (h : Row3 B n L k w wr) (hk : k < n) : ∃ v, wr.cell? ⟨B, k, none⟩ = some v ∧ wr.frozen? ⟨B, k, none⟩ = false := by
  obtain ⟨⟨C, h1, h2, h3⟩, hb⟩ := h
  exact ⟨C[k]'(by omega), by rw [cell_of_row _ _ _ _ _ _ h1, Array.getElem?_eq_getElem], frozen_of_row _ _ _ _ _ h1⟩
theorem row3_text {B n : Nat} {L : List UInt8} {w wr : World} (hL : L.length = n) (h : Row3 B n L n w wr) :
    (convert 35 9 (.slice (some ⟨B, 0, none⟩) n n)).run Try.prog wr.drew = .ok (.string ⟨L.toArray⟩) wr.drew := by
  obtain ⟨⟨C, h1, h2, h3⟩, hb⟩ := h
  have := run_convert_bytes_back (P := Try.prog) wr.drew 35 9 5 ⟨B, 0, none⟩ n L Try.underlying35 Try.underlying5 Try.underlying9 ?_
  · rwa [hL] at this
  · intro j hj
    rw [Addr.add_lit, Nat.zero_add, World.cell?_drew, cell_of_row _ _ _ _ _ _ h1, h3 j (by omega), List.getD_eq_getElem?_getD, List.getElem?_eq_getElem hj]
    rfl
theorem x3_length (n : Nat) (s t u : List UInt8) (hs : s.length = n) (ht : t.length = n) (hu : u.length = n) : (Sm.x3 s t u).length = n := by
  induction n generalizing s t u with
  | zero => obtain rfl := List.length_eq_zero_iff.1 hs; rfl
  | succ n ih =>
    obtain ⟨x, s, rfl⟩ := List.exists_cons_of_length_eq_add_one hs
    obtain ⟨y, t, rfl⟩ := List.exists_cons_of_length_eq_add_one ht
    obtain ⟨z, u, rfl⟩ := List.exists_cons_of_length_eq_add_one hu
    simp only [Sm.x3, List.length_cons]
    rw [ih s t u (by simpa using hs) (by simpa using ht) (by simpa using hu)]
theorem x3_get (n : Nat) (s t u : List UInt8) (hs : s.length = n) (ht : t.length = n) (hu : u.length = n) (k : Nat) (hk : k < n) : (Sm.x3 s t u).getD k 0 = s.getD k 0 ^^^ t.getD k 0 ^^^ u.getD k 0 := by
  induction n generalizing s t u k with
  | zero => omega
  | succ n ih =>
    obtain ⟨x, s, rfl⟩ := List.exists_cons_of_length_eq_add_one hs
    obtain ⟨y, t, rfl⟩ := List.exists_cons_of_length_eq_add_one ht
    obtain ⟨z, u, rfl⟩ := List.exists_cons_of_length_eq_add_one hu
    cases k with
    | zero => rfl
    | succ k =>
      simp only [Sm.x3, List.getD_cons_succ]
      exact ih s t u (by simpa using hs) (by simpa using ht) (by simpa using hu) k (by omega)
theorem take_get (s : ByteArray) (n k : Nat) (hk : k < n) (hs : n ≤ s.size) : (s.data.toList.take n).getD k 0 = s[k]'(by omega) := by
  rw [List.getD_eq_getElem?_getD, List.getElem?_take, if_pos hk, List.getElem?_eq_getElem (by simp; omega)]
  rfl
theorem get3 (a0 a1 a2 : ByteArray) (n k : Nat) (hk : k < n) (l0 : n ≤ a0.size) (l1 : n ≤ a1.size) (l2 : n ≤ a2.size) :
    (Sm.x3 (a0.data.toList.take n) (a1.data.toList.take n) (a2.data.toList.take n)).getD k 0 = a0[k]'(by omega) ^^^ a1[k]'(by omega) ^^^ a2[k]'(by omega) := by
  rw [x3_get n _ _ _ (by simp; omega) (by simp; omega) (by simp; omega) k hk, take_get a0 n k hk l0, take_get a1 n k hk l1, take_get a2 n k hk l2]
theorem run_min4 (x y z u : Int) (ts : Array TypeId) (t : TypeId) (W : World) :
    (Builtin.min_ ts t #[.int .i64 x, .int .i64 y, .int .i64 z, .int .i64 u]).run Try.prog W = .ok (.int .i64 (min (min (min x y) z) u)) W := by
  have h : ∀ a b : Int, (if b < a then b else a) = min a b := fun a b => by split <;> omega
  simp [Builtin.min_, Builtin.min2, h]
theorem Try.infoB : (Try.prog.info? 5).map (fun i => (i.zero, i.size, i.bytes)) = some (some (.int .u8 0), 1, 1) := by kernel_rfl

set_option maxRecDepth 100000 in
set_option maxHeartbeats 2000000 in
theorem walk (a0 a1 a2 : ByteArray) (w : World) (w0 : a0.size ≤ maxLen) (w1 : a1.size ≤ maxLen) (w2 : a2.size ≤ maxLen) :
    Calls Try.prog 8 #[.string a0, .string a1, .string a2] w fun e w' => e = .returned (.bool true) ∧ Below w.heap.size w w' := by
  unfold maxLen at w0 w1 w2
  obtain ⟨n, hn⟩ : ∃ n, n = min (min (min a0.size a1.size) a2.size) 1000 := ⟨_, rfl⟩
  have n1 : n ≤ 1000 := by omega
  have l0 : n ≤ a0.size := by omega
  have l1 : n ≤ a1.size := by omega
  have l2 : n ≤ a2.size := by omega
  have hm : ∀ W ts t, (Builtin.min_ ts t #[.int .i64 (a0.size : Int), .int .i64 (a1.size : Int), .int .i64 (a2.size : Int), .int .i64 1000]).run Try.prog W = .ok (.int .i64 (n : Int)) W := fun W ts t => by
    rw [run_min4, show min (min (min (a0.size : Int) a1.size) a2.size) 1000 = (n : Int) from by omega]
  clear hn
  obtain ⟨i0, hi, hz0, hz1, hz2⟩ := info_parts Try.infoB
  obtain ⟨M, hM⟩ : ∃ M, M = madeCells (Value.int .u8 0).cells ((n : Int).toNat * i0.size) := ⟨_, rfl⟩
  have hMs : M.size = n := by rw [hM, size_madeCells, hz1]; simp
  have hmk : ∀ W : World, (Instr.makeSlice 35 (.int .i64 (n : Int)) (.int .i64 (n : Int))).run Try.prog W = .ok (.slice (some ⟨W.heap.size, 0, none⟩) n n) (W.alloc (.cells M 5)) := fun W => by
    have h := run_make (P := Try.prog) W 35 5 i0 (.int .u8 0) Try.underlying35 hi hz0 .i64 .i64 (n : Int) (n : Int) (by omega) (by omega) (by rw [hz2]; omega) (by omega)
    rw [← hM] at h
    simpa using h
  clear hM hz0 hz1 hz2 hi
  have HMS := Lib.hid hMs
  clear hMs
  go_enter Try.func8, Try.ntmps8
  go_wp2_with fail
  refine (awake_any _).mono ?_
  rintro e w1 ⟨rfl, hb1⟩
  have HB1 := Lib.hid hb1
  have hs1 := hb1.size
  clear hb1
  go_wp2
  clear hm hmk
  obtain ⟨S0, hS0⟩ : ∃ S, a0.extract 0 n = S := ⟨_, rfl⟩
  obtain ⟨S1, hS1⟩ : ∃ S, a1.extract 0 n = S := ⟨_, rfl⟩
  obtain ⟨S2, hS2⟩ : ∃ S, a2.extract 0 n = S := ⟨_, rfl⟩
  have t0 : S0.data.toList = a0.data.toList.take n := by rw [← hS0, take_list]
  have t1 : S1.data.toList = a1.data.toList.take n := by rw [← hS1, take_list]
  have t2 : S2.data.toList = a2.data.toList.take n := by rw [← hS2, take_list]
  have g0 : S0.data.toList.length = n := by rw [t0, List.length_take, ← size_list]; omega
  have g1 : S1.data.toList.length = n := by rw [t1, List.length_take, ← size_list]; omega
  have g2 : S2.data.toList.length = n := by rw [t2, List.length_take, ← size_list]; omega
  obtain ⟨L, hL⟩ : ∃ L, L = Sm.x3 S0.data.toList S1.data.toList S2.data.toList := ⟨_, rfl⟩
  have gL : L.length = n := by rw [hL]; exact x3_length n _ _ _ g0 g1 g2
  have hsum : Sm.sum L = Sm.sum S0.data.toList ^^^ Sm.sum S1.data.toList ^^^ Sm.sum S2.data.toList := by
    rw [hL]; exact Sm.sum_x3 n _ _ _ g0 g1 g2
  have HLL : Hid (L = Sm.x3 (a0.data.toList.take n) (a1.data.toList.take n) (a2.data.toList.take n)) := by
    show L = Sm.x3 (a0.data.toList.take n) (a1.data.toList.take n) (a2.data.toList.take n)
    rw [hL, t0, t1, t2]
  have HSUM := Lib.hid hsum
  have HL := Lib.hid gL
  have z0 : S0.size ≤ 1000 := by rw [size_list, g0]; exact n1
  have z1 : S1.size ≤ 1000 := by rw [size_list, g1]; exact n1
  have z2 : S2.size ≤ 1000 := by rw [size_list, g2]; exact n1
  have HS0 := Lib.hid hS0
  have HS1 := Lib.hid hS1
  have HS2 := Lib.hid hS2
  clear t0 t1 t2 g0 g1 g2 hL gL hsum hS0 hS1 hS2
  go_loopw [9] (fun i wr => ∃ k : Nat, k ≤ n ∧ i = .int .i64 k ∧ Row3 w1.heap.size n L k w wr) (fun i _ => n - (intOf i).toNat)
  case atStart => exact ⟨0, Nat.zero_le _, rfl, ⟨M, heap_alloc_new _ _, HMS.out, fun j hj => absurd hj (by omega)⟩, HB1.out.alloc hs1 _⟩
  case round =>
    obtain ⟨k, hk, rfl, hR⟩ := hrel
    have HR := Lib.hid hR
    by_cases hlt : k < n
    · obtain ⟨v, hc, hf⟩ := row3_cell hR hlt
      clear hR
      have k0 : k < a0.size := by omega
      have k1 : k < a1.size := by omega
      have k2 : k < a2.size := by omega
      have e1 := xor_u8 a0[k] a1[k]
      have e2 := xor_u8 (a0[k] ^^^ a1[k]) a2[k]
      obtain ⟨x, hx⟩ : ∃ x, x = a0[k] ^^^ a1[k] ^^^ a2[k] := ⟨_, rfl⟩
      rw [← hx] at e2
      obtain ⟨y, hy⟩ : ∃ y, y = a0[k] ^^^ a1[k] := ⟨_, rfl⟩
      rw [← hy] at e1 e2
      have HX : Hid (L.getD k 0 = x) := by
        show L.getD k 0 = x
        rw [hx, HLL.out]; exact get3 a0 a1 a2 n k hlt l0 l1 l2
      clear hx hy
      go_wp2
      go_region
      go_wp2
      go_roundw
      case rel => exact ⟨k + 1, by omega, by go_num, row3_step HR.out hlt hs1 x HX.out⟩
      case measure => simp [intOf]; omega
    · obtain rfl : k = n := by omega
      have hcv := row3_text HL.out hR
      have hbd := hR.2.drew
      clear hR
      have hS0 := HS0.out
      have hS1 := HS1.out
      have hS2 := HS2.out
      obtain ⟨A, hA⟩ : ∃ A, Sm.sum S0.data.toList = A := ⟨_, rfl⟩
      obtain ⟨B, hB⟩ : ∃ A, Sm.sum S1.data.toList = A := ⟨_, rfl⟩
      obtain ⟨D, hD⟩ : ∃ A, Sm.sum S2.data.toList = A := ⟨_, rfl⟩
      obtain ⟨V, hV⟩ : ∃ V : ByteArray, (⟨L.toArray⟩ : ByteArray) = V := ⟨_, rfl⟩
      rw [hV] at hcv
      have hE : Sm.sum V.data.toList = A ^^^ B ^^^ D := by rw [← hV]; show Sm.sum L.toArray.toList = _; rw [List.toList_toArray, HSUM.out, hA, hB, hD]
      have zV : V.size ≤ 1000 := by rw [← hV, size_list]; show L.toArray.toList.length ≤ 1000; rw [List.toList_toArray, HL.out]; exact n1
      obtain ⟨E, hE'⟩ : ∃ E, A ^^^ B ^^^ D = E := ⟨_, rfl⟩
      rw [hE'] at hE
      have x1 := xor_rn A B
      have x2 := xor_rn (A ^^^ B) D
      rw [hE'] at x2
      obtain ⟨AB, hAB⟩ : ∃ AB, A ^^^ B = AB := ⟨_, rfl⟩
      rw [hAB] at x1 x2
      have KA := Lib.hid hA
      have KB := Lib.hid hB
      have KD := Lib.hid hD
      have KE := Lib.hid hE
      clear hA hB hD hE hE' hAB hV HS0 HS1 HS2 HSUM HLL
      go_wp2
      go_region_with (first
        | (go_at_call_of 12 (Value.string V); refine (sum_chain (w0 := w) V E _ KE zV ?_).mono ?_; assumption; rintro e wA ⟨rfl, hbd⟩)
        | (go_at_call_of 12 (Value.string S0); refine (sum_chain (w0 := w) S0 A _ KA z0 ?_).mono ?_; assumption; rintro e wA ⟨rfl, hbd⟩)
        | (go_at_call_of 12 (Value.string S1); refine (sum_chain (w0 := w) S1 B _ KB z1 ?_).mono ?_; assumption; rintro e wA ⟨rfl, hbd⟩)
        | (go_at_call_of 12 (Value.string S2); refine (sum_chain (w0 := w) S2 D _ KD z2 ?_).mono ?_; assumption; rintro e wA ⟨rfl, hbd⟩))
      all_goals
        have HBD := Lib.hid hbd
        clear hbd
        go_wp2
        go_ret
        exact ⟨rfl, HBD.out⟩
theorem own : ownKnob Try.prog.godebug = none := by kernel_rfl
theorem laidOut : laidOutB Try.prog = true := by kernel_rfl
set_option maxRecDepth 100000 in
theorem lifted (os : Os) (started : os.Started) (H : Type) (enc : TypeId × Value → H) :
    ReturnsInHanded {} Try.checked os 8 .any (Rows.sealTurnsSpec.pre6 enc Try.prog Try.f8 Rows.sealTurnsRow.domain false) (Rows.sealTurnsSpec.post enc Try.prog Try.f8 false true false false) := by
  refine returnsInHanded_of_change (C := Try.checked) own started (by kernel_rfl) Try.func8
    (ChangeSpec.witness6 (enc := enc) (C := Try.checked) false ⟨#[], #[.string ByteArray.empty, .string ByteArray.empty, .string ByteArray.empty], []⟩ 8 (by kernel_rfl) (by kernel_rfl) (by kernel_rfl) (by kernel_rfl)) ?_
  intro W base args ds gs before hval0 hW hcnd _
  have hval : ∀ (j : Nat) t v, Try.f8.params[j]? = some t → args[j]? = some v → Value.okWide Try.prog W .any base t v := hval0
  have hW' := hW
  obtain ⟨p, q, hA0, hV, rfl, hfz, hnd⟩ := hW
  have hA : DataW.TrodAll enc Try.prog W 0 (fun _ => true) true Try.f8.params.toList args.toList ds p := hA0
  rw [Try.params8] at hA hval
  obtain ⟨v0, vs0, d0, ds0, p0, q0, hargs, rfl, rfl, h0, r0⟩ := trodAll_cons hA
  obtain ⟨v1, vs1, d1, ds1, p1, q1, rfl, rfl, rfl, h1, r1⟩ := trodAll_cons r0
  obtain ⟨v2, vs2, d2, ds2, p2, q2, rfl, rfl, rfl, h2, r2⟩ := trodAll_cons r1
  obtain ⟨rfl, rfl, rfl⟩ := trodAll_nil r2
  obtain rfl : args = #[v0, v1, v2] := by cases args; simp_all
  obtain ⟨rfl, rfl⟩ := trodVars_none hV
  obtain ⟨a0, rfl, rfl, rfl, w0⟩ := open_string Try.underlying9 (hval 0 9 v0 rfl rfl) h0
  obtain ⟨a1, rfl, rfl, rfl, w1⟩ := open_string Try.underlying9 (hval 1 9 v1 rfl rfl) h1
  obtain ⟨a2, rfl, rfl, rfl, w2⟩ := open_string Try.underlying9 (hval 2 9 v2 rfl rfl) h2
  clear hA0 hval0
  refine (walk a0 a1 a2 W w0 w1 w2).mono fun e W' ⟨he, bel⟩ => ?_
  subst he
  exact ⟨_, rfl, _, _, _, [], _, [], hW', trodAll_mk1 (shut_bool Try.underlying4 _), (trodAll_cons_mk (shut_string Try.underlying9 w0) (trodAll_cons_mk (shut_string Try.underlying9 w1) (trodAll_cons_mk (shut_string Try.underlying9 w2) trodAll_mk0))), rfl, bel.frame _, fun h => by cases h⟩
theorem over : Rows.sealTurnsRow.holds Try.pinned (OpenSpec.ofChange Rows.sealTurnsSpec) :=
  OpenClaim.holds_of_wide 8 Try.f8 rfl rfl rfl rfl rfl rfl rfl ⟨rfl, rfl, rfl, rfl, rfl⟩ rfl rfl rfl rfl rfl (by kernel_rfl) Try.func8 (by kernel_rfl)
    (of_decide_eq_true (by kernel_rfl)) (by unfold Func.isWrapper; first | (rw [if_pos (by decide +kernel)]; kernel_rfl) | (rw [if_neg (by decide +kernel)]; exact ⟨rfl, rfl⟩))
    (fun os started H enc _ => lifted os started H enc)
/-- the statement -/
theorem proved : Rows.SealTurnsSaid := over
#print axioms proved
end Go.Proofs.Ytabfjlokemkpjaa.sealTurns
