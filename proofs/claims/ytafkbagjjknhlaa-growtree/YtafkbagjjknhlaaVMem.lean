/-
  Layer 3 (vec): the calls that make memory, by their contracts: Clone and Less of the program, Less of the document's own answer; the document's examples hold ('awake' answers true).
-/
import Derived.Test.YtafkbagjjknhlaaVLeaf
import Derived.Laws.CopyOwn
import Derived.Deep.RegionWith
import Derived.Deep.RegionLaw
import Derived.Deep.AppendLies
namespace Go.Proofs.Ytafkbagjjknhlaa
open Go.RowKit

theorem Try.infoI32 : (Try.prog.info? 21).map (fun i => (i.zero, i.size, i.bytes)) = some (some (.int .i32 0), 1, 4) := by kernel_rfl
theorem Try.sizeI32 : (Try.prog.info? 21).map (·.size) = some 1 := by kernel_rfl

/-- a block of the list's numbers alone -/
def Blk (w : World) (g : Nat) (l : List Int) : Prop := w.heap[g]? = some (.cells (l.map (Value.int .i32)).toArray 21 (0, 0))
theorem Blk.vec {w : World} {g n : Nat} {l : List Int} (h : Blk w g l) (hn : l.length = n) (hl : ∀ x ∈ l, -2147483648 ≤ x ∧ x ≤ 2147483647) : Vec w (some ⟨g, 0, none⟩) n l := by
  refine ⟨⟨by simpa using hn, fun _ => ⟨g, 0, rfl, lt_of_block h, fun j u hu => ?_⟩⟩, hl⟩
  rw [Nat.zero_add, cell_of_row _ _ _ _ _ _ h]
  simpa using hu
theorem Blk.below {w w' : World} {g : Nat} {l : List Int} (h : Blk w g l) (hb : Below w.heap.size w w') : Blk w' g l := by
  unfold Blk; rw [hb.block g (lt_of_block h)]; exact h

/-- what make answers -/
theorem made_i32 (n : Nat) (hn : n ≤ 100000) : ∃ M : Array Value, M.size = n ∧ (∀ j, j < n → M[j]? = some (.int .i32 0)) ∧
    ∀ W : World, (Instr.makeSlice 55 (.int .i64 (n : Int)) (.int .i64 (n : Int))).run Try.prog W = .ok (.slice (some ⟨W.heap.size, 0, none⟩) n n) (W.alloc (.cells M 21)) := by
  obtain ⟨i0, hi, hz0, hz1, hz2⟩ := info_parts Try.infoI32
  obtain ⟨M, hM⟩ : ∃ M, M = madeCells (Value.int .i32 0).cells ((n : Int).toNat * i0.size) := ⟨_, rfl⟩
  refine ⟨M, by rw [hM, size_madeCells, hz1]; simp, ?_, fun W => ?_⟩
  · intro j hj
    rw [hM, hz1, ← Array.getElem?_toList, show (Value.int .i32 0).cells = #[Value.int .i32 0] from rfl, toList_madeCells_one]
    simp [hj]
  · have h := run_make (P := Try.prog) W 55 21 i0 (.int .i32 0) Try.underlying55 hi hz0 .i64 .i64 (n : Int) (n : Int) (by omega) (by omega) (by rw [hz2]; omega) (by omega)
    rw [← hM] at h
    simpa using h

theorem copy_i32 (A : Option Addr) (n c : Nat) (l : List Int) (w : World) (M : Array Value) (h : Vec w A n l) (hM : M.size = n) :
    ∃ w2, (Builtin.copy_ #[55, 55] 3 #[.slice (some ⟨w.heap.size, 0, none⟩) n n, .slice A n c]).run Try.prog (w.alloc (.cells M 21)) = .ok (.int .i64 (n : Int)) w2 ∧
      Blk w2 w.heap.size l ∧ Below w.heap.size w w2 := by
  have hl := h.length
  have hnew := heap_alloc_new w (.cells M 21)
  have hb1 : Below w.heap.size w (w.alloc (.cells M 21)) := (Below.refl _ w).alloc (Nat.le_refl _) _
  by_cases h0 : n = 0
  · subst h0
    obtain rfl : l = [] := List.length_eq_zero_iff.1 hl
    obtain rfl : M = #[] := Array.size_eq_zero_iff.1 hM
    exact ⟨_, run_copy_none (P := Try.prog) _ 55 55 3 21 _ _ 0 0 0 c Try.underlying55 Try.sizeI32 rfl, hnew, hb1⟩
  · obtain ⟨b, off, hA, hb, hc⟩ := h.1.2 (by omega)
    subst hA
    have hr := run_copy_row (P := Try.prog) (w.alloc (.cells M 21)) 55 55 3 21 w.heap.size 0 n n ⟨b, off, none⟩ n c M 21 (l.map (Value.int .i32)) Try.underlying55 Try.sizeI32 hnew (by simpa using hl)
      (fun j v hv => by rw [Addr.add_lit]; exact (hb1.cell (p := ⟨b, off + j, none⟩) hb).trans (hc j v hv)) (by simp; omega) (ints_one .i32 l)
    refine ⟨_, by rw [hr, List.length_map, hl]; rfl, ?_, below_setRow hb1 (Nat.le_refl _) _⟩
    have := setRow_heap (w.alloc (.cells M 21)) w.heap.size M (M.toList.take 0 ++ l.map (Value.int .i32) ++ M.toList.drop (0 + n)).toArray 21 (0, 0) hnew
    unfold Blk
    rw [this]
    simp
    omega

theorem clone_any (A : Option Addr) (n c : Nat) (l : List Int) (w : World) (h : Vec w A n l) (hn : n ≤ 10000) :
    Calls Try.prog 34 #[.slice A n c] w fun e w' => ∃ g, e = .returned (.slice (some ⟨g, 0, none⟩) n n) ∧ w.heap.size ≤ g ∧ Blk w' g l ∧ Below w.heap.size w w' := by
  obtain ⟨M, hM, -, hmk⟩ := made_i32 n (by omega)
  obtain ⟨w2, hcp, hblk, hb⟩ := copy_i32 A n c l w M h hM
  have HK := Lib.hid hblk
  have HB := Lib.hid hb
  clear hM h hblk hb
  go_enter Try.func34, Try.ntmps34
  go_wp2
  go_ret
  exact ⟨_, rfl, Nat.le_refl _, HK.out, HB.out⟩

/-- a row that is filled up to a place -/
def RowK (g n : Nat) (L : List Int) (k : Nat) (w wr : World) : Prop :=
  (∃ C : Array Value, wr.heap[g]? = some (.cells C 21 (0, 0)) ∧ C.size = n ∧ ∀ j, j < k → C[j]? = (L.map (Value.int .i32))[j]?) ∧ Below w.heap.size w wr
theorem rowK_cell {g n k : Nat} {L : List Int} {w wr : World} (h : RowK g n L k w wr) (hk : k < n) : ∃ v, wr.cell? ⟨g, k, none⟩ = some v ∧ wr.frozen? ⟨g, k, none⟩ = false := by
  obtain ⟨⟨C, h1, h2, h3⟩, hb⟩ := h
  exact ⟨C[k]'(by omega), by rw [cell_of_row _ _ _ _ _ _ h1, Array.getElem?_eq_getElem], frozen_of_row _ _ _ _ _ h1⟩
theorem rowK_step {g n k : Nat} {L : List Int} {w wr : World} (h : RowK g n L k w wr) (hk : k < n) (hg : w.heap.size ≤ g) (x : Int) (hx : L[k]? = some x) :
    RowK g n L (k + 1) w (wr.setCell ⟨g, k, none⟩ (.int .i32 x)).drew := by
  obtain ⟨⟨C, h1, h2, h3⟩, hb⟩ := h
  refine ⟨⟨C.setIfInBounds k (.int .i32 x), heap_setCell_same _ _ _ _ _ _ h1, by simpa using h2, fun j hj => ?_⟩, (hb.setCell hg _).drew⟩
  · rw [Array.getElem?_setIfInBounds]
    by_cases e : k = j
    · subst e; rw [if_pos rfl, if_pos (by omega), List.getElem?_map, hx]; rfl
    · rw [if_neg e]; exact h3 j (by omega)
theorem rowK_blk {g n : Nat} {L : List Int} {w wr : World} (h : RowK g n L n w wr) (hL : L.length = n) : Blk wr g L := by
  obtain ⟨⟨C, h1, h2, h3⟩, hb⟩ := h
  unfold Blk
  rw [h1]
  congr 2
  refine Array.ext' (List.ext_getElem? fun j => ?_)
  rw [List.toList_toArray]
  rcases Nat.lt_or_ge j n with hj | hj
  · rw [Array.getElem?_toList]; exact h3 j hj
  · rw [List.getElem?_eq_none (by simpa using by omega), List.getElem?_eq_none (by simp; omega)]

set_option maxHeartbeats 800000 in
theorem vless_any (A B : Option Addr) (n m c d : Nat) (l r : List Int) (w : World) (h : Vec w A n l) (h' : Vec w B m r) (hn : n ≤ 10000) (_hm : m ≤ 10000) :
    Calls Try.prog 66 #[.slice A n c, .slice B m d] w fun e w' => ∃ g, e = .returned (.slice (some ⟨g, 0, none⟩) (min n m) (min n m)) ∧ w.heap.size ≤ g ∧ Blk w' g (Vm.less l r) ∧ Below w.heap.size w w' := by
  have HL := Lib.hid h.length
  have HR := Lib.hid h'.length
  have H := Lib.hid h
  have H' := Lib.hid h'
  clear h h'
  obtain ⟨N, hN⟩ : ∃ N, N = min n m := ⟨_, rfl⟩
  have n0 : N ≤ n := by omega
  have n1 : N ≤ m := by omega
  have HLN : Hid ((Vm.less l r).length = N) := by show (Vm.less l r).length = N; rw [Vm.less_length]; unfold Vm.both; rw [HL.out, HR.out, hN]
  obtain ⟨M, hM, -, hmk⟩ := made_i32 N (by omega)
  have HM := Lib.hid hM
  clear hM
  go_enter Try.func66, Try.ntmps66
  go_wp2_with fail
  refine (shared_any A B n m c d _).mono ?_
  rintro e w1 ⟨rfl, rfl⟩
  rw [← hN]
  have hN' := Lib.hid hN
  clear hN
  go_wp2
  clear hmk
  go_loopw [13] (fun i wr => ∃ k : Nat, k ≤ N ∧ i = .int .i64 k ∧ RowK w.heap.size N (Vm.less l r) k w wr) (fun i _ => N - (intOf i).toNat)
  case atStart => exact ⟨0, Nat.zero_le _, rfl, ⟨M, heap_alloc_new _ _, HM.out, fun j hj => absurd hj (by omega)⟩, (Below.refl _ w).alloc (Nat.le_refl _) _⟩
  case round =>
    obtain ⟨k, hk, rfl, hR⟩ := hrel
    have HRW := Lib.hid hR
    by_cases hlt : k < N
    · have hkl : k < l.length := by rw [HL.out]; omega
      have hkr : k < r.length := by rw [HR.out]; omega
      obtain ⟨v, hcv, hfv⟩ := rowK_cell hR hlt
      have hbw := hR.2
      obtain ⟨b, off, rfl, hb, hc, x0, x1⟩ := H.out.at_ (k := k) (by omega) hkl
      obtain ⟨b', off', rfl, hb', hc', y0, y1⟩ := H'.out.at_ (k := k) (by omega) hkr
      have hc2 : wr.cell? ⟨b, off + k, none⟩ = some (.int .i32 l[k]) := (hbw.cell hb).trans hc
      have hc3 : wr.cell? ⟨b', off' + k, none⟩ = some (.int .i32 r[k]) := (hbw.cell hb').trans hc'
      have HS := Lib.hid (Vm.less_get k l r hkl hkr)
      obtain ⟨x, hx⟩ : ∃ x, x = l[k] := ⟨_, rfl⟩
      obtain ⟨y, hy⟩ : ∃ y, y = r[k] := ⟨_, rfl⟩
      rw [← hx] at hc2 x0 x1 HS
      rw [← hy] at hc3 y0 y1 HS
      obtain ⟨z, hz⟩ : ∃ z, wrap32 (x - y) = z := ⟨_, rfl⟩
      rw [hz] at HS
      have hz' : IntKind.i32.wrap (x - y) = z := by rw [IntWalk.i32_left]; exact hz
      clear hx hy hc hc' hbw hR hz
      go_wp2
      go_region_with (go_at_call 71; refine (apart_any x y _ x0 x1 y0 y1).mono ?_; rintro e wA ⟨rfl, rfl⟩)
      all_goals
        go_wp2
        go_roundw
        case rel => exact ⟨k + 1, by omega, by go_num, rowK_step HRW.out hlt (Nat.le_refl _) z HS.out⟩
        case measure => simp [intOf]; omega
    · obtain rfl : k = N := by omega
      clear hR
      go_wp2
      go_ret
      exact ⟨_, congrArg (fun q => Ending.returned (.slice (some ⟨w.heap.size, 0, none⟩) q q)) hN'.out, Nat.le_refl _, rowK_blk HRW.out HLN.out, HRW.out.2⟩
theorem vownBlock_ge {w : World} {B0 : Nat} {e : TypeId} {v : Value} {n : Nat} {xs : List Value} (hown : w.ownsRow B0 e 1 v n xs) : ∀ k, v.ownBlock = some k → B0 ≤ k := by
  rcases hown.2 with ⟨rfl, _⟩ | ⟨g, cap, cur, rfl, hg, _⟩
  · simp [Value.ownBlock]
  · intro k hk
    have e : g = k := by simpa [Value.ownBlock] using hk
    omega
theorem vown_heap {w w' : World} {base : Nat} {e : TypeId} {v : Value} {n : Nat} {xs : List Value} (h : w.ownsRow base e 1 v n xs) (hh : w'.heap = w.heap) : w'.ownsRow base e 1 v n xs := by
  unfold World.ownsRow at *
  rw [hh]
  exact h
theorem vcell_heap {w w' : World} (hh : w'.heap = w.heap) (p : Addr) : w'.cell? p = w.cell? p := by
  unfold World.cell?
  rw [hh]
theorem vown_form {w : World} {base : Nat} {e : TypeId} {v : Value} {n : Nat} {xs : List Value} (h : w.ownsRow base e 1 v n xs) : ∃ A c, v = .slice A n c := by
  rcases h.2 with ⟨rfl, rfl⟩ | ⟨g, cap, cur, rfl, _⟩
  · exact ⟨none, 0, rfl⟩
  · exact ⟨_, cap, rfl⟩
set_option maxRecDepth 100000 in
theorem refLess_any (A B : Option Addr) (n m c d : Nat) (l r : List Int) (w : World) (h : Vec w A n l) (h' : Vec w B m r) (hn : n ≤ 10000) (_hm : m ≤ 10000) :
    Calls Try.prog 61 #[.slice A n c, .slice B m d] w fun e w' => ∃ A' c', e = .returned (.slice A' (min n m) c') ∧ Vec w' A' (min n m) (Vm.less l r) ∧ Below w.heap.size w w' := by
  obtain ⟨i0, hi, hz0, hz1, hz2⟩ := info_parts Try.infoI32
  have HL := Lib.hid h.length
  have HR := Lib.hid h'.length
  have H := Lib.hid h
  have H' := Lib.hid h'
  clear h h'
  obtain ⟨N, hN⟩ : ∃ N, N = min n m := ⟨_, rfl⟩
  have n0 : N ≤ n := by omega
  have n1 : N ≤ m := by omega
  have HB : Hid (N = Vm.both l r) := by show N = Vm.both l r; unfold Vm.both; rw [HL.out, HR.out, hN]
  have HN := Lib.hid hN
  clear hN
  go_enter Try.func61, Try.ntmps61
  go_wp2
  go_loopw [5, 6] (fun v i wr => ∃ k : Nat, k ≤ N ∧ i = .int .i64 k ∧ wr.ownsRow w.heap.size 21 1 v k ((Vm.less (l.take k) (r.take k)).map (Value.int .i32)) ∧ Below w.heap.size w wr) (fun _ i _ => N - (intOf i).toNat)
  case atStart => exact ⟨0, Nat.zero_le _, rfl, by simpa [Vm.less] using World.ownsRow_nil _ _ _ _, Below.refl _ _⟩
  case round =>
    obtain ⟨k, hk, rfl, hown, hbel⟩ := hrel
    have hsz := hbel.size
    have HBB := Lib.hid hbel
    by_cases hlt : k < N
    · have hkl : k < l.length := by rw [HL.out]; omega
      have hkr : k < r.length := by rw [HR.out]; omega
      obtain ⟨b, off, rfl, hb, hc, x0, x1⟩ := H.out.at_ (k := k) (by omega) hkl
      obtain ⟨b', off', rfl, hb', hc', y0, y1⟩ := H'.out.at_ (k := k) (by omega) hkr
      have hc2 : wr.cell? ⟨b, off + k, none⟩ = some (.int .i32 l[k]) := (hbel.cell hb).trans hc
      have hc3 : wr.cell? ⟨b', off' + k, none⟩ = some (.int .i32 r[k]) := (hbel.cell hb').trans hc'
      have HS := Lib.hid (Vm.less_snoc k l r hkl hkr)
      obtain ⟨x, hx⟩ : ∃ x, x = l[k] := ⟨_, rfl⟩
      obtain ⟨y, hy⟩ : ∃ y, y = r[k] := ⟨_, rfl⟩
      rw [← hx] at hc2 x0 x1 HS
      rw [← hy] at hc3 y0 y1 HS
      obtain ⟨z, hz⟩ : ∃ z, wrap32 (x - y) = z := ⟨_, rfl⟩
      rw [hz] at HS
      have hz' : IntKind.i32.wrap (x - y) = z := by rw [IntWalk.i32_left]; exact hz
      clear hx hy hc hc' hbel hz
      go_wp2
      have hwO : ∀ W : World, W.heap = (wr.alloc (.cells #[.int .i32 z] 21)).heap → W.ownsRow w.heap.size 21 1 u5 k ((Vm.less (l.take k) (r.take k)).map (Value.int .i32)) := fun W e => vown_heap (hown.alloc _) e
      have hwN : ∀ W : World, W.heap = (wr.alloc (.cells #[.int .i32 z] 21)).heap → ∀ j u, ([.int .i32 z] : List Value)[j]? = some u → W.cell? ((⟨wr.heap.size, 0, none⟩ : Addr).add j) = some u := fun W e j u hu => by
        rw [vcell_heap e]; exact cell_one_new _ _ _ j u hu
      have HwO := Lib.hid hwO
      have HwN := Lib.hid hwN
      have HOLD := Lib.hid hown
      clear hwO hwN hown
      go_region_law (refine step_append_lies _ rfl (.tmp 19) (.tmp 29) 55 rfl w.heap.size 21 i0 (.int .i32 0) 1 4 Try.underlying55 hi hz0 hz1 hz2 rfl (by decide) u5 k _ (by simp [Act.eval]) (HwO.out _ rfl) ⟨wr.heap.size, 0, none⟩ 1 1 [.int .i32 z] (by simp [Act.eval]) rfl (HwN.out _ rfl) (ints_one .i32 [z]) (by omega) (by unfold maxLen; omega) (by omega) (by simp; omega) _ rfl ?_; intro g cap w1 hown1 hgrow hat hltg)
      all_goals
        have HO' : Hid (w1.ownsRow w.heap.size 21 1 (.slice (some ⟨g, 0, none⟩) (k + 1) cap) (k + 1) ((Vm.less (l.take (k + 1)) (r.take (k + 1))).map (Value.int .i32))) := by
          show w1.ownsRow w.heap.size 21 1 (.slice (some ⟨g, 0, none⟩) (k + 1) cap) (k + 1) ((Vm.less (l.take (k + 1)) (r.take (k + 1))).map (Value.int .i32))
          rw [HS.out, List.map_append]; exact hown1
        have HB' := Lib.hid ((show Below w.heap.size w _ from (HBB.out.alloc hsz (.cells #[.int .i32 z] 21)).drew).grown hgrow (by simp; omega) (vownBlock_ge HOLD.out))
        clear hown1 hgrow hat hltg HwO HwN HOLD HBB
        go_wp2
        go_roundw
        case rel => exact ⟨k + 1, by omega, by go_num, HO'.out, HB'.out⟩
        case measure => simp [intOf]; omega
    · obtain ⟨A', c', rfl⟩ := vown_form hown
      have hV : Vec wr A' k (Vm.less l r) := by
        have e : Vm.less (l.take k) (r.take k) = Vm.less l r := by rw [show k = Vm.both l r from by rw [← HB.out]; omega, Vm.less_both]
        rw [e] at hown
        exact ⟨Lst.of_own hown, Vm.less_in l r⟩
      have HV := Lib.hid hV
      have hkN : k = min n m := by have := HN.out; omega
      have HK := Lib.hid hkN
      clear hown hbel hV
      rcases (show (k < n ∧ ¬ k < m) ∨ ¬ k < n from by omega) with ⟨q, q2⟩ | q
      all_goals
        clear hkN
        go_wp2
        go_ret
        exact ⟨A', c', congrArg (fun q => Ending.returned (.slice A' q c')) HK.out, by rw [← HK.out]; exact HV.out, HBB.out⟩

theorem two_new (w : World) : Vec ((w.alloc (.cells #[.int .i32 1, .int .i32 2] 21)).alloc (.cells #[.int .i32 3, .int .i32 4] 21)) (some ⟨w.heap.size, 0, none⟩) 2 [1, 2] ∧
    Vec ((w.alloc (.cells #[.int .i32 1, .int .i32 2] 21)).alloc (.cells #[.int .i32 3, .int .i32 4] 21)) (some ⟨w.heap.size + 1, 0, none⟩) 2 [3, 4] ∧
    Below w.heap.size w ((w.alloc (.cells #[.int .i32 1, .int .i32 2] 21)).alloc (.cells #[.int .i32 3, .int .i32 4] 21)) := by
  have h1 : Blk (w.alloc (.cells #[.int .i32 1, .int .i32 2] 21)) w.heap.size [1, 2] := heap_alloc_new w _
  have h2 : Blk ((w.alloc (.cells #[.int .i32 1, .int .i32 2] 21)).alloc (.cells #[.int .i32 3, .int .i32 4] 21)) (w.heap.size + 1) [3, 4] := by
    have := heap_alloc_new (w.alloc (.cells #[.int .i32 1, .int .i32 2] 21)) (.cells #[.int .i32 3, .int .i32 4] 21)
    rwa [show (w.alloc (.cells #[.int .i32 1, .int .i32 2] 21)).heap.size = w.heap.size + 1 from by simp] at this
  refine ⟨(h1.below ((Below.refl _ _).alloc (Nat.le_refl _) _)).vec rfl (by simp), h2.vec rfl (by simp), ((Below.refl _ w).alloc (Nat.le_refl _) _).alloc (by simp) _⟩
theorem awake_d : Vm.dot [1, 2] [3, 4] = 11 := Vm.wrap_in (by decide) (by decide) |>.trans (by decide)
theorem awake_f : Vm.far [1, 2] [3, 4] = 8 := Vm.wrap_in (by decide) (by decide) |>.trans (by decide)

end Go.Proofs.Ytafkbagjjknhlaa
