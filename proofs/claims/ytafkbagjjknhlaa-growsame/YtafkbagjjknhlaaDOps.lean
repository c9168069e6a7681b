/-
  Layer 10 (data): New, Add, Len, Dim, At, Far and All, by contracts.
-/
import Derived.Test.YtafkbagjjknhlaaDMem
import Derived.StillTailTactics
import Derived.Deep.RegionHeld3
import Derived.Deep.RegionLaw
namespace Go.Proofs.Ytafkbagjjknhlaa
open Go.RowKit

theorem newD_no (d : Int) (w : World) (h : d < 1 ∨ 1024 < d) :
    Calls Try.prog 31 #[.int .i64 d] w fun e w' => e = .returned (.tuple #[.pointer none, .int .i64 1]) ∧ w' = w := by
  rcases (show d < 1 ∨ (1 ≤ d ∧ 1024 < d) from by omega) with g | ⟨g, g'⟩
  all_goals
    clear h
    go_enter Try.func31, Try.ntmps31
    go_wp2
    go_ret2
    exact ⟨rfl, rfl⟩
theorem newD (d : Int) (w : World) (h0 : 1 ≤ d) (h1 : d ≤ 1024) :
    Calls Try.prog 31 #[.int .i64 d] w fun e w' => e = .returned (.tuple #[.pointer (some ⟨w.heap.size, 0, none⟩), .int .i64 0]) ∧ It w' (fun k => k = w.heap.size) w.heap.size d [] ∧ Below w.heap.size w w' := by
  have HI := Lib.hid (It.new w h0 h1)
  have HB := Lib.hid ((Below.refl _ w).alloc (Nat.le_refl _) (.cells #[.int .i64 d, .slice none 0 0] 87))
  go_enter Try.func31, Try.ntmps31
  go_wp2
  go_ret2
  exact ⟨rfl, HI.out, HB.out⟩

section
variable {w : World} {S : Nat → Prop} {s : Nat} {d : Int} {L : List (List Int)}
theorem lenD (h : It w S s d L) : Calls Try.prog 22 #[.pointer (some ⟨s, 0, none⟩)] w fun e w' => e = .returned (.int .i64 (L.length : Int)) ∧ w = w' := by
  obtain ⟨A, c, c0, c1, f1, -, -, -⟩ := h.open_
  clear h c0 f1
  go_enter Try.func22, Try.ntmps22
  go_wp2
  go_ret
  exact ⟨rfl, rfl⟩
theorem dimD (h : It w S s d L) : Calls Try.prog 46 #[.pointer (some ⟨s, 0, none⟩)] w fun e w' => e = .returned (.int .i64 d) ∧ w = w' := by
  obtain ⟨A, c, c0, c1, f1, -, -, -⟩ := h.open_
  clear h c1 f1
  go_enter Try.func46, Try.ntmps46
  go_wp2
  go_ret
  exact ⟨rfl, rfl⟩
theorem hasD (h : It w S s d L) (id : Int) (b : Bool) (hb : b = decide (0 ≤ id ∧ id < (L.length : Int))) : Calls Try.prog 65 #[.pointer (some ⟨s, 0, none⟩), .int .i64 id] w fun e w' => e = .returned (.bool b) ∧ w = w' := by
  obtain ⟨A, c, c0, c1, f1, -, -, -⟩ := h.open_
  clear h c0 f1
  by_cases g : 0 ≤ id
  · have e := Lib.hid (show decide (id < (L.length : Int)) = b by rw [hb]; simp [g])
    clear hb
    go_enter Try.func65, Try.ntmps65
    go_wp2
    go_ret
    exact ⟨ret_bool e.out, rfl⟩
  · have e := Lib.hid (show false = b by rw [hb]; simp [g])
    have g' : id < 0 := by omega
    clear g hb
    go_enter Try.func65, Try.ntmps65
    go_wp2
    go_ret
    exact ⟨ret_bool e.out, rfl⟩

theorem addD_no {n c : Nat} {A : Option Addr} {v : List Int} (h : It w S s d L) (hv : Vec w A n v) (hn : n ≤ maxLen) (hc : Vm.chk v d ≠ 0) :
    Calls Try.prog 32 #[.pointer (some ⟨s, 0, none⟩), .slice A n c] w fun e w' => e = .returned (.tuple #[.int .i64 0, .int .i64 (Vm.chk v d)]) ∧ w = w' := by
  obtain ⟨A', c', c0, c1, f1, -, -, -⟩ := h.open_
  have HC := Lib.hid (check_any A n c v d w hv hn)
  obtain ⟨z, hz⟩ : ∃ z, z = Vm.chk v d := ⟨_, rfl⟩
  rw [← hz] at HC hc ⊢
  have g : (z != 0) = true := by simpa using hc
  clear h c1 f1 hv hz hc
  go_enter Try.func32, Try.ntmps32
  go_wp2_with fail
  refine HC.out.mono ?_
  rintro _ _ ⟨rfl, rfl⟩
  go_wp2
  go_ret2
  exact ⟨rfl, rfl⟩
set_option maxHeartbeats 1600000 in
theorem addD {n c : Nat} {A : Option Addr} {v : List Int} (h : It w S s d L) (hv : Vec w A n v) (hc : Vm.chk v d = 0) (hL : L.length < 1048576) :
    Calls Try.prog 32 #[.pointer (some ⟨s, 0, none⟩), .slice A n c] w fun e w' => e = .returned (.tuple #[.int .i64 (L.length : Int), .int .i64 0]) ∧
      ∃ S', It w' S' s d (L ++ [v]) ∧ Kept S w w' ∧ ∀ k, S' k → S k ∨ w.heap.size ≤ k := by
  obtain ⟨i0, hi, hz0, hz1, hz2⟩ := info_parts Try.infoV
  obtain ⟨AR, cR, gs, k1, k2, k3, k4, k5⟩ := h.ex
  have c0 : w.cell? ⟨s, 0, none⟩ = some (.int .i64 d) := by rw [cell_of_row _ _ _ _ _ _ k1]; rfl
  have c1 : w.cell? ⟨s, 1, none⟩ = some (.slice AR L.length cR) := by rw [cell_of_row _ _ _ _ _ _ k1]; rfl
  have hs := h.lt s h.own
  have hnd : n = d.toNat := by rw [← hv.length]; exact Dm.len_of hc
  have hdm := (dim_max hc).1
  have HC := Lib.hid (check_any A n c v d w hv (by rw [hnd]; exact (dim_max hc).2))
  rw [hc] at HC
  have HV := Lib.hid hv
  have HO := Lib.hid k2
  obtain ⟨N, hN⟩ : ∃ N, N = L.length := ⟨_, rfl⟩
  have HN := Lib.hid hN
  have HPU := Lib.hid (fun (W0 W2 : World) (g g' cap' : Nat) => h.push (W0 := W0) (W2 := W2) (g := g) (g' := g') (cap' := cap') hc k1 k2 k3 k4 k5)
  rw [← hN] at c1 hL HO HPU ⊢
  have gL : decide ((N : Int) ≥ 1048576) = false := by simp; omega
  have gL' : decide ((1048576 : Int) ≤ (N : Int)) = false := by simp; omega
  have HLL := Lib.hid hL
  have HS := Lib.hid (k3 : ∀ k, (Value.slice AR L.length cR).ownBlock = some k → S k)
  rw [← hN] at HS
  clear h k1 k2 k3 k4 k5 hv hc hN hL
  subst hnd
  go_enter Try.func32, Try.ntmps32
  go_wp2_with fail
  refine HC.out.mono ?_
  rintro _ _ ⟨rfl, rfl⟩
  go_wp2
  have gL2 : N ≤ 1048576 := by have := HLL.out; omega
  go_region_law (first
    | (go_simp; go_at_call 34; refine (clone_c (w0 := w) HV.out (by first | exact Below.refl _ _ | exact (Below.refl _ _).drew) (by omega)).mono ?_; rintro _ w1 ⟨g, rfl, hg1, -, hk1, -, hb1, -⟩; have e1 := (hb1.cell (p := ⟨s, 1, none⟩) hs).trans c1; have e2 := ((hb1.alloc hb1.size (.cells #[.slice (some ⟨g, 0, none⟩) d.toNat d.toNat] 55)).cell (p := ⟨s, 1, none⟩) hs).trans c1; have HB1 := Lib.hid (hb1.alloc hb1.size (.cells #[sl d.toNat g] 55)); have HK1 := Lib.hid (show Blk (w1.alloc (.cells #[sl d.toNat g] 55)) g v from (Below.heap_alloc _ _ _ (lt_of_block hk1)).trans hk1); have HG1 := Lib.hid hg1; have HO1 := Lib.hid (show (w1.alloc (.cells #[sl d.toNat g] 55)).ownsRow 0 55 1 (.slice AR N cR) N (gs.map (sl d.toNat)) from (own_below HO.out hb1).alloc _); clear hg1 hk1 hb1)
    | (refine step_append_lies _ rfl (.tmp 28) (.tmp 31) 22 rfl 0 55 i0 (.slice none 0 0) 1 24 Try.underlying22 hi hz0 hz1 hz2 rfl (by decide) (.slice AR N cR) N (gs.map (sl d.toNat)) (by simp [Act.eval]) HO1.out ⟨w1.heap.size, 0, none⟩ 1 1 [sl d.toNat g] (by simp [Act.eval]) rfl (World.news_of_block (heap_new _ _ _)) (by simp [sl, Value.oneCell']) (by decide) (by unfold maxLen; omega) (by omega) (Nat.zero_le _) _ rfl ?_; intro g' cap' W2 r1 r2 r3 r4; obtain ⟨m1, m2, m3, m4⟩ := HPU.out _ W2 g g' cap' HB1.out HG1.out HK1.out r1 r2 (r3.imp id fun e => by rw [e]; exact HB1.out.size); have HI := Lib.hid m3; have HKP := Lib.hid m4; have HR3 := Lib.hid (show (Value.slice AR N cR).ownBlock = some g' ∨ w.heap.size ≤ g' from r3.imp id fun e => by rw [e]; exact HB1.out.size); clear r1 r2 r3 r4 m3 m4))
  all_goals
    have HR : Hid (∃ S', It (W2.setCell ⟨s, 1, none⟩ (.slice (some ⟨g', 0, none⟩) (N + 1) cap')) S' s d (L ++ [v]) ∧ Kept S w (W2.setCell ⟨s, 1, none⟩ (.slice (some ⟨g', 0, none⟩) (N + 1) cap')) ∧ ∀ k, S' k → S k ∨ w.heap.size ≤ k) := by
      refine ⟨_, HI.out, HKP.out, fun k hk => ?_⟩
      rcases hk with hk | rfl | rfl
      · exact .inl hk
      · exact .inr HG1.out
      · exact HR3.out.imp (HS.out _) id
    clear m1 m2 e1 e2
    go_wp2
    go_ret2
    exact ⟨rfl, HR.out⟩

theorem atD_no (h : It w S s d L) (id : Int) (hid : ¬ (0 ≤ id ∧ id < (L.length : Int))) :
    Calls Try.prog 54 #[.pointer (some ⟨s, 0, none⟩), .int .i64 id] w fun e w' => e = .returned (.tuple #[.slice none 0 0, .bool false]) ∧ w = w' := by
  have HH := Lib.hid (hasD h id false (by simp; omega))
  clear h hid
  go_enter Try.func54, Try.ntmps54
  go_wp2_with fail
  refine HH.out.mono ?_
  rintro _ _ ⟨rfl, rfl⟩
  go_wp2
  go_ret2
  exact ⟨rfl, rfl⟩
theorem atD (h : It w S s d L) {k : Nat} {l : List Int} (hl : L[k]? = some l) :
    Calls Try.prog 54 #[.pointer (some ⟨s, 0, none⟩), .int .i64 (k : Int)] w fun e w' => ∃ g, e = .returned (.tuple #[.slice (some ⟨g, 0, none⟩) d.toNat d.toNat, .bool true]) ∧ w.heap.size ≤ g ∧ Blk w' g l ∧ Below w.heap.size w w' := by
  have hk : k < L.length := (List.getElem?_eq_some_iff.1 hl).1
  have HH := Lib.hid (hasD h (k : Int) true (by simp; omega))
  obtain ⟨A, c, c0, c1, f1, -, -, hat⟩ := h.open_
  obtain ⟨b, off, g, rfl, hb, c2, hB⟩ := hat k l hl
  have hc := h.ok.at_ hl
  have HC := Lib.hid (clone_any (some ⟨g, 0, none⟩) d.toNat d.toNat l w (hB.vecD hc) (by have := dim_max hc; omega))
  obtain ⟨N, hN⟩ : ∃ N, N = L.length := ⟨_, rfl⟩
  rw [← hN] at c1 hk
  have k0 : (0 : Int) ≤ (k : Int) := by omega
  have k1 : (k : Int) < (N : Int) := by omega
  clear h c0 f1 hat hB hc hl hN hb
  go_enter Try.func54, Try.ntmps54
  go_wp2_with fail
  refine HH.out.mono ?_
  rintro _ _ ⟨rfl, rfl⟩
  go_wp2_with fail
  refine HC.out.mono ?_
  rintro _ w1 ⟨g1, rfl, hg, hk1, hb1⟩
  have HG := Lib.hid hg
  have HK := Lib.hid hk1
  have HB := Lib.hid hb1
  clear hg hk1 hb1 HC HH
  go_wp2
  go_ret2
  exact ⟨g1, rfl, HG.out, HK.out, HB.out⟩
theorem far_nil (v : List Int) : Vm.far [] v = 0 := (Vm.wrap_in (by cases v <;> simp [Vm.farZ]) (by cases v <;> simp [Vm.farZ])).trans (by cases v <;> simp [Vm.farZ])
end
end Go.Proofs.Ytafkbagjjknhlaa
