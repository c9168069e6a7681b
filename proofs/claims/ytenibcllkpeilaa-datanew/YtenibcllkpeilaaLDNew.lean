/-
  DataNew holds for every input: what is told, and what was handed in, is new memory: written into it changes no item. No condition.
-/
import Derived.Test.YtenibcllkpeilaaDAwk
import Derived.Test.YtenibcllkpeilaaDRef
import Derived.Test.YtenibcllkpeilaaDIter
import Derived.Test.YtenibcllkpeilaaGApp
import Derived.ProofKit
import Derived.OpenShut
import Derived.ShutString
import Derived.ChangeOld
import Derived.WalkSmall
namespace Go.Proofs.Ytenibcllkpeilaa.dataNew
open Go.ChangeShapes Go.WideShapes Go.ChangeAt Go.RowKit Go.Deep Go.Shelf
open Go.ChangeMaps (open_string shut_string)
set_option linter.unusedVariables false
attribute [local go_sem] Oper.semAt_some

theorem grown_below {w0 w w' : World} {B : Nat} {row : Option Nat} (hb : Below B w0 w) (hg : w.grownBy w' row) (hB : B ≤ w.heap.size) (hr : ∀ k, row = some k → B ≤ k) : Below B w0 w' := hb.grown hg hB hr
theorem of_ownV {w : World} {base : Nat} {A : Option Addr} {n c : Nat} {l : List Int} (h : w.ownsRow base 21 1 (.slice A n c) n (l.map (Value.int .i32)))
    (hl : ∀ x ∈ l, -2147483648 ≤ x ∧ x ≤ 2147483647) : Vec w A n l := ⟨Lst.of_own h, hl⟩
/-- a copy at the end of what there is: append([]int32{}, l...) -/
theorem copied {W W' : World} {n : Nat} {l : List Int} {v' : Value} (h : W'.ownsRow W.heap.size 21 1 v' (0 + n) ([] ++ l.map (Value.int .i32))) (hg : (W.alloc (.cells #[] 21)).grownBy W' (Value.slice (some ⟨W.heap.size, 0, none⟩) 0 0).ownBlock)
    (hl : ∀ x ∈ l, -2147483648 ≤ x ∧ x ≤ 2147483647) (h0 : 0 < n) :
    ∃ g c, v' = .slice (some ⟨g, 0, none⟩) n c ∧ n ≤ c ∧ W.heap.size ≤ g ∧ g < W'.heap.size ∧ Vec W' (some ⟨g, 0, none⟩) n l ∧ Below W.heap.size W W' ∧ ∃ cs, W'.heap[g]? = some (.cells cs 21 (0, 0)) := by
  rw [Nat.zero_add, List.nil_append] at h
  have hb : Below W.heap.size W W' := ((Below.refl _ W).alloc (Nat.le_refl _) _).grown hg (by simp) (fun k hk => by simp [Value.ownBlock] at hk; omega)
  rcases h.2 with ⟨_, h1⟩ | ⟨g, cap, cur, rfl, hg2, hb2, h3, _⟩
  · omega
  · exact ⟨g, cap, rfl, h3, hg2, lt_of_block hb2, of_ownV h hl, hb, cur, hb2⟩

theorem first_cell {w : World} {g n : Nat} {l : List Int} (h : Vec w (some ⟨g, 0, none⟩) n l) (h0 : 0 < n) : ∃ x, w.cell? ⟨g, 0, none⟩ = some (.int .i32 x) := by
  obtain ⟨b, off, e, -, hc, -, -⟩ := h.at_ (k := 0) h0 (by rw [h.length]; exact h0)
  injection e with e
  injection e with e1 e2
  subst e1
  subst e2
  exact ⟨_, hc⟩
theorem vec_kept {S : Nat → Prop} {W W' : World} {g n : Nat} {l : List Int} (h : Vec W (some ⟨g, 0, none⟩) n l) (hk : Kept S W W') (hS : ¬ S g) : Vec W' (some ⟨g, 0, none⟩) n l := by
  refine ⟨⟨h.1.1, fun h0 => ?_⟩, h.2⟩
  obtain ⟨b, off, e, hb, hc⟩ := h.1.2 h0
  injection e with e
  injection e with e1 e2
  subst e1
  subst e2
  exact ⟨g, 0, rfl, Nat.lt_of_lt_of_le hb hk.size, fun j u hu => (World.cell?_of_block (a := ⟨g, 0 + j, none⟩) (hk.block g hb hS)).trans (hc j u hu)⟩
/-- what stands in a world: the items x and y, and what was handed in first -/
structure Std (w : World) (s : Nat) (S : Nat → Prop) (sy : Nat) (T : Nat → Prop) (g3 n : Nat) (l r : List Int) (W : World) : Prop where
  x : It W S s (n : Int) [l, r]
  y : It W T sy (n : Int) [l]
  was : Vec W (some ⟨g3, 0, none⟩) n l
  be : Below w.heap.size w W
section
variable {w W W' : World} {s sy g3 n : Nat} {S T : Nat → Prop} {l r : List Int}
theorem Std.below (h : Std w s S sy T g3 n l r W) (hb : Below W.heap.size W W') : Std w s S sy T g3 n l r W' := ⟨h.x.below hb, h.y.below hb, h.was.below hb, h.be.trans (hb.mono h.be.size)⟩
theorem Std.set (h : Std w s S sy T g3 n l r W) {g o : Nat} (u : Value) (h1 : ¬ S g) (h2 : ¬ T g) (h3 : g3 ≠ g) (h4 : w.heap.size ≤ g) : Std w s S sy T g3 n l r (W.setCell ⟨g, o, none⟩ u) := by
  have hk : Kept (fun q => q = g) W (W.setCell ⟨g, o, none⟩ u) := (Kept.refl _ W).setCell (.inl rfl)
  exact ⟨h.x.other hk fun k hk e => h1 (e ▸ hk), h.y.other hk fun k hk e => h2 (e ▸ hk), vec_kept h.was hk h3, h.be.setCell h4 u⟩
theorem Std.atX (h : Std w s S sy T g3 n l r W) : Calls Try.prog 18 #[.pointer (some ⟨s, 0, none⟩), .int .i64 0] W fun e w' => ∃ g, e = .returned (.tuple #[.slice (some ⟨g, 0, none⟩) n n, .bool true]) ∧ W.heap.size ≤ g ∧ Blk w' g l ∧ Std w s S sy T g3 n l r w' ∧ Below W.heap.size W w' :=
  (atD h.x (k := 0) (l := l) rfl).mono fun _ _ ⟨g, h1, h2, h3, h4⟩ => ⟨g, by rw [Int.toNat_natCast] at h1; exact h1, h2, h3, h.below h4, h4⟩
theorem Std.atY (h : Std w s S sy T g3 n l r W) : Calls Try.prog 18 #[.pointer (some ⟨sy, 0, none⟩), .int .i64 0] W fun e w' => ∃ g, e = .returned (.tuple #[.slice (some ⟨g, 0, none⟩) n n, .bool true]) ∧ W.heap.size ≤ g ∧ Blk w' g l ∧ Std w s S sy T g3 n l r w' ∧ Below W.heap.size W w' :=
  (atD h.y (k := 0) (l := l) rfl).mono fun _ _ ⟨g, h1, h2, h3, h4⟩ => ⟨g, by rw [Int.toNat_natCast] at h1; exact h1, h2, h3, h.below h4, h4⟩
theorem Std.all (h : Std w s S sy T g3 n l r W) : Calls Try.prog 14 #[.pointer (some ⟨s, 0, none⟩)] W fun e w' => ∃ q U, e = .returned (.func (.func 24) #[] #[.pointer (some ⟨q, 0, none⟩)]) ∧ Tol w' U q (n : Int) [l, r] ∧ (∀ k, U k → k < w'.heap.size) ∧ Std w s S sy T g3 n l r w' ∧ W.heap.size ≤ w'.heap.size :=
  (allD h.x).mono fun _ _ ⟨h1, h2, h3⟩ => ⟨_, _, h1, h2, h2.lt, h.below h3, h3.size⟩
end

/-- a round of the range: nothing that stood when it began is changed -/
structure Rnd (WD W : World) : Prop where
  be : Below WD.heap.size WD W
  sz : WD.heap.size + 2 ≤ W.heap.size
theorem Rnd.off {WD W W' : World} (h : Rnd WD W) (ho : Off (WD.heap.size + 1) W W') : Rnd WD W' :=
  ⟨h.be.trans ⟨ho.os, ho.tape, ho.output, by rw [ho.size]; exact Nat.le_refl _, fun j hj => ho.block j (by omega)⟩, by rw [ho.size]; exact h.sz⟩

set_option maxHeartbeats 3200000 in
set_option maxRecDepth 100000 in
theorem walk (a0 : Option Addr) (n cap0 : Nat) (z0 : List Int) (a1 : Option Addr) (m cap1 : Nat) (z1 : List Int) (w : World) (w0 : IsRow .i32 w a0 n cap0 z0) (w1 : IsRow .i32 w a1 m cap1 z1) :
    Calls Try.prog 5 #[.slice a0 n cap0, .slice a1 m cap1] w fun e w' => e = .returned (.bool true) ∧ Below w.heap.size w w' := by
  obtain ⟨i0, hi, hz0, hz1, hz2⟩ := info_parts Try.infoI32
  obtain ⟨l, hV, m0, hA0⟩ := w0.vec
  obtain ⟨r, hV', m1, -⟩ := w1.vec
  have V0 := Lib.hid hV
  have V1 := Lib.hid hV'
  have HA0 := Lib.hid hA0
  have HM0 := Lib.hid m0
  have HM1 := Lib.hid m1
  clear w0 w1 hV hV' hA0 m0 m1
  refine (callsIn_wide (n := 6)).1 ?_
  refine callsIn_of_wp_marks Try.func5 rfl trivial ?_ rfl
  simp only [Try.ntmps5, List.size_toArray, List.length_cons, List.length_nil, Nat.reduceAdd, Nat.reduceSub, Array.replicate_succ, Array.replicate_zero, List.push_toArray, List.append_toArray, List.nil_append, List.cons_append]
  gi_wp2_with fail
  refine ⟨trivial, ?_⟩
  refine (callsIn_wide.2 (awake_any _)).mono ?_
  rintro _ W1 ⟨rfl, hb1⟩
  have B1 := Lib.hid hb1
  have V0a := Lib.hid (V0.out.below hb1)
  have V1a := Lib.hid (V1.out.below hb1)
  clear hb1 V0 V1
  by_cases g0 : 1024 < n
  · have d0 : decide (1024 < (n : Int)) = true := by simp; omega
    gi_wp2
    exact ⟨_, results_tmp rfl _ _ _, rfl, B1.out⟩
  have d0 : decide (1024 < (n : Int)) = false := by simp; omega
  by_cases g1 : 1024 < m
  · have d1 : decide (1024 < (m : Int)) = true := by simp; omega
    gi_wp2
    exact ⟨_, results_tmp rfl _ _ _, rfl, B1.out⟩
  have d1 : decide (1024 < (m : Int)) = false := by simp; omega
  have n0 : n ≤ 1024 := by omega
  have m0 : m ≤ 1024 := by omega
  clear g0 g1 HM0 HM1
  obtain ⟨Wa, hWa⟩ : ∃ Wa, Wa = W1.alloc (.cells #[.slice a0 n cap0, .slice a1 m cap1] 31) := ⟨_, rfl⟩
  have ba : Below W1.heap.size W1 Wa := by rw [hWa]; exact (Below.refl _ W1).alloc (Nat.le_refl _) _
  have la : Lv Wa (some ⟨W1.heap.size, 0, none⟩) 2 2 [l, r] := lv_two (by rw [hWa]; exact heap_new W1 _ _) (V0a.out.below ba) (V1a.out.below ba) (by unfold maxLen; omega) (by unfold maxLen; omega)
  have HWa := Lib.hid hWa
  have Ba := Lib.hid (B1.out.trans (ba.mono B1.out.size))
  have V0b := Lib.hid (V0a.out.below ba)
  have La := Lib.hid la
  clear hWa ba la
  by_cases hc : Dm.chks (n : Int) [l, r] = 0
  case neg =>
    have HO := Lib.hid (ofD_no La.out (by omega) (n : Int) hc)
    obtain ⟨z, hz⟩ : ∃ z, z = Dm.chks (n : Int) [l, r] := ⟨_, rfl⟩
    rw [← hz] at HO hc
    have hq : (z != 0) = true := by simpa using hc
    clear hz hc
    gi_wp2_with fail
    rw [← HWa.out]
    refine ⟨trivial, ?_⟩
    refine (callsIn_wide.2 HO.out).mono ?_
    rintro _ W2 ⟨rfl, hb2⟩
    have B2 := Lib.hid (Ba.out.trans (hb2.mono Ba.out.size))
    clear hb2 HO
    gi_wp2
    exact ⟨_, results_tmp rfl _ _ _, rfl, B2.out⟩
  obtain ⟨c0, c1, hok⟩ := Dm.chks_zero hc
  have hcl : Vm.chk l (n : Int) = 0 := hok l (by simp)
  have HCL := Lib.hid hcl
  have hpos : 0 < n := by omega
  have HO := Lib.hid (ofD La.out (by omega) (n : Int) hc)
  clear hc hok c0 c1 d0 d1 hcl
  gi_wp2_with fail
  rw [← HWa.out]
  refine ⟨trivial, ?_⟩
  refine (callsIn_wide.2 HO.out).mono ?_
  rintro _ W2 ⟨s, S, rfl, hi2, hS2, hb2⟩
  have HX2 := Lib.hid hi2
  have HS := Lib.hid hi2.lt
  have B2 := Lib.hid (Ba.out.trans (hb2.mono Ba.out.size))
  have V0c := Lib.hid (V0b.out.below hb2)
  clear hb2 HO hS2 hi2 V0a V1a V0b La B1 Ba HWa
  have hin := Lib.hid V0c.out.2
  have s2 := B2.out.size
  have Oa := Lib.hid (own_empty W2 21)
  have Ea := Lib.hid (show Below W2.heap.size W2 (W2.alloc (.cells #[] 21)) from (Below.refl _ W2).alloc (Nat.le_refl _) _)
  gi_wp2_with (first
    | (gi_at_builtin; refine append_lst_in _ rfl (.tmp 46) (.tmp 47) 31 rfl W2.heap.size 21 i0 (.int .i32 0) 4 Try.underlying31 hi hz0 hz1 hz2 rfl (.slice (some ⟨W2.heap.size, 0, none⟩) 0 0) 0 [] rfl Oa.out W2.heap.size a0 n cap0 (l.map (Value.int .i32)) rfl HA0.out (V0c.out.1.below Ea.out) (ints_one .i32 l) (by unfold maxLen; omega) (by omega) Ea.out.size ?_; intro v1 W3 q1 q2; obtain ⟨g3, c3, rfl, hc3, hg3, hl3, hv3, hb3, -⟩ := copied q1 q2 hin.out hpos; have VW3 := Lib.hid hv3; have HX3 := Lib.hid (HX2.out.below hb3); have V03 := Lib.hid (V0c.out.below hb3); have B3 := Lib.hid (B2.out.trans (hb3.mono B2.out.size)); have s3 := hb3.size; have Ob := Lib.hid (own_empty W3 21); have Eb := Lib.hid (show Below W3.heap.size W3 (W3.alloc (.cells #[] 21)) from (Below.refl _ W3).alloc (Nat.le_refl _) _); clear q1 q2 hv3 hb3)
    | (gi_at_builtin; refine append_lst_in _ rfl (.tmp 49) (.tmp 50) 31 rfl W3.heap.size 21 i0 (.int .i32 0) 4 Try.underlying31 hi hz0 hz1 hz2 rfl (.slice (some ⟨W3.heap.size, 0, none⟩) 0 0) 0 [] rfl Ob.out W3.heap.size a0 n cap0 (l.map (Value.int .i32)) rfl HA0.out (V03.out.1.below Eb.out) (ints_one .i32 l) (by unfold maxLen; omega) (by omega) Eb.out.size ?_; intro v2 W4 q1 q2; obtain ⟨g4, c4, rfl, hc4, hg4, hl4, hv4, hb4, -⟩ := copied q1 q2 hin.out hpos; have VA4 := Lib.hid hv4; have VW4 := Lib.hid (VW3.out.below hb4); have HX4 := Lib.hid (HX3.out.below hb4); have B4 := Lib.hid (B3.out.trans (hb4.mono B3.out.size)); have s4 := hb4.size; have Oc := Lib.hid (own_empty W4 21); have Ec := Lib.hid (show Below W4.heap.size W4 (W4.alloc (.cells #[] 21)) from (Below.refl _ W4).alloc (Nat.le_refl _) _); clear q1 q2 hv4 hb4)
    | (gi_at_builtin; refine append_lst_in _ rfl (.tmp 52) (.tmp 53) 31 rfl W4.heap.size 21 i0 (.int .i32 0) 4 Try.underlying31 hi hz0 hz1 hz2 rfl (.slice (some ⟨W4.heap.size, 0, none⟩) 0 0) 0 [] rfl Oc.out W4.heap.size (some ⟨g4, 0, none⟩) n c4 (l.map (Value.int .i32)) rfl (fun h => by cases h) (VA4.out.1.below Ec.out) (ints_one .i32 l) (by unfold maxLen; omega) (by omega) Ec.out.size ?_; intro v3 W5 q1 q2; obtain ⟨g5, c5, rfl, hc5, hg5, hl5, hv5, hb5, hf5⟩ := copied q1 q2 hin.out hpos; have VC5 := Lib.hid hv5; have VW5 := Lib.hid (VW4.out.below hb5); have HX5 := Lib.hid (HX4.out.below hb5); have B5 := Lib.hid (B4.out.trans (hb5.mono B4.out.size)); have s5 := hb5.size; have HF5 := Lib.hid hf5; clear q1 q2 hv5 hb5 hf5))
  obtain ⟨Wb, hWb⟩ : ∃ Wb, Wb = W5.alloc (.cells #[.slice (some ⟨g5, 0, none⟩) n c5] 31) := ⟨_, rfl⟩
  have bb : Below W5.heap.size W5 Wb := by rw [hWb]; exact (Below.refl _ W5).alloc (Nat.le_refl _) _
  have lb : Lv Wb (some ⟨W5.heap.size, 0, none⟩) 1 1 [l] := lv_one (by rw [hWb]; exact heap_new W5 _ _) (VC5.out.below bb) (by unfold maxLen; omega)
  have hOb := ofD lb (by omega) (n : Int) (Dm.chks_ok (by omega) (by omega) fun x hx => by simp at hx; rw [hx]; exact HCL.out)
  have HO := Lib.hid hOb
  have sb := bb.size
  have Bb := Lib.hid (B5.out.trans (bb.mono B5.out.size))
  have HXb := Lib.hid (HX5.out.below bb)
  have VCb := Lib.hid (VC5.out.below bb)
  have VWb := Lib.hid (VW5.out.below bb)
  have HWb := Lib.hid hWb
  have HFb := Lib.hid (show ∃ cs, Wb.heap[g5]? = some (.cells cs 21 (0, 0)) from by obtain ⟨cs, h⟩ := HF5.out; exact ⟨cs, (bb.block g5 hl5).trans h⟩)
  clear hOb hWb bb lb HX2 V0c Oa Ea VW3 HX3 V03 Ob Eb VA4 VW4 HX4 Oc Ec VC5 VW5 HX5 HF5 B2 B3 B4 B5
  rw [← HWb.out]
  refine ⟨trivial, ?_⟩
  refine (callsIn_wide.2 HO.out).mono ?_
  rintro _ W6 ⟨sy, T, rfl, hi6, hT6, hb6⟩
  have hst : Std w s S sy T g3 n l r W6 := ⟨HXb.out.below hb6, hi6, VWb.out.below hb6, Bb.out.trans (hb6.mono Bb.out.size)⟩
  obtain ⟨x5, hx5⟩ := first_cell (VCb.out.below hb6) hpos
  have hf5 : W6.frozen? ⟨g5, 0, none⟩ = false := by obtain ⟨cs, h⟩ := HFb.out; exact frozen_of_row _ _ _ _ _ ((hb6.block g5 (lt_of_block h)).trans h)
  have nS : ∀ q, W2.heap.size ≤ q → ¬ S q := fun q hq h => by have := HS.out q h; omega
  have nT : ∀ q, q < Wb.heap.size → ¬ T q := fun q hq h => by have := hT6 q h; omega
  have s6 := hb6.size
  have sw := Bb.out.size
  have HT6 := Lib.hid hi6.lt
  have HA := Lib.hid (fun u => (hst.set (g := g5) (o := 0) u (nS g5 (by omega)) (nT g5 (by omega)) (by omega) (by omega)).atX)
  clear hi6 hT6 hb6 HO HXb VCb VWb Bb HWb HFb hst nT
  gi_wp2_with fail
  refine ⟨trivial, ?_⟩
  refine (callsIn_wide.2 (HA.out _)).mono ?_
  rintro _ W8 ⟨g8, rfl, hg8, hk8, hst8, hb8⟩
  have hg8' : W6.heap.size ≤ g8 := by simpa [World.setCell] using hg8
  have s8 : W6.heap.size ≤ W8.heap.size := by simpa [World.setCell] using hb8.size
  obtain ⟨x8, hx8⟩ := first_cell (hk8.vec (by have := Dm.len_of HCL.out; rw [Int.toNat_natCast] at this; exact this) hin.out) hpos
  have hf8 : W8.frozen? ⟨g8, 0, none⟩ = false := frozen_of_row _ _ _ _ _ hk8
  have gn : ((n : Int) == 0) = false := by simp; omega
  have HA8 := Lib.hid (fun u => (hst8.set (g := g8) (o := 0) u (fun h => by have := HS.out _ h; omega) (fun h => by have := HT6.out _ h; omega) (by omega) (by omega)).all)
  clear hg8 hk8 hst8 hb8 HA hx5 hf5
  gi_wp2_with fail
  refine ⟨trivial, ?_⟩
  refine (callsIn_wide.2 (HA8.out _)).mono ?_
  rintro _ W9 ⟨q, U, rfl, ht9, hU9, hst9, hs9⟩
  have HT9 := Lib.hid ht9
  have HU9 := Lib.hid hU9
  have HS9 := Lib.hid hst9
  have s9 : W8.heap.size ≤ W9.heap.size := by simpa [World.setCell] using hs9
  clear ht9 hU9 hst9 hs9 HA8 hx8 hf8 gn
  gi_wp2
  have HDIM := Lib.hid HCL.out
  refine range_keeps (n := 6) rfl (by omega) (gf := 24) (lb := #[.pointer (some ⟨q, 0, none⟩)]) rfl trivial (enters_of Try.func24 (by kernel_rfl) rfl)
    (fun k W => Rnd W9 W)
    (fun k vs W => ∃ g x, vs = #[.int .i64 (k : Int), .slice (some ⟨g, 0, none⟩) n n] ∧ W9.heap.size + 2 ≤ g ∧ Rnd W9 W ∧ Blk W g x ∧ x.length = n ∧ ∀ y ∈ x, -2147483648 ≤ y ∧ y ≤ 2147483647)
    (fun W => Rnd W9 W)
    (fun _ _ => False)
    (fun vs t => ((t.setIfInBounds 91 (vs.getD 0 undef)).setIfInBounds 92 (vs.getD 1 undef)).setIfInBounds 14 (vs.getD 1 undef))
    (fun k W W' h ho => h.off ho) (fun k vs W W' h ho => by obtain ⟨g, x, h1, h2, h3, h4, h5⟩ := h; exact ⟨g, x, h1, h2, h3.off ho, (ho.block g (by omega)).trans h4, h5⟩) (fun W W' h ho => h.off ho)
    (fun c W W' h hb => h) (fun k vs W h => by obtain ⟨g, x, h1, -⟩ := h; rw [h1]; rfl) (fun W hb hs => ⟨hb, by omega⟩) ?iter ?assign ?body ?done ?stop
  case iter =>
    intro y Kk Y hK hY W hI hKW
    refine iterD (m := 4) HT9.out (by simp) (fun k W => Rnd W9 W) Kk Y (fun k W h => ⟨by have := h.sz; omega, fun j hj => h.be.block j (HU9.out j hj)⟩) (fun V V' h hb => hK V V' h (kf_kept (Kept.of_below (S := fun _ => False) hb) (fun k h => h.elim))) ?_ W hI hKW
    intro k x g1 V V' hx hr hb hg hk hKV
    have hcx : Vm.chk x (n : Int) = 0 := HS9.out.x.ok.at_ hx
    have := hY k #[.int .i64 (k : Int), .slice (some ⟨g1, 0, none⟩) n n] V' ⟨g1, x, rfl, by have := hr.sz; omega, ⟨hr.be.trans (hb.mono hr.be.size), Nat.le_trans hr.sz hb.size⟩, hk, by have := Dm.len_of hcx; rwa [Int.toNat_natCast] at this, Dm.in_of hcx⟩ hKV
    rw [Int.toNat_natCast]
    exact this
  case assign =>
    rintro y k vs W K ⟨g, x, rfl, -⟩ hK
    gi_wp2
    exact hK
  case body =>
    rintro y k vs W ⟨g, x, rfl, hg, hr, hk, hxl, hxb⟩
    obtain ⟨x0, hx0⟩ := first_cell (hk.vec hxl hxb) hpos
    have hf0 : W.frozen? ⟨g, 0, none⟩ = false := frozen_of_row _ _ _ _ _ hk
    have HP2 := Lib.hid (fun u => And.intro (kf_cell (D := W9.heap.size) (u := u) (o := 0) hk) (show Rnd W9 (W.setCell ⟨g, 0, none⟩ u) from ⟨hr.be.setCell (p := ⟨g, 0, none⟩) (by show W9.heap.size ≤ g; omega) u, by simp [World.setCell]; exact hr.sz⟩))
    generalize hP : leftBy W9.heap.size _ _ W = Pst
    have HP := Lib.hid hP
    clear hP hr hk hxl hxb
    gi_wp2
    rw [← HP.out]
    exact HP2.out _
  case done =>
    rintro D W rfl hr hK
    have HSD := Lib.hid (HS9.out.below (W' := W) hr.be)
    have HKD := Lib.hid hK
    have HAX := Lib.hid HSD.out.atX
    clear hr hK
    gi_wp2_with fail
    refine ⟨trivial, ?_⟩
    refine (callsIn_wide.2 HAX.out).mono ?_
    rintro _ WA ⟨ga, rfl, -, hka, hsa, hba⟩
    have HSA := Lib.hid hsa
    have HKA := Lib.hid ((hba.block _ (Array.getElem?_eq_some_iff.1 HKD.out).1).trans HKD.out)
    have hlen : l.length = n := by have := Dm.len_of HCL.out; rwa [Int.toNat_natCast] at this
    have HVA := Lib.hid (hka.vec hlen hin.out)
    have HAY := Lib.hid hsa.atY
    clear hka hsa hba HKD HSD HAX
    gi_wp2_with fail
    refine ⟨trivial, ?_⟩
    refine (callsIn_wide.2 HAY.out).mono ?_
    rintro _ WB ⟨gb, rfl, -, hkb, hsb, hbb⟩
    have HKB := Lib.hid ((hbb.block _ (Array.getElem?_eq_some_iff.1 HKA.out).1).trans HKA.out)
    have HVB := Lib.hid (hkb.vec hlen hin.out)
    have HVX := Lib.hid (HVA.out.below hbb)
    have HBW := Lib.hid hsb.be
    have HWS := Lib.hid hsb.was
    have F1 := Lib.hid (fun m => refSame_t (c := n) (d := c3) (HVX.out.drew m) (HWS.out.drew m) (by omega) (by omega))
    have F2 := Lib.hid (fun m => refSame_t (c := n) (d := c3) (HVB.out.drew m) (HWS.out.drew m) (by omega) (by omega))
    clear hkb hsb hbb HKA HAY HSA HVA
    gi_wp2_with fail
    refine ⟨trivial, ?_⟩
    refine (callsIn_wide.2 (F1.out 0)).mono ?_
    rintro _ _ ⟨rfl, m1, rfl⟩
    gi_wp2_with fail
    refine ⟨trivial, ?_⟩
    refine (callsIn_wide.2 (F2.out m1)).mono ?_
    rintro _ _ ⟨rfl, m2, rfl⟩
    have HKE := Lib.hid (show (WB.drewN (m1 + m2)).heap[W9.heap.size]? = some (.deferred (some [])) from by rw [heap_drewN]; exact HKB.out)
    have HBE := Lib.hid (bdrew HBW.out (m1 + m2))
    rw [World.drewN_drewN]
    have hle : w.heap.size ≤ W9.heap.size := by omega
    gi_wp2
    refine ⟨by simp, .inl ⟨_, _, rfl, run_takeDeferred HKE.out, ?_⟩⟩
    exact ⟨_, results_tmp rfl _ _ _, rfl, HBE.out.trans (below_put hle _)⟩
  case stop => rintro D c W hD h; exact h.elim
theorem own : ownKnob Try.prog.godebug = none := by kernel_rfl
theorem laidOut : laidOutB Try.prog = true := by kernel_rfl
set_option maxRecDepth 100000 in
theorem lifted (os : Os) (started : os.Started) (H : Type) (enc : TypeId × Value → H) :
    ReturnsInHanded {} Try.checked os 5 .any (Rows.dataNewSpec.pre6 enc Try.prog Try.f5 Rows.dataNewRow.domain false) (Rows.dataNewSpec.post enc Try.prog Try.f5 false true false false) := by
  refine returnsInHanded_of_change (C := Try.checked) own started (by kernel_rfl) Try.func5
    (ChangeSpec.witness6 (enc := enc) (C := Try.checked) false ⟨#[], #[.slice none 0 0, .slice none 0 0], []⟩ 8 (by kernel_rfl) (by kernel_rfl) (by kernel_rfl) (by kernel_rfl)) ?_
  intro W base args ds gs before hval0 hW hcnd _
  have hval : ∀ (j : Nat) t v, Try.f5.params[j]? = some t → args[j]? = some v → Value.okWide Try.prog W .any base t v := hval0
  have hW' := hW
  obtain ⟨p, q, hA0, hV, rfl, hfz, hnd⟩ := hW
  have hA : DataW.TrodAll enc Try.prog W 0 (fun _ => true) true Try.f5.params.toList args.toList ds p := hA0
  rw [Try.params5] at hA hval
  obtain ⟨v0, vs0, d0, ds0, p0, q0, hargs, rfl, rfl, h0, r0⟩ := trodAll_cons hA
  obtain ⟨v1, vs1, d1, ds1, p1, q1, rfl, rfl, rfl, h1, r1⟩ := trodAll_cons r0
  obtain ⟨rfl, rfl, rfl⟩ := trodAll_nil r1
  obtain rfl : args = #[v0, v1] := by cases args; simp_all
  obtain ⟨rfl, rfl⟩ := trodVars_none hV
  obtain ⟨a0, len0, cap0, rfl⟩ := okWide_slice Try.underlying31 (hval 0 31 v0 rfl rfl)
  have k0 := h0
  have lt0 : ∀ x ∈ p0, x.block < W.heap.size := by obtain ⟨m, hm⟩ := k0; exact DataW.trod_lt m _ _ _ hm
  obtain ⟨z0, w0⟩ : ∃ zs, IsRow .i32 W a0 len0 cap0 zs := by
    obtain ⟨fuel, hf⟩ := h0
    rcases open_ints Try.underlying31 Try.underlying21 (by kernel_rfl) hf with ⟨hcs, _⟩ | ⟨x, l, c, zs, hcs, _, hl, hm, hz, _, hcell, hwz⟩
    · simp [Value.cells] at hcs
      obtain ⟨rfl, rfl, rfl⟩ := hcs
      exact ⟨[], .inl ⟨rfl, rfl, rfl, rfl⟩⟩
    · simp [Value.cells] at hcs
      obtain ⟨rfl, rfl, rfl⟩ := hcs
      exact ⟨zs, .inr ⟨_, rfl, hl, hm, by simpa using hz, hcell, hwz⟩⟩
  obtain ⟨a1, len1, cap1, rfl⟩ := okWide_slice Try.underlying31 (hval 1 31 v1 rfl rfl)
  have k1 := h1
  have lt1 : ∀ x ∈ p1, x.block < W.heap.size := by obtain ⟨m, hm⟩ := k1; exact DataW.trod_lt m _ _ _ hm
  obtain ⟨z1, w1⟩ : ∃ zs, IsRow .i32 W a1 len1 cap1 zs := by
    obtain ⟨fuel, hf⟩ := h1
    rcases open_ints Try.underlying31 Try.underlying21 (by kernel_rfl) hf with ⟨hcs, _⟩ | ⟨x, l, c, zs, hcs, _, hl, hm, hz, _, hcell, hwz⟩
    · simp [Value.cells] at hcs
      obtain ⟨rfl, rfl, rfl⟩ := hcs
      exact ⟨[], .inl ⟨rfl, rfl, rfl, rfl⟩⟩
    · simp [Value.cells] at hcs
      obtain ⟨rfl, rfl, rfl⟩ := hcs
      exact ⟨zs, .inr ⟨_, rfl, hl, hm, by simpa using hz, hcell, hwz⟩⟩
  clear hA0 hval0
  refine (walk a0 len0 cap0 z0 a1 len1 cap1 z1 W w0 w1).mono fun e W' ⟨he, bel⟩ => ?_
  subst he
  exact ⟨_, rfl, _, _, _, [], _, [], hW', trodAll_mk1 (shut_bool Try.underlying4 _), (trodAll_cons_mk (Below.trod laidOut (by kernel_rfl) (of_decide_eq_true (by kernel_rfl)) k0 bel lt0) (trodAll_cons_mk (Below.trod laidOut (by kernel_rfl) (of_decide_eq_true (by kernel_rfl)) k1 bel lt1) trodAll_mk0)), rfl, bel.frame _, fun h => by cases h⟩
theorem over : Rows.dataNewRow.holds Try.pinned (OpenSpec.ofChange Rows.dataNewSpec) :=
  OpenClaim.holds_of_wide 5 Try.f5 rfl rfl rfl rfl rfl rfl rfl ⟨rfl, rfl, rfl, rfl, rfl⟩ rfl rfl rfl rfl rfl (by kernel_rfl) Try.func5 (by kernel_rfl)
    (of_decide_eq_true (by kernel_rfl)) (by unfold Func.isWrapper; first | (rw [if_pos (by decide +kernel)]; kernel_rfl) | (rw [if_neg (by decide +kernel)]; exact ⟨rfl, rfl⟩))
    (fun os started H enc _ => lifted os started H enc)
/-- the statement -/
theorem proved : Rows.DataNewSaid := over
#print axioms proved
end Go.Proofs.Ytenibcllkpeilaa.dataNew
