/-
  RngRows: so many draws come one by one, each drawn when it is asked for: broken off there were just as many; those of two sources of one state are the same. No condition.
-/
import Derived.Test.YtnhlicfjdnmjcaaRIter
import Derived.Lib.SmallJoins
namespace Go.Proofs.Ytnhlicfjdnmjcaa
open Go.RowKit Go.Joins Go.ChangeShapes Go.WideShapes Go.Deep Go.Shelf
namespace rngRows
attribute [local go_sem] Oper.semAt_some

theorem kf_btw {lo hi B : Nat} {W W' : World} (h : Btw lo hi W W') (hB : hi ≤ B) : KeepsFrom B W W' :=
  ⟨h.size, fun k o hk ho _ => (h.block k (Array.getElem?_eq_some_iff.1 ho).1 (.inr (by omega))).trans ho⟩
/-- the law's variables: the counter behind kc draws, the other source behind ko, seen is ks -/
structure St (w W : World) (lo1 hi1 q lo2 hi2 bo p T : Nat) (F : Nat → Int) (stop n : Int) (kc ko ks : Nat) : Prop where
  y1 : w.heap.size < lo1
  y2 : lo1 ≤ hi1
  y3 : hi1 ≤ lo2
  y4 : lo2 ≤ hi2
  y5 : hi2 ≤ p
  z : p + 5 ≤ W.heap.size
  c : Ctr W lo1 hi1 q (Rm.dr F kc) kc
  o : Src T W lo2 hi2 bo (Rm.dr F ko) ko
  t : W.cell? ⟨w.heap.size, 0, none⟩ = some (.int .i64 stop)
  b : W.cell? ⟨p, 0, none⟩ = some (.iface T (.pointer (some ⟨bo, 0, none⟩)))
  s : W.heap[p + 1]? = some (.cells #[.int .i64 (ks : Int)] 3 (0, 0))
  m : W.heap[p + 1 + 1]? = some (.cells #[.bool true] 4 (0, 0))
  x : W.cell? ⟨p + 1 + 1 + 1, 0, none⟩ = some (.iface 26 (.pointer (some ⟨q, 0, none⟩)))
  e : W.cell? ⟨p + 1 + 1 + 1 + 1, 0, none⟩ = some (.int .i64 n)
  u : Below w.heap.size w W
section
variable {w W W' : World} {lo1 hi1 q lo2 hi2 bo p T : Nat} {F : Nat → Int} {stop n : Int} {kc ko ks k B : Nat}
theorem St.below (h : St w W lo1 hi1 q lo2 hi2 bo p T F stop n kc ko ks) (hb : Below B W W') (hB : B = p + 5) : St w W' lo1 hi1 q lo2 hi2 bo p T F stop n kc ko ks := by
  obtain ⟨y1, y2, y3, y4, y5, z, c, o, t, b, s, m, x, e, u⟩ := h
  subst hB
  exact ⟨y1, y2, y3, y4, y5, Nat.le_trans z hb.size, c.keep hb.size fun k _ q => hb.block k (by omega), o.keep hb.size fun k _ q => hb.block k (by omega),
    (hb.cell (by show w.heap.size < _; omega)).trans t, (hb.cell (by show p < _; omega)).trans b, (hb.block _ (by omega)).trans s, (hb.block _ (by omega)).trans m, (hb.cell (by show p + 1 + 1 + 1 < _; omega)).trans x, (hb.cell (by show p + 1 + 1 + 1 + 1 < _; omega)).trans e,
    u.trans (hb.mono (by omega))⟩
theorem St.drawC (h : St w W lo1 hi1 q lo2 hi2 bo p T F stop n kc ko ks) (hc : Ctr W' lo1 hi1 q (Rm.dr (Rm.dr F kc) k) (kc + k)) (hb : Btw lo1 hi1 W W') : St w W' lo1 hi1 q lo2 hi2 bo p T F stop n (kc + k) ko ks := by
  obtain ⟨y1, y2, y3, y4, y5, z, c, o, t, b, s, m, x, e, u⟩ := h
  rw [Rm.dr_dr] at hc
  exact ⟨y1, y2, y3, y4, y5, Nat.le_trans z hb.size, hc, o.other hb (by omega),
    (hb.cell (by show w.heap.size < _; omega) (by show w.heap.size < _ ∨ _ ≤ w.heap.size; omega)).trans t, (hb.cell (by show p < _; omega) (by show p < _ ∨ _ ≤ p; omega)).trans b, (hb.block _ (by omega) (by omega)).trans s, (hb.block _ (by omega) (by omega)).trans m,
    (hb.cell (by show p + 1 + 1 + 1 < _; omega) (by show p + 1 + 1 + 1 < _ ∨ _ ≤ p + 1 + 1 + 1; omega)).trans x, (hb.cell (by show p + 1 + 1 + 1 + 1 < _; omega) (by show p + 1 + 1 + 1 + 1 < _ ∨ _ ≤ p + 1 + 1 + 1 + 1; omega)).trans e,
    u.trans (hb.old u.size (by omega))⟩
theorem St.drawO (h : St w W lo1 hi1 q lo2 hi2 bo p T F stop n kc ko ks) (hc : Src T W' lo2 hi2 bo (Rm.dr (Rm.dr F ko) k) (ko + k)) (hb : Btw lo2 hi2 W W') : St w W' lo1 hi1 q lo2 hi2 bo p T F stop n kc (ko + k) ks := by
  obtain ⟨y1, y2, y3, y4, y5, z, c, o, t, b, s, m, x, e, u⟩ := h
  rw [Rm.dr_dr] at hc
  exact ⟨y1, y2, y3, y4, y5, Nat.le_trans z hb.size, c.other hb (by omega), hc,
    (hb.cell (by show w.heap.size < _; omega) (by show w.heap.size < _ ∨ _ ≤ w.heap.size; omega)).trans t, (hb.cell (by show p < _; omega) (by show p < _ ∨ _ ≤ p; omega)).trans b, (hb.block _ (by omega) (by omega)).trans s, (hb.block _ (by omega) (by omega)).trans m,
    (hb.cell (by show p + 1 + 1 + 1 < _; omega) (by show p + 1 + 1 + 1 < _ ∨ _ ≤ p + 1 + 1 + 1; omega)).trans x, (hb.cell (by show p + 1 + 1 + 1 + 1 < _; omega) (by show p + 1 + 1 + 1 + 1 < _ ∨ _ ≤ p + 1 + 1 + 1 + 1; omega)).trans e,
    u.trans (hb.old u.size (by omega))⟩
theorem cell_set_ne {W : World} {g : Nat} {v u : Value} {a : Addr} (h : W.cell? a = some v) (hg : a.block ≠ g) : (W.setCell ⟨g, 0, none⟩ u).cell? a = some v :=
  (World.cell?_of_block (heap_setCell_other W ⟨g, 0, none⟩ a.block u hg)).trans h
theorem St.setSeen (h : St w W lo1 hi1 q lo2 hi2 bo p T F stop n kc ko ks) : St w (W.setCell ⟨p + 1, 0, none⟩ (.int .i64 ((ks : Int) + 1))) lo1 hi1 q lo2 hi2 bo p T F stop n kc ko (ks + 1) := by
  obtain ⟨y1, y2, y3, y4, y5, z, c, o, t, b, s, m, x, e, u⟩ := h
  have hs : (W.setCell ⟨p + 1, 0, none⟩ (.int .i64 ((ks : Int) + 1))).heap.size = W.heap.size := size_set _ _ _
  exact ⟨y1, y2, y3, y4, y5, by omega, c.keep (by omega) fun k _ q => heap_setCell_other _ _ _ _ (by show k ≠ p + 1; omega), o.keep (by omega) fun k _ q => heap_setCell_other _ _ _ _ (by show k ≠ p + 1; omega),
    cell_set_ne t (by show w.heap.size ≠ p + 1; omega), cell_set_ne b (by show p ≠ p + 1; omega), heap_set_one s, (heap_setCell_other _ _ _ _ (by show p + 1 + 1 ≠ p + 1; omega)).trans m, cell_set_ne x (by show p + 1 + 1 + 1 ≠ p + 1; omega), cell_set_ne e (by show p + 1 + 1 + 1 + 1 ≠ p + 1; omega),
    u.setCell (by show _ ≤ p + 1; omega) _⟩
theorem St.setSame (h : St w W lo1 hi1 q lo2 hi2 bo p T F stop n kc ko ks) : St w (W.setCell ⟨p + 1 + 1, 0, none⟩ (.bool true)) lo1 hi1 q lo2 hi2 bo p T F stop n kc ko ks := by
  obtain ⟨y1, y2, y3, y4, y5, z, c, o, t, b, s, m, x, e, u⟩ := h
  have hs : (W.setCell ⟨p + 1 + 1, 0, none⟩ (.bool true)).heap.size = W.heap.size := size_set _ _ _
  exact ⟨y1, y2, y3, y4, y5, by omega, c.keep (by omega) fun k _ q => heap_setCell_other _ _ _ _ (by show k ≠ p + 1 + 1; omega), o.keep (by omega) fun k _ q => heap_setCell_other _ _ _ _ (by show k ≠ p + 1 + 1; omega),
    cell_set_ne t (by show w.heap.size ≠ p + 1 + 1; omega), cell_set_ne b (by show p ≠ p + 1 + 1; omega), (heap_setCell_other _ _ _ _ (by show p + 1 ≠ p + 1 + 1; omega)).trans s, heap_set_one m, cell_set_ne x (by show p + 1 + 1 + 1 ≠ p + 1 + 1; omega), cell_set_ne e (by show p + 1 + 1 + 1 + 1 ≠ p + 1 + 1; omega),
    u.setCell (by show _ ≤ p + 1 + 1; omega) _⟩
theorem St.seen (h : St w W lo1 hi1 q lo2 hi2 bo p T F stop n kc ko ks) : W.cell? ⟨p + 1, 0, none⟩ = some (.int .i64 (ks : Int)) ∧ W.frozen? ⟨p + 1, 0, none⟩ = false :=
  ⟨by rw [cell_of_row _ _ _ _ _ _ h.s]; rfl, frozen_of_row _ _ _ _ _ h.s⟩
theorem St.same (h : St w W lo1 hi1 q lo2 hi2 bo p T F stop n kc ko ks) : W.cell? ⟨p + 1 + 1, 0, none⟩ = some (.bool true) ∧ W.frozen? ⟨p + 1 + 1, 0, none⟩ = false :=
  ⟨by rw [cell_of_row _ _ _ _ _ _ h.m]; rfl, frozen_of_row _ _ _ _ _ h.m⟩
end
theorem alloc_old {W : World} {k : Nat} {o : Obj} (o' : Obj) (h : W.heap[k]? = some o) : (W.alloc o').heap[k]? = some o := (Below.heap_alloc W o' k (Array.getElem?_eq_some_iff.1 h).1).trans h
/-- five boxes behind one another -/
theorem five (W : World) (v1 v2 v3 v4 v5 : Value) (t1 t2 t3 t4 t5 : TypeId) :
    let V := ((((W.alloc (.cells #[v1] t1)).alloc (.cells #[v2] t2)).alloc (.cells #[v3] t3)).alloc (.cells #[v4] t4)).alloc (.cells #[v5] t5)
    V.heap[W.heap.size]? = some (.cells #[v1] t1 (0, 0)) ∧ V.heap[W.heap.size + 1]? = some (.cells #[v2] t2 (0, 0)) ∧ V.heap[W.heap.size + 1 + 1]? = some (.cells #[v3] t3 (0, 0)) ∧
    V.heap[W.heap.size + 1 + 1 + 1]? = some (.cells #[v4] t4 (0, 0)) ∧ V.heap[W.heap.size + 1 + 1 + 1 + 1]? = some (.cells #[v5] t5 (0, 0)) ∧ V.heap.size = W.heap.size + 5 ∧ Below W.heap.size W V := by
  have h1 := heap_new W #[v1] t1
  have h2 := heap_new (W.alloc (.cells #[v1] t1)) #[v2] t2
  have h3 := heap_new ((W.alloc (.cells #[v1] t1)).alloc (.cells #[v2] t2)) #[v3] t3
  have h4 := heap_new (((W.alloc (.cells #[v1] t1)).alloc (.cells #[v2] t2)).alloc (.cells #[v3] t3)) #[v4] t4
  have h5 := heap_new ((((W.alloc (.cells #[v1] t1)).alloc (.cells #[v2] t2)).alloc (.cells #[v3] t3)).alloc (.cells #[v4] t4)) #[v5] t5
  simp only [World.size_alloc] at h2 h3 h4 h5
  exact ⟨alloc_old _ (alloc_old _ (alloc_old _ (alloc_old _ h1))), alloc_old _ (alloc_old _ (alloc_old _ h2)), alloc_old _ (alloc_old _ h3), alloc_old _ h4, h5, by simp, ((((Below.refl _ W).alloc (Nat.le_refl _) _).alloc (by simp) _).alloc (by simp; omega) _).alloc (by simp; omega) _ |>.alloc (by simp; omega) _⟩

set_option maxHeartbeats 1600000 in
set_option maxRecDepth 100000 in
theorem walk (mixed : Bool) (s : Int) (A : Option Addr) (len cap : Nat) (z : List Int) (n stop : Int) (w : World) (ws : (Lit.int .u64 s).wf = true) (wl : IsRow .u64 w A len cap z) (wn : (Lit.int .i64 n).wf = true) (wt : (Lit.int .i64 stop).wf = true) :
    Calls Try.prog 6 #[.bool mixed, .int .u64 s, .slice A len cap, .int .i64 n, .int .i64 stop] w fun e w' => e = .returned (.bool true) ∧ Below w.heap.size w w' := by
  have G := Lib.hid (Arg.of_row ws wl)
  have bn := bounds_i64 wn
  have bt := bounds_i64 wt
  clear ws wl wn wt
  have q1 := iface_eql
  have B0 : Hid (Below w.heap.size w (w.alloc (.cells #[.int .i64 stop] 3))) := (Below.refl _ _).alloc (Nat.le_refl _) _
  refine (callsIn_wide (n := 6)).1 ?_
  refine callsIn_of_wp_marks Try.func6 rfl trivial ?_ rfl
  simp only [Try.ntmps6, List.size_toArray, List.length_cons, List.length_nil, Nat.reduceAdd, Nat.reduceSub, Array.replicate_succ, Array.replicate_zero, List.push_toArray, List.append_toArray, List.nil_append, List.cons_append]
  gi_wp2_with fail
  refine ⟨trivial, ?_⟩
  refine (callsIn_wide.2 (awake_any _)).mono ?_
  rintro _ w1 ⟨rfl, b1⟩
  have B1 := Lib.hid (B0.out.trans (b1.mono B0.out.size))
  have c0 : w1.cell? ⟨w.heap.size, 0, none⟩ = some (.int .i64 stop) := (b1.cell (p := ⟨w.heap.size, 0, none⟩) (by simp)).trans (by rw [cell_of_row _ _ _ _ _ _ (heap_new _ _ _)]; rfl)
  have s1 : w.heap.size + 1 ≤ w1.heap.size := by have := b1.size; simpa using this
  have C0 := Lib.hid c0
  clear b1 c0 B0
  by_cases hl : 200 < len
  · gi_wp2
    exact ⟨_, results_tmp rfl _ _ _, rfl, B1.out⟩
  by_cases hl' : 300 < n
  · gi_wp2
    exact ⟨_, results_tmp rfl _ _ _, rfl, B1.out⟩
  obtain ⟨F, hF⟩ : ∃ F, F = ofF mixed s (z.take len) := ⟨_, rfl⟩
  obtain ⟨T, hT⟩ : ∃ T, T = ofT mixed := ⟨_, rfl⟩
  have HO : Hid (∀ W, Below w.heap.size w W → Calls Try.prog 10 #[.bool mixed, .int .u64 s, .slice A len cap] W fun e w' => ∃ b, e = .returned (.iface T (.pointer (some ⟨b, 0, none⟩))) ∧ Bas T w' W.heap.size w'.heap.size b F ∧ Below W.heap.size W w') := by
    intro W hW
    rw [hF, hT]
    exact (G.out.below hW).of_ mixed hW.size (by omega)
  clear G hF hT
  gi_wp2_with fail
  refine ⟨trivial, ?_⟩
  refine (callsIn_wide.2 (HO.out _ B1.out)).mono ?_
  rintro _ w2 ⟨b, rfl, h2, b2⟩
  have B2 := Lib.hid (B1.out.trans (b2.mono B1.out.size))
  have HC := Lib.hid (count_new h2)
  have s2 := b2.size
  have C2 := Lib.hid ((b2.cell (p := ⟨w.heap.size, 0, none⟩) (by show w.heap.size < _; omega)).trans C0.out)
  clear h2 b2 B1 C0
  gi_wp2_with fail
  refine ⟨trivial, ?_⟩
  refine (callsIn_wide.2 HC.out).mono ?_
  rintro _ w3 ⟨q, rfl, h3, b3⟩
  have B3 := Lib.hid (B2.out.trans (b3.mono B2.out.size))
  have H3 := Lib.hid h3
  have s3 := b3.size
  have C3 := Lib.hid ((b3.cell (p := ⟨w.heap.size, 0, none⟩) (by show w.heap.size < _; omega)).trans C2.out)
  clear h3 b3 B2 C2 HC
  gi_wp2_with fail
  refine ⟨trivial, ?_⟩
  refine (callsIn_wide.2 (HO.out _ B3.out)).mono ?_
  rintro _ w4 ⟨bo, rfl, h4, b4⟩
  have B4 := Lib.hid (B3.out.trans (b4.mono B3.out.size))
  have H34 := Lib.hid (H3.out.below b4)
  have H4 := Lib.hid h4
  have s4 := b4.size
  have C4 := Lib.hid ((b4.cell (p := ⟨w.heap.size, 0, none⟩) (by show w.heap.size < _; omega)).trans C3.out)
  clear h4 b4 B3 C3 H3 HO
  have HD := Lib.hid (fun W => draws_any (.pointer (some ⟨q, 0, none⟩)) 26 n W)
  gi_wp2_with fail
  refine ⟨trivial, ?_⟩
  refine (callsIn_wide.2 (HD.out _)).mono ?_
  rintro _ _ ⟨rfl, rfl⟩
  clear HD
  gi_wp2
  obtain ⟨W0, hW0⟩ : ∃ W0, W0 = ((((w4.alloc (.cells #[.iface T (.pointer (some ⟨bo, 0, none⟩))] 29)).alloc (.cells #[.int .i64 0] 3)).alloc (.cells #[.bool true] 4)).alloc (.cells #[.iface 26 (.pointer (some ⟨q, 0, none⟩))] 29)).alloc (.cells #[.int .i64 n] 3) := ⟨_, rfl⟩
  rw [← hW0]
  obtain ⟨f1, f2, f3, f4, f5, f6, f7⟩ := five w4 (.iface T (.pointer (some ⟨bo, 0, none⟩))) (.int .i64 0) (.bool true) (.iface 26 (.pointer (some ⟨q, 0, none⟩))) (.int .i64 n) 29 3 4 29 3
  rw [← hW0] at f1 f2 f3 f4 f5 f6 f7
  have S0 : Hid (St w W0 w1.heap.size w3.heap.size q w3.heap.size w4.heap.size bo w4.heap.size T F stop n 0 0 0) :=
    ⟨by omega, by omega, Nat.le_refl _, by omega, Nat.le_refl _, by omega, H34.out.below f7, .inl (H4.out.below f7), (f7.cell (by show w.heap.size < _; omega)).trans C4.out,
      by rw [cell_of_row _ _ _ _ _ _ f1]; rfl, f2, f3, by rw [cell_of_row _ _ _ _ _ _ f4]; rfl, by rw [cell_of_row _ _ _ _ _ _ f5]; rfl, B4.out.trans (f7.mono B4.out.size)⟩
  have me := H4.out.meth
  have hsz := Lib.hid f6
  clear hW0 f1 f2 f3 f4 f5 f6 f7 H34 H4 B4 C4
  obtain ⟨N, hN⟩ : ∃ N : Nat, N = n.toNat := ⟨_, rfl⟩
  refine range_plain (n := 6) rfl (by omega) (gf := 23) (lb := #[.pointer (some ⟨w4.heap.size + 1 + 1 + 1 + 1, 0, none⟩), .pointer (some ⟨w4.heap.size + 1 + 1 + 1, 0, none⟩)]) rfl trivial (enters_of Try.func23 (by kernel_rfl) rfl)
    (fun k W => St w W w1.heap.size w3.heap.size q w3.heap.size w4.heap.size bo w4.heap.size T F stop n k k k ∧ (∀ j : Nat, 1 ≤ j → j ≤ k → (j : Int) ≠ stop))
    (fun k vs W => vs = #[.int .u64 (F k)] ∧ k < N ∧ St w W w1.heap.size w3.heap.size q w3.heap.size w4.heap.size bo w4.heap.size T F stop n (k + 1) k k ∧ (∀ j : Nat, 1 ≤ j → j ≤ k → (j : Int) ≠ stop))
    (fun W => St w W w1.heap.size w3.heap.size q w3.heap.size w4.heap.size bo w4.heap.size T F stop n N N N ∧ (∀ j : Nat, 1 ≤ j → j ≤ N → (j : Int) ≠ stop))
    (fun c W => c = .exit 0 ∧ ∃ k : Nat, 1 ≤ k ∧ k ≤ N ∧ (k : Int) = stop ∧ St w W w1.heap.size w3.heap.size q w3.heap.size w4.heap.size bo w4.heap.size T F stop n k k k)
    (fun vs t => (t.setIfInBounds 45 (vs.getD 0 undef)).setIfInBounds 15 (vs.getD 0 undef))
    (fun k W W' h hb => ⟨h.1.below hb hsz.out, h.2⟩) (fun k vs W W' h hb => ⟨h.1, h.2.1, h.2.2.1.below hb hsz.out, h.2.2.2⟩) (fun W W' h hb => ⟨h.1.below hb hsz.out, h.2⟩)
    (fun c W W' h hb => by obtain ⟨h1, k, h2, h3, h4, h5⟩ := h; exact ⟨h1, k, h2, h3, h4, h5.below hb hsz.out⟩)
    (fun k vs W h => by rw [h.1]; rfl) ⟨S0.out, fun j h1 h2 => absurd h1 (by omega)⟩ ?iter ?assign ?body ?done ?stop
  case iter =>
    intro l B Y hB hY W hi hb
    refine (iter_in (m := 5) (T := 26) N n (by omega) (by omega) (by omega) F
      (fun k W => (St w W w1.heap.size w3.heap.size q w3.heap.size w4.heap.size bo w4.heap.size T F stop n k k k ∧ (∀ j : Nat, 1 ≤ j → j ≤ k → (j : Int) ≠ stop)) ∧ B W)
      (fun k W => (k < N ∧ St w W w1.heap.size w3.heap.size q w3.heap.size w4.heap.size bo w4.heap.size T F stop n (k + 1) k k ∧ (∀ j : Nat, 1 ≤ j → j ≤ k → (j : Int) ≠ stop)) ∧ B W)
      Y meth_counter (fun k W h => ⟨h.1.1.e, h.1.1.x⟩) ?_ ?_ W ⟨hi, hb⟩).mono ?_
    · intro k W h hk
      refine (src_draw h.1.1.c.src (by omega)).mono ?_
      rintro _ W' ⟨rfl, hc, hb'⟩
      exact ⟨ret_int (by rw [Rm.dr_at, Nat.zero_add]), ⟨hk, h.1.1.drawC hc.ctr hb', h.1.2⟩, hB _ _ h.2 (kf_btw hb' (by rw [hsz.out]; omega))⟩
    · intro k W h hk
      exact hY k _ W ⟨rfl, h.1⟩ h.2
    · rintro e W' ⟨hv, h | h⟩
      · exact ⟨hv, .inl h⟩
      · exact ⟨hv, .inr h⟩
  case assign =>
    rintro l k vs W K ⟨rfl, -⟩ hK
    gi_wp2
    exact hK
  case body =>
    rintro l k vs W ⟨rfl, hk, hS, hj⟩
    have hk3 : k < 300 := by omega
    have HS := Lib.hid hS
    have HS1 := Lib.hid hS.setSeen
    have HJ := Lib.hid hj
    have a1 := hS.seen
    have a2 := hS.same
    have a3 := hS.b
    have K1 := src_draw HS1.out.o (by omega)
    rw [Rm.dr_at, Nat.zero_add] at K1
    obtain ⟨xk, hx⟩ : ∃ xk, xk = F k := ⟨_, rfl⟩
    rw [← hx] at K1 ⊢
    have HK1 := Lib.hid K1
    obtain ⟨m1, m2, m3⟩ := me
    have hy := hS.y5
    have hy' := hS.y1
    clear hS hj K1 hx S0
    obtain ⟨e1, e2⟩ := a1
    obtain ⟨e3, e4⟩ := a2
    by_cases hst : (k : Int) + 1 = stop
    · generalize hP : leftBy W0.heap.size _ _ W = Pst
      have HP := Lib.hid hP
      have HT := Lib.hid hst
      have hst' : ((k : Int) + 1 == stop) = true := by simpa using hst
      clear hP hst
      gi_wp2_with fail
      refine ⟨trivial, ?_⟩
      refine (CallsIn.inRound l (callsIn_wide.2 HK1.out)).mono ?_
      rintro _ W2 ⟨rfl, hc, hb⟩
      have HS2 := Lib.hid (HS1.out.drawO hc hb)
      have HB2 : Hid (Btw w3.heap.size (w4.heap.size + 5) W W2) := ((Btw.refl _ _ _).setCell 0 (by omega) (by omega) _).trans (hb.mono (Nat.le_refl _) (by omega))
      clear hc hb HK1 HS1 HS e1 e2 e3 e4 a3 m1 m2 m3
      have e3 := HS2.out.same
      have e1 := HS2.out.seen.1
      have e5 := HS2.out.t
      obtain ⟨e3, e4⟩ := e3
      have ne1 : w.heap.size ≠ w4.heap.size + 1 + 1 := by omega
      gi_wp2
      rw [← HP.out]
      exact ⟨kf_btw (HB2.out.setCell 0 (by omega) (by omega) _) (by rw [hsz.out]; exact Nat.le_refl _), rfl, k + 1, by omega, by omega, HT.out, HS2.out.setSame⟩
    · generalize hP : leftBy W0.heap.size _ _ W = Pst
      have HP := Lib.hid hP
      clear hP
      have hst' : ((k : Int) + 1 == stop) = false := by simpa using hst
      gi_wp2_with fail
      refine ⟨trivial, ?_⟩
      refine (CallsIn.inRound l (callsIn_wide.2 HK1.out)).mono ?_
      rintro _ W2 ⟨rfl, hc, hb⟩
      have HS2 := Lib.hid (HS1.out.drawO hc hb)
      have HB2 : Hid (Btw w3.heap.size (w4.heap.size + 5) W W2) := ((Btw.refl _ _ _).setCell 0 (by omega) (by omega) _).trans (hb.mono (Nat.le_refl _) (by omega))
      clear hc hb HK1 HS1 HS e1 e2 e3 e4 a3 m1 m2 m3
      have e3 := HS2.out.same
      have e1 := HS2.out.seen.1
      have e5 := HS2.out.t
      obtain ⟨e3, e4⟩ := e3
      have ne1 : w.heap.size ≠ w4.heap.size + 1 + 1 := by omega
      gi_wp2
      rw [← HP.out]
      exact ⟨kf_btw (HB2.out.setCell 0 (by omega) (by omega) _) (by rw [hsz.out]; exact Nat.le_refl _), HS2.out.setSame, fun j h1 h2 => by
        by_cases e : j = k + 1
        · omega
        · exact HJ.out j h1 (by omega)⟩
  case done =>
    rintro D W hD ⟨hS, hj⟩ hK
    have hmax : max n 0 = (N : Int) := by omega
    have hmax' : (if n < 0 then 0 else n) = (N : Int) := by split <;> omega
    have e1 := hS.seen.1
    have e3 := hS.same.1
    have e5 := hS.t
    have HD := Lib.hid (drawn_any hS.c)
    have HU := Lib.hid hS.u
    have HK := Lib.hid hK
    have HL : Hid (w.heap.size ≤ D) := by have := HU.out.size; have := hsz.out; exact (by omega : w.heap.size ≤ D)
    by_cases ht : 0 < stop
    · have hns : (N : Int) ≤ stop := Classical.byContradiction fun hn => hj stop.toNat (by omega) (by omega) (by omega)
      clear hS hj S0 me hK hD hN
      gi_wp2_with fail
      refine ⟨trivial, ?_⟩
      refine (callsIn_wide.2 HD.out).mono ?_
      rintro _ _ ⟨rfl, rfl⟩
      gi_wp2
      refine ⟨by simp, .inl ⟨_, _, rfl, run_takeDeferred HK.out, ?_⟩⟩
      exact ⟨_, results_tmp rfl _ _ _, rfl, HU.out.trans (below_put HL.out _)⟩
    · clear hS hj S0 me hK hD hN
      gi_wp2_with fail
      refine ⟨trivial, ?_⟩
      refine (callsIn_wide.2 HD.out).mono ?_
      rintro _ _ ⟨rfl, rfl⟩
      gi_wp2
      refine ⟨by simp, .inl ⟨_, _, rfl, run_takeDeferred HK.out, ?_⟩⟩
      exact ⟨_, results_tmp rfl _ _ _, rfl, HU.out.trans (below_put HL.out _)⟩
  case stop =>
    rintro D c W hD ⟨rfl, k, k1, k2, k3, hS⟩ hK
    have hmax : max n 0 = (N : Int) := by omega
    have hmax' : (if n < 0 then 0 else n) = (N : Int) := by split <;> omega
    have e1 := hS.seen.1
    have e3 := hS.same.1
    have e5 := hS.t
    have HD := Lib.hid (drawn_any hS.c)
    have HU := Lib.hid hS.u
    have HK := Lib.hid hK
    have HL : Hid (w.heap.size ≤ D) := by have := HU.out.size; have := hsz.out; exact (by omega : w.heap.size ≤ D)
    have ht : 0 < stop := by omega
    by_cases hlt : stop < (N : Int)
    · have hq : ((k : Int) == stop) = true := by simpa using k3
      clear hS S0 me hK hD k3 hN
      gi_wp2_with fail
      refine ⟨trivial, ?_⟩
      refine (callsIn_wide.2 HD.out).mono ?_
      rintro _ _ ⟨rfl, rfl⟩
      gi_wp2
      refine ⟨by simp, .inl ⟨_, _, rfl, run_takeDeferred HK.out, ?_⟩⟩
      exact ⟨_, results_tmp rfl _ _ _, rfl, HU.out.trans (below_put HL.out _)⟩
    · obtain rfl : k = N := by omega
      clear k3
      have hns : (k : Int) ≤ stop := by omega
      clear hS S0 me hK hD hN
      gi_wp2_with fail
      refine ⟨trivial, ?_⟩
      refine (callsIn_wide.2 HD.out).mono ?_
      rintro _ _ ⟨rfl, rfl⟩
      gi_wp2
      refine ⟨by simp, .inl ⟨_, _, rfl, run_takeDeferred HK.out, ?_⟩⟩
      exact ⟨_, results_tmp rfl _ _ _, rfl, HU.out.trans (below_put HL.out _)⟩

theorem own : ownKnob Try.prog.godebug = none := by kernel_rfl
theorem laidOut : laidOutB Try.prog = true := by kernel_rfl
set_option maxRecDepth 100000 in
theorem lifted (os : Os) (started : os.Started) (H : Type) (enc : TypeId × Value → H) :
    ReturnsInHanded {} Try.checked os 6 .any (Rows.rngRowsSpec.pre6 enc Try.prog Try.f6 Rows.rngRowsRow.domain false) (Rows.rngRowsSpec.post enc Try.prog Try.f6 false true false false) := by
  refine returnsInHanded_of_change (C := Try.checked) own started (by kernel_rfl) Try.func6
    (ChangeSpec.witness6 (enc := enc) (C := Try.checked) false ⟨#[], #[.bool false, .int .u64 0, .slice none 0 0, .int .i64 0, .int .i64 0], []⟩ 8 (by kernel_rfl) (by kernel_rfl) (by kernel_rfl) (by kernel_rfl)) ?_
  intro W base args ds gs before hval0 hW hcnd _
  have hval : ∀ (j : Nat) t v, Try.f6.params[j]? = some t → args[j]? = some v → Value.okWide Try.prog W .any base t v := hval0
  have hW' := hW
  obtain ⟨p, q, hA0, hV, rfl, hfz, hnd⟩ := hW
  have hA : DataW.TrodAll enc Try.prog W 0 (fun _ => true) true Try.f6.params.toList args.toList ds p := hA0
  rw [Try.params6] at hA hval
  obtain ⟨v0, vs0, d0, ds0, p0, q0, hargs, rfl, rfl, h0, r0⟩ := trodAll_cons hA
  obtain ⟨v1, vs1, d1, ds1, p1, q1, rfl, rfl, rfl, h1, r1⟩ := trodAll_cons r0
  obtain ⟨v2, vs2, d2, ds2, p2, q2, rfl, rfl, rfl, h2, r2⟩ := trodAll_cons r1
  obtain ⟨v3, vs3, d3, ds3, p3, q3, rfl, rfl, rfl, h3, r3⟩ := trodAll_cons r2
  obtain ⟨v4, vs4, d4, ds4, p4, q4, rfl, rfl, rfl, h4, r4⟩ := trodAll_cons r3
  obtain ⟨rfl, rfl, rfl⟩ := trodAll_nil r4
  obtain rfl : args = #[v0, v1, v2, v3, v4] := by cases args; simp_all
  obtain ⟨rfl, rfl⟩ := trodVars_none hV
  obtain ⟨a0, rfl, rfl, rfl⟩ := open_bool Try.underlying4 (hval 0 4 v0 rfl rfl) h0
  obtain ⟨a1, rfl, rfl, rfl, w1⟩ := open_int Try.underlying22 (hval 1 22 v1 rfl rfl) h1
  obtain ⟨a2, len2, cap2, rfl⟩ := okWide_slice Try.underlying23 (hval 2 23 v2 rfl rfl)
  have k2 := h2
  have lt2 : ∀ x ∈ p2, x.block < W.heap.size := by obtain ⟨m, hm⟩ := k2; exact DataW.trod_lt m _ _ _ hm
  obtain ⟨z2, w2⟩ : ∃ zs, IsRow .u64 W a2 len2 cap2 zs := by
    obtain ⟨fuel, hf⟩ := h2
    rcases open_ints Try.underlying23 Try.underlying22 (by kernel_rfl) hf with ⟨hcs, _⟩ | ⟨x, l, c, zs, hcs, _, hl, hm, hz, _, hcell, hwz⟩
    · simp [Value.cells] at hcs
      obtain ⟨rfl, rfl, rfl⟩ := hcs
      exact ⟨[], .inl ⟨rfl, rfl, rfl, rfl⟩⟩
    · simp [Value.cells] at hcs
      obtain ⟨rfl, rfl, rfl⟩ := hcs
      exact ⟨zs, .inr ⟨_, rfl, hl, hm, by simpa using hz, hcell, hwz⟩⟩
  obtain ⟨a3, rfl, rfl, rfl, w3⟩ := open_int Try.underlying3 (hval 3 3 v3 rfl rfl) h3
  obtain ⟨a4, rfl, rfl, rfl, w4⟩ := open_int Try.underlying3 (hval 4 3 v4 rfl rfl) h4
  clear hA0 hval0
  refine (walk a0 a1 a2 len2 cap2 z2 a3 a4 W w1 w2 w3 w4).mono fun e W' ⟨he, bel⟩ => ?_
  subst he
  exact ⟨_, rfl, _, _, _, [], _, [], hW', trodAll_mk1 (shut_bool Try.underlying4 _), (trodAll_cons_mk (shut_bool Try.underlying4 a0) (trodAll_cons_mk (shut_int Try.underlying22 w1) (trodAll_cons_mk (Below.trod laidOut (by kernel_rfl) (of_decide_eq_true (by kernel_rfl)) k2 bel lt2) (trodAll_cons_mk (shut_int Try.underlying3 w3) (trodAll_cons_mk (shut_int Try.underlying3 w4) trodAll_mk0))))), rfl, bel.frame _, fun h => by cases h⟩
theorem over : Rows.rngRowsRow.holds Try.pinned (OpenSpec.ofChange Rows.rngRowsSpec) :=
  OpenClaim.holds_of_wide 6 Try.f6 rfl rfl rfl rfl rfl rfl rfl ⟨rfl, rfl, rfl, rfl, rfl⟩ rfl rfl rfl rfl rfl (by kernel_rfl) Try.func6 (by kernel_rfl)
    (of_decide_eq_true (by kernel_rfl)) (by unfold Func.isWrapper; first | (rw [if_pos (by decide +kernel)]; kernel_rfl) | (rw [if_neg (by decide +kernel)]; exact ⟨rfl, rfl⟩))
    (fun os started H enc _ => lifted os started H enc)
/-- the statement -/
theorem proved : Rows.RngRowsSaid := over
#print axioms proved
end rngRows
end Go.Proofs.Ytnhlicfjdnmjcaa
