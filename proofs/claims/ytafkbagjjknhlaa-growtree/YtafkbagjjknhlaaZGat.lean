/-
  Layer 12 (split): gather of the program, by contracts.
-/
import Derived.Test.YtafkbagjjknhlaaZMem
import Derived.Maps.AppendAt
namespace Go.Proofs.Ytafkbagjjknhlaa
open Go.RowKit

/-- both sides of some ids, as they are gathered one by one -/
structure Gth (ids : List Int) (F : Nat → Bool) (lf rg : Nat → List Int) : Prop where
  l0 : lf 0 = []
  r0 : rg 0 = []
  yes : ∀ k (hk : k < ids.length), F k = true → rg (k + 1) = rg k ++ [ids[k]] ∧ lf (k + 1) = lf k
  no : ∀ k (hk : k < ids.length), F k = false → lf (k + 1) = lf k ++ [ids[k]] ∧ rg (k + 1) = rg k
theorem Gth.len {ids : List Int} {F : Nat → Bool} {lf rg : Nat → List Int} (h : Gth ids F lf rg) : ∀ k, k ≤ ids.length → (lf k).length + (rg k).length = k := by
  intro k
  induction k with
  | zero => intro _; rw [h.l0, h.r0]; rfl
  | succ k ih =>
    intro hk
    have := ih (by omega)
    cases hf : F k with
    | true => obtain ⟨a, b⟩ := h.yes k (by omega) hf; rw [a, b, List.length_append]; simp; omega
    | false => obtain ⟨a, b⟩ := h.no k (by omega) hf; rw [a, b, List.length_append]; simp; omega

/-- two rows of numbers of the call's own, apart from each other -/
structure Duo (w W : World) (vx vy : Value) (X Y : List Int) : Prop where
  ox : W.ownsRow w.heap.size 3 1 vx X.length (ci X)
  oy : W.ownsRow w.heap.size 3 1 vy Y.length (ci Y)
  ne : vy.ownBlock = none ∨ vy.ownBlock ≠ vx.ownBlock
  be : Below w.heap.size w W
section
variable {w W W1 : World} {vx vy v' : Value} {X Y : List Int}
theorem zown_lt {w : World} {base : Nat} {e : TypeId} {v : Value} {n : Nat} {xs : List Value} (h : w.ownsRow base e 1 v n xs) : ∀ k, v.ownBlock = some k → k < w.heap.size := by
  rcases h.2 with ⟨rfl, _⟩ | ⟨g, cap, cur, rfl, _, hg, _⟩
  · simp [Value.ownBlock]
  · intro k hk
    have e : g = k := by simpa [Value.ownBlock] using hk
    subst e
    exact lt_of_block hg
theorem zown_ge {w : World} {base : Nat} {e : TypeId} {v : Value} {n : Nat} {xs : List Value} (h : w.ownsRow base e 1 v n xs) : ∀ k, v.ownBlock = some k → base ≤ k := by
  rcases h.2 with ⟨rfl, _⟩ | ⟨g, cap, cur, rfl, hb, _⟩
  · simp [Value.ownBlock]
  · intro k hk
    have e : g = k := by simpa [Value.ownBlock] using hk
    subst e
    exact hb
theorem Duo.below (h : Duo w W vx vy X Y) (hb : Below W.heap.size W W1) : Duo w W1 vx vy X Y := ⟨own_below h.ox hb, own_below h.oy hb, h.ne, h.be.trans (hb.mono h.be.size)⟩
theorem Duo.alloc (h : Duo w W vx vy X Y) (o : Obj) : Duo w (W.alloc o) vx vy X Y := ⟨h.ox.alloc o, h.oy.alloc o, h.ne, h.be.alloc h.be.size o⟩
theorem Duo.stepx {x : Int} (h : Duo w W vx vy X Y) (ho : W1.ownsRow w.heap.size 3 1 v' (X.length + 1) (ci X ++ [.int .i64 x])) (hg : W.grownBy W1 vx.ownBlock) (hat : v'.ownBlock = vx.ownBlock ∨ v'.ownBlock = some W.heap.size) : Duo w W1 v' vy (X ++ [x]) Y := by
  refine ⟨by rw [List.length_append, ← ci_app]; exact ho, h.oy.kept hg h.ne, ?_, h.be.grown hg h.be.size (zown_ge h.ox)⟩
  rcases h.ne with hn | hn
  · exact .inl hn
  · refine .inr fun e => ?_
    rcases hat with ha | ha
    · exact hn (e.trans ha)
    · have := zown_lt h.oy _ (e.trans ha); omega
theorem Duo.stepy {x : Int} (h : Duo w W vx vy X Y) (ho : W1.ownsRow w.heap.size 3 1 v' (Y.length + 1) (ci Y ++ [.int .i64 x])) (hg : W.grownBy W1 vy.ownBlock) (hat : v'.ownBlock = vy.ownBlock ∨ v'.ownBlock = some W.heap.size) : Duo w W1 vx v' X (Y ++ [x]) := by
  have hx : vx.ownBlock = none ∨ vx.ownBlock ≠ vy.ownBlock := by
    rcases h.ne with hn | hn
    · cases hv : vx.ownBlock with
      | none => exact .inl rfl
      | some q => exact .inr (by rw [hn]; simp)
    · exact .inr fun e => hn e.symm
  refine ⟨h.ox.kept hg hx, by rw [List.length_append, ← ci_app]; exact ho, ?_, h.be.grown hg h.be.size (zown_ge h.oy)⟩
  rcases hat with ha | ha
  · rcases hx with hn | hn
    · cases hv : v'.ownBlock with
      | none => exact .inl rfl
      | some q => exact .inr (by rw [hn]; simp)
    · exact .inr fun e => hn (e.symm.trans ha)
  · refine .inr fun e => ?_
    have := zown_lt h.ox _ (e.symm.trans ha)
    omega
end

set_option maxHeartbeats 1600000 in
set_option maxRecDepth 100000 in
theorem gatherP {A : Option Addr} {m c : Nat} {ids : List Int} {w : World} {F : Nat → Bool} {lf rg : Nat → List Int} (p1 p2 p3 : Value) (hs : Sl w A m c ids) (hm : m ≤ 100000) (hg : Gth ids F lf rg)
    (hF : ∀ k, k < m → ∀ V, Below w.heap.size w V → Calls Try.prog 57 #[.int .i64 (k : Int), p1, p2, p3] V fun e w' => e = .returned (.bool (F k)) ∧ Below V.heap.size V w') :
    Calls Try.prog 56 #[.slice A m c, .func (.func 57) #[] #[p1, p2, p3]] w fun e w' => ∃ A1 c1 A2 c2, e = .returned (.tuple #[.slice A1 (lf m).length c1, .slice A2 (rg m).length c2]) ∧
      Sl w' A1 (lf m).length c1 (lf m) ∧ Sl w' A2 (rg m).length c2 (rg m) ∧ New w.heap.size A1 ∧ New w.heap.size A2 ∧ Below w.heap.size w w' := by
  obtain ⟨i0, hi, hz0, hz1, hz2⟩ := info_parts Try.infoI
  have HS := Lib.hid hs
  have HLEN := Lib.hid hs.length
  have HG := Lib.hid hg
  have HF := Lib.hid hF
  have NW := Lib.hid (show Duo w w (.slice none 0 0) (.slice none 0 0) (lf 0) (rg 0) from by rw [hg.l0, hg.r0]; exact ⟨World.ownsRow_nil _ _ _ _, World.ownsRow_nil _ _ _ _, .inl rfl, Below.refl _ _⟩)
  clear hs hg hF
  go_enter Try.func56, Try.ntmps56
  go_wp2
  go_loopw [6, 7, 12] (fun vx vy i wr => ∃ (k : Nat) (X Y : List Int), k ≤ m ∧ i = .int .i64 k ∧ X = lf k ∧ Y = rg k ∧ Duo w wr vx vy X Y) (fun _ _ i _ => m - (intOf i).toNat)
  case atStart => exact ⟨0, _, _, Nat.zero_le _, rfl, rfl, rfl, NW.out⟩
  case round =>
    obtain ⟨k, X, Y, hk, rfl, hX, hY, hd⟩ := hrel
    have HX := Lib.hid hX
    have HY := Lib.hid hY
    have HD := Lib.hid hd
    have hlen : X.length + Y.length = k := by rw [hX, hY]; exact HG.out.len k (by rw [HLEN.out]; exact hk)
    have hsz := hd.be.size
    clear hX hY hd
    by_cases hlt : k < m
    · have hkl : k < ids.length := by rw [HLEN.out]; exact hlt
      obtain ⟨b2, off2, rfl, hb2, hc2⟩ := HS.out.at_ (List.getElem?_eq_getElem hkl)
      have k2 := (HD.out.be.cell (p := ⟨b2, off2 + k, none⟩) hb2).trans hc2
      obtain ⟨x, hx⟩ : ∃ x, x = ids[k] := ⟨_, rfl⟩
      rw [← hx] at k2
      obtain ⟨q, hq⟩ : ∃ q : Bool, q = F k := ⟨_, rfl⟩
      have FC : Hid (∀ V, Below w.heap.size w V → Calls Try.prog 57 #[.int .i64 (k : Int), p1, p2, p3] V fun e w' => e = .returned (.bool q) ∧ Below V.heap.size V w') := Lib.hid fun V hb => by rw [hq]; exact HF.out k hlt V hb
      have HYES : Hid (q = true → rg (k + 1) = Y ++ [x] ∧ lf (k + 1) = X) := Lib.hid fun h => by rw [hx, HX.out, HY.out]; exact HG.out.yes k hkl (hq.symm.trans h)
      have HNO : Hid (q = false → lf (k + 1) = X ++ [x] ∧ rg (k + 1) = Y) := Lib.hid fun h => by rw [hx, HX.out, HY.out]; exact HG.out.no k hkl (hq.symm.trans h)
      clear hx hc2 hq hb2 HX HY
      go_wp2_with fail
      refine (FC.out _ (by exact HD.out.be)).mono ?_
      rintro _ Y2 ⟨rfl, hb⟩
      have HDY := Lib.hid (HD.out.below hb)
      have BY := Lib.hid hb
      have sY := hb.size
      clear hb FC k2
      have hcase : q = true ∨ q = false := by cases q <;> simp
      rcases hcase with rfl | rfl
      · have HT := Lib.hid (HYES.out rfl)
        clear HYES HNO
        go_wp2_with (at_builtin; refine wpList_append_own_at _ rfl (.tmp 20) (.tmp 22) 51 rfl w.heap.size 3 i0 (.int .i64 0) 1 8 Try.underlying51 hi hz0 hz1 hz2 rfl (by decide) u7 Y.length (ci Y) rfl (HDY.out.oy.alloc _) ⟨Y2.heap.size, 0, none⟩ 1 1 [.int .i64 x] rfl rfl (World.news_of_block (heap_alloc_new Y2 _)) (by intro u hu; simp at hu; subst hu; rfl) (by unfold maxLen; omega) (by omega) (by simp; omega) ?_; intro v' w1 hown' hgrow _ hat; have HO' := Lib.hid hown'; have HGR := Lib.hid hgrow; have HAT := Lib.hid hat; clear hown' hgrow hat)
        refine ⟨⟨k + 1, X, Y ++ [x], by omega, by go_num, HT.out.2.symm, HT.out.1.symm, ?_⟩, by simp [intOf]; omega⟩
        exact (HDY.out.alloc _).stepy HO'.out HGR.out HAT.out
      · have HT := Lib.hid (HNO.out rfl)
        clear HYES HNO
        go_wp2_with (at_builtin; refine wpList_append_own_at _ rfl (.tmp 24) (.tmp 26) 51 rfl w.heap.size 3 i0 (.int .i64 0) 1 8 Try.underlying51 hi hz0 hz1 hz2 rfl (by decide) u6 X.length (ci X) rfl (HDY.out.ox.alloc _) ⟨Y2.heap.size, 0, none⟩ 1 1 [.int .i64 x] rfl rfl (World.news_of_block (heap_alloc_new Y2 _)) (by intro u hu; simp at hu; subst hu; rfl) (by unfold maxLen; omega) (by omega) (by simp; omega) ?_; intro v' w1 hown' hgrow _ hat; have HO' := Lib.hid hown'; have HGR := Lib.hid hgrow; have HAT := Lib.hid hat; clear hown' hgrow hat)
        refine ⟨⟨k + 1, X ++ [x], Y, by omega, by go_num, HT.out.1.symm, HT.out.2.symm, ?_⟩, by simp [intOf]; omega⟩
        exact (HDY.out.alloc _).stepx HO'.out HGR.out HAT.out
    · obtain rfl : k = m := by omega
      obtain ⟨A1, c1, rfl, -, -⟩ := own_form HD.out.ox
      obtain ⟨A2, c2, rfl, -, -⟩ := own_form HD.out.oy
      go_wp2
      go_ret2
      rw [← HX.out, ← HY.out]
      exact ⟨A1, c1, A2, c2, rfl, Sl.of_own HD.out.ox, Sl.of_own HD.out.oy, New.of_own HD.out.ox, New.of_own HD.out.oy, HD.out.be⟩

set_option maxHeartbeats 1600000 in
set_option maxRecDepth 100000 in
theorem gatherH {A : Option Addr} {m c : Nat} {ids : List Int} {w : World} {F : Nat → Bool} {lf rg : Nat → List Int} (p1 : Value) (hs : Sl w A m c ids) (hm : m ≤ 100000) (hg : Gth ids F lf rg)
    (hF : ∀ k, k < m → ∀ V, Below w.heap.size w V → Calls Try.prog 59 #[.int .i64 (k : Int), p1] V fun e w' => e = .returned (.bool (F k)) ∧ Below V.heap.size V w') :
    Calls Try.prog 56 #[.slice A m c, .func (.func 59) #[] #[p1]] w fun e w' => ∃ A1 c1 A2 c2, e = .returned (.tuple #[.slice A1 (lf m).length c1, .slice A2 (rg m).length c2]) ∧
      Sl w' A1 (lf m).length c1 (lf m) ∧ Sl w' A2 (rg m).length c2 (rg m) ∧ New w.heap.size A1 ∧ New w.heap.size A2 ∧ Below w.heap.size w w' := by
  obtain ⟨i0, hi, hz0, hz1, hz2⟩ := info_parts Try.infoI
  have HS := Lib.hid hs
  have HLEN := Lib.hid hs.length
  have HG := Lib.hid hg
  have HF := Lib.hid hF
  have NW := Lib.hid (show Duo w w (.slice none 0 0) (.slice none 0 0) (lf 0) (rg 0) from by rw [hg.l0, hg.r0]; exact ⟨World.ownsRow_nil _ _ _ _, World.ownsRow_nil _ _ _ _, .inl rfl, Below.refl _ _⟩)
  clear hs hg hF
  go_enter Try.func56, Try.ntmps56
  go_wp2
  go_loopw [6, 7, 12] (fun vx vy i wr => ∃ (k : Nat) (X Y : List Int), k ≤ m ∧ i = .int .i64 k ∧ X = lf k ∧ Y = rg k ∧ Duo w wr vx vy X Y) (fun _ _ i _ => m - (intOf i).toNat)
  case atStart => exact ⟨0, _, _, Nat.zero_le _, rfl, rfl, rfl, NW.out⟩
  case round =>
    obtain ⟨k, X, Y, hk, rfl, hX, hY, hd⟩ := hrel
    have HX := Lib.hid hX
    have HY := Lib.hid hY
    have HD := Lib.hid hd
    have hlen : X.length + Y.length = k := by rw [hX, hY]; exact HG.out.len k (by rw [HLEN.out]; exact hk)
    have hsz := hd.be.size
    clear hX hY hd
    by_cases hlt : k < m
    · have hkl : k < ids.length := by rw [HLEN.out]; exact hlt
      obtain ⟨b2, off2, rfl, hb2, hc2⟩ := HS.out.at_ (List.getElem?_eq_getElem hkl)
      have k2 := (HD.out.be.cell (p := ⟨b2, off2 + k, none⟩) hb2).trans hc2
      obtain ⟨x, hx⟩ : ∃ x, x = ids[k] := ⟨_, rfl⟩
      rw [← hx] at k2
      obtain ⟨q, hq⟩ : ∃ q : Bool, q = F k := ⟨_, rfl⟩
      have FC : Hid (∀ V, Below w.heap.size w V → Calls Try.prog 59 #[.int .i64 (k : Int), p1] V fun e w' => e = .returned (.bool q) ∧ Below V.heap.size V w') := Lib.hid fun V hb => by rw [hq]; exact HF.out k hlt V hb
      have HYES : Hid (q = true → rg (k + 1) = Y ++ [x] ∧ lf (k + 1) = X) := Lib.hid fun h => by rw [hx, HX.out, HY.out]; exact HG.out.yes k hkl (hq.symm.trans h)
      have HNO : Hid (q = false → lf (k + 1) = X ++ [x] ∧ rg (k + 1) = Y) := Lib.hid fun h => by rw [hx, HX.out, HY.out]; exact HG.out.no k hkl (hq.symm.trans h)
      clear hx hc2 hq hb2 HX HY
      go_wp2_with fail
      refine (FC.out _ (by exact HD.out.be)).mono ?_
      rintro _ Y2 ⟨rfl, hb⟩
      have HDY := Lib.hid (HD.out.below hb)
      have BY := Lib.hid hb
      have sY := hb.size
      clear hb FC k2
      have hcase : q = true ∨ q = false := by cases q <;> simp
      rcases hcase with rfl | rfl
      · have HT := Lib.hid (HYES.out rfl)
        clear HYES HNO
        go_wp2_with (at_builtin; refine wpList_append_own_at _ rfl (.tmp 20) (.tmp 22) 51 rfl w.heap.size 3 i0 (.int .i64 0) 1 8 Try.underlying51 hi hz0 hz1 hz2 rfl (by decide) u7 Y.length (ci Y) rfl (HDY.out.oy.alloc _) ⟨Y2.heap.size, 0, none⟩ 1 1 [.int .i64 x] rfl rfl (World.news_of_block (heap_alloc_new Y2 _)) (by intro u hu; simp at hu; subst hu; rfl) (by unfold maxLen; omega) (by omega) (by simp; omega) ?_; intro v' w1 hown' hgrow _ hat; have HO' := Lib.hid hown'; have HGR := Lib.hid hgrow; have HAT := Lib.hid hat; clear hown' hgrow hat)
        refine ⟨⟨k + 1, X, Y ++ [x], by omega, by go_num, HT.out.2.symm, HT.out.1.symm, ?_⟩, by simp [intOf]; omega⟩
        exact (HDY.out.alloc _).stepy HO'.out HGR.out HAT.out
      · have HT := Lib.hid (HNO.out rfl)
        clear HYES HNO
        go_wp2_with (at_builtin; refine wpList_append_own_at _ rfl (.tmp 24) (.tmp 26) 51 rfl w.heap.size 3 i0 (.int .i64 0) 1 8 Try.underlying51 hi hz0 hz1 hz2 rfl (by decide) u6 X.length (ci X) rfl (HDY.out.ox.alloc _) ⟨Y2.heap.size, 0, none⟩ 1 1 [.int .i64 x] rfl rfl (World.news_of_block (heap_alloc_new Y2 _)) (by intro u hu; simp at hu; subst hu; rfl) (by unfold maxLen; omega) (by omega) (by simp; omega) ?_; intro v' w1 hown' hgrow _ hat; have HO' := Lib.hid hown'; have HGR := Lib.hid hgrow; have HAT := Lib.hid hat; clear hown' hgrow hat)
        refine ⟨⟨k + 1, X ++ [x], Y, by omega, by go_num, HT.out.1.symm, HT.out.2.symm, ?_⟩, by simp [intOf]; omega⟩
        exact (HDY.out.alloc _).stepx HO'.out HGR.out HAT.out
    · obtain rfl : k = m := by omega
      obtain ⟨A1, c1, rfl, -, -⟩ := own_form HD.out.ox
      obtain ⟨A2, c2, rfl, -, -⟩ := own_form HD.out.oy
      go_wp2
      go_ret2
      rw [← HX.out, ← HY.out]
      exact ⟨A1, c1, A2, c2, rfl, Sl.of_own HD.out.ox, Sl.of_own HD.out.oy, New.of_own HD.out.ox, New.of_own HD.out.oy, HD.out.be⟩
end Go.Proofs.Ytafkbagjjknhlaa
