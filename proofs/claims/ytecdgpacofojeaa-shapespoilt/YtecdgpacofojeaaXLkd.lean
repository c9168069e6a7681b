/-
  Layer 14 (shape): linked, by contract: a stack of what must stand behind each leaf.
-/
import Derived.Test.YtecdgpacofojeaaXWlk
namespace Go.Proofs.Ytecdgpacofojeaa
open Go.RowKit Go.Shelf

/-- numbers that wait, the last one first, in blocks from B on -/
def StI (B : Nat) (w : World) (v : Value) (R : List Int) : Prop := w.ownsRow B 3 1 v R.length (ci R)
section
variable {w w' wr : World} {A : Option Addr} {n c : Nat} {T : List Xm.Nd} {x : Xm.Nd}
theorem StI.below {B : Nat} {v : Value} {R : List Int} (h : StI B w v R) (hb : Below w.heap.size w w') : StI B w' v R := own_below h hb
theorem StI.pop {B cs ns : Nat} {R : List Int} {s : Int} {As : Option Addr} (h : StI B w (.slice As ns cs) (R ++ [s])) : ∃ g, As = some ⟨g, 0, none⟩ ∧ ns = R.length + 1 ∧ R.length + 1 ≤ cs ∧ w.cell? ⟨g, R.length, none⟩ = some (.int .i64 s) ∧ StI B w (.slice As R.length cs) R := by
  unfold StI at h ⊢
  obtain ⟨A', c', e1, h1, h2⟩ := own_formG h
  injection e1 with e1 e2 e3
  subst e1
  subst e2
  subst e3
  rcases h.2 with ⟨hv, h0⟩ | ⟨g, cap, cur, hv, hBg, hg, _⟩
  · simp at h0
  · injection hv with hv
    subst hv
    rw [List.length_append, List.length_singleton] at h h2
    refine ⟨g, rfl, by simp, h2, ?_, ?_⟩
    · have := h.cells (g := g) rfl R.length (.int .i64 s) (by rw [ci]; simp)
      rwa [Addr.add_lit, Nat.zero_add] at this
    · have := own_take (m := R.length) h (by omega)
      rw [Nat.mul_one, show (ci (R ++ [s])).take R.length = ci R from by simp [ci]] at this
      exact this
theorem lst_one1 (W : World) (e : TypeId) (u0 : Value) : Lst (W.alloc (.cells #[u0] e)) (W.alloc (.cells #[u0] e)).heap.size (some ⟨W.heap.size, 0, none⟩) 1 [u0] := Lst.of_own (own_one W e u0)
set_option maxHeartbeats 1600000 in
set_option maxRecDepth 100000 in
theorem linkX (h : Xds w A n c T) (hn : n ≤ 100000) : Calls Try.prog 25 #[.slice A n c] w fun e w' => e = .returned (.bool (Xm.lnk 0 T [(T.length : Int)])) ∧ Below w.heap.size w w' := by
  obtain ⟨E, hE⟩ : ∃ E, E = Xm.lnk 0 T [(T.length : Int)] := ⟨_, rfl⟩
  have HX := Lib.hid h
  have HE0 : Hid (E = Xm.lnk 0 (T.drop 0) ([(n : Int)] : List Int).reverse) := Lib.hid (by rw [hE, h.len]; simp)
  rw [← hE]
  clear hE h
  obtain ⟨i0, hi, hz0, hz1, hz2⟩ := info_parts Try.infoI
  obtain ⟨W0, hW0⟩ : ∃ W0, W0 = w.alloc (.cells #[.int .i64 (n : Int)] 3) := ⟨_, rfl⟩
  have HB0 : Hid (Below w.heap.size w W0) := Lib.hid (by rw [hW0]; exact (Below.refl _ w).alloc (Nat.le_refl _) _)
  have HS0 : Hid (StI w.heap.size W0 (.slice (some ⟨w.heap.size, 0, none⟩) 1 1) [(n : Int)]) := Lib.hid (by rw [hW0]; exact own_one w 3 (.int .i64 (n : Int)))
  have HW0 := Lib.hid hW0
  clear hW0
  go_enter Try.func25, Try.ntmps25
  go_wp2
  rw [← HW0.out]
  go_loopw [3, 11] (fun s i wr => ∃ (k : Nat) (R : List Int), k ≤ n ∧ i = .int .i64 k ∧ StI w.heap.size wr s R ∧ E = Xm.lnk k (T.drop k) R.reverse ∧ (R.head? = some (n : Int) ∨ (R = [] ∧ k = n)) ∧ R.length ≤ k + 1 ∧ Below w.heap.size w wr) (fun _ i _ => n - (intOf i).toNat)
  case atStart => exact ⟨0, [(n : Int)], Nat.zero_le _, rfl, HS0.out, HE0.out, .inl rfl, by simp, HB0.out⟩
  case round =>
    clear HS0 HE0 HB0 HW0
    obtain ⟨k, R, hk, rfl, hst, hEk, hbot, hRl, hb⟩ := hrel
    have HB := Lib.hid hb
    have hbs := hb.size
    by_cases hlt : k < n
    · obtain ⟨x, hx⟩ := HX.out.get hlt
      obtain ⟨b, off, rfl, hbl, A1, n1, c1, A2, n2, c2, -, -, g0, g1, g2, g3, g4, g5⟩ := HX.out.at_in (V := wr) hb.size (fun q hq => hb.block q hq) hx
      obtain ⟨W1, hW1⟩ : ∃ W1, W1 = wr.alloc (.cells #[.bool x.leaf, .slice A1 n1 c1, .slice A2 n2 c2, .int .i64 x.po, .int .i64 x.lt, .int .i64 x.rt] 68) := ⟨_, rfl⟩
      have hb1 : Below wr.heap.size wr W1 := by rw [hW1]; exact (Below.refl _ wr).alloc (Nat.le_refl _) _
      have hN : Ndb W1 wr.heap.size x A1 n1 c1 A2 n2 c2 := by rw [hW1]; exact Ndb.new wr x A1 n1 c1 A2 n2 c2
      obtain ⟨q0, -, -, -, q4, q5⟩ := hN.cells
      have hst1 := hst.below hb1
      have hB1 : Below w.heap.size w W1 := hb.trans (hb1.mono hb.size)
      have hnode : x.leaf = false → E = Xm.lnk (k + 1) (T.drop (k + 1)) (R ++ [x.rt]).reverse := fun hl => by rw [hEk, Xm.lnk_node hx hl]; simp
      have hleaf : x.leaf = true → ∀ (R' : List Int) (s : Int), R = R' ++ [s] → E = if s = (k : Int) + 1 then Xm.lnk (k + 1) (T.drop (k + 1)) R'.reverse else false := fun hl R' s e => by rw [hEk, e, List.reverse_append]; exact Xm.lnk_leaf hx hl s R'.reverse
      obtain ⟨lf, hlf⟩ : ∃ lf, lf = x.leaf := ⟨_, rfl⟩
      obtain ⟨po, hpo⟩ : ∃ po, po = x.po := ⟨_, rfl⟩
      obtain ⟨lt, hlt'⟩ : ∃ lt, lt = x.lt := ⟨_, rfl⟩
      obtain ⟨rt, hrt⟩ : ∃ rt, rt = x.rt := ⟨_, rfl⟩
      rw [← hlf, ← hpo, ← hlt', ← hrt] at hW1
      rw [← hlf] at g0 q0 hnode hleaf
      rw [← hpo] at g3
      rw [← hlt'] at g4 q4
      rw [← hrt] at g5 q5 hnode
      have hR0 : R ≠ [] := by
        rcases hbot with h1 | h1
        · intro e; rw [e] at h1; cases h1
        · omega
      obtain ⟨R', s, rfl⟩ : ∃ R' s, R = R' ++ [s] := ⟨R.dropLast, R.getLast hR0, (List.dropLast_concat_getLast hR0).symm⟩
      have hhead : (R' ++ [s]).head? = some (n : Int) := by
        rcases hbot with h1 | h1
        · exact h1
        · simp at h1
      obtain ⟨As, cs, e1, -, -⟩ := own_formG hst1
      subst e1
      obtain ⟨g, rfl, hl1, hcs, c0, hst2⟩ := hst1.pop
      have HST1 := Lib.hid hst1
      have HST2 := Lib.hid hst2
      have HB1 := Lib.hid hB1
      have hs1 : w.heap.size ≤ W1.heap.size := hB1.size
      have HH := Lib.hid hhead
      rw [List.length_append, List.length_singleton] at hRl HST1
      simp only [List.length_append, List.length_singleton] at *
      have HN := Lib.hid hnode
      have HL := Lib.hid (fun h => hleaf h R' s rfl)
      have HW1 := Lib.hid hW1
      cases lf with
      | false =>
        rw [hW1] at q0 q5
        clear hx hst hEk hbot hb hW1 hb1 hN hst1 hB1 hnode hleaf hlf hpo hlt' hrt hR0 hhead hst2 c0 hl1 hbl q4 HL
        obtain ⟨W2, hW2⟩ : ∃ W2, W2 = W1.alloc (.cells #[.int .i64 rt] 3) := ⟨_, rfl⟩
        have hb2 : Below W1.heap.size W1 W2 := by rw [hW2]; exact (Below.refl _ W1).alloc (Nat.le_refl _) _
        have HO2 : Hid (W2.ownsRow w.heap.size 3 1 (.slice (some ⟨g, 0, none⟩) (R'.length + 1) cs) (R'.length + 1) (ci (R' ++ [s]))) := Lib.hid (by have := HST1.out.below hb2; unfold StI at this; rwa [List.length_append, List.length_singleton] at this)
        have HL2 : Hid (Lst W2 W2.heap.size (some ⟨W1.heap.size, 0, none⟩) 1 [.int .i64 rt]) := Lib.hid (by rw [hW2]; exact lst_one1 W1 _ _)
        have HB2 : Hid (Below w.heap.size w W2) := Lib.hid (HB1.out.trans (hb2.mono HB1.out.size))
        have hs2 : w.heap.size ≤ W2.heap.size := HB2.out.size
        have hs12 : W1.heap.size = wr.heap.size + 1 := by rw [HW1.out]; simp
        have HW2 := Lib.hid hW2
        clear hb2 hW2
        rw [hs12] at HL2
        go_wp2_with (at_builtin; rw [← HW1.out, ← HW2.out]; refine append_lst _ rfl (.tmp 19) (.tmp 22) 42 rfl w.heap.size 3 i0 (.int .i64 0) 8 Try.underlying42 hi hz0 hz1 hz2 rfl (.slice (some ⟨g, 0, none⟩) (R'.length + 1) cs) (R'.length + 1) (ci (R' ++ [s])) rfl HO2.out W2.heap.size (some ⟨wr.heap.size + 1, 0, none⟩) 1 1 [.int .i64 rt] rfl (fun h => by cases h) HL2.out (by intro u hu; simp at hu; subst hu; rfl) (by unfold maxLen; omega) (by omega) hs2 ?_; intro v5 W5 r1 r2; have R1 := Lib.hid r1; have B5 := Lib.hid (HB2.out.grown r2 hs2 (own_block HO2.out)); clear r1 r2)
        go_roundw
        case rel => exact ⟨k + 1, R' ++ [s] ++ [rt], by omega, by go_num, by unfold StI; simpa [ci] using R1.out, HN.out rfl, .inl (by rw [List.head?_append, HH.out]; rfl), by simp; omega, B5.out⟩
        case measure => simp [intOf]; omega
      | true =>
        rw [hW1] at q0 c0
        clear hx hst hEk hbot hb hb1 hN hst1 hB1 hnode hleaf hlf hpo hlt' hrt hR0 hhead hst2 hl1 hbl q4 q5 HN hW1
        by_cases hs : s = (k : Int) + 1
        · have HE1 : Hid (E = Xm.lnk (k + 1) (T.drop (k + 1)) R'.reverse) := Lib.hid (by have := HL.out rfl; rwa [if_pos hs] at this)
          have HBT : Hid (R'.head? = some (n : Int) ∨ (R' = [] ∧ k + 1 = n)) := Lib.hid (by
            cases R' with
            | nil => right; have := HH.out; simp at this; exact ⟨rfl, by omega⟩
            | cons a R' => left; simpa using HH.out)
          have hs' : (s != (k : Int) + 1) = false := by simp [hs]
          clear hs
          go_wp2
          all_goals first | rw [← HW1.out] | skip
          go_roundw
          case rel => exact ⟨k + 1, R', by omega, by go_num, HST2.out, HE1.out, HBT.out, by omega, HB1.out⟩
          case measure => simp [intOf]; omega
        · have HE1 : Hid (E = false) := Lib.hid (by have := HL.out rfl; rwa [if_neg hs] at this)
          have hs' : (s != (k : Int) + 1) = true := by simp [hs]
          clear hs
          go_wp2
          all_goals first | rw [← HW1.out] | skip
          go_ret
          exact ⟨ret_bool HE1.out.symm, HB1.out⟩
    · obtain rfl : k = n := by omega
      obtain ⟨As, cs, e1, -, -⟩ := own_formG hst
      subst e1
      have hE2 : E = ((R.length : Int) == 0) := by
        rw [hEk, Xm.lnk_end (by rw [HX.out.len]; exact Nat.le_refl _)]
        cases R with
        | nil => rfl
        | cons a R =>
          have : (((a :: R).length : Nat) : Int) ≠ 0 := by simp only [List.length_cons]; omega
          rw [beq_eq_false_iff_ne.2 this]
          simp
      have HE2 := Lib.hid hE2
      clear hst hEk hbot hb hE2
      go_wp2
      go_ret
      exact ⟨ret_bool HE2.out.symm, HB.out⟩
end
end Go.Proofs.Ytecdgpacofojeaa
