/-
  HeapPlays: whatever is pushed, popped and looked at: each is told just as the document says. No condition.
-/
import Derived.Test.YtefdohjcgolhjaaHRow
import Derived.Test.YtefdohjcgolhjaaOArg
import Derived.Lib.SmallJoins
namespace Go.Proofs.Ytefdohjcgolhjaa
open Go.RowKit Go.Joins Go.ChangeShapes Go.WideShapes Go.Deep
namespace heapPlays

/-- a heap that holds l and a row that holds m, apart -/
def Pl (w0 W : World) (B R : Nat) (l m : List Int) : Prop :=
  ∃ S : Nat → Prop, HeapI W S B l ∧ RowR W S R m ∧ (∀ k, S k → w0.heap.size ≤ k) ∧ w0.heap.size ≤ R ∧ Below w0.heap.size w0 W
section
variable {w0 W W' : World} {B R : Nat} {l l' m : List Int}
theorem Pl.below (h : Pl w0 W B R l m) : Below w0.heap.size w0 W := by obtain ⟨_, _, _, _, _, h⟩ := h; exact h
theorem Pl.perm (h : Pl w0 W B R l m) (hp : l.Perm l') : Pl w0 W B R l' m := by obtain ⟨S, h1, h⟩ := h; exact ⟨S, h1.perm hp, h⟩
theorem Pl.drew (h : Pl w0 W B R l m) : Pl w0 W.drew B R l m := by
  obtain ⟨S, h1, h2, h3, h4, h5⟩ := h
  exact ⟨S, h1.drew, h2.drew, h3, h4, h5.drew⟩
theorem Pl.drewN (h : Pl w0 W B R l m) (d : Nat) : Pl w0 (W.drewN d) B R l m := by
  induction d with
  | zero => exact h
  | succ d ih => exact ih.drew
theorem Pl.cell (h : Pl w0 W B R l m) : ∃ A c, W.cell? ⟨R, 0, none⟩ = some (.slice A m.length c) := by
  obtain ⟨S, _, ⟨_, _, A, n, c, h3, h4, _⟩, _⟩ := h
  exact ⟨A, c, by rw [cell_of_row _ _ _ _ _ _ h3, h4]; rfl⟩
theorem Pl.row (h : Pl w0 W B R l m) {m' : List Int} (hr : ∀ S, RowR W S R m → (∀ k, S k → k < W.heap.size) → RowR W' S R m') (hk : Kept (fun k => k = R) W W') : Pl w0 W' B R l m' := by
  obtain ⟨S, h1, h2, h3, h4, h5⟩ := h
  refine ⟨S, h1.other hk (fun k hs e => ?_), hr S h2 h1.in_, h3, h4, h5.trans (hk.old h5.size fun k e => by subst e; exact h4)⟩
  subst e
  exact h2.1 hs
theorem Pl.hpush (h : Pl w0 W B R l m) (hn : l.length ≤ 100000) (x : Int) :
    Calls Try.prog 11 #[.pointer (some ⟨B, 0, none⟩), .int .i64 x] W fun e W' => e = .returned (.tuple #[]) ∧ Pl w0 W' B R (x :: l) m := by
  obtain ⟨S, h1, h2, h3, h4, h5⟩ := h
  refine (pushI S B l x W h1 hn).mono ?_
  rintro e W' ⟨he, S', h1', k, hS⟩
  exact ⟨he, S', h1', h2.heap k hS, fun i hi => by
    rcases hS i hi with q | q
    · exact h3 i q
    · exact Nat.le_trans h5.size q, h4, h5.trans (k.old h5.size h3)⟩
theorem Pl.hpop (h : Pl w0 W B R l m) (hn : l.length ≤ 100000) :
    Calls Try.prog 13 #[.pointer (some ⟨B, 0, none⟩)] W fun e W' => ∃ x ok l', e = .returned (.tuple #[.int .i64 x, .bool ok]) ∧ Hm.Po ilt 0 l x ok l' ∧ Pl w0 W' B R l' m := by
  obtain ⟨S, h1, h2, h3, h4, h5⟩ := h
  refine (popI S B l W h1 hn).mono ?_
  rintro e W' ⟨x, ok, l', he, po, h1', k⟩
  exact ⟨x, ok, l', he, po, S, h1', h2.heap k fun _ q => .inl q, h3, h4, h5.trans (k.old h5.size h3)⟩
theorem Pl.hpeek (h : Pl w0 W B R l m) :
    Calls Try.prog 15 #[.pointer (some ⟨B, 0, none⟩)] W fun e W' => ∃ x ok, e = .returned (.tuple #[.int .i64 x, .bool ok]) ∧ Hm.Pk ilt 0 l x ok ∧ W' = W := by
  obtain ⟨S, h1, _⟩ := h
  exact peekI S B l W h1
theorem Pl.hlen (h : Pl w0 W B R l m) :
    Calls Try.prog 17 #[.pointer (some ⟨B, 0, none⟩)] W fun e W' => e = .returned (.int .i64 (l.length : Int)) ∧ W' = W := by
  obtain ⟨S, h1, _⟩ := h
  exact lenI S B l W h1
theorem Pl.rpush (h : Pl w0 W B R l m) (hn : m.length ≤ 1000) (x : Int) :
    Calls Try.prog 12 #[.pointer (some ⟨R, 0, none⟩), .int .i64 x] W fun e W' => e = .returned (.tuple #[]) ∧ Pl w0 W' B R l (m ++ [x]) := by
  obtain ⟨S, h1, h2, h3, h4, h5⟩ := h
  refine (refPush S R m x W h2 h1.in_ hn).mono ?_
  rintro e W' ⟨he, h2', k⟩
  exact ⟨he, S, h1.other k (fun i hs e => by subst e; exact h2.1 hs), h2', h3, h4, h5.trans (k.old h5.size fun i e => by subst e; exact h4)⟩
theorem Pl.rpop (h : Pl w0 W B R l m) (hn : m.length ≤ 1000) :
    Calls Try.prog 14 #[.pointer (some ⟨R, 0, none⟩)] W fun e W' => ∃ x ok m', e = .returned (.tuple #[.int .i64 x, .bool ok]) ∧ Hm.Po ilt 0 m x ok m' ∧ Pl w0 W' B R l m' := by
  obtain ⟨S, h1, h2, h3, h4, h5⟩ := h
  refine (refPop S R m W h2 h1.in_ hn).mono ?_
  rintro e W' ⟨x, ok, m', he, po, h2', k⟩
  exact ⟨x, ok, m', he, po, S, h1.other k (fun i hs e => by subst e; exact h2.1 hs), h2', h3, h4, h5.trans (k.old h5.size fun i e => by subst e; exact h4)⟩
theorem Pl.rpeek (h : Pl w0 W B R l m) (hn : m.length ≤ 1000) :
    Calls Try.prog 16 #[.pointer (some ⟨R, 0, none⟩)] W fun e W' => ∃ x ok, e = .returned (.tuple #[.int .i64 x, .bool ok]) ∧ Hm.Pk ilt 0 m x ok ∧ Pl w0 W' B R l m := by
  obtain ⟨S, h1, h2, h3, h4, h5⟩ := h
  refine (refPeek S R m W h2 hn).mono ?_
  rintro e W' ⟨x, ok, he, pk, hb⟩
  exact ⟨x, ok, he, pk, S, h1.below hb, h2.below hb, h3, h4, h5.trans (hb.mono h5.size)⟩
end

set_option maxRecDepth 100000 in
set_option maxHeartbeats 1600000 in
theorem walk (a0 : Option Addr) (len0 cap0 : Nat) (z0 : List Int) (a1 : Option Addr) (len1 cap1 : Nat) (z1 : List Om.E) (w : World) (w0 : IsRow .i64 w a0 len0 cap0 z0) (w1 : VecE w a1 len1 z1 ∧ len1 ≤ cap1 ∧ (a1 = none → cap1 = 0)) :
    Calls Try.prog 3 #[.slice a0 len0 cap0, .slice a1 len1 cap1] w fun e w' => e = .returned (.bool true) ∧ Below w.heap.size w w' := by
  obtain ⟨hL, hl, hlc, -, hA⟩ := w0.lst
  have hll : (z0.take len0).length = len0 := by simp; omega
  obtain ⟨l, hl2⟩ : ∃ l, l = z0.take len0 := ⟨_, rfl⟩
  rw [← hl2] at hL hll
  have HL := Lib.hid (show Lst w w.heap.size a0 len0 (ci l) from hL)
  have HA := Lib.hid hA
  have HLL := Lib.hid hll
  have HV := Lib.hid w1.1
  have HVL := Lib.hid w1.1.length
  clear w0 hl hA hL hl2 hll w1
  go_enter Try.func3, Try.ntmps3
  go_wp2_with fail
  refine (awake_any _).mono ?_
  rintro _ w1 ⟨rfl, b1⟩
  have HB1 := Lib.hid b1
  have HL1 := Lib.hid (((HL.out.below b1)).more b1.size)
  clear b1
  by_cases c1 : 100 < len0
  · go_wp2
    go_ret
    exact ⟨rfl, HB1.out⟩
  by_cases c2 : 200 < len1
  · go_wp2
    go_ret
    exact ⟨rfl, HB1.out⟩
  have d1 : decide (100 < (len0 : Int)) = false := by simp; omega
  have d2 : decide (200 < (len1 : Int)) = false := by simp; omega
  have HN := Lib.hid (newI a0 len0 cap0 l w1 HL1.out HA.out (by omega))
  have n0 : len0 ≤ 100 := by omega
  have n1 : len1 ≤ 200 := by omega
  clear c1 c2
  go_wp2_with fail
  refine HN.out.mono ?_
  rintro _ w2 ⟨S, B, rfl, h2, b2, hS⟩
  have ht : Pl w (w2.alloc (.cells #[.slice a0 len0 cap0] 30)) B w2.heap.size l l := by
    have z1 := HB1.out.size
    have z2 := b2.size
    have hb3 : Below w2.heap.size w2 (w2.alloc (.cells #[.slice a0 len0 cap0] 30)) := (Below.refl _ w2).alloc (Nat.le_refl _) _
    refine ⟨S, h2.below hb3, ⟨fun q => by have := h2.in_ _ q; omega, by simp, a0, len0, cap0, heap_new w2 _ _, HLL.out, hlc, HA.out, fun h0 => ?_⟩, fun k hk => by have := hS k hk; omega, by omega, HB1.out.trans ((b2.trans (hb3.mono z2)).mono z1)⟩
    obtain ⟨b, off, e, hb, hc⟩ := HL1.out.2 h0
    exact ⟨b, off, e, by simp; omega, fun q => by have := hS b q; omega, by omega, fun j u hu => ((hb3.cell (p := ⟨b, off + j, none⟩) (by show b < w2.heap.size; omega)).trans (b2.cell (p := ⟨b, off + j, none⟩) hb)).trans (hc j u hu)⟩
  have HT := Lib.hid ht
  clear ht HN h2 b2 hS HL1 HB1
  go_wp2
  go_loopw [7] (fun I wr => ∃ (i : Nat) (a m : List Int), I = .int .i64 (i : Int) ∧ i ≤ len1 ∧ m.length ≤ 100 + i ∧ a.Perm m ∧ Pl w wr B w2.heap.size a m) (fun I _ => len1 - (intOf I).toNat)
  case atStart => exact ⟨0, l, l, rfl, Nat.zero_le _, by rw [HLL.out]; omega, List.Perm.refl _, HT.out⟩
  case round =>
    obtain ⟨i, a, m, rfl, il, hm, hp, ht⟩ := hrel
    have HT1 := Lib.hid ht
    have HM := Lib.hid hm
    have HP := Lib.hid hp
    clear ht hm hp
    by_cases hlt : i < len1
    · obtain ⟨x, hx⟩ : ∃ x, z1[i]? = some x := ⟨_, List.getElem?_eq_getElem (by rw [HVL.out]; exact hlt)⟩
      obtain ⟨b, off, rfl, hb, e1, e2⟩ := HV.out.at_ hx
      obtain ⟨kd, n⟩ := x
      have HC := Lib.hid (show ∀ W, Below w.heap.size w W → W.cell? ⟨b, off + i * 2, none⟩ = some (.int .i64 kd) ∧ W.cell? ⟨b, off + i * 2 + 1, none⟩ = some (.int .i64 n) from fun W h => ⟨(h.cell (p := ⟨b, off + i * 2, none⟩) hb).trans e1, (h.cell (p := ⟨b, off + i * 2 + 1, none⟩) hb).trans e2⟩)
      obtain ⟨c1, c2⟩ := HC.out wr HT1.out.below
      clear hx hb e1 e2
      by_cases k0 : kd = 0
      · subst k0
        go_wp2_with fail
        refine (HT1.out.hpush (by rw [HP.out.length_eq]; have := HM.out; omega) n).mono ?_
        rintro _ w3 ⟨rfl, ht3⟩
        have HT3 := Lib.hid ht3
        obtain ⟨c1', c2'⟩ := HC.out w3 ht3.below
        clear ht3 c1 c2
        go_wp2_with fail
        refine (HT3.out.rpush (by have := HM.out; omega) n).mono ?_
        rintro _ w4 ⟨rfl, ht4⟩
        have hp4 : (n :: a).Perm (m ++ [n]) := (List.Perm.cons _ HP.out).trans (List.perm_append_singleton n m).symm
        have HT4 := Lib.hid ht4
        have HP4 := Lib.hid hp4
        obtain ⟨A5, c5, cR⟩ := ht4.cell
        have HM4 := Lib.hid (show (m ++ [n]).length ≤ 100 + (i + 1) from by simp; have := HM.out; omega)
        obtain ⟨N, hN⟩ : ∃ N, N = (m ++ [n]).length := ⟨_, rfl⟩
        rw [← hN] at cR
        have HLN := Lib.hid (show ∀ d, Calls Try.prog 17 #[.pointer (some ⟨B, 0, none⟩)] (w4.drewN d) fun e W' => e = .returned (.int .i64 (N : Int)) ∧ W' = w4.drewN d from fun d => by have := (ht4.drewN d).hlen; rw [hp4.length_eq, ← hN] at this; exact this)
        clear ht4 hp4 hN HT3 HT1 c1' c2'
        go_wp2
        go_quiet ((go_at_call 17; exact Calls.quiet_of_same (HLN.out _)))
        have HT5 := Lib.hid (HT4.out.drewN nq)
        go_wp2
        go_roundw
        case rel => exact ⟨i + 1, _, _, congrArg (Value.int .i64) (by omega), by omega, HM4.out, HP4.out, HT5.out⟩
        case measure => simp [intOf]; omega
      by_cases k1 : kd = 1
      · subst k1
        clear k0
        go_wp2_with fail
        refine (HT1.out.hpush (by rw [HP.out.length_eq]; have := HM.out; omega) n).mono ?_
        rintro _ w3 ⟨rfl, ht3⟩
        have HT3 := Lib.hid ht3
        obtain ⟨c1', c2'⟩ := HC.out w3 ht3.below
        clear ht3 c1 c2
        go_wp2_with fail
        refine (HT3.out.rpush (by have := HM.out; omega) n).mono ?_
        rintro _ w4 ⟨rfl, ht4⟩
        have hp4 : (n :: a).Perm (m ++ [n]) := (List.Perm.cons _ HP.out).trans (List.perm_append_singleton n m).symm
        have HT4 := Lib.hid ht4
        have HP4 := Lib.hid hp4
        obtain ⟨A5, c5, cR⟩ := ht4.cell
        have HM4 := Lib.hid (show (m ++ [n]).length ≤ 100 + (i + 1) from by simp; have := HM.out; omega)
        obtain ⟨N, hN⟩ : ∃ N, N = (m ++ [n]).length := ⟨_, rfl⟩
        rw [← hN] at cR
        have HLN := Lib.hid (show ∀ d, Calls Try.prog 17 #[.pointer (some ⟨B, 0, none⟩)] (w4.drewN d) fun e W' => e = .returned (.int .i64 (N : Int)) ∧ W' = w4.drewN d from fun d => by have := (ht4.drewN d).hlen; rw [hp4.length_eq, ← hN] at this; exact this)
        clear ht4 hp4 hN HT3 HT1 c1' c2'
        go_wp2
        go_quiet ((go_at_call 17; exact Calls.quiet_of_same (HLN.out _)))
        have HT5 := Lib.hid (HT4.out.drewN nq)
        go_wp2
        go_roundw
        case rel => exact ⟨i + 1, _, _, congrArg (Value.int .i64) (by omega), by omega, HM4.out, HP4.out, HT5.out⟩
        case measure => simp [intOf]; omega
      by_cases k2 : kd = 2
      · subst k2
        clear k0 k1
        go_wp2_with fail
        refine (HT1.out.hpop (by rw [HP.out.length_eq]; have := HM.out; omega)).mono ?_
        rintro _ w3 ⟨x, ok, a', rfl, po3, ht3⟩
        have HT3 := Lib.hid ht3
        have PO := Lib.hid po3
        clear ht3 po3 c1 c2
        go_wp2_with fail
        refine (HT3.out.rpop (by have := HM.out; omega)).mono ?_
        rintro _ w4 ⟨y, ok2, m', rfl, po4, ht4⟩
        obtain ⟨rfl, rfl, hp4⟩ := PO.out.unique ilt_eq (po4.perm HP.out.symm)
        have HT4 := Lib.hid ht4
        have HP4 := Lib.hid hp4
        obtain ⟨A5, c5, cR⟩ := ht4.cell
        have HM4 := Lib.hid (show m'.length ≤ 100 + (i + 1) from by rw [po4.length]; have := HM.out; omega)
        obtain ⟨N, hN⟩ : ∃ N, N = m'.length := ⟨_, rfl⟩
        rw [← hN] at cR
        have HLN := Lib.hid (show ∀ d, Calls Try.prog 17 #[.pointer (some ⟨B, 0, none⟩)] (w4.drewN d) fun e W' => e = .returned (.int .i64 (N : Int)) ∧ W' = w4.drewN d from fun d => by have := (ht4.drewN d).hlen; rw [hp4.length_eq, ← hN] at this; exact this)
        clear ht4 hp4 hN HT3 HT1 po4
        go_wp2
        go_quiet ((go_at_call 17; exact Calls.quiet_of_same (HLN.out _)))
        have HT5 := Lib.hid (HT4.out.drewN nq)
        go_wp2
        go_roundw
        case rel => exact ⟨i + 1, _, _, congrArg (Value.int .i64) (by omega), by omega, HM4.out, HP4.out, HT5.out⟩
        case measure => simp [intOf]; omega
      · have g0 : (kd == 0) = false := by simpa using k0
        have g1 : (kd == 1) = false := by simpa using k1
        have g2 : (kd == 2) = false := by simpa using k2
        clear k0 k1 k2
        go_wp2_with fail
        refine HT1.out.hpeek.mono ?_
        rintro _ w3 ⟨x, ok, rfl, pk3, hw3⟩
        subst hw3
        have PO := Lib.hid pk3
        clear pk3 c1 c2
        go_wp2_with fail
        refine (HT1.out.rpeek (by have := HM.out; omega)).mono ?_
        rintro _ w4 ⟨y, ok2, rfl, pk4, ht4⟩
        obtain ⟨rfl, rfl⟩ := PO.out.unique ilt_eq (pk4.perm HP.out.symm)
        have HT4 := Lib.hid ht4
        obtain ⟨A5, c5, cR⟩ := ht4.cell
        have HM4 := Lib.hid (show m.length ≤ 100 + (i + 1) from by have := HM.out; omega)
        obtain ⟨N, hN⟩ : ∃ N, N = m.length := ⟨_, rfl⟩
        rw [← hN] at cR
        have HLN := Lib.hid (show ∀ d, Calls Try.prog 17 #[.pointer (some ⟨B, 0, none⟩)] (w4.drewN d) fun e W' => e = .returned (.int .i64 (N : Int)) ∧ W' = w4.drewN d from fun d => by have := (ht4.drewN d).hlen; rw [HP.out.length_eq, ← hN] at this; exact this)
        clear ht4 hN HT1 pk4
        go_wp2
        go_quiet ((go_at_call 17; exact Calls.quiet_of_same (HLN.out _)))
        have HT5 := Lib.hid (HT4.out.drewN nq)
        go_wp2
        go_roundw
        case rel => exact ⟨i + 1, _, _, congrArg (Value.int .i64) (by omega), by omega, HM4.out, HP.out, HT5.out⟩
        case measure => simp [intOf]; omega
    · go_wp2
      go_ret
      exact ⟨rfl, HT1.out.below⟩
theorem own : ownKnob Try.prog.godebug = none := by kernel_rfl
theorem laidOut : laidOutB Try.prog = true := by kernel_rfl
set_option maxRecDepth 100000 in
theorem lifted (os : Os) (started : os.Started) (H : Type) (enc : TypeId × Value → H) :
    ReturnsInHanded {} Try.checked os 3 .any (Rows.heapPlaysSpec.pre6 enc Try.prog Try.f3 Rows.heapPlaysRow.domain false) (Rows.heapPlaysSpec.post enc Try.prog Try.f3 false true false false) := by
  refine returnsInHanded_of_change (C := Try.checked) own started (by kernel_rfl) Try.func3
    (ChangeSpec.witness6 (enc := enc) (C := Try.checked) false ⟨#[], #[.slice none 0 0, .slice none 0 0], []⟩ 8 (by kernel_rfl) (by kernel_rfl) (by kernel_rfl) (by kernel_rfl)) ?_
  intro W base args ds gs before hval0 hW hcnd _
  have hval : ∀ (j : Nat) t v, Try.f3.params[j]? = some t → args[j]? = some v → Value.okWide Try.prog W .any base t v := hval0
  have hW' := hW
  obtain ⟨p, q, hA0, hV, rfl, hfz, hnd⟩ := hW
  have hA : DataW.TrodAll enc Try.prog W 0 (fun _ => true) true Try.f3.params.toList args.toList ds p := hA0
  rw [Try.params3] at hA hval
  obtain ⟨v0, vs0, d0, ds0, p0, q0, hargs, rfl, rfl, h0, r0⟩ := trodAll_cons hA
  obtain ⟨v1, vs1, d1, ds1, p1, q1, rfl, rfl, rfl, h1, r1⟩ := trodAll_cons r0
  obtain ⟨rfl, rfl, rfl⟩ := trodAll_nil r1
  obtain rfl : args = #[v0, v1] := by cases args; simp_all
  obtain ⟨rfl, rfl⟩ := trodVars_none hV
  obtain ⟨a0, len0, cap0, rfl⟩ := okWide_slice Try.underlying22 (hval 0 22 v0 rfl rfl)
  have k0 := h0
  have lt0 : ∀ x ∈ p0, x.block < W.heap.size := by obtain ⟨m, hm⟩ := k0; exact DataW.trod_lt m _ _ _ hm
  obtain ⟨z0, w0⟩ : ∃ zs, IsRow .i64 W a0 len0 cap0 zs := by
    obtain ⟨fuel, hf⟩ := h0
    rcases open_ints Try.underlying22 Try.underlying3 (by kernel_rfl) hf with ⟨hcs, _⟩ | ⟨x, l, c, zs, hcs, _, hl, hm, hz, _, hcell, hwz⟩
    · simp [Value.cells] at hcs
      obtain ⟨rfl, rfl, rfl⟩ := hcs
      exact ⟨[], .inl ⟨rfl, rfl, rfl, rfl⟩⟩
    · simp [Value.cells] at hcs
      obtain ⟨rfl, rfl, rfl⟩ := hcs
      exact ⟨zs, .inr ⟨_, rfl, hl, hm, by simpa using hz, hcell, hwz⟩⟩
  obtain ⟨a1, len1, cap1, rfl⟩ := okWide_slice Try.underlying23 (hval 1 23 v1 rfl rfl)
  have k1 := h1
  have lt1 : ∀ x ∈ p1, x.block < W.heap.size := by obtain ⟨m, hm⟩ := k1; exact DataW.trod_lt m _ _ _ hm
  obtain ⟨z1, w1⟩ : ∃ l, VecE W a1 len1 l ∧ len1 ≤ cap1 ∧ (a1 = none → cap1 = 0) := by
    obtain ⟨fuel, hf⟩ := h1
    rcases Go.Deep.open_slice_pairs Try.underlying23 Try.underlying32 (by kernel_rfl) rfl rfl (by kernel_rfl) (by kernel_rfl) hf with ⟨hcs, _⟩ | ⟨x, len, cap, m, n, V0, V1, D0, D1, P0, P1, hcs, _, hl, _, hmm, _, hcell⟩
    · simp [Value.cells] at hcs
      obtain ⟨rfl, rfl, rfl⟩ := hcs
      exact ⟨[], VecE.nil_ _ _, Nat.le_refl _, fun _ => rfl⟩
    · simp [Value.cells] at hcs
      obtain ⟨rfl, rfl, rfl⟩ := hcs
      obtain ⟨l, hv⟩ := VecE.of_each (w := W) (x := x) len1 (fun j hj => by
        obtain ⟨h1, h2, h3, h4⟩ := hcell j (by simp at hmm; omega)
        obtain ⟨p, hp, -⟩ := DataW.trod_int Try.underlying3 h3
        obtain ⟨q, hq, -⟩ := DataW.trod_int Try.underlying3 h4
        simp at hp hq
        exact ⟨(p, q), by rw [h1, hp], by rw [h2, hq]⟩)
      exact ⟨l, hv, hl, fun h => by cases h⟩
  clear hA0 hval0
  refine (walk a0 len0 cap0 z0 a1 len1 cap1 z1 W w0 w1).mono fun e W' ⟨he, bel⟩ => ?_
  subst he
  exact ⟨_, rfl, _, _, _, [], _, [], hW', trodAll_mk1 (shut_bool Try.underlying4 _), (trodAll_cons_mk (Below.trod laidOut (by kernel_rfl) (of_decide_eq_true (by kernel_rfl)) k0 bel lt0) (trodAll_cons_mk (Below.trod laidOut (by kernel_rfl) (of_decide_eq_true (by kernel_rfl)) k1 bel lt1) trodAll_mk0)), rfl, bel.frame _, fun h => by cases h⟩
theorem over : Rows.heapPlaysRow.holds Try.pinned (OpenSpec.ofChange Rows.heapPlaysSpec) :=
  OpenClaim.holds_of_wide 3 Try.f3 rfl rfl rfl rfl rfl rfl rfl ⟨rfl, rfl, rfl, rfl, rfl⟩ rfl rfl rfl rfl rfl (by kernel_rfl) Try.func3 (by kernel_rfl)
    (of_decide_eq_true (by kernel_rfl)) (by unfold Func.isWrapper; first | (rw [if_pos (by decide +kernel)]; kernel_rfl) | (rw [if_neg (by decide +kernel)]; exact ⟨rfl, rfl⟩))
    (fun os started H enc _ => lifted os started H enc)
/-- the statement -/
theorem proved : Rows.HeapPlaysSaid := over
#print axioms proved
end heapPlays
end Go.Proofs.Ytefdohjcgolhjaa
