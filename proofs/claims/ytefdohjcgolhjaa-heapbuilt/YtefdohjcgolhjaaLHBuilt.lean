/-
  HeapBuilt: however a heap came to what it holds, the same is drained of it. No condition.
-/
import Derived.Test.YtefdohjcgolhjaaHAwk
import Derived.Deep.RegionHeld3
import Derived.Deep.RegionWith
import Derived.Lib.SmallJoins
namespace Go.Proofs.Ytefdohjcgolhjaa
open Go.RowKit Go.Joins Go.ChangeShapes Go.WideShapes Go.Deep
namespace heapBuilt

/-- three heaps that lie apart -/
def Tri (w0 W : World) (A B C : Nat) (a b c : List Int) : Prop :=
  ∃ Sa Sb Sc : Nat → Prop, HeapI W Sa A a ∧ HeapI W Sb B b ∧ HeapI W Sc C c ∧ (∀ k, Sa k → ¬ Sb k) ∧ (∀ k, Sb k → ¬ Sc k) ∧ (∀ k, Sc k → ¬ Sa k) ∧ (∀ k, Sa k ∨ Sb k ∨ Sc k → w0.heap.size ≤ k) ∧ Below w0.heap.size w0 W
section
variable {w0 W W' : World} {A B C : Nat} {a b c a' : List Int}
theorem Tri.rot (h : Tri w0 W A B C a b c) : Tri w0 W B C A b c a := by
  obtain ⟨Sa, Sb, Sc, h1, h2, h3, h4, h5, h6, h7, h8⟩ := h
  exact ⟨Sb, Sc, Sa, h2, h3, h1, h5, h6, h4, fun k hk => h7 k (by rcases hk with q | q | q <;> simp [q]), h8⟩
theorem Tri.perm (h : Tri w0 W A B C a b c) (hp : a.Perm a') : Tri w0 W A B C a' b c := by
  obtain ⟨Sa, Sb, Sc, h1, h⟩ := h
  exact ⟨Sa, Sb, Sc, h1.perm hp, h⟩
theorem Tri.below (h : Tri w0 W A B C a b c) : Below w0.heap.size w0 W := by obtain ⟨_, _, _, _, _, _, _, _, _, _, h⟩ := h; exact h
theorem Tri.drew (h : Tri w0 W A B C a b c) : Tri w0 W.drew A B C a b c := by
  obtain ⟨Sa, Sb, Sc, h1, h2, h3, h4, h5, h6, h7, h8⟩ := h
  exact ⟨Sa, Sb, Sc, h1.drew, h2.drew, h3.drew, h4, h5, h6, h7, h8.drew⟩
theorem Tri.pop (h : Tri w0 W A B C a b c) (hn : a.length ≤ 100000) :
    Calls Try.prog 13 #[.pointer (some ⟨A, 0, none⟩)] W fun e W' => ∃ x ok a', e = .returned (.tuple #[.int .i64 x, .bool ok]) ∧ Hm.Po ilt 0 a x ok a' ∧ Tri w0 W' A B C a' b c := by
  obtain ⟨Sa, Sb, Sc, h1, h2, h3, h4, h5, h6, h7, h8⟩ := h
  refine (popI Sa A a W h1 hn).mono ?_
  rintro e W' ⟨x, ok, a', he, po, h1', k⟩
  exact ⟨x, ok, a', he, po, Sa, Sb, Sc, h1', h2.other k (fun i hi q => h4 i q hi), h3.other k (fun i hi q => h6 i hi q), h4, h5, h6, h7, h8.trans (k.old h8.size fun i hi => h7 i (.inl hi))⟩
theorem Tri.push (h : Tri w0 W A B C a b c) (hn : a.length ≤ 100000) (x : Int) :
    Calls Try.prog 11 #[.pointer (some ⟨A, 0, none⟩), .int .i64 x] W fun e W' => e = .returned (.tuple #[]) ∧ Tri w0 W' A B C (x :: a) b c := by
  obtain ⟨Sa, Sb, Sc, h1, h2, h3, h4, h5, h6, h7, h8⟩ := h
  refine (pushI Sa A a x W h1 hn).mono ?_
  rintro e W' ⟨he, S', h1', k, hS⟩
  refine ⟨he, S', Sb, Sc, h1', h2.other k (fun i hi q => h4 i q hi), h3.other k (fun i hi q => h6 i hi q), fun i hi q => ?_, h5, fun i hi q => ?_, fun i hi => ?_, h8.trans (k.old h8.size fun i hi => h7 i (.inl hi))⟩
  · rcases hS i hi with q2 | q2
    · exact h4 i q2 q
    · have := h2.in_ i q; omega
  · rcases hS i q with q2 | q2
    · exact h6 i hi q2
    · have := h3.in_ i hi; omega
  · rcases hi with q | q
    · rcases hS i q with q2 | q2
      · exact h7 i (.inl q2)
      · exact Nat.le_trans h8.size q2
    · exact h7 i (.inr q)
theorem Tri.len (h : Tri w0 W A B C a b c) :
    Calls Try.prog 17 #[.pointer (some ⟨A, 0, none⟩)] W fun e W' => e = .returned (.int .i64 (a.length : Int)) ∧ W' = W := by
  obtain ⟨Sa, Sb, Sc, h1, _⟩ := h
  exact lenI Sa A a W h1
end
theorem lst_drop {w : World} {B n k b off : Nat} {l : List Int} (h : Lst w B (some ⟨b, off, none⟩) n (ci l)) (hk : k ≤ n) : Lst w B (some ⟨b, off + k, none⟩) (n - k) (ci (l.drop k)) := by
  have hl := h.1
  rw [ci_length] at hl
  refine ⟨by rw [ci_length]; simp; omega, fun h0 => ?_⟩
  obtain ⟨b', off', e, hb, hc⟩ := h.2 (by omega)
  injection e with e
  injection e with e1 e2
  subst e1
  subst e2
  refine ⟨b, off + k, rfl, hb, fun j u hu => ?_⟩
  rw [Nat.add_assoc]
  refine hc (k + j) u ?_
  simpa [ci, List.getElem?_drop] using hu
theorem lst_end {w : World} {B n k : Nat} {l : List Int} (A A' : Option Addr) (h : Lst w B A n (ci l)) (hk : k = n) : Lst w B A' (n - k) (ci (l.drop k)) := by
  have hl := h.1
  rw [ci_length] at hl
  exact ⟨by rw [ci_length]; simp; omega, fun h0 => by omega⟩

set_option maxRecDepth 100000 in
set_option maxHeartbeats 1600000 in
theorem walk (a0 : Option Addr) (len0 cap0 : Nat) (z0 : List Int) (cut : Int) (w : World) (w0 : IsRow .i64 w a0 len0 cap0 z0) (wc : (Lit.int .i64 cut).wf = true) :
    Calls Try.prog 6 #[.slice a0 len0 cap0, .int .i64 cut] w fun e w' => e = .returned (.bool true) ∧ Below w.heap.size w w' := by
  obtain ⟨hL, hl, hlc, -, hA⟩ := w0.lst
  have hll : (z0.take len0).length = len0 := by simp; omega
  obtain ⟨l, hl2⟩ : ∃ l, l = z0.take len0 := ⟨_, rfl⟩
  rw [← hl2] at hL hll
  have HL := Lib.hid (show Lst w w.heap.size a0 len0 (ci l) from hL)
  have HA := Lib.hid hA
  have HLL := Lib.hid hll
  clear w0 hl hA hL hl2 hll
  go_enter Try.func6, Try.ntmps6
  go_wp2_with fail
  refine (awake_any _).mono ?_
  rintro _ w1 ⟨rfl, b1⟩
  have HB1 := Lib.hid b1
  have HL1 := Lib.hid (((HL.out.below b1)).more b1.size)
  clear b1
  by_cases c1 : 100 < len0
  · go_wp2
    go_ret
    exact ⟨rfl, HB1.out⟩
  by_cases c2 : cut < 0
  · go_wp2
    go_ret
    exact ⟨rfl, HB1.out⟩
  by_cases c3 : (len0 : Int) < cut
  · go_wp2
    go_ret
    exact ⟨rfl, HB1.out⟩
  obtain ⟨k, rfl⟩ : ∃ k : Nat, cut = (k : Int) := ⟨cut.toNat, by omega⟩
  have kn : k ≤ len0 := by omega
  have kc : k ≤ cap0 := by omega
  clear wc c2 c3
  have n100 : len0 ≤ 100 := by omega
  have d1 : decide (100 < (len0 : Int)) = false := by simp; omega
  have d2 : decide ((k : Int) < 0) = false := by simp
  have d3 : decide (len0 < k) = false := by simp; omega
  clear c1
  obtain ⟨A', hA'⟩ : ∃ A', (if cap0 = k then a0 else Option.map (fun x => x.add k) a0) = A' := ⟨_, rfl⟩
  have hL' : Lst w1 w1.heap.size A' (len0 - k) (ci (l.drop k)) ∧ (A' = none → cap0 - k = 0) := by
    cases a0 with
    | none =>
      have hc := HA.out rfl
      subst hc
      have k0 : k = 0 := by omega
      have l0 : len0 = 0 := by omega
      exact ⟨lst_end none A' HL1.out (by omega), fun _ => by omega⟩
    | some ad =>
      rw [← hA']
      by_cases e : cap0 = k
      · rw [if_pos e]
        exact ⟨lst_end _ _ HL1.out (by omega), fun h => by omega⟩
      · rw [if_neg e]
        refine ⟨?_, fun h => by simp at h⟩
        by_cases e2 : k = len0
        · exact lst_end _ _ HL1.out e2
        · obtain ⟨b, off, e3, _⟩ := HL1.out.2 (by omega)
          injection e3 with e3
          subst e3
          have e4 : (⟨b, off, none⟩ : Addr).add k = ⟨b, off + k, none⟩ := Addr.add_lit _ _ _
          rw [Option.map_some, e4]
          exact lst_drop HL1.out kn
  have HL2 := Lib.hid hL'
  have N1 := Lib.hid (newI a0 len0 cap0 l w1.drew (HL1.out.keep fun _ _ => rfl) HA.out (by omega))
  have N2 := Lib.hid (fun (W : World) (hb : Below w1.heap.size w1 W) => newI A' (len0 - k) (cap0 - k) (l.drop k) W ((hL'.1.below hb).more hb.size) hL'.2 (by omega))
  have N3 := Lib.hid (fun W : World => newI none 0 0 [] W (show Lst W W.heap.size none 0 (ci []) from Lst.nil _ _ _) (fun _ => rfl) (by omega))
  clear hL'
  go_wp2
  go_region_with (first
    | (go_at_call 9; (with_reducible refine N1.out.mono ?_); rintro _ w2 ⟨Sa, Ba, rfl, h2, b2, s2⟩; have H2 := Lib.hid h2; have B2 := Lib.hid (show Below w1.heap.size w1 w2 from ((Below.refl _ w1).drew).trans b2); have S2 := Lib.hid (show ∀ i, Sa i → w1.heap.size ≤ i from s2); clear h2 b2 s2)
    | (go_at_call 9; (with_reducible refine (N2.out w2 B2.out).mono ?_); rintro _ w3 ⟨Sb, Bb, rfl, h3, b3, s3⟩; have H3 := Lib.hid h3; have B3 := Lib.hid b3; have S3 := Lib.hid s3; clear h3 b3 s3)
    | (go_at_call 9; (with_reducible refine (N3.out w3).mono ?_); rintro _ w4 ⟨Sc, Bc, rfl, h4, b4, s4⟩; have H4 := Lib.hid h4; have B4 := Lib.hid b4; have S4 := Lib.hid s4; clear h4 b4 s4))
  all_goals
    have ht : Tri w w4 Ba Bb Bc l (l.drop k) [] := by
      have z1 := HB1.out.size
      have z2 := B2.out.size
      have z3 := B3.out.size
      refine ⟨Sa, Sb, Sc, (H2.out.below B3.out).below B4.out, H3.out.below B4.out, H4.out, fun i q1 q2 => ?_, fun i q1 q2 => ?_, fun i q1 q2 => ?_, fun i q => ?_, HB1.out.trans ((B2.out.trans ((B3.out.trans (B4.out.mono z3)).mono z2)).mono z1)⟩
      · have := H2.out.in_ i q1; have := S3.out i q2; omega
      · have := H3.out.in_ i q1; have := S4.out i q2; omega
      · have := S4.out i q1; have := H2.out.in_ i q2; omega
      · rcases q with q | q | q
        · have := S2.out i q; omega
        · have := S3.out i q; omega
        · have := S4.out i q; omega
    have HT := Lib.hid ht
    clear ht H2 B2 S2 H3 B3 S3 H4 B4 S4 hA' HL2 HL1 HB1 N1 N2 N3
    go_wp2
    go_loopw [8] (fun I wr => ∃ i : Nat, I = .int .i64 (i : Int) ∧ i ≤ k ∧ Tri w wr Ba Bb Bc l (l.take i ++ l.drop k) []) (fun I _ => k - (intOf I).toNat)
    case atStart => exact ⟨0, rfl, Nat.zero_le _, by simpa using HT.out⟩
    case round =>
      obtain ⟨i, rfl, ik, ht⟩ := hrel
      have HT1 := Lib.hid ht
      clear ht
      by_cases hlt : i < k
      · have hin : i < len0 := by omega
        obtain ⟨x, hx⟩ : ∃ x, l[i]? = some x := ⟨_, List.getElem?_eq_getElem (by rw [HLL.out]; exact hin)⟩
        obtain ⟨b, off, rfl, hb, hc⟩ := (HL.out.at_ hin)
        rw [ci_at hx] at hc
        have hcr := (HT1.out.below.cell (p := ⟨b, off + i, none⟩) hb).trans hc
        have HPM := Lib.hid (show (x :: (l.take i ++ l.drop k)).Perm (l.take (i + 1) ++ l.drop k) from by
          rw [List.take_add_one, hx]
          simp
          exact List.perm_middle.symm)
        have HK := Lib.hid (HT1.out.rot.push (by simp; rw [HLL.out]; omega) x)
        clear hx hb hc
        go_wp2_with fail
        refine HK.out.mono ?_
        rintro _ w5 ⟨rfl, ht5⟩
        have HT5 := Lib.hid ((ht5.perm HPM.out).rot.rot)
        clear ht5 HK hcr
        go_wp2
        go_roundw
        case rel => exact ⟨i + 1, congrArg (Value.int .i64) (by omega), by omega, HT5.out⟩
        case measure => simp [intOf]; omega
      · obtain rfl : i = k := by omega
        have HT2 : Hid (Tri w wr Ba Bb Bc l l []) := by have := HT1.out; rwa [List.take_append_drop] at this
        clear HT1
        go_wp2
        go_loopw [9] (fun I wr => ∃ j : Nat, I = .int .i64 ((j : Int) - 1) ∧ j ≤ len0 ∧ Tri w wr Ba Bb Bc l l (l.drop j)) (fun I _ => (intOf I + 1).toNat)
        case atStart => exact ⟨len0, rfl, Nat.le_refl _, by rw [List.drop_of_length_le (by rw [HLL.out]; omega)]; exact HT2.out⟩
        case round =>
          obtain ⟨j, rfl, jn, ht⟩ := hrel
          have HT3 := Lib.hid ht
          clear ht
          cases j with
          | succ j =>
            have hin : j < len0 := by omega
            obtain ⟨x, hx⟩ : ∃ x, l[j]? = some x := ⟨_, List.getElem?_eq_getElem (by rw [HLL.out]; exact hin)⟩
            obtain ⟨b, off, rfl, hb, hc⟩ := (HL.out.at_ hin)
            rw [ci_at hx] at hc
            have hcr := (HT3.out.below.cell (p := ⟨b, off + j, none⟩) hb).trans hc
            have HPM := Lib.hid (show x :: l.drop (j + 1) = l.drop j from by
              obtain ⟨h1, h2⟩ := List.getElem?_eq_some_iff.1 hx
              rw [List.drop_eq_getElem_cons h1, h2])
            have HK := Lib.hid (HT3.out.rot.rot.push (by simp; rw [HLL.out]; omega) x)
            have ej : ((j + 1 : Nat) : Int) - 1 = (j : Int) := by omega
            clear hx hb hc
            rw [ej]
            go_wp2_with fail
            refine HK.out.mono ?_
            rintro _ w5 ⟨rfl, ht5⟩
            have ht6 := ht5.rot
            rw [HPM.out] at ht6
            have HT5 := Lib.hid ht6
            clear ht5 ht6 HK hcr
            go_wp2
            go_roundw
            case rel => exact ⟨j, rfl, by omega, HT5.out⟩
            case measure => simp [intOf]
          | zero =>
            have HT4 : Hid (Tri w wr Ba Bb Bc l l l) := by have := HT3.out; rwa [List.drop_zero] at this
            clear HT3
            rw [show ((0 : Nat) : Int) - 1 = -1 from rfl]
            go_wp2
            go_loopw [74] (fun I wr => ∃ (j : Nat) (a b c : List Int), I = .int .i64 (j : Int) ∧ j ≤ len0 ∧ a.length = len0 - j ∧ a.Perm b ∧ a.Perm c ∧ Tri w wr Ba Bb Bc a b c) (fun I _ => len0 - (intOf I).toNat)
            case atStart => exact ⟨0, l, l, l, rfl, Nat.zero_le _, HLL.out, List.Perm.refl _, List.Perm.refl _, HT4.out⟩
            case round =>
              obtain ⟨j, a, b, c, rfl, jn, hal, hab, hac, ht⟩ := hrel
              have HT5 := Lib.hid ht
              have HAL := Lib.hid hal
              have HAB := Lib.hid hab
              have HAC := Lib.hid hac
              clear ht hal hab hac
              by_cases hlt : j < len0
              · go_wp2_with fail
                refine (HT5.out.pop (by rw [HAL.out]; omega)).mono ?_
                rintro _ w5 ⟨x, ok, a', rfl, po1, ht1⟩
                have HT6 := Lib.hid ht1.rot
                have P1 := Lib.hid po1
                clear po1 ht1
                go_wp2_with fail
                refine (HT6.out.pop (by rw [← HAB.out.length_eq, HAL.out]; omega)).mono ?_
                rintro _ w6 ⟨y, ok2, b', rfl, po2, ht2⟩
                obtain ⟨rfl, rfl, pab⟩ := P1.out.unique ilt_eq (po2.perm HAB.out.symm)
                have HT7 := Lib.hid ht2.rot
                have PAB := Lib.hid pab
                clear po2 ht2 pab HT6
                go_wp2_with fail
                refine (HT7.out.pop (by rw [← HAC.out.length_eq, HAL.out]; omega)).mono ?_
                rintro _ w7 ⟨z, ok3, c', rfl, po3, ht3⟩
                obtain ⟨rfl, rfl, pac⟩ := P1.out.unique ilt_eq (po3.perm HAC.out.symm)
                have HT8 := Lib.hid ht3.rot
                have PAC := Lib.hid pac
                have hl' := P1.out.length
                have hok : ok = true := by
                  rcases P1.out with ⟨h, _⟩ | ⟨h, _⟩
                  · have := HAL.out; rw [h] at this; simp at this; omega
                  · exact h
                subst hok
                have HAL' := Lib.hid (show a'.length = len0 - (j + 1) from by rw [hl', HAL.out]; omega)
                clear po3 ht3 pac HT7 hl'
                go_wp2
                go_roundw
                case rel => exact ⟨j + 1, a', b', c', congrArg (Value.int .i64) (by omega), by omega, HAL'.out, PAB.out, PAC.out, HT8.out⟩
                case measure => simp [intOf]; omega
              · have a0 : a.length = 0 := by rw [HAL.out]; omega
                have b0 : b.length = 0 := by rw [← HAB.out.length_eq]; exact a0
                have c0 : c.length = 0 := by rw [← HAC.out.length_eq]; exact a0
                have K1 := HT5.out.len
                have K2 := HT5.out.rot.len
                have K3 := HT5.out.rot.rot.len
                rw [a0] at K1
                rw [b0] at K2
                rw [c0] at K3
                have HK1 := Lib.hid K1
                have HK2 := Lib.hid K2
                have HK3 := Lib.hid K3
                clear K1 K2 K3 a0 b0 c0
                go_wp2_with fail
                refine HK1.out.mono ?_
                rintro _ w5 ⟨rfl, hw⟩
                subst hw
                go_wp2_with fail
                refine HK2.out.mono ?_
                rintro _ w6 ⟨rfl, hw⟩
                subst hw
                go_wp2_with fail
                refine HK3.out.mono ?_
                rintro _ w7 ⟨rfl, hw⟩
                subst hw
                go_wp2
                go_ret
                exact ⟨rfl, HT5.out.below⟩
theorem own : ownKnob Try.prog.godebug = none := by kernel_rfl
theorem laidOut : laidOutB Try.prog = true := by kernel_rfl
set_option maxRecDepth 100000 in
theorem lifted (os : Os) (started : os.Started) (H : Type) (enc : TypeId × Value → H) :
    ReturnsInHanded {} Try.checked os 6 .any (Rows.heapBuiltSpec.pre6 enc Try.prog Try.f6 Rows.heapBuiltRow.domain false) (Rows.heapBuiltSpec.post enc Try.prog Try.f6 false true false false) := by
  refine returnsInHanded_of_change (C := Try.checked) own started (by kernel_rfl) Try.func6
    (ChangeSpec.witness6 (enc := enc) (C := Try.checked) false ⟨#[], #[.slice none 0 0, .int .i64 0], []⟩ 8 (by kernel_rfl) (by kernel_rfl) (by kernel_rfl) (by kernel_rfl)) ?_
  intro W base args ds gs before hval0 hW hcnd _
  have hval : ∀ (j : Nat) t v, Try.f6.params[j]? = some t → args[j]? = some v → Value.okWide Try.prog W .any base t v := hval0
  have hW' := hW
  obtain ⟨p, q, hA0, hV, rfl, hfz, hnd⟩ := hW
  have hA : DataW.TrodAll enc Try.prog W 0 (fun _ => true) true Try.f6.params.toList args.toList ds p := hA0
  rw [Try.params6] at hA hval
  obtain ⟨v0, vs0, d0, ds0, p0, q0, hargs, rfl, rfl, h0, r0⟩ := trodAll_cons hA
  obtain ⟨v1, vs1, d1, ds1, p1, q1, rfl, rfl, rfl, h1, r1⟩ := trodAll_cons r0
  obtain ⟨rfl, rfl, rfl⟩ := trodAll_nil r1
  obtain rfl : args = #[v0, v1] := by cases args; simp_all
  obtain ⟨rfl, rfl⟩ := trodVars_none hV
  obtain ⟨a0, len0, cap0, rfl⟩ := okWide_slice Try.underlying22 (hval 0 22 v0 rfl rfl)
  have k0 := h0
  have lt0 : ∀ x ∈ p0, x.block < W.heap.size := by obtain ⟨m, hm⟩ := k0; exact DataW.trod_lt m _ _ _ hm
  obtain ⟨z0, w0⟩ : ∃ zs, IsRow .i64 W a0 len0 cap0 zs := by
    obtain ⟨fuel, hf⟩ := h0
    rcases open_ints Try.underlying22 Try.underlying3 (by kernel_rfl) hf with ⟨hcs, _⟩ | ⟨x, l, c, zs, hcs, _, hl, hm, hz, _, hcell, hwz⟩
    · simp [Value.cells] at hcs
      obtain ⟨rfl, rfl, rfl⟩ := hcs
      exact ⟨[], .inl ⟨rfl, rfl, rfl, rfl⟩⟩
    · simp [Value.cells] at hcs
      obtain ⟨rfl, rfl, rfl⟩ := hcs
      exact ⟨zs, .inr ⟨_, rfl, hl, hm, by simpa using hz, hcell, hwz⟩⟩
  obtain ⟨a1, rfl, rfl, rfl, w1⟩ := open_int Try.underlying3 (hval 1 3 v1 rfl rfl) h1
  clear hA0 hval0
  refine (walk a0 len0 cap0 z0 a1 W w0 w1).mono fun e W' ⟨he, bel⟩ => ?_
  subst he
  exact ⟨_, rfl, _, _, _, [], _, [], hW', trodAll_mk1 (shut_bool Try.underlying4 _), (trodAll_cons_mk (Below.trod laidOut (by kernel_rfl) (of_decide_eq_true (by kernel_rfl)) k0 bel lt0) (trodAll_cons_mk (shut_int Try.underlying3 w1) trodAll_mk0)), rfl, bel.frame _, fun h => by cases h⟩
theorem over : Rows.heapBuiltRow.holds Try.pinned (OpenSpec.ofChange Rows.heapBuiltSpec) :=
  OpenClaim.holds_of_wide 6 Try.f6 rfl rfl rfl rfl rfl rfl rfl ⟨rfl, rfl, rfl, rfl, rfl⟩ rfl rfl rfl rfl rfl (by kernel_rfl) Try.func6 (by kernel_rfl)
    (of_decide_eq_true (by kernel_rfl)) (by unfold Func.isWrapper; first | (rw [if_pos (by decide +kernel)]; kernel_rfl) | (rw [if_neg (by decide +kernel)]; exact ⟨rfl, rfl⟩))
    (fun os started H enc _ => lifted os started H enc)
/-- the statement -/
theorem proved : Rows.HeapBuiltSaid := over
#print axioms proved
end heapBuilt
end Go.Proofs.Ytefdohjcgolhjaa
