/-
  FieldParts holds for every input: a row of coordinates, cut by fours, is each one's field; two rows, one behind the other, are one. No condition.
-/
import Derived.Test.YtkceagmgabjidaaFCut
import Derived.Test.YtkceagmgabjidaaFAwake
import Derived.ProofKit
import Derived.OpenShut
import Derived.ShutString
import Derived.ChangeOld
import Derived.WalkSmall
import Derived.Deep.RegionWith
import Derived.Deep.DeepCutAuto
namespace Go.Proofs.Ytkceagmgabjidaa.fieldParts
open Go.ChangeShapes Go.WideShapes Go.ChangeAt Go.RowKit
open Go.ChangeMaps (open_string shut_string)
set_option linter.unusedVariables false

theorem Try.infoInt : (Try.prog.info? 3).map (fun i => (i.zero, i.size, i.bytes)) = some (some (.int .i64 0), 1, 8) := by kernel_rfl
theorem cut_n (s : ByteArray) (A : Option Addr) (c n : Nat) (zs : List Int) (w : World) (hz : zs.length = n) (hs : s.size ≤ 1000000) (h : Lst w w.heap.size A n (zs.map (Value.int .i64))) (hn : n ≤ 100000) :
    Calls Try.prog 22 #[.string s, .slice A n c] w (CutsTo w.heap.size s.data.toList zs w) := by
  subst hz; exact cut_any s A c zs w hs h hn
theorem cut_row (l : List Int) : cutL (rowB l) (List.replicate l.length 4) = some (l.map fun c => Fm.fld (u64n c) 4) := by
  induction l with
  | nil => rfl
  | cons c r ih =>
    have e : rowB (c :: r) = Fm.fld (u64n c) 4 ++ rowB r := List.flatMap_cons
    rw [e, List.length_cons, List.replicate_succ, show (4 : Int) = ((4 : Nat) : Int) from rfl, cutL_good (by rw [List.length_append, Fm.fld_length]; omega), List.drop_left' (Fm.fld_length _ 4), List.take_left' (Fm.fld_length _ 4)]
    rw [show (((4 : Nat) : Int)) = 4 from rfl, ih]
    rfl
theorem grown_below {w0 w w' : World} {row : Option Nat} (hb : Below w0.heap.size w0 w) (hg : w.grownBy w' row) (hr : ∀ k, row = some k → w0.heap.size ≤ k) : Below w0.heap.size w0 w' := hb.grown hg hb.size hr

theorem built_ge {w w1 : World} (h : w.heap.size ≤ w1.heap.size) : ∀ k, (Value.slice (some ⟨w1.heap.size, 0, none⟩) 0 0).ownBlock = some k → w.heap.size ≤ k := by
  intro k hk
  simp [Value.ownBlock] at hk
  omega

set_option maxHeartbeats 1600000 in
set_option maxRecDepth 100000 in
theorem walk (a0 : Option Addr) (len0 cap0 : Nat) (z0 : List Int) (a1 : Option Addr) (len1 cap1 : Nat) (z1 : List Int) (w : World) (w0 : IsRow .i32 w a0 len0 cap0 z0) (w1 : IsRow .i32 w a1 len1 cap1 z1) :
    Calls Try.prog 9 #[.slice a0 len0 cap0, .slice a1 len1 cap1] w fun e w' => e = .returned (.bool true) ∧ Below w.heap.size w w' := by
  obtain ⟨hL, hl0, -, hwf, hA0⟩ := w0.lst
  obtain ⟨hL', hl1, -, hwf', hA1⟩ := w1.lst
  clear w0 w1
  by_cases g0 : 300 < len0
  · clear hL hL' hwf hwf' hA0 hA1
    go_enter Try.func9, Try.ntmps9
    go_wp2_with fail
    refine (awake_any _).mono ?_
    rintro e w1 ⟨rfl, hb1⟩
    have HB1 := Lib.hid hb1
    clear hb1
    go_wp2
    go_ret
    exact ⟨rfl, HB1.out⟩
  have g0' : len0 ≤ 300 := by omega
  by_cases g1 : 300 < len1
  · clear hL hL' hwf hwf' hA0 hA1
    go_enter Try.func9, Try.ntmps9
    go_wp2_with fail
    refine (awake_any _).mono ?_
    rintro e w1 ⟨rfl, hb1⟩
    have HB1 := Lib.hid hb1
    clear hb1
    go_wp2
    go_ret
    exact ⟨rfl, HB1.out⟩
  have g1' : len1 ≤ 300 := by omega
  obtain ⟨l, hl⟩ : ∃ l, l = z0.take len0 := ⟨_, rfl⟩
  obtain ⟨m, hm⟩ : ∃ m, m = z1.take len1 := ⟨_, rfl⟩
  rw [← hl] at hL hwf
  rw [← hm] at hL' hwf'
  have hlen : l.length = len0 := by rw [hl]; simp; omega
  have hlen' : m.length = len1 := by rw [hm]; simp; omega
  have HL := Lib.hid hL
  have HM := Lib.hid hL'
  have HN := Lib.hid hlen
  have HN' := Lib.hid hlen'
  have HA0 := Lib.hid hA0
  have HA1 := Lib.hid hA1
  clear hL hL' hwf hwf' hl hm hlen hlen' hl0 hl1 g0 g1 hA0 hA1
  obtain ⟨i0, hi, hz0, hz1, hz2⟩ := info_parts Try.infoI32
  obtain ⟨i1, hi1, hy0, hy1, hy2⟩ := info_parts Try.infoInt
  go_enter Try.func9, Try.ntmps9
  go_wp2_with fail
  refine (awake_any _).mono ?_
  rintro e w1 ⟨rfl, hb1⟩
  have HB1 := Lib.hid hb1
  have hs1 := hb1.size
  clear hb1
  have hbE := HB1.out.alloc hs1 (.cells #[] 21)
  have HBE := Lib.hid hbE
  have hLE := HL.out.below hbE
  have HLE := Lib.hid hLE
  clear hbE hLE
  go_wp2_with (first
    | (at_builtin; refine append_lst _ rfl (.tmp 20) (.tmp 21) 32 rfl w1.heap.size 21 i0 (.int .i32 0) 4 Try.underlying32 hi hz0 hz1 hz2 rfl (.slice (some ⟨w1.heap.size, 0, none⟩) 0 0) 0 [] rfl (own_empty w1 21) w.heap.size a0 len0 cap0 (l.map (Value.int .i32)) rfl HA0.out HLE.out (ints_one .i32 l) (by unfold maxLen; omega) (by omega) (by simp) ?_; intro v1 w2 hown1 hg1; have hb2 := grown_below HBE.out hg1 (built_ge hs1); have hL2 := HM.out.below hb2; rw [Nat.zero_add, List.nil_append] at hown1; have hs2 := hg1.size)
    | (at_builtin; refine append_lst _ rfl (.tmp 22) (.tmp 23) 32 rfl w1.heap.size 21 i0 (.int .i32 0) 4 Try.underlying32 hi hz0 hz1 hz2 rfl v1 len0 (l.map (Value.int .i32)) rfl hown1 w.heap.size a1 len1 cap1 (m.map (Value.int .i32)) rfl HA1.out hL2 (ints_one .i32 m) (by unfold maxLen; omega) (by omega) (by simp at hs2; omega) ?_; intro v2 w3 hown2 hg2; have hb3 := grown_below hb2 hg2 (fun k hk => Nat.le_trans hs1 (ownBlock_ge hown1 k hk)); rw [← List.map_append] at hown2; obtain ⟨A, c, hv2⟩ := own_form hown2; subst hv2; have HO3 := Lib.hid (Lst.of_own hown2); have HB3 := Lib.hid hb3; have hs3 := hb3.size; clear hown2 hg2 hb3 hb2 hL2 hown1 hg1 hs2))
  have hadd : ∀ W : World, (Op.stringOp .add ⟨(rowB l).toArray⟩ ⟨(rowB m).toArray⟩).run Try.prog W = .ok (.string ⟨(rowB (l ++ m)).toArray⟩) W := fun W => by
    rw [rowB_append]
    exact run_string_add_lists (P := Try.prog) W (rowB l) (rowB m) (by rw [rowB_length, HN.out]; omega) (by rw [rowB_length, HN'.out]; omega)
  refine (row_any _ _ _ l _ ((HL.out.below HB3.out).more hs3) (by omega)).mono ?_
  rintro e w4 ⟨rfl, hb4⟩
  have HB4 := Lib.hid (HB3.out.trans (hb4.mono hs3))
  have hs4 := HB4.out.size
  have HO4 := Lib.hid ((HO3.out.below hb4).more hb4.size)
  clear hb4 HB3 HO3
  go_wp2_with fail
  refine (row_any _ _ _ m _ ((HM.out.below HB4.out).more hs4) (by omega)).mono ?_
  rintro e w5 ⟨rfl, hb5⟩
  have HB5 := Lib.hid (HB4.out.trans (hb5.mono hs4))
  have hs5 := HB5.out.size
  have HO5 := Lib.hid ((HO4.out.below hb5).more hb5.size)
  clear hb5 HB4 HO4
  go_wp2_with fail
  refine (row_any _ _ _ (l ++ m) _ HO5.out (by omega)).mono ?_
  rintro e w6 ⟨rfl, hb6⟩
  have HB6 := Lib.hid (HB5.out.trans (hb6.mono hs5))
  have hs6 := HB6.out.size
  have HO6 := Lib.hid ((HO5.out.below hb6).more hb6.size)
  clear hb6 HB5 HO5 hadd HL HM HA0 HA1 HB1 HBE HLE
  obtain ⟨B, hB⟩ : ∃ B, B = l ++ m := ⟨_, rfl⟩
  obtain ⟨n, hn⟩ : ∃ n, n = len0 + len1 := ⟨_, rfl⟩
  have HBn : Hid (B.length = n) := by
    show B.length = n
    rw [hB, hn, List.length_append, HN.out, HN'.out]
  rw [← hB, ← hn] at HO6
  rw [← hB, ← hn]
  have hn6 : n ≤ 600 := by omega
  clear hB hn HN HN'
  go_wp2_with fail
  go_loopw [6, 35] (fun v i wr => ∃ k : Nat, k ≤ n ∧ i = .int .i64 k ∧ wr.ownsRow w6.heap.size 3 1 v k ((List.replicate k (4 : Int)).map (Value.int .i64)) ∧ Below w6.heap.size w6 wr) (fun _ i _ => n - (intOf i).toNat)
  case atStart => exact ⟨0, Nat.zero_le _, rfl, World.ownsRow_nil _ _ _ _, Below.refl _ _⟩
  case round =>
    obtain ⟨k, hk, rfl, hown, hbel⟩ := hrel
    have hsz := hbel.size
    have HB := Lib.hid hbel
    clear hbel
    by_cases hlt : k < n
    · go_wp2_with (at_builtin; refine wpList_append_own _ rfl _ _ 38 rfl w6.heap.size 3 i1 (.int .i64 0) 1 8 Try.underlying38 hi1 hy0 hy1 hy2 rfl (by decide) _ _ _ rfl (hown.alloc _) ⟨wr.heap.size, 0, none⟩ 1 1 [.int .i64 4] rfl rfl ?c1 ?c2 ?c3 ?c4 ?c5 ?_)
      case c1 => exact cell_one_new _ _ _
      case c2 => intro u hu; simp at hu; subst hu; rfl
      case c3 => unfold maxLen; omega
      case c4 => omega
      case c5 => simp; omega
      intro v' w7 hown' hgrow _
      have HO' : Hid (w7.ownsRow w6.heap.size 3 1 v' (k + 1) ((List.replicate (k + 1) (4 : Int)).map (Value.int .i64))) := by
        show w7.ownsRow w6.heap.size 3 1 v' (k + 1) ((List.replicate (k + 1) (4 : Int)).map (Value.int .i64))
        rw [List.replicate_succ', List.map_append, List.map_replicate]; exact hown'
      have HB' := Lib.hid ((HB.out.alloc hsz (.cells #[.int .i64 4] 3)).grown hgrow (by simp; omega) (ownBlock_ge hown))
      clear hown' hgrow hown HB
      go_wp2
      go_roundw
      case rel => exact ⟨k + 1, by omega, by go_num, HO'.out, HB'.out⟩
      case measure => simp [intOf]; omega
    · obtain rfl : k = n := by omega
      obtain ⟨A7, c7, hv⟩ := own_form hown
      subst hv
      have HZ7 := Lib.hid (Lst.of_own hown)
      have HO7 := Lib.hid ((HO6.out.below HB.out).more hsz)
      have HB7 := Lib.hid (HB6.out.trans (HB.out.mono hs6))
      have hs7 := HB7.out.size
      clear hown HB HO6 HB6 hk hlt
      go_wp2_with fail
      refine (row_any _ _ _ B _ HO7.out (by omega)).mono ?_
      rintro e w8 ⟨rfl, hb8⟩
      have HB8 := Lib.hid (HB7.out.trans (hb8.mono hs7))
      have hs8 := HB8.out.size
      have HO8 := Lib.hid ((HO7.out.below hb8).more hb8.size)
      have HZ8 := Lib.hid ((HZ7.out.below hb8).more hb8.size)
      clear hb8 HB7 HO7 HZ7
      go_wp2_with fail
      refine (cut_n _ A7 c7 k (List.replicate k 4) _ (List.length_replicate ..) (by simp [ByteArray.size, rowB_length, HBn.out]; omega) HZ8.out (by omega)).mono ?_
      rintro e w9 ⟨hb9, hres⟩
      have HB9 := Lib.hid (HB8.out.trans (hb9.mono hs8))
      have hs9 := HB9.out.size
      have HO9 := Lib.hid ((HO8.out.below hb9).more hb9.size)
      clear hb9 HB8 HO8 HZ8
      have hcr : cutL (ByteArray.mk (rowB B).toArray).data.toList (List.replicate k 4) = some (B.map fun c => Fm.fld (u64n c) 4) := by
        rw [← HBn.out]; exact cut_row B
      rw [hcr] at hres
      rcases hres with ⟨hnone, _⟩ | ⟨m', A', c', hsome, rfl, hown'⟩
      · cases hnone
      · obtain rfl := Option.some.inj hsome
        rw [List.length_replicate] at hown'
        rw [List.length_replicate]
        have HP9 := Lib.hid (Lst.of_own hown')
        clear hsome hown' hcr
        go_wp2_with fail
        go_loopw [9] (fun i wr => ∃ q : Nat, q ≤ k ∧ i = .int .i64 q ∧ Below w9.heap.size w9 wr) (fun i _ => k - (intOf i).toNat)
        case atStart => exact ⟨0, Nat.zero_le _, rfl, Below.refl _ _⟩
        case round =>
          obtain ⟨q, hq, rfl, hbel⟩ := hrel
          have hsz := hbel.size
          have HB := Lib.hid hbel
          clear hbel
          by_cases hlt : q < k
          · have hkl : q < B.length := by rw [HBn.out]; exact hlt
            obtain ⟨b, off, hA, hb, hc⟩ := (HO9.out.below HB.out).at_ hlt
            obtain ⟨b', off', hA', hb', hc'⟩ := (HP9.out.below HB.out).at_ hlt
            rw [List.getElem?_map, List.getElem?_eq_getElem hkl] at hc
            rw [List.getElem?_map, List.getElem?_map, List.getElem?_eq_getElem hkl] at hc'
            obtain ⟨x, hx⟩ : ∃ x, x = B[q] := ⟨_, rfl⟩
            rw [← hx] at hc hc'
            simp only [Option.map_some] at hc hc'
            unfold strV at hc'
            subst hA hA'
            clear hx
            have hu := u64n_lt x
            have hbb : b < wr.heap.size := by omega
            have hbb' : b' < wr.heap.size := by omega
            have hw := wrap_u64n x
            go_wp2
            go_region_with (go_at_call 13; refine (put_yes (u64n x) 4 _ hu (by omega) (by omega)).mono ?_; rintro e wA ⟨rfl, hbA⟩; have hcA := (hbA.cell (p := ⟨b', off' + q, none⟩) (by exact hbb')).trans hc'; have HBA := Lib.hid hbA; clear hbA)
            all_goals
              go_wp2
              go_roundw
              case rel => exact ⟨q + 1, by omega, by go_num, HB.out.drew.trans (HBA.out.mono hsz)⟩
              case measure => simp [intOf]; omega
          · go_wp2
            go_ret
            exact ⟨rfl, HB9.out.trans (HB.out.mono hs9)⟩
theorem own : ownKnob Try.prog.godebug = none := by kernel_rfl
theorem laidOut : laidOutB Try.prog = true := by kernel_rfl
set_option maxRecDepth 100000 in
theorem lifted (os : Os) (started : os.Started) (H : Type) (enc : TypeId × Value → H) :
    ReturnsInHanded {} Try.checked os 9 .any (Rows.fieldPartsSpec.pre6 enc Try.prog Try.f9 Rows.fieldPartsRow.domain false) (Rows.fieldPartsSpec.post enc Try.prog Try.f9 false true false false) := by
  refine returnsInHanded_of_change (C := Try.checked) own started (by kernel_rfl) Try.func9
    (ChangeSpec.witness6 (enc := enc) (C := Try.checked) false ⟨#[], #[.slice none 0 0, .slice none 0 0], []⟩ 8 (by kernel_rfl) (by kernel_rfl) (by kernel_rfl) (by kernel_rfl)) ?_
  intro W base args ds gs before hval0 hW hcnd _
  have hval : ∀ (j : Nat) t v, Try.f9.params[j]? = some t → args[j]? = some v → Value.okWide Try.prog W .any base t v := hval0
  have hW' := hW
  obtain ⟨p, q, hA0, hV, rfl, hfz, hnd⟩ := hW
  have hA : DataW.TrodAll enc Try.prog W 0 (fun _ => true) true Try.f9.params.toList args.toList ds p := hA0
  rw [Try.params9] at hA hval
  obtain ⟨v0, vs0, d0, ds0, p0, q0, hargs, rfl, rfl, h0, r0⟩ := trodAll_cons hA
  obtain ⟨v1, vs1, d1, ds1, p1, q1, rfl, rfl, rfl, h1, r1⟩ := trodAll_cons r0
  obtain ⟨rfl, rfl, rfl⟩ := trodAll_nil r1
  obtain rfl : args = #[v0, v1] := by cases args; simp_all
  obtain ⟨rfl, rfl⟩ := trodVars_none hV
  obtain ⟨a0, len0, cap0, rfl⟩ := okWide_slice Try.underlying32 (hval 0 32 v0 rfl rfl)
  have k0 := h0
  have lt0 : ∀ x ∈ p0, x.block < W.heap.size := by obtain ⟨m, hm⟩ := k0; exact DataW.trod_lt m _ _ _ hm
  obtain ⟨z0, w0⟩ : ∃ zs, IsRow .i32 W a0 len0 cap0 zs := by
    obtain ⟨fuel, hf⟩ := h0
    rcases open_ints Try.underlying32 Try.underlying21 (by kernel_rfl) hf with ⟨hcs, _⟩ | ⟨x, l, c, zs, hcs, _, hl, hm, hz, _, hcell, hwz⟩
    · simp [Value.cells] at hcs
      obtain ⟨rfl, rfl, rfl⟩ := hcs
      exact ⟨[], .inl ⟨rfl, rfl, rfl, rfl⟩⟩
    · simp [Value.cells] at hcs
      obtain ⟨rfl, rfl, rfl⟩ := hcs
      exact ⟨zs, .inr ⟨_, rfl, hl, hm, by simpa using hz, hcell, hwz⟩⟩
  obtain ⟨a1, len1, cap1, rfl⟩ := okWide_slice Try.underlying32 (hval 1 32 v1 rfl rfl)
  have k1 := h1
  have lt1 : ∀ x ∈ p1, x.block < W.heap.size := by obtain ⟨m, hm⟩ := k1; exact DataW.trod_lt m _ _ _ hm
  obtain ⟨z1, w1⟩ : ∃ zs, IsRow .i32 W a1 len1 cap1 zs := by
    obtain ⟨fuel, hf⟩ := h1
    rcases open_ints Try.underlying32 Try.underlying21 (by kernel_rfl) hf with ⟨hcs, _⟩ | ⟨x, l, c, zs, hcs, _, hl, hm, hz, _, hcell, hwz⟩
    · simp [Value.cells] at hcs
      obtain ⟨rfl, rfl, rfl⟩ := hcs
      exact ⟨[], .inl ⟨rfl, rfl, rfl, rfl⟩⟩
    · simp [Value.cells] at hcs
      obtain ⟨rfl, rfl, rfl⟩ := hcs
      exact ⟨zs, .inr ⟨_, rfl, hl, hm, by simpa using hz, hcell, hwz⟩⟩
  clear hA0 hval0
  refine (walk a0 len0 cap0 z0 a1 len1 cap1 z1 W w0 w1).mono fun e W' ⟨he, bel⟩ => ?_
  subst he
  exact ⟨_, rfl, _, _, _, [], _, [], hW', trodAll_mk1 (shut_bool Try.underlying4 _), (trodAll_cons_mk (Below.trod laidOut (by kernel_rfl) (of_decide_eq_true (by kernel_rfl)) k0 bel lt0) (trodAll_cons_mk (Below.trod laidOut (by kernel_rfl) (of_decide_eq_true (by kernel_rfl)) k1 bel lt1) trodAll_mk0)), rfl, bel.frame _, fun h => by cases h⟩
theorem over : Rows.fieldPartsRow.holds Try.pinned (OpenSpec.ofChange Rows.fieldPartsSpec) :=
  OpenClaim.holds_of_wide 9 Try.f9 rfl rfl rfl rfl rfl rfl rfl ⟨rfl, rfl, rfl, rfl, rfl⟩ rfl rfl rfl rfl rfl (by kernel_rfl) Try.func9 (by kernel_rfl)
    (of_decide_eq_true (by kernel_rfl)) (by unfold Func.isWrapper; first | (rw [if_pos (by decide +kernel)]; kernel_rfl) | (rw [if_neg (by decide +kernel)]; exact ⟨rfl, rfl⟩))
    (fun os started H enc _ => lifted os started H enc)
/-- the statement -/
theorem proved : Rows.FieldPartsSaid := over
#print axioms proved
end Go.Proofs.Ytkceagmgabjidaa.fieldParts
