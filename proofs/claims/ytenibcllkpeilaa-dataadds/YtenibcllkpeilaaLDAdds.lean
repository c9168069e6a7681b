/-
  DataAdds holds for every input: whatever is added, of whatever dimension, each id is the next one, or why there is none, just as the document says; all that is there is told. No condition.
-/
import Derived.Test.YtenibcllkpeilaaDAwk
import Derived.Test.YtenibcllkpeilaaDRef
import Derived.Test.YtenibcllkpeilaaDGat
import Derived.ProofKit
import Derived.OpenShut
import Derived.ShutString
import Derived.ChangeOld
import Derived.WalkSmall
namespace Go.Proofs.Ytenibcllkpeilaa.dataAdds
open Go.ChangeShapes Go.WideShapes Go.ChangeAt Go.RowKit Go.Deep Go.Shelf
open Go.ChangeMaps (open_string shut_string)
set_option linter.unusedVariables false
attribute [local go_sem] Oper.semAt_some

/-- the items at s are K, and the slice v, in a row of its own, reads as K; all that is new since W1 -/
structure Pla (W1 : World) (s : Nat) (d : Int) (K : List (List Int)) (v : Value) (W : World) : Prop where
  ex : ∃ S vs, It W S s d K ∧ (∀ q, S q → W1.heap.size ≤ q) ∧ (∀ q, v.ownBlock = some q → ¬ S q) ∧ W.ownsRow W1.heap.size 31 1 v K.length vs ∧ Vl W1 vs K
  be : Below W1.heap.size W1 W
section
variable {W1 W W' : World} {s n c : Nat} {d : Int} {K : List (List Int)} {v : Value} {l : List Int} {A : Option Addr}
/-- an item more, and it is appended -/
theorem Pla.add (h : Pla W1 s d K v W) (hv : Vec W A n l) (hc : Vm.chk l d = 0) (hK : K.length < 1000) (hV1 : Vec W1 A n l) (hn : n ≤ maxLen) :
    Calls Try.prog 10 #[.pointer (some ⟨s, 0, none⟩), .slice A n c] W fun e W3 => e = .returned (.tuple #[.int .i64 (K.length : Int), .int .i64 0]) ∧ Below W1.heap.size W1 W3 ∧
      ∃ vs, W3.ownsRow W1.heap.size 31 1 v K.length vs ∧
        ∀ g cap W4, W4.ownsRow W1.heap.size 31 1 (.slice (some ⟨g, 0, none⟩) (K.length + 1) cap) (K.length + 1) (vs ++ [.slice A n c]) → (W3.alloc (.cells #[.slice A n c] 31)).grownBy W4 v.ownBlock → (v.ownBlock = some g ∨ g = (W3.alloc (.cells #[.slice A n c] 31)).heap.size) → Pla W1 s d (K ++ [l]) (.slice (some ⟨g, 0, none⟩) (K.length + 1) cap) W4 := by
  obtain ⟨⟨S, vs, hi, hS, hvS, hrow, hvl⟩, hb⟩ := h
  refine (addD (c := c) hi hv hc (by omega)).mono ?_
  rintro e W3 ⟨h1, S', i2, k2, s2⟩
  have hb3 := hb.trans (k2.old hb.size hS)
  have vlt : ∀ q, v.ownBlock = some q → q < W.heap.size := fun q e => by obtain ⟨cs, h⟩ := own_at hrow e; exact lt_of_block h
  have vS' : ∀ q, v.ownBlock = some q → ¬ S' q := fun q e hq => by
    rcases s2 q hq with h | h
    · exact hvS q e h
    · have := vlt q e; omega
  have hrow3 : W3.ownsRow W1.heap.size 31 1 v K.length vs := own_keepS hrow fun q e => k2.block q (vlt q e) (hvS q e)
  refine ⟨h1, hb3, vs, hrow3, fun g cap W4 r1 r2 r3 => ?_⟩
  have hb4 : Below W1.heap.size W1 W4 := (hb3.alloc hb3.size _).grown r2 (by have := hb3.size; simp; omega) (fun q e => own_block hrow3 q e)
  refine ⟨⟨S', vs ++ [.slice A n c], i2.keep (by have := r2.size; simp at this; omega) (fun q hq => ?_), fun q hq => ?_, fun q e hq => ?_, by rw [List.length_append]; exact r1, hvl.snoc hV1 hn⟩, hb4⟩
  · exact (r2.block q (by have := i2.lt q hq; simp; omega) (fun e => vS' q e.symm hq)).trans (Below.heap_alloc _ _ _ (i2.lt q hq))
  · rcases s2 q hq with h | h
    · exact hS q h
    · exact Nat.le_trans hb.size h
  · have e2 : g = q := by simpa [Value.ownBlock] using e
    subst e2
    rcases r3 with r3 | r3
    · exact vS' g r3 hq
    · have := i2.lt g hq
      simp at r3
      omega
theorem Pla.len (h : Pla W1 s d K v W) : Calls Try.prog 12 #[.pointer (some ⟨s, 0, none⟩)] W fun e w' => e = .returned (.int .i64 (K.length : Int)) ∧ W = w' := by obtain ⟨S, vs, hi, -⟩ := h.ex; exact lenD hi
theorem Pla.dim (h : Pla W1 s d K v W) : Calls Try.prog 13 #[.pointer (some ⟨s, 0, none⟩)] W fun e w' => e = .returned (.int .i64 d) ∧ W = w' := by obtain ⟨S, vs, hi, -⟩ := h.ex; exact dimD hi
theorem Pla.form (h : Pla W1 s d K v W) : ∃ A c, v = .slice A K.length c := by
  obtain ⟨S, vs, -, -, -, hrow, -⟩ := h.ex
  obtain ⟨A, c, e, -⟩ := own_form hrow
  exact ⟨A, c, e⟩
end

set_option maxHeartbeats 3200000 in
set_option maxRecDepth 100000 in
theorem walk (d : Int) (a1 : Option Addr) (n cap1 : Nat) (L : List (List Int)) (w : World) (_w0 : (Lit.int .i64 d).wf = true) (w1 : Lv w a1 n cap1 L) :
    Calls Try.prog 3 #[.int .i64 d, .slice a1 n cap1] w fun e w' => e = .returned (.bool true) ∧ Below w.heap.size w w' := by
  obtain ⟨i0, hi, hz0, hz1, hz2⟩ := info_parts Try.infoV
  have HL := Lib.hid w1
  clear w1 _w0
  obtain ⟨W0, hW0⟩ : ∃ W0, W0 = w.alloc (.cells #[.bool false] 4) := ⟨_, rfl⟩
  have b0 : Below w.heap.size w W0 := by rw [hW0]; exact (Below.refl _ w).alloc (Nat.le_refl _) _
  have rr : W0.heap[w.heap.size]? = some (.cells #[.bool false] 4 (0, 0)) := by rw [hW0]; exact heap_new w _ _
  have HW0 := Lib.hid hW0
  have B0 := Lib.hid b0
  have RR := Lib.hid rr
  have s0 := b0.size
  clear hW0 b0 rr
  refine (callsIn_wide (n := 6)).1 ?_
  refine callsIn_of_wp_marks Try.func3 rfl trivial ?_ rfl
  simp only [Try.ntmps3, List.size_toArray, List.length_cons, List.length_nil, Nat.reduceAdd, Nat.reduceSub, Array.replicate_succ, Array.replicate_zero, List.push_toArray, List.append_toArray, List.nil_append, List.cons_append]
  gi_wp2_with fail
  rw [← HW0.out]
  refine ⟨trivial, ?_⟩
  refine (callsIn_wide.2 (awake_any _)).mono ?_
  rintro _ W1 ⟨rfl, b1⟩
  have B1 := Lib.hid (B0.out.trans (b1.mono B0.out.size))
  have rr1 := (b1.block _ (lt_of_block RR.out)).trans RR.out
  have c1 : W1.cell? ⟨w.heap.size, 0, none⟩ = some (.bool false) := by rw [cell_of_row _ _ _ _ _ _ rr1]; rfl
  have f1 := frozen_of_row W1 w.heap.size 0 _ _ rr1
  have RR1 := Lib.hid rr1
  have L1 := Lib.hid (HL.out.below B1.out)
  have HR3 := Lib.hid (one_set (u := .bool true) rr1)
  have ltr := lt_of_block rr1
  clear b1 rr1 RR B0 HL
  gi_wp2_with fail
  refine ⟨trivial, ?_⟩
  refine (callsIn_wide.2 (fewD L1.out)).mono ?_
  rintro _ W1' (⟨rfl, rfl⟩ | ⟨rfl, hn, rfl⟩)
  · gi_wp2
    refine ⟨_, result_bool rfl _ _ w.heap.size true rfl ?_, rfl, B1.out.setCell (p := ⟨w.heap.size, 0, none⟩) (Nat.le_refl _) _⟩
    rw [cell_of_row _ _ _ _ _ _ HR3.out]; rfl
  by_cases g : d < 1 ∨ 1024 < d
  · have HN := Lib.hid (newD_no d W1 g)
    rcases (show d < 1 ∨ (1 ≤ d ∧ 1024 < d) from by omega) with g' | ⟨g', g''⟩
    all_goals
      clear g
      gi_wp2_with fail
      refine ⟨trivial, ?_⟩
      refine (callsIn_wide.2 HN.out).mono ?_
      rintro _ _ ⟨rfl, rfl⟩
      gi_wp2
      refine ⟨_, result_bool rfl _ _ w.heap.size true rfl ?_, rfl, B1.out.setCell (p := ⟨w.heap.size, 0, none⟩) (Nat.le_refl _) _⟩
      rw [cell_of_row _ _ _ _ _ _ HR3.out]; rfl
  have d0 : 1 ≤ d := by omega
  have d1 : d ≤ 1024 := by omega
  clear g c1 f1 HR3
  gi_wp2_with fail
  refine ⟨trivial, ?_⟩
  refine (callsIn_wide.2 (newD d W1 d0 d1)).mono ?_
  rintro _ W2 ⟨rfl, hi2, hb2⟩
  have HP : Hid (Pla W1 W1.heap.size d (Dm.kept d (L.take 0)) (.slice none 0 0) W2) := ⟨⟨_, [], hi2, fun q e => by rw [e]; exact Nat.le_refl _, (fun q e => by simp [Value.ownBlock] at e), World.ownsRow_nil _ _ _ _, Vl.nil _⟩, hb2⟩
  obtain ⟨s, hs⟩ : ∃ s, s = W1.heap.size := ⟨_, rfl⟩
  have HSS := Lib.hid hs
  rw [← hs] at HP
  rw [← hs]
  clear hi2 hb2 hs
  gi_wp2
  gi_loopw [7, 8] (fun v p wr => ∃ i : Nat, p = .int .i64 (i : Int) ∧ i ≤ n ∧ Pla W1 s d (Dm.kept d (L.take i)) v wr) (fun _ p _ => n - (Go.RowKit.intOf p).toNat)
  case atStart => exact ⟨0, rfl, Nat.zero_le _, HP.out⟩
  case round =>
    clear HP
    obtain ⟨i, rfl, hin, hp⟩ := hrel
    have HPL := Lib.hid hp
    obtain ⟨KL, hKL⟩ : ∃ KL, KL = (Dm.kept d (L.take i)).length := ⟨_, rfl⟩
    have hKi : KL ≤ i := by rw [hKL]; exact Dm.kept_take_le d L i
    by_cases hlt : i < n
    · obtain ⟨l, hx⟩ := L1.out.get hlt
      obtain ⟨b, off, rfl, hbb, A', n', c', e2, hv, hn'⟩ := L1.out.at_ i l hx
      have c2 := (hp.be.cell (p := ⟨b, off + i, none⟩) hbb).trans e2
      have HV1 := Lib.hid hv
      have HV := Lib.hid (hv.below hp.be)
      obtain ⟨AK, cK, hvf⟩ := hp.form
      rw [← hKL] at hvf
      subst hvf
      by_cases q : Vm.chk l d = 0
      case neg =>
        have HA := Lib.hid (show Calls Try.prog 10 #[.pointer (some ⟨s, 0, none⟩), .slice A' n' c'] wr fun e w' => e = .returned (.tuple #[.int .i64 0, .int .i64 (Vm.chk l d)]) ∧ wr = w' from by
          obtain ⟨S, vs, hit, -⟩ := hp.ex
          exact addD_no hit HV.out hn' q)
        have HC := Lib.hid (refCheck_any A' n' c' l d wr HV.out hn')
        have HLE := hp.len
        rw [← hKL] at HLE
        have HLE2 := Lib.hid HLE
        have HDI := Lib.hid hp.dim
        have HNX : Hid (Pla W1 s d (Dm.kept d (L.take (i + 1))) (.slice AK KL cK) wr) := by rw [Dm.kept_no hx q]; exact hp
        obtain ⟨z, hz⟩ : ∃ z, z = Vm.chk l d := ⟨_, rfl⟩
        rw [← hz] at HA HC q
        have q1 : (z != 0) = true := by simpa using q
        have q2 : (z == 0) = false := by simpa using q
        have q3 : (z != z) = false := by simp
        have q4 : ((KL : Int) != (KL : Int)) = false := by simp
        have q5 : (d != d) = false := by simp
        clear hx hbb e2 hv hn' q hp hz HPL HLE hKL HV HV1
        gi_wp2_with fail
        refine ⟨trivial, ?_⟩
        refine (callsIn_wide.2 HA.out).mono ?_
        rintro _ _ ⟨rfl, rfl⟩
        gi_wp2_with fail
        refine ⟨trivial, ?_⟩
        refine (callsIn_wide.2 HC.out).mono ?_
        rintro _ _ ⟨rfl, rfl⟩
        gi_wp2_with fail
        refine ⟨trivial, ?_⟩
        refine (callsIn_wide.2 HLE2.out).mono ?_
        rintro _ _ ⟨rfl, rfl⟩
        gi_wp2_with fail
        refine ⟨trivial, ?_⟩
        refine (callsIn_wide.2 HDI.out).mono ?_
        rintro _ _ ⟨rfl, rfl⟩
        gi_wp2
        go_roundw
        case rel => exact ⟨i + 1, congrArg (Value.int .i64) (by omega), by omega, HNX.out⟩
        case measure => simp [Go.RowKit.intOf]; omega
      case pos =>
        have HA := hp.add (c := c') HV.out q (by omega) hv hn'
        rw [← hKL] at HA
        have HA2 := Lib.hid HA
        have HBR := Lib.hid hp.be
        have HKY := Lib.hid (show Dm.kept d (L.take (i + 1)) = Dm.kept d (L.take i) ++ [l] from Dm.kept_yes hx q)
        have hKL2 : (Dm.kept d (L.take (i + 1))).length = KL + 1 := by rw [HKY.out, List.length_append, ← hKL]; rfl
        have HKL2 := Lib.hid hKL2
        have HQ := Lib.hid q
        have q4 : ((KL : Int) != (KL : Int)) = false := by simp
        have q5 : (d != d) = false := by simp
        have HE2 := Lib.hid e2
        clear hx hv q hp HPL hKL HA hKL2 e2
        gi_wp2_with fail
        refine ⟨trivial, ?_⟩
        refine (callsIn_wide.2 HA2.out).mono ?_
        rintro _ W3 ⟨rfl, hb3, vs, hrow3, hnx⟩
        have c3 := (hb3.cell (p := ⟨b, off + i, none⟩) hbb).trans HE2.out
        have HC := refCheck_any A' n' c' l d W3 (HV1.out.below hb3) hn'
        rw [HQ.out] at HC
        have HC2 := Lib.hid HC
        have HR3 := Lib.hid hrow3
        have HN3 := Lib.hid hnx
        have s3 := hb3.size
        clear c2 hb3 hrow3 hnx HC HA2 hbb
        gi_wp2_with fail
        refine ⟨trivial, ?_⟩
        refine (callsIn_wide.2 HC2.out).mono ?_
        rintro _ _ ⟨rfl, rfl⟩
        gi_wp2_with (gi_at_builtin; refine push_in _ rfl (.tmp 87) (.tmp 92) 22 rfl W1.heap.size 31 i0 (.slice none 0 0) 24 Try.underlying22 hi hz0 hz1 hz2 rfl (.slice AK KL cK) KL vs rfl (HR3.out.alloc _) W3.heap.size (.slice A' n' c') rfl (heap_new _ _ _) rfl (by omega) (by omega) (by simp; omega) ?_; intro g cap' W4 r1 r2 r3; have h4 := HN3.out g cap' W4 r1 r2 r3; rw [← HKY.out] at h4; have HP4 := Lib.hid h4; have hl4 := h4.len; rw [HKL2.out] at hl4; have HL4 := Lib.hid hl4; have HD4 := Lib.hid h4.dim; clear r1 r2 r3 h4 hl4)
        refine ⟨trivial, ?_⟩
        refine (callsIn_wide.2 HL4.out).mono ?_
        rintro _ _ ⟨rfl, rfl⟩
        gi_wp2_with fail
        refine ⟨trivial, ?_⟩
        refine (callsIn_wide.2 HD4.out).mono ?_
        rintro _ _ ⟨rfl, rfl⟩
        gi_wp2
        go_roundw
        case rel => exact ⟨i + 1, congrArg (Value.int .i64) (by omega), by omega, HP4.out⟩
        case measure => simp [Go.RowKit.intOf]; omega
    · obtain rfl : i = n := by omega
      rw [List.take_of_length_le (by rw [L1.out.len]; exact Nat.le_refl _)] at hp hKL
      obtain ⟨K, hK⟩ : ∃ K, K = Dm.kept d L := ⟨_, rfl⟩
      rw [← hK] at hp hKL
      obtain ⟨⟨S, vs, hit, hS, hvS, hrow, hvl⟩, hbe⟩ := hp
      obtain ⟨AK, cK, rfl, -, -⟩ := own_form hrow
      obtain ⟨WZ, hWZ⟩ : ∃ WZ, WZ = wr.alloc (.cells #[.slice none 0 0] 22) := ⟨_, rfl⟩
      have bz : Below wr.heap.size wr WZ := by rw [hWZ]; exact (Below.refl _ wr).alloc (Nat.le_refl _) _
      have sz : wr.heap.size + 1 ≤ WZ.heap.size := by rw [hWZ]; simp
      have sz' : WZ.heap.size ≤ wr.heap.size + 1 := by rw [hWZ]; simp
      have pz : WZ.heap[wr.heap.size]? = some (.cells #[.slice none 0 0] 22 (0, 0)) := by rw [hWZ]; exact heap_new wr _ _
      have HAL := Lib.hid (allD (hit.below bz))
      have HIT := Lib.hid hit.lt
      have HOK := Lib.hid hit.ok
      have HDM := Lib.hid hit.dim
      have HRW := Lib.hid hrow
      have HVL := Lib.hid hvl
      have HBE := Lib.hid hbe
      have HBZ := Lib.hid bz
      have HPZ := Lib.hid pz
      have HWZ := Lib.hid hWZ
      have HKL := Lib.hid hKL
      have sbe := hbe.size
      clear hit hS hvS hrow hvl hbe bz pz hWZ HPL
      rw [← hKL]
      clear hKL hK
      gi_wp2_with fail
      rw [← HWZ.out]
      refine ⟨trivial, ?_⟩
      refine (callsIn_wide.2 HAL.out).mono ?_
      rintro _ W9 ⟨rfl, ht9, hb9⟩
      have HT9 := Lib.hid ht9
      have HB9 := Lib.hid hb9
      have HP9 := Lib.hid ((hb9.block _ (by omega)).trans HPZ.out)
      have s9 := hb9.size
      clear ht9 hb9 HAL HPZ HWZ
      gi_wp2
      obtain ⟨p, hp⟩ : ∃ p, p = wr.heap.size := ⟨_, rfl⟩
      rw [← hp] at HP9 HIT sz sz' HBZ
      rw [← hp]
      have hp9 : p < W9.heap.size := by omega
      obtain ⟨D, hD⟩ : ∃ D, D = d.toNat := ⟨_, rfl⟩
      have HDD := Lib.hid hD
      have p1 : p ≤ wr.heap.size := by omega
      have p2 : wr.heap.size ≤ p := by omega
      clear hp hD
      have hneU : Hid (∀ q, (S q ∨ q = WZ.heap.size) → q < W9.heap.size ∧ q ≠ p) := fun q hq => by
        refine ⟨HT9.out.lt q hq, ?_⟩
        rcases hq with hq | hq
        · have := HIT.out q hq; omega
        · omega
      refine range_keeps (n := 6) rfl (by omega) (gf := 24) (lb := #[.pointer (some ⟨WZ.heap.size, 0, none⟩)]) rfl trivial (enters_of Try.func24 (by kernel_rfl) rfl)
        (fun k W => ∃ v, GatD W9 p D K k v W)
        (fun k vs W => ∃ g x v, vs = #[.int .i64 (k : Int), .slice (some ⟨g, 0, none⟩) D D] ∧ K[k]? = some x ∧ W9.heap.size + 2 ≤ g ∧ Blk W g x ∧ GatD W9 p D K k v W)
        (fun W => ∃ v, GatD W9 p D K K.length v W)
        (fun _ _ => False)
        (fun vs t => (((t.setIfInBounds 107 (vs.getD 0 undef)).setIfInBounds 108 (vs.getD 1 undef)).setIfInBounds 13 (vs.getD 0 undef)).setIfInBounds 14 (vs.getD 1 undef))
        (fun k W W' h ho => by obtain ⟨v, h⟩ := h; exact ⟨v, h.off hp9 ho⟩) (fun k vs W W' h ho => by obtain ⟨g, x, v, h1, h2, h3, h4, h5⟩ := h; exact ⟨g, x, v, h1, h2, h3, (ho.block g (by omega)).trans h4, h5.off hp9 ho⟩) (fun W W' h ho => by obtain ⟨v, h⟩ := h; exact ⟨v, h.off hp9 ho⟩)
        (fun c W W' h hb => h) (fun k vs W h => by obtain ⟨g, x, v, h1, -⟩ := h; rw [h1]; rfl)
        (fun W hb hs => ⟨.slice none 0 0, (hb.block _ hp9).trans HP9.out, ⟨[], World.ownsRow_nil _ _ _ _, Bks.nil _, fun g hg => by cases hg⟩, by omega, Kept.of_below hb⟩) ?iter ?assign ?body ?done ?stop
      case iter =>
        intro y Kk Y hKk hY W hI hKW
        refine iterD (m := 4) HT9.out (by have := HKL.out; omega) (fun k W => ∃ v, GatD W9 p D K k v W) Kk Y (fun k W h => by obtain ⟨v, h⟩ := h; exact ⟨h.kp.size, fun j hj => h.kp.block j (hneU.out j hj).1 (hneU.out j hj).2⟩) (fun V V' h hb => hKk V V' h (kf_kept (Kept.of_below (S := fun _ => False) hb) (fun k h => h.elim))) ?_ W hI hKW
        rintro k x g1 V V' hx ⟨v, hr⟩ hb hg hk hKV
        rw [← HDD.out]
        exact hY k _ V' ⟨g1, x, v, rfl, hx, by have := hr.sz; omega, hk, hr.below hb⟩ hKV
      case assign =>
        rintro y k vs W KK ⟨g, x, v, rfl, -⟩ hKK
        gi_wp2
        exact hKK
      case body =>
        rintro y k vs W ⟨g, x, v, rfl, hx, hge, hbk, hg⟩
        have hkl : k < K.length := (List.getElem?_eq_some_iff.1 hx).1
        have hkn : k ≤ 301 := by have := HKL.out; omega
        obtain ⟨gs, h1, h2, h3⟩ := hg.ex
        obtain ⟨A2, c2, rfl, -, -⟩ := own_form h1
        have hpc := hg.cell
        have hpf := frozen_of_row W p 0 _ _ hg.var
        have HRO := Lib.hid h1
        have HPU := Lib.hid (fun (W2 : World) (g' cap : Nat) => hg.push (W2 := W2) (g' := g') (cap := cap) hp9 h1 h2 h3 hx hbk hge)
        have hsz := hg.sz
        have q4 : ((k : Int) != (k : Int)) = false := by simp
        generalize hP : leftBy W9.heap.size _ _ W = Pst
        have HP := Lib.hid hP
        clear hP hg hx h1 h2 h3 hbk
        gi_wp2_with (gi_at_builtin; refine push_in _ rfl (.tmp 113) (.tmp 115) 22 rfl (W9.heap.size + 2) 31 i0 (.slice none 0 0) 24 Try.underlying22 hi hz0 hz1 hz2 rfl (.slice A2 k c2) k (gs.map (sl D)) rfl (HRO.out.alloc _) W.heap.size (.slice (some ⟨g, 0, none⟩) D D) rfl (heap_new _ _ _) rfl (by omega) (by omega) (by simp; omega) ?_; intro g' cap' W2 r1 r2 r3; obtain ⟨m3, f3, p1, p2⟩ := HPU.out W2 g' cap' r1 r2; have HPP := Lib.hid (And.intro p2 p1); clear r1 r2 r3 p1 p2)
        rw [← HP.out]
        exact ⟨HPP.out.1, _, HPP.out.2⟩
      case done =>
        rintro Dd W rfl ⟨v, hg⟩ hKd
        obtain ⟨gs, h1, h2, h3⟩ := hg.ex
        obtain ⟨A2, c2, rfl, -, -⟩ := own_form h1
        rw [List.take_length] at h2
        have hpc := hg.cell
        have hlen := HKL.out
        have hva : Lv W A2 K.length c2 K := Lv.of_own h1 (by rw [HDD.out]; exact h2.vl HOK.out)
        have kk := hg.kp
        have hW19 : Below W1.heap.size W1 W := by
          refine (HBE.out.trans (HBZ.out.mono (by omega))).trans ?_
          refine (HB9.out.mono (by omega)).trans (kk.old (by omega) fun j hj => by omega)
        have hkr : W.ownsRow W1.heap.size 31 1 (.slice AK K.length cK) K.length vs := own_keepS HRW.out fun q e => by
          obtain ⟨cs, hcs⟩ := own_at HRW.out e
          have hq := lt_of_block hcs
          exact (kk.block q (by omega) (by omega)).trans ((HB9.out.block q (by omega)).trans (HBZ.out.block q (by omega)))
        have hvk : Lv W AK K.length cK K := Lv.of_own hkr (HVL.out.below hW19)
        have HSM := Lib.hid (refSameD hva hvk (by omega) (fun l hl => by have := Dm.len_of (HOK.out l hl); have := HDM.out; omega))
        have HWW := Lib.hid (B1.out.trans (hW19.mono B1.out.size))
        have HRRW := Lib.hid ((hW19.block _ ltr).trans RR1.out)
        have HKD := Lib.hid hKd
        rw [HKL.out]
        clear hg h1 h2 h3 hva kk hW19 hkr hvk hKd
        gi_wp2_with fail
        refine ⟨trivial, ?_⟩
        refine (callsIn_wide.2 HSM.out).mono ?_
        rintro _ _ ⟨rfl, m, rfl⟩
        have hr2 : (W.drewN m).heap[w.heap.size]? = some (.cells #[.bool false] 4 (0, 0)) := by rw [heap_drewN]; exact HRRW.out
        have cr : (W.drewN m).cell? ⟨w.heap.size, 0, none⟩ = some (.bool false) := by rw [cell_of_row _ _ _ _ _ _ hr2]; rfl
        have fr := frozen_of_row (W.drewN m) w.heap.size 0 _ _ hr2
        have HR9 := Lib.hid (one_set (u := .bool true) hr2)
        have hle : w.heap.size ≤ W9.heap.size := by have := B1.out.size; omega
        have hne : w.heap.size ≠ W9.heap.size := by omega
        have HK9 := Lib.hid (show ((W.drewN m).setCell ⟨w.heap.size, 0, none⟩ (.bool true)).heap[W9.heap.size]? = some (.deferred (some [])) from by rw [Below.heap_setCell _ _ _ _ (show W9.heap.size ≠ w.heap.size by omega), heap_drewN]; exact HKD.out)
        have HU9 := Lib.hid ((bdrew HWW.out m).setCell (p := ⟨w.heap.size, 0, none⟩) (Nat.le_refl _) (.bool true))
        clear hr2
        gi_wp2
        refine ⟨by simp, .inl ⟨_, _, rfl, run_takeDeferred HK9.out, ?_⟩⟩
        refine ⟨_, result_bool rfl _ _ w.heap.size true rfl ?_, rfl, HU9.out.trans (below_put hle _)⟩
        rw [cell_of_row _ _ _ _ _ _ ((World.putObj_heap_other hne).trans HR9.out)]
        rfl
      case stop => rintro D c W hD h; exact h.elim
theorem own : ownKnob Try.prog.godebug = none := by kernel_rfl
theorem laidOut : laidOutB Try.prog = true := by kernel_rfl
set_option maxRecDepth 100000 in
theorem lifted (os : Os) (started : os.Started) (H : Type) (enc : TypeId × Value → H) :
    ReturnsInHanded {} Try.checked os 3 .any (Rows.dataAddsSpec.pre6 enc Try.prog Try.f3 Rows.dataAddsRow.domain false) (Rows.dataAddsSpec.post enc Try.prog Try.f3 false true false false) := by
  refine returnsInHanded_of_change (C := Try.checked) own started (by kernel_rfl) Try.func3
    (ChangeSpec.witness6 (enc := enc) (C := Try.checked) false ⟨#[], #[.int .i64 0, .slice none 0 0], []⟩ 8 (by kernel_rfl) (by kernel_rfl) (by kernel_rfl) (by kernel_rfl)) ?_
  intro W base args ds gs before hval0 hW hcnd _
  have hval : ∀ (j : Nat) t v, Try.f3.params[j]? = some t → args[j]? = some v → Value.okWide Try.prog W .any base t v := hval0
  have hW' := hW
  obtain ⟨p, q, hA0, hV, rfl, hfz, hnd⟩ := hW
  have hA : DataW.TrodAll enc Try.prog W 0 (fun _ => true) true Try.f3.params.toList args.toList ds p := hA0
  rw [Try.params3] at hA hval
  obtain ⟨v0, vs0, d0, ds0, p0, q0, hargs, rfl, rfl, h0, r0⟩ := trodAll_cons hA
  obtain ⟨v1, vs1, d1, ds1, p1, q1, rfl, rfl, rfl, h1, r1⟩ := trodAll_cons r0
  obtain ⟨rfl, rfl, rfl⟩ := trodAll_nil r1
  obtain rfl : args = #[v0, v1] := by cases args; simp_all
  obtain ⟨rfl, rfl⟩ := trodVars_none hV
  obtain ⟨a0, rfl, rfl, rfl, w0⟩ := open_int Try.underlying3 (hval 0 3 v0 rfl rfl) h0
  obtain ⟨a1, len1, cap1, rfl⟩ := okWide_slice Try.underlying22 (hval 1 22 v1 rfl rfl)
  have k1 := h1
  have lt1 : ∀ x ∈ p1, x.block < W.heap.size := by obtain ⟨m, hm⟩ := k1; exact DataW.trod_lt m _ _ _ hm
  obtain ⟨z1, w1⟩ : ∃ L, Lv W a1 len1 cap1 L := by
    obtain ⟨fuel, hf⟩ := h1
    rcases Go.Deep.open_int_rows Try.underlying22 Try.underlying31 Try.underlying21 (by kernel_rfl) (by kernel_rfl) hf with ⟨hcs, _⟩ | ⟨x, l, c, _, _, _, _, hcs, _, hl, _, _, hx⟩
    · simp [Value.cells] at hcs
      obtain ⟨rfl, rfl, rfl⟩ := hcs
      exact ⟨[], Lv.nil_ _⟩
    · simp [Value.cells] at hcs
      obtain ⟨rfl, rfl, rfl⟩ := hcs
      exact ⟨_, Lv.of_rows hl hx⟩
  clear hA0 hval0
  refine (walk a0 a1 len1 cap1 z1 W w0 w1).mono fun e W' ⟨he, bel⟩ => ?_
  subst he
  exact ⟨_, rfl, _, _, _, [], _, [], hW', trodAll_mk1 (shut_bool Try.underlying4 _), (trodAll_cons_mk (shut_int Try.underlying3 w0) (trodAll_cons_mk (Below.trod laidOut (by kernel_rfl) (of_decide_eq_true (by kernel_rfl)) k1 bel lt1) trodAll_mk0)), rfl, bel.frame _, fun h => by cases h⟩
theorem over : Rows.dataAddsRow.holds Try.pinned (OpenSpec.ofChange Rows.dataAddsSpec) :=
  OpenClaim.holds_of_wide 3 Try.f3 rfl rfl rfl rfl rfl rfl rfl ⟨rfl, rfl, rfl, rfl, rfl⟩ rfl rfl rfl rfl rfl (by kernel_rfl) Try.func3 (by kernel_rfl)
    (of_decide_eq_true (by kernel_rfl)) (by unfold Func.isWrapper; first | (rw [if_pos (by decide +kernel)]; kernel_rfl) | (rw [if_neg (by decide +kernel)]; exact ⟨rfl, rfl⟩))
    (fun os started H enc _ => lifted os started H enc)
/-- the statement -/
theorem proved : Rows.DataAddsSaid := over
#print axioms proved
end Go.Proofs.Ytenibcllkpeilaa.dataAdds
