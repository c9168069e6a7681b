/-
  TopkLast: the last one that is kept is the last one of the list; what is offered behind a full selector is kept just if it is first of that. No condition.
-/
import Derived.Test.YtdpoieemadblnaaKAwk
import Derived.Test.YtdpoieemadblnaaKLivR
import Derived.Test.YtdpoieemadblnaaKLem
import Derived.Test.YtdpoieemadblnaaOEqR
import Derived.Test.YtdpoieemadblnaaOArg
import Derived.Lib.SmallJoins
import Derived.OpenShut
import Derived.Deep.QuietTactic
namespace Go.Proofs.Ytdpoieemadblnaa
open Go.RowKit Go.Joins Go.ChangeShapes Go.WideShapes Go.Deep
namespace topkLast

theorem LivR.drewN {W0 W : World} {s : Nat} {m : Int} {c : Nat} {K : List Om.E} (h : LivR W0 W s m c K) (d : Nat) : LivR W0 (W.drewN d) s m c K := by
  induction d with
  | zero => exact h
  | succ d ih => exact ih.drew

theorem LivR.box {W0 W : World} {s : Nat} {m : Int} {c : Nat} {K : List Om.E} (h : LivR W0 W s m c K) (o : Obj) : LvrR W0 (W.alloc o) W.heap.size s m c K := by
  obtain ⟨S, h1, h2, h3⟩ := h
  have hb := (Below.refl _ W).alloc (Nat.le_refl _) o
  exact ⟨S, h1.below hb, h2, fun q => by have := h1.in_ _ q; omega, h3.trans (hb.mono h3.size)⟩
theorem LvrR.offer {W0 W : World} {r s : Nat} {m : Int} {c : Nat} {K : List Om.E} (h : LvrR W0 W r s m c K) (hc : c ≤ 100000) (hr : r < W.heap.size) (x1 x2 : Int) : Calls Try.prog 26 #[.pointer (some ⟨s, 0, none⟩), .agg #[.int .i64 x1, .int .i64 x2]] W fun e w' => e = .returned (.bool (Km.off Om.near m K (x1, x2)).2) ∧ LivR W0 w' s m (c + 1) (Km.off Om.near m K (x1, x2)).1 ∧ w'.heap[r]? = W.heap[r]? := by
  obtain ⟨S, h1, h2, hn, h3⟩ := h
  refine (sofferR S s m c K x1 x2 W h1 hc).mono ?_
  rintro e w' ⟨he, S', g1, g2, g3⟩
  exact ⟨he, ⟨S', g1, fun k hk => by rcases g3 k hk with q | q; exact h2 k q; exact Nat.le_trans h3.size q, h3.trans (g2.old h3.size h2)⟩, g2.block r hr hn⟩

set_option maxHeartbeats 3200000 in
set_option maxRecDepth 100000 in
theorem walk (a0 : Option Addr) (len0 cap0 : Nat) (l : List Om.E) (k : Int) (w : World) (w0 : VecE w a0 len0 l ∧ len0 ≤ cap0 ∧ (a0 = none → cap0 = 0)) (w1 : (Lit.int .u8 k).wf = true) :
    Calls Try.prog 6 #[.slice a0 len0 cap0, .int .u8 k] w fun e w' => e = .returned (.bool true) ∧ Below w.heap.size w w' := by
  have HV := Lib.hid w0.1
  have bk := bounds_u8 w1
  clear w0 w1
  go_enter Try.func6, Try.ntmps6
  go_wp2_with fail
  refine (awake_any _).mono ?_
  rintro _ W1 ⟨rfl, b1⟩
  have B1 := Lib.hid b1
  clear b1
  by_cases g0 : 100 < len0
  · have d0 : decide (100 < (len0 : Int)) = true := by simp; omega
    go_wp2
    go_ret
    exact ⟨rfl, B1.out⟩
  have d0 : decide (100 < (len0 : Int)) = false := by simp; omega
  have n0 : len0 ≤ 100 := by omega
  clear g0
  go_wp2_with fail
  refine (LivR.new k W1).mono ?_
  rintro _ W2 ⟨s, rfl, h2⟩
  have H2 := Lib.hid h2
  clear h2
  go_wp2
  go_loopw [6, 7, 8, 9, 10, 11, 12, 13] (fun I _ _ _ _ _ _ _ wr => ∃ (i : Nat) (K : List Om.E), I = .int .i64 (i : Int) ∧ i ≤ len0 ∧ LivR W1 wr s k i K) (fun I _ _ _ _ _ _ _ _ => len0 - (intOf I).toNat)
  case atStart => exact ⟨0, [], rfl, by omega, H2.out⟩
  case round =>
    clear H2
    obtain ⟨i, K, rfl, hin, hlv⟩ := hrel
    by_cases hi : i < len0
    · obtain ⟨x, hx⟩ : ∃ x, l[i]? = some x := ⟨_, List.getElem?_eq_getElem (by rw [HV.out.length]; exact hi)⟩
      obtain ⟨x1, x2⟩ := x
      have HX := Lib.hid hx
      have HLT := Lib.hid hlv.last
      have hKl : K.length ≤ i := by obtain ⟨S, q1, -⟩ := hlv; exact q1.length
      obtain ⟨n, hn⟩ : ∃ n, n = K.length := ⟨_, rfl⟩
      obtain ⟨z, hz⟩ : ∃ z, K.getLast?.getD (0, 0) = z := ⟨_, rfl⟩
      obtain ⟨z1, z2⟩ := z
      rw [hz, ← hn] at HLT
      have HZ := Lib.hid hz
      have HNN := Lib.hid hn
      clear hlv hx hz
      rw [← hn] at hKl
      clear hn
      go_wp2_with fail
      refine HLT.out.mono ?_
      rintro _ V1 ⟨rfl, hl1, -⟩
      obtain ⟨V2, hV2⟩ : ∃ V2, V2 = V1.alloc (.cells #[.int .i64 z1, .int .i64 z2] 42) := ⟨_, rfl⟩
      have hb2 : Below V1.heap.size V1 V2 := by rw [hV2]; exact (Below.refl _ V1).alloc (Nat.le_refl _) _
      have hq2 : V2.heap[V1.heap.size]? = some (.cells #[.int .i64 z1, .int .i64 z2] 42 (0, 0)) := by rw [hV2]; exact heap_alloc_new V1 _
      have hl2 : LvrR W1 V2 V1.heap.size s k i K := by rw [hV2]; exact LivR.box hl1 _
      have hle := hl2.liv.len
      rw [← HNN.out] at hle
      have HLE := Lib.hid hle
      have HL2 := Lib.hid hl2
      have HV2 := Lib.hid hV2
      have HQ2 := Lib.hid hq2
      clear hl1 hb2 hq2 hl2 hle HLT hV2
      go_wp2_with fail
      rw [← HV2.out]
      refine HLE.out.mono ?_
      rintro _ V3 ⟨rfl, hv3⟩
      subst V3
      obtain ⟨b, off, rfl, hb, c1, c2⟩ := ((HV.out.below B1.out).below HL2.out.liv.base).at_ HX.out
      have hof := LvrR.offer HL2.out (by omega) (lt_of_block HQ2.out) x1 x2
      have hbl : b < W1.heap.size := by
        obtain ⟨b', off', e, hb', -, -⟩ := (HV.out.below B1.out).at_ HX.out
        obtain ⟨rfl, rfl⟩ : b = b' ∧ off = off' := by simpa using e
        exact hb'
      by_cases hrm : (n : Int) < k
      · rw [Km.off_room (by rw [← HNN.out]; exact hrm)] at hof
        obtain ⟨K1, y, hK1⟩ : ∃ K1 y, Om.merge Om.near K [(x1, x2)] = K1 ++ [y] := by
          rcases List.eq_nil_or_concat (Om.merge Om.near K [(x1, x2)]) with e | ⟨K1, y, e⟩
          · have := congrArg List.length e
            rw [Om.merge_length] at this
            simp at this
          · exact ⟨K1, y, by rw [e, List.concat_eq_append]⟩
        obtain ⟨y1, y2⟩ := y
        rw [hK1] at hof
        have HOF := Lib.hid hof
        have gf : decide (k ≤ (n : Int)) = false := by simp; omega
        clear hof hK1 hrm
        go_wp2_with fail
        refine HOF.out.mono ?_
        rintro _ V ⟨rfl, hlv, -⟩
        obtain ⟨on, hon⟩ : ∃ on, decide (0 < n) = on := ⟨_, rfl⟩
        rw [hon]
        clear hon
        have HLV0 := Lib.hid hlv
        clear hlv HOF c1 c2
        go_wp2
        go_quiet (fail)
        have HLV := Lib.hid (LivR.drewN HLV0.out nq)
        obtain ⟨Vq, hVq⟩ : ∃ Vq, Vq = V.drewN nq := ⟨_, rfl⟩
        rw [← hVq] at HLV ⊢
        clear hVq
        clear HLV0
        have pB : (K1 ++ [(y1, y2)]).length ≤ i + 1 := by obtain ⟨S, q1, -⟩ := HLV.out; exact q1.length
        obtain ⟨N1, hN1⟩ : ∃ N1, N1 = (K1 ++ [(y1, y2)]).length := ⟨_, rfl⟩
        have hls := HLV.out.list (by omega)
        rw [← hN1] at hls pB
        have HLS := Lib.hid hls
        obtain ⟨p, hp⟩ : ∃ p, p = K1.length := ⟨_, rfl⟩
        have ep : N1 = p + 1 := by rw [hN1, hp]; simp
        have e1 : (N1 : Int) - 1 = (p : Int) := by omega
        have e2 : IntKind.i64.wrap (p : Int) = (p : Int) := by exact IntWalk.i64_in _ (by omega)
        have ln : p < N1 := by omega
        have ln0 : 0 < N1 := by omega
        have lnd : decide (0 < (N1 : Int)) = true := by simp; omega
        have HN1 := Lib.hid hN1
        clear hls hN1 ep
        go_wp2_with fail
        refine HLS.out.mono ?_
        rintro _ V2 ⟨rfl, hbl, hlr⟩
        have hla := hlr.liv.last
        rw [show (K1 ++ [(y1, y2)]).getLast?.getD (0, 0) = (y1, y2) from by simp, show decide (0 < (K1 ++ [(y1, y2)]).length) = true from by simp] at hla
        have HLA := Lib.hid hla
        have HBL := Lib.hid hbl
        have HPP := Lib.hid hp
        clear hla hbl hlr HLS HLV hp
        go_wp2_with fail
        refine HLA.out.mono ?_
        rintro _ V3 ⟨rfl, hl3, hb3⟩
        have b4 := (Below.refl _ V3).alloc (Nat.le_refl _) (.cells #[.int .i64 y1, .int .i64 y2] 42)
        have hbl4 := (HBL.out.below hb3).below b4
        have hy : (K1 ++ [(y1, y2)])[p]? = some (y1, y2) := by rw [HPP.out]; simp
        have c1 := hbl4.fst hy
        have c2 := hbl4.snd hy
        have hl4 := hl3.below b4
        have HLN := Lib.hid (show ∀ d, Calls Try.prog 25 #[.pointer (some ⟨s, 0, none⟩)] ((V3.alloc (.cells #[.int .i64 y1, .int .i64 y2] 42)).drewN d) fun e W' => e = .returned (.int .i64 (N1 : Int)) ∧ W' = (V3.alloc (.cells #[.int .i64 y1, .int .i64 y2] 42)).drewN d from fun d => by
          have := (LivR.drewN hl4 d).len
          rw [← HN1.out] at this
          exact this)
        have HL4 := Lib.hid hl4
        have nq1 := fun W => neqR y1 y2 y1 y2 W
        have gd1 := fun op x y W => guardR op x y y1 y2 y1 y2 W
        rw [show (!decide (y1 = y1 ∧ y2 = y2)) = false from by simp] at nq1
        clear hl3 hb3 b4 hbl4 hy hl4 HLA HBL
        go_wp2
        go_quiet ((go_at_call 25; exact Calls.quiet_of_same (HLN.out _)))
        have HL5 := Lib.hid (LivR.drewN HL4.out nq)
        clear c1 c2 HLN HL4 nq1 gd1 e1 e2 ln ln0 lnd HN1 pB
        go_wp2
        go_roundw
        case rel => exact ⟨i + 1, _, congrArg (Value.int .i64) (by omega), by omega, HL5.out⟩
        case measure => simp [intOf]; omega
      · rcases List.eq_nil_or_concat K with hK | ⟨K0, z', hK⟩
        · subst hK
          have hn0 := HNN.out
          simp at hn0
          subst hn0
          rw [Km.off_none (by omega)] at hof
          have HOF := Lib.hid hof
          have gf : decide (k ≤ 0) = true := by simp; omega
          clear hof hrm
          go_wp2_with fail
          refine HOF.out.mono ?_
          rintro _ V ⟨rfl, hlv, -⟩
          have HLV0 := Lib.hid hlv
          clear hlv HOF c1 c2
          go_wp2
          go_quiet (fail)
          have HLV := Lib.hid (LivR.drewN HLV0.out nq)
          obtain ⟨Vq, hVq⟩ : ∃ Vq, Vq = V.drewN nq := ⟨_, rfl⟩
          rw [← hVq] at HLV ⊢
          clear hVq
          clear HLV0
          have hls := HLV.out.list (by omega)
          have HLS := Lib.hid hls
          clear hls
          go_wp2_with fail
          refine HLS.out.mono ?_
          rintro _ V2 ⟨rfl, hbl, hlr⟩
          have hla := hlr.liv.last
          have HLA := Lib.hid hla
          clear hla hbl hlr HLS HLV
          go_wp2_with fail
          refine HLA.out.mono ?_
          rintro _ V3 ⟨rfl, hl3, hb3⟩
          have hl4 := hl3.below ((Below.refl _ V3).alloc (Nat.le_refl _) (.cells #[.int .i64 0, .int .i64 0] 42))
          have HLN := Lib.hid (show ∀ d, Calls Try.prog 25 #[.pointer (some ⟨s, 0, none⟩)] ((V3.alloc (.cells #[.int .i64 0, .int .i64 0] 42)).drewN d) fun e W' => e = .returned (.int .i64 0) ∧ W' = (V3.alloc (.cells #[.int .i64 0, .int .i64 0] 42)).drewN d from fun d => (LivR.drewN hl4 d).len)
          have HL4 := Lib.hid hl4
          clear hl3 hb3 hl4 HLA
          go_wp2
          go_quiet ((go_at_call 25; exact Calls.quiet_of_same (HLN.out _)))
          have HL5 := Lib.hid (LivR.drewN HL4.out nq)
          clear HLN HL4
          go_wp2
          go_roundw
          case rel => exact ⟨i + 1, _, congrArg (Value.int .i64) (by omega), by omega, HL5.out⟩
          case measure => simp [intOf]; omega
        · rw [List.concat_eq_append] at hK
          subst hK
          obtain rfl : z' = (z1, z2) := by simpa using HZ.out
          have hnn := HNN.out
          rw [List.length_append, List.length_singleton] at hnn
          have gf : decide (k ≤ (n : Int)) = true := by simp; omega
          have gn : decide (0 < n) = true := by simp; omega
          have hcall := fun W => near_any x1 x2 z1 z2 W
          cases hf : Om.near (x1, x2) (z1, z2) with
          | true =>
            rw [Km.off_yes (by omega) hf] at hof
            rw [hf] at hcall
            obtain ⟨K1, y, hK1⟩ : ∃ K1 y, Om.merge Om.near K0 [(x1, x2)] = K1 ++ [y] := by
              rcases List.eq_nil_or_concat (Om.merge Om.near K0 [(x1, x2)]) with e | ⟨K1, y, e⟩
              · have := congrArg List.length e
                rw [Om.merge_length] at this
                simp at this
              · exact ⟨K1, y, by rw [e, List.concat_eq_append]⟩
            obtain ⟨y1, y2⟩ := y
            rw [hK1] at hof
            have HOF := Lib.hid hof
            clear hof hK1 hrm hf hnn
            go_wp2_with fail
            refine HOF.out.mono ?_
            rintro _ V ⟨rfl, hlv, hvr⟩
            have hvq := hvr.trans HQ2.out
            have HSZ := Lib.hid (lt_of_block hvq)
            have HSB := Lib.hid (show b < V.heap.size from Nat.lt_of_lt_of_le hbl hlv.base.size)
            have m1 := cell_of_row _ _ 0 _ _ _ hvq
            have m2 := cell_of_row _ _ 1 _ _ _ hvq
            have m3 := (hlv.base.cell (p := ⟨b, off + i * 2, none⟩) hbl).trans ((HL2.out.liv.base.cell (p := ⟨b, off + i * 2, none⟩) hbl).symm.trans c1)
            have m4 := (hlv.base.cell (p := ⟨b, off + i * 2 + 1, none⟩) hbl).trans ((HL2.out.liv.base.cell (p := ⟨b, off + i * 2 + 1, none⟩) hbl).symm.trans c2)
            have HLV0 := Lib.hid hlv
            clear hlv HOF c1 c2 hvr hvq
            go_wp2
            refine wp_region_held_drew (S := fun w' => w'.cell? ⟨V1.heap.size, 0, none⟩ = some (.int .i64 z1) ∧ w'.cell? ⟨V1.heap.size, 1, none⟩ = some (.int .i64 z2) ∧ w'.cell? ⟨b, off + i * 2, none⟩ = some (.int .i64 x1) ∧ w'.cell? ⟨b, off + i * 2 + 1, none⟩ = some (.int .i64 x2)) (by kernel_rfl) ⟨m1, m2, m3, m4⟩ (fun hHeld => ?_)
            refine wpAnyH_take (i := 0) (oi := { dst := some 46, op := Op.move (Operand.tmp 9), type := 4, pos := "law.go:111", after := #[], guard := none }) (v := ?_) rfl (by kernel_rfl) (by kernel_rfl) (by kernel_rfl) (fun _ _ _ h => h) (Or.inl ⟨by rfl, ?_⟩) hHeld ?_
            rotate_left
            · (intro w hSw; (try dsimp only at hSw); go_simp; try with_reducible rfl)
            simp only [Act.put, List.setIfInBounds_toArray, List.set_cons_zero, List.set_cons_succ]
            refine wpAnyH_take (i := 1) (oi := { dst := some 47, op := Op.move (Operand.tmp 46), type := 4, pos := "law.go:111", after := #[{ on := 0, ground := Ground.data }], guard := none }) (v := ?_) rfl (by kernel_rfl) (by kernel_rfl) (by kernel_rfl) (fun _ _ _ h => h) (Or.inl ⟨by rfl, ?_⟩) hHeld ?_
            rotate_left
            · (intro w hSw; (try dsimp only at hSw); go_simp; try with_reducible rfl)
            simp only [Act.put, List.setIfInBounds_toArray, List.set_cons_zero, List.set_cons_succ]
            refine wpAnyH_take (i := 2) (oi := { dst := some 48, op := Op.move (Operand.tmp 10), type := 4, pos := "law.go:111", after := #[{ on := 1, ground := Ground.guard }], guard := some (1, true) }) (v := ?_) rfl (by kernel_rfl) (by kernel_rfl) (by kernel_rfl) (fun _ _ _ h => h) (Or.inl ⟨by rfl, ?_⟩) hHeld ?_
            rotate_left
            · (intro w hSw; (try dsimp only at hSw); go_simp; try with_reducible rfl)
            simp only [Act.put, List.setIfInBounds_toArray, List.set_cons_zero, List.set_cons_succ]
            refine wpAnyH_take (i := 3) (oi := { dst := some 49, op := Op.move (Operand.tmp 8), type := 4, pos := "law.go:111", after := #[{ on := 1, ground := Ground.guard }], guard := some (1, true) }) (v := ?_) rfl (by kernel_rfl) (by kernel_rfl) (by kernel_rfl) (fun _ _ _ h => h) (Or.inl ⟨by rfl, ?_⟩) hHeld ?_
            rotate_left
            · (intro w hSw; (try dsimp only at hSw); go_simp; try with_reducible rfl)
            simp only [Act.put, List.setIfInBounds_toArray, List.set_cons_zero, List.set_cons_succ]
            refine wpAnyH_take (i := 4) (oi := { dst := some 50, op := Op.move (Operand.tmp 49), type := 4, pos := "law.go:111", after := #[{ on := 3, ground := Ground.data }, { on := 1, ground := Ground.chain }, { on := 1, ground := Ground.guard }], guard := some (1, true) }) (v := ?_) rfl (by kernel_rfl) (by kernel_rfl) (by kernel_rfl) (fun _ _ _ h => h) (Or.inl ⟨by rfl, ?_⟩) hHeld ?_
            rotate_left
            · (intro w hSw; (try dsimp only at hSw); go_simp; try with_reducible rfl)
            simp only [Act.put, List.setIfInBounds_toArray, List.set_cons_zero, List.set_cons_succ]
            refine wpAnyH_take (i := 5) (oi := { dst := some 51, op := Op.move (Operand.tmp 0), type := 39, pos := "law.go:111", after := #[{ on := 4, ground := Ground.guard }], guard := some (4, true) }) (v := ?_) rfl (by kernel_rfl) (by kernel_rfl) (by kernel_rfl) (fun _ _ _ h => h) (Or.inl ⟨by rfl, ?_⟩) hHeld ?_
            rotate_left
            · (intro w hSw; (try dsimp only at hSw); go_simp; try with_reducible rfl)
            simp only [Act.put, List.setIfInBounds_toArray, List.set_cons_zero, List.set_cons_succ]
            refine wpAnyH_take (i := 6) (oi := { dst := some 52, op := Op.move (Operand.tmp 6), type := 3, pos := "law.go:111", after := #[{ on := 4, ground := Ground.guard }], guard := some (4, true) }) (v := ?_) rfl (by kernel_rfl) (by kernel_rfl) (by kernel_rfl) (fun _ _ _ h => h) (Or.inl ⟨by rfl, ?_⟩) hHeld ?_
            rotate_left
            · (intro w hSw; (try dsimp only at hSw); go_simp; try with_reducible rfl)
            simp only [Act.put, List.setIfInBounds_toArray, List.set_cons_zero, List.set_cons_succ]
            refine wpAnyH_take (i := 7) (oi := { dst := some 53, op := Op.indexAddr 39 (Operand.tmp 51) (Operand.tmp 52), type := 0, pos := "law.go:111", after := #[{ on := 5, ground := Ground.data }, { on := 6, ground := Ground.data }, { on := 4, ground := Ground.guard }], guard := some (4, true) }) (v := ?_) rfl (by kernel_rfl) (by kernel_rfl) (by kernel_rfl) (fun _ _ _ h => h) (Or.inl ⟨by rfl, ?_⟩) hHeld ?_
            rotate_left
            · (intro w hSw; (try dsimp only at hSw); go_simp; try with_reducible rfl)
            simp only [Act.put, List.setIfInBounds_toArray, List.set_cons_zero, List.set_cons_succ]
            refine wpAnyH_take (i := 8) (oi := { dst := some 54, op := Op.load 42 (Operand.tmp 53), type := 42, pos := "law.go:111", after := #[{ on := 7, ground := Ground.data }, { on := 4, ground := Ground.guard }], guard := some (4, true) }) (v := ?_) rfl (by kernel_rfl) (by kernel_rfl) (by kernel_rfl) (fun _ _ _ h => h) (Or.inl ⟨by rfl, ?_⟩) hHeld ?_
            rotate_left
            · (intro w hSw; (try dsimp only at hSw); go_simp; try with_reducible rfl)
            simp only [Act.put, List.setIfInBounds_toArray, List.set_cons_zero, List.set_cons_succ]
            refine wpAnyH_take (i := 9) (oi := { dst := some 55, op := Op.load 42 (Operand.tmp 7), type := 42, pos := "law.go:111", after := #[{ on := 4, ground := Ground.guard }], guard := some (4, true) }) (v := ?_) rfl (by kernel_rfl) (by kernel_rfl) (by kernel_rfl) (fun _ _ _ h => h) (Or.inl ⟨by rfl, ?_⟩) hHeld ?_
            rotate_left
            · (intro w hSw; (try dsimp only at hSw); go_simp; try with_reducible rfl)
            simp only [Act.put, List.setIfInBounds_toArray, List.set_cons_zero, List.set_cons_succ]
            refine wpAnyH_ready (rs := [10]) (by kernel_rfl) (by simp) ?_
            refine AllReadyH.cons (o := { dst := some 56, op := Op.call { callee := Callee.value (Operand.func 19), args := #[Operand.tmp 54, Operand.tmp 55], argTypes := #[42, 42] }, type := 4, pos := "law.go:111", after := #[{ on := 8, ground := Ground.data }, { on := 9, ground := Ground.data }, { on := 4, ground := Ground.chain }, { on := 4, ground := Ground.guard }], guard := some (4, true) }) rfl (fun K hK => ?_) AllReadyH.nil
            go_simp
            refine (hcall _).mono ?_
            rintro _ U2 ⟨rfl, hbu⟩
            have HLV := Lib.hid (HLV0.out.drew.below hbu)
            have u1 := (hbu.cell (p := ⟨V1.heap.size, 0, none⟩) HSZ.out).trans m1
            have u2 := (hbu.cell (p := ⟨V1.heap.size, 1, none⟩) HSZ.out).trans m2
            have u3 := (hbu.cell (p := ⟨b, off + i * 2, none⟩) HSB.out).trans m3
            have u4 := (hbu.cell (p := ⟨b, off + i * 2 + 1, none⟩) HSB.out).trans m4
            refine hK.out _ _ ⟨u1, u2, u3, u4⟩ (fun hHeld => ?_)
            clear hbu hK K
            try simp only [Act.put, List.setIfInBounds_toArray, List.set_cons_zero, List.set_cons_succ]
            refine wpAnyH_take (i := 11) (oi := { dst := some 57, op := Op.pick (Operand.tmp 50) (Operand.tmp 56) (Operand.const (Value.bool false)), type := 4, pos := "law.go:111", after := #[{ on := 4, ground := Ground.data }, { on := 10, ground := Ground.data }, { on := 1, ground := Ground.guard }], guard := some (1, true) }) (v := ?_) rfl (by kernel_rfl) (by kernel_rfl) (by kernel_rfl) (fun _ _ _ h => h) (Or.inl ⟨by rfl, ?_⟩) hHeld ?_
            rotate_left
            · (intro w hSw; (try dsimp only at hSw); go_simp; try with_reducible rfl)
            simp only [Act.put, List.setIfInBounds_toArray, List.set_cons_zero, List.set_cons_succ]
            refine wpAnyH_take (i := 12) (oi := { dst := some 58, op := Op.binOp BinOp.neq 4 (Operand.tmp 48) (Operand.tmp 57) 4, type := 4, pos := "law.go:111", after := #[{ on := 2, ground := Ground.data }, { on := 11, ground := Ground.data }, { on := 1, ground := Ground.guard }], guard := some (1, true) }) (v := ?_) rfl (by kernel_rfl) (by kernel_rfl) (by kernel_rfl) (fun _ _ _ h => h) (Or.inl ⟨by rfl, ?_⟩) hHeld ?_
            rotate_left
            · (intro w hSw; (try dsimp only at hSw); go_simp; try with_reducible rfl)
            simp only [Act.put, List.setIfInBounds_toArray, List.set_cons_zero, List.set_cons_succ]
            refine wpAnyH_take (i := 13) (oi := { dst := some 59, op := Op.pick (Operand.tmp 47) (Operand.tmp 58) (Operand.const (Value.bool false)), type := 4, pos := "law.go:111", after := #[{ on := 1, ground := Ground.data }, { on := 12, ground := Ground.data }], guard := none }) (v := ?_) rfl (by kernel_rfl) (by kernel_rfl) (by kernel_rfl) (fun _ _ _ h => h) (Or.inl ⟨by rfl, ?_⟩) hHeld ?_
            rotate_left
            · (intro w hSw; (try dsimp only at hSw); go_simp; try with_reducible rfl)
            simp only [Act.put, List.setIfInBounds_toArray, List.set_cons_zero, List.set_cons_succ]
            refine wpAnyH_take (i := 14) (oi := { dst := some 60, op := Op.move (Operand.tmp 59), type := 4, pos := "law.go:111", after := #[{ on := 13, ground := Ground.data }, { on := 10, ground := Ground.chain }], guard := none }) (v := ?_) rfl (by kernel_rfl) (by kernel_rfl) (by kernel_rfl) (fun _ _ _ h => h) (Or.inl ⟨by rfl, ?_⟩) hHeld ?_
            rotate_left
            · (intro w hSw; (try dsimp only at hSw); go_simp; try with_reducible rfl)
            simp only [Act.put, List.setIfInBounds_toArray, List.set_cons_zero, List.set_cons_succ]
            refine wpAnyH_take (i := 15) (oi := { dst := some 61, op := Op.move (Operand.tmp 9), type := 4, pos := "law.go:111", after := #[{ on := 14, ground := Ground.guard }], guard := some (14, false) }) (v := ?_) rfl (by kernel_rfl) (by kernel_rfl) (by kernel_rfl) (fun _ _ _ h => h) (Or.inl ⟨by rfl, ?_⟩) hHeld ?_
            rotate_left
            · (intro w hSw; (try dsimp only at hSw); go_simp; try with_reducible rfl)
            simp only [Act.put, List.setIfInBounds_toArray, List.set_cons_zero, List.set_cons_succ]
            refine wpAnyH_take (i := 16) (oi := { dst := some 62, op := Op.unOp UnOp.not 4 (Operand.tmp 61), type := 4, pos := "law.go:111", after := #[{ on := 15, ground := Ground.data }, { on := 14, ground := Ground.guard }], guard := some (14, false) }) (v := ?_) rfl (by kernel_rfl) (by kernel_rfl) (by kernel_rfl) (fun _ _ _ h => h) (Or.inl ⟨by rfl, ?_⟩) hHeld ?_
            rotate_left
            · (intro w hSw; (try dsimp only at hSw); go_simp; try with_reducible rfl)
            simp only [Act.put, List.setIfInBounds_toArray, List.set_cons_zero, List.set_cons_succ]
            refine wpAnyH_take (i := 17) (oi := { dst := some 63, op := Op.move (Operand.tmp 62), type := 4, pos := "law.go:111", after := #[{ on := 16, ground := Ground.data }, { on := 14, ground := Ground.chain }, { on := 14, ground := Ground.guard }], guard := some (14, false) }) (v := ?_) rfl (by kernel_rfl) (by kernel_rfl) (by kernel_rfl) (fun _ _ _ h => h) (Or.inl ⟨by rfl, ?_⟩) hHeld ?_
            rotate_left
            · (intro w hSw; (try dsimp only at hSw); go_simp; try with_reducible rfl)
            simp only [Act.put, List.setIfInBounds_toArray, List.set_cons_zero, List.set_cons_succ]
            refine wpAnyH_take (i := 18) (oi := { dst := some 64, op := Op.move (Operand.tmp 10), type := 4, pos := "law.go:111", after := #[{ on := 17, ground := Ground.guard }], guard := some (17, true) }) (v := undef) rfl (by kernel_rfl) (by kernel_rfl) (by kernel_rfl) (fun _ _ _ h => h) (Or.inr ⟨by rfl, rfl⟩) hHeld ?_
            simp only [Act.put, List.setIfInBounds_toArray, List.set_cons_zero, List.set_cons_succ]
            refine wpAnyH_take (i := 19) (oi := { dst := some 65, op := Op.unOp UnOp.not 4 (Operand.tmp 64), type := 4, pos := "law.go:111", after := #[{ on := 18, ground := Ground.data }, { on := 17, ground := Ground.guard }], guard := some (17, true) }) (v := undef) rfl (by kernel_rfl) (by kernel_rfl) (by kernel_rfl) (fun _ _ _ h => h) (Or.inr ⟨by rfl, rfl⟩) hHeld ?_
            simp only [Act.put, List.setIfInBounds_toArray, List.set_cons_zero, List.set_cons_succ]
            refine wpAnyH_take (i := 20) (oi := { dst := some 66, op := Op.pick (Operand.tmp 63) (Operand.tmp 65) (Operand.const (Value.bool false)), type := 4, pos := "law.go:111", after := #[{ on := 17, ground := Ground.data }, { on := 19, ground := Ground.data }, { on := 14, ground := Ground.guard }], guard := some (14, false) }) (v := ?_) rfl (by kernel_rfl) (by kernel_rfl) (by kernel_rfl) (fun _ _ _ h => h) (Or.inl ⟨by rfl, ?_⟩) hHeld ?_
            rotate_left
            · (intro w hSw; (try dsimp only at hSw); go_simp; try with_reducible rfl)
            simp only [Act.put, List.setIfInBounds_toArray, List.set_cons_zero, List.set_cons_succ]
            refine wpAnyH_take (i := 21) (oi := { dst := some 67, op := Op.pick (Operand.tmp 60) (Operand.const (Value.bool true)) (Operand.tmp 66), type := 4, pos := "law.go:111", after := #[{ on := 14, ground := Ground.data }, { on := 20, ground := Ground.data }], guard := none }) (v := ?_) rfl (by kernel_rfl) (by kernel_rfl) (by kernel_rfl) (fun _ _ _ h => h) (Or.inl ⟨by rfl, ?_⟩) hHeld ?_
            rotate_left
            · (intro w hSw; (try dsimp only at hSw); go_simp; try with_reducible rfl)
            simp only [Act.put, List.setIfInBounds_toArray, List.set_cons_zero, List.set_cons_succ]
            refine wpAnyH_done (by kernel_rfl) ?_ _
            clear hHeld
            clear m1 m2 m3 m4 u1 u2 u3 u4 HLV0 hcall
            have pB : (K1 ++ [(y1, y2)]).length ≤ i + 1 := by obtain ⟨S, q1, -⟩ := HLV.out; exact q1.length
            obtain ⟨N1, hN1⟩ : ∃ N1, N1 = (K1 ++ [(y1, y2)]).length := ⟨_, rfl⟩
            have hls := HLV.out.list (by omega)
            rw [← hN1] at hls pB
            have HLS := Lib.hid hls
            obtain ⟨p, hp⟩ : ∃ p, p = K1.length := ⟨_, rfl⟩
            have ep : N1 = p + 1 := by rw [hN1, hp]; simp
            have e1 : (N1 : Int) - 1 = (p : Int) := by omega
            have e2 : IntKind.i64.wrap (p : Int) = (p : Int) := by exact IntWalk.i64_in _ (by omega)
            have ln : p < N1 := by omega
            have ln0 : 0 < N1 := by omega
            have lnd : decide (0 < (N1 : Int)) = true := by simp; omega
            have HN1 := Lib.hid hN1
            clear hls hN1 ep
            go_wp2_with fail
            refine HLS.out.mono ?_
            rintro _ V2 ⟨rfl, hbl, hlr⟩
            have hla := hlr.liv.last
            rw [show (K1 ++ [(y1, y2)]).getLast?.getD (0, 0) = (y1, y2) from by simp, show decide (0 < (K1 ++ [(y1, y2)]).length) = true from by simp] at hla
            have HLA := Lib.hid hla
            have HBL := Lib.hid hbl
            have HPP := Lib.hid hp
            clear hla hbl hlr HLS HLV hp
            go_wp2_with fail
            refine HLA.out.mono ?_
            rintro _ V3 ⟨rfl, hl3, hb3⟩
            have b4 := (Below.refl _ V3).alloc (Nat.le_refl _) (.cells #[.int .i64 y1, .int .i64 y2] 42)
            have hbl4 := (HBL.out.below hb3).below b4
            have hy : (K1 ++ [(y1, y2)])[p]? = some (y1, y2) := by rw [HPP.out]; simp
            have c1 := hbl4.fst hy
            have c2 := hbl4.snd hy
            have hl4 := hl3.below b4
            have HLN := Lib.hid (show ∀ d, Calls Try.prog 25 #[.pointer (some ⟨s, 0, none⟩)] ((V3.alloc (.cells #[.int .i64 y1, .int .i64 y2] 42)).drewN d) fun e W' => e = .returned (.int .i64 (N1 : Int)) ∧ W' = (V3.alloc (.cells #[.int .i64 y1, .int .i64 y2] 42)).drewN d from fun d => by
              have := (LivR.drewN hl4 d).len
              rw [← HN1.out] at this
              exact this)
            have HL4 := Lib.hid hl4
            have nq1 := fun W => neqR y1 y2 y1 y2 W
            have gd1 := fun op x y W => guardR op x y y1 y2 y1 y2 W
            rw [show (!decide (y1 = y1 ∧ y2 = y2)) = false from by simp] at nq1
            clear hl3 hb3 b4 hbl4 hy hl4 HLA HBL
            go_wp2
            go_quiet ((go_at_call 25; exact Calls.quiet_of_same (HLN.out _)))
            have HL5 := Lib.hid (LivR.drewN HL4.out nq)
            clear c1 c2 HLN HL4 nq1 gd1 e1 e2 ln ln0 lnd HN1 pB
            go_wp2
            go_roundw
            case rel => exact ⟨i + 1, _, congrArg (Value.int .i64) (by omega), by omega, HL5.out⟩
            case measure => simp [intOf]; omega
          | false =>
            rw [Km.off_no (by omega) hf] at hof
            rw [hf] at hcall
            obtain ⟨K1, hK1⟩ : ∃ K1, K1 = K0 := ⟨_, rfl⟩
            rw [← hK1] at hof
            obtain ⟨y1, y2, hy1, hy2⟩ : ∃ y1 y2, y1 = z1 ∧ y2 = z2 := ⟨_, _, rfl, rfl⟩
            rw [← hy1, ← hy2] at hof
            have HOF := Lib.hid hof
            clear hof hK1 hrm hf hnn hy1 hy2
            go_wp2_with fail
            refine HOF.out.mono ?_
            rintro _ V ⟨rfl, hlv, hvr⟩
            have hvq := hvr.trans HQ2.out
            have HSZ := Lib.hid (lt_of_block hvq)
            have HSB := Lib.hid (show b < V.heap.size from Nat.lt_of_lt_of_le hbl hlv.base.size)
            have m1 := cell_of_row _ _ 0 _ _ _ hvq
            have m2 := cell_of_row _ _ 1 _ _ _ hvq
            have m3 := (hlv.base.cell (p := ⟨b, off + i * 2, none⟩) hbl).trans ((HL2.out.liv.base.cell (p := ⟨b, off + i * 2, none⟩) hbl).symm.trans c1)
            have m4 := (hlv.base.cell (p := ⟨b, off + i * 2 + 1, none⟩) hbl).trans ((HL2.out.liv.base.cell (p := ⟨b, off + i * 2 + 1, none⟩) hbl).symm.trans c2)
            have HLV0 := Lib.hid hlv
            clear hlv HOF c1 c2 hvr hvq
            go_wp2
            refine wp_region_held_drew (S := fun w' => w'.cell? ⟨V1.heap.size, 0, none⟩ = some (.int .i64 z1) ∧ w'.cell? ⟨V1.heap.size, 1, none⟩ = some (.int .i64 z2) ∧ w'.cell? ⟨b, off + i * 2, none⟩ = some (.int .i64 x1) ∧ w'.cell? ⟨b, off + i * 2 + 1, none⟩ = some (.int .i64 x2)) (by kernel_rfl) ⟨m1, m2, m3, m4⟩ (fun hHeld => ?_)
            refine wpAnyH_take (i := 0) (oi := { dst := some 46, op := Op.move (Operand.tmp 9), type := 4, pos := "law.go:111", after := #[], guard := none }) (v := ?_) rfl (by kernel_rfl) (by kernel_rfl) (by kernel_rfl) (fun _ _ _ h => h) (Or.inl ⟨by rfl, ?_⟩) hHeld ?_
            rotate_left
            · (intro w hSw; (try dsimp only at hSw); go_simp; try with_reducible rfl)
            simp only [Act.put, List.setIfInBounds_toArray, List.set_cons_zero, List.set_cons_succ]
            refine wpAnyH_take (i := 1) (oi := { dst := some 47, op := Op.move (Operand.tmp 46), type := 4, pos := "law.go:111", after := #[{ on := 0, ground := Ground.data }], guard := none }) (v := ?_) rfl (by kernel_rfl) (by kernel_rfl) (by kernel_rfl) (fun _ _ _ h => h) (Or.inl ⟨by rfl, ?_⟩) hHeld ?_
            rotate_left
            · (intro w hSw; (try dsimp only at hSw); go_simp; try with_reducible rfl)
            simp only [Act.put, List.setIfInBounds_toArray, List.set_cons_zero, List.set_cons_succ]
            refine wpAnyH_take (i := 2) (oi := { dst := some 48, op := Op.move (Operand.tmp 10), type := 4, pos := "law.go:111", after := #[{ on := 1, ground := Ground.guard }], guard := some (1, true) }) (v := ?_) rfl (by kernel_rfl) (by kernel_rfl) (by kernel_rfl) (fun _ _ _ h => h) (Or.inl ⟨by rfl, ?_⟩) hHeld ?_
            rotate_left
            · (intro w hSw; (try dsimp only at hSw); go_simp; try with_reducible rfl)
            simp only [Act.put, List.setIfInBounds_toArray, List.set_cons_zero, List.set_cons_succ]
            refine wpAnyH_take (i := 3) (oi := { dst := some 49, op := Op.move (Operand.tmp 8), type := 4, pos := "law.go:111", after := #[{ on := 1, ground := Ground.guard }], guard := some (1, true) }) (v := ?_) rfl (by kernel_rfl) (by kernel_rfl) (by kernel_rfl) (fun _ _ _ h => h) (Or.inl ⟨by rfl, ?_⟩) hHeld ?_
            rotate_left
            · (intro w hSw; (try dsimp only at hSw); go_simp; try with_reducible rfl)
            simp only [Act.put, List.setIfInBounds_toArray, List.set_cons_zero, List.set_cons_succ]
            refine wpAnyH_take (i := 4) (oi := { dst := some 50, op := Op.move (Operand.tmp 49), type := 4, pos := "law.go:111", after := #[{ on := 3, ground := Ground.data }, { on := 1, ground := Ground.chain }, { on := 1, ground := Ground.guard }], guard := some (1, true) }) (v := ?_) rfl (by kernel_rfl) (by kernel_rfl) (by kernel_rfl) (fun _ _ _ h => h) (Or.inl ⟨by rfl, ?_⟩) hHeld ?_
            rotate_left
            · (intro w hSw; (try dsimp only at hSw); go_simp; try with_reducible rfl)
            simp only [Act.put, List.setIfInBounds_toArray, List.set_cons_zero, List.set_cons_succ]
            refine wpAnyH_take (i := 5) (oi := { dst := some 51, op := Op.move (Operand.tmp 0), type := 39, pos := "law.go:111", after := #[{ on := 4, ground := Ground.guard }], guard := some (4, true) }) (v := ?_) rfl (by kernel_rfl) (by kernel_rfl) (by kernel_rfl) (fun _ _ _ h => h) (Or.inl ⟨by rfl, ?_⟩) hHeld ?_
            rotate_left
            · (intro w hSw; (try dsimp only at hSw); go_simp; try with_reducible rfl)
            simp only [Act.put, List.setIfInBounds_toArray, List.set_cons_zero, List.set_cons_succ]
            refine wpAnyH_take (i := 6) (oi := { dst := some 52, op := Op.move (Operand.tmp 6), type := 3, pos := "law.go:111", after := #[{ on := 4, ground := Ground.guard }], guard := some (4, true) }) (v := ?_) rfl (by kernel_rfl) (by kernel_rfl) (by kernel_rfl) (fun _ _ _ h => h) (Or.inl ⟨by rfl, ?_⟩) hHeld ?_
            rotate_left
            · (intro w hSw; (try dsimp only at hSw); go_simp; try with_reducible rfl)
            simp only [Act.put, List.setIfInBounds_toArray, List.set_cons_zero, List.set_cons_succ]
            refine wpAnyH_take (i := 7) (oi := { dst := some 53, op := Op.indexAddr 39 (Operand.tmp 51) (Operand.tmp 52), type := 0, pos := "law.go:111", after := #[{ on := 5, ground := Ground.data }, { on := 6, ground := Ground.data }, { on := 4, ground := Ground.guard }], guard := some (4, true) }) (v := ?_) rfl (by kernel_rfl) (by kernel_rfl) (by kernel_rfl) (fun _ _ _ h => h) (Or.inl ⟨by rfl, ?_⟩) hHeld ?_
            rotate_left
            · (intro w hSw; (try dsimp only at hSw); go_simp; try with_reducible rfl)
            simp only [Act.put, List.setIfInBounds_toArray, List.set_cons_zero, List.set_cons_succ]
            refine wpAnyH_take (i := 8) (oi := { dst := some 54, op := Op.load 42 (Operand.tmp 53), type := 42, pos := "law.go:111", after := #[{ on := 7, ground := Ground.data }, { on := 4, ground := Ground.guard }], guard := some (4, true) }) (v := ?_) rfl (by kernel_rfl) (by kernel_rfl) (by kernel_rfl) (fun _ _ _ h => h) (Or.inl ⟨by rfl, ?_⟩) hHeld ?_
            rotate_left
            · (intro w hSw; (try dsimp only at hSw); go_simp; try with_reducible rfl)
            simp only [Act.put, List.setIfInBounds_toArray, List.set_cons_zero, List.set_cons_succ]
            refine wpAnyH_take (i := 9) (oi := { dst := some 55, op := Op.load 42 (Operand.tmp 7), type := 42, pos := "law.go:111", after := #[{ on := 4, ground := Ground.guard }], guard := some (4, true) }) (v := ?_) rfl (by kernel_rfl) (by kernel_rfl) (by kernel_rfl) (fun _ _ _ h => h) (Or.inl ⟨by rfl, ?_⟩) hHeld ?_
            rotate_left
            · (intro w hSw; (try dsimp only at hSw); go_simp; try with_reducible rfl)
            simp only [Act.put, List.setIfInBounds_toArray, List.set_cons_zero, List.set_cons_succ]
            refine wpAnyH_ready (rs := [10]) (by kernel_rfl) (by simp) ?_
            refine AllReadyH.cons (o := { dst := some 56, op := Op.call { callee := Callee.value (Operand.func 19), args := #[Operand.tmp 54, Operand.tmp 55], argTypes := #[42, 42] }, type := 4, pos := "law.go:111", after := #[{ on := 8, ground := Ground.data }, { on := 9, ground := Ground.data }, { on := 4, ground := Ground.chain }, { on := 4, ground := Ground.guard }], guard := some (4, true) }) rfl (fun K hK => ?_) AllReadyH.nil
            go_simp
            refine (hcall _).mono ?_
            rintro _ U2 ⟨rfl, hbu⟩
            have HLV := Lib.hid (HLV0.out.drew.below hbu)
            have u1 := (hbu.cell (p := ⟨V1.heap.size, 0, none⟩) HSZ.out).trans m1
            have u2 := (hbu.cell (p := ⟨V1.heap.size, 1, none⟩) HSZ.out).trans m2
            have u3 := (hbu.cell (p := ⟨b, off + i * 2, none⟩) HSB.out).trans m3
            have u4 := (hbu.cell (p := ⟨b, off + i * 2 + 1, none⟩) HSB.out).trans m4
            refine hK.out _ _ ⟨u1, u2, u3, u4⟩ (fun hHeld => ?_)
            clear hbu hK K
            try simp only [Act.put, List.setIfInBounds_toArray, List.set_cons_zero, List.set_cons_succ]
            refine wpAnyH_take (i := 11) (oi := { dst := some 57, op := Op.pick (Operand.tmp 50) (Operand.tmp 56) (Operand.const (Value.bool false)), type := 4, pos := "law.go:111", after := #[{ on := 4, ground := Ground.data }, { on := 10, ground := Ground.data }, { on := 1, ground := Ground.guard }], guard := some (1, true) }) (v := ?_) rfl (by kernel_rfl) (by kernel_rfl) (by kernel_rfl) (fun _ _ _ h => h) (Or.inl ⟨by rfl, ?_⟩) hHeld ?_
            rotate_left
            · (intro w hSw; (try dsimp only at hSw); go_simp; try with_reducible rfl)
            simp only [Act.put, List.setIfInBounds_toArray, List.set_cons_zero, List.set_cons_succ]
            refine wpAnyH_take (i := 12) (oi := { dst := some 58, op := Op.binOp BinOp.neq 4 (Operand.tmp 48) (Operand.tmp 57) 4, type := 4, pos := "law.go:111", after := #[{ on := 2, ground := Ground.data }, { on := 11, ground := Ground.data }, { on := 1, ground := Ground.guard }], guard := some (1, true) }) (v := ?_) rfl (by kernel_rfl) (by kernel_rfl) (by kernel_rfl) (fun _ _ _ h => h) (Or.inl ⟨by rfl, ?_⟩) hHeld ?_
            rotate_left
            · (intro w hSw; (try dsimp only at hSw); go_simp; try with_reducible rfl)
            simp only [Act.put, List.setIfInBounds_toArray, List.set_cons_zero, List.set_cons_succ]
            refine wpAnyH_take (i := 13) (oi := { dst := some 59, op := Op.pick (Operand.tmp 47) (Operand.tmp 58) (Operand.const (Value.bool false)), type := 4, pos := "law.go:111", after := #[{ on := 1, ground := Ground.data }, { on := 12, ground := Ground.data }], guard := none }) (v := ?_) rfl (by kernel_rfl) (by kernel_rfl) (by kernel_rfl) (fun _ _ _ h => h) (Or.inl ⟨by rfl, ?_⟩) hHeld ?_
            rotate_left
            · (intro w hSw; (try dsimp only at hSw); go_simp; try with_reducible rfl)
            simp only [Act.put, List.setIfInBounds_toArray, List.set_cons_zero, List.set_cons_succ]
            refine wpAnyH_take (i := 14) (oi := { dst := some 60, op := Op.move (Operand.tmp 59), type := 4, pos := "law.go:111", after := #[{ on := 13, ground := Ground.data }, { on := 10, ground := Ground.chain }], guard := none }) (v := ?_) rfl (by kernel_rfl) (by kernel_rfl) (by kernel_rfl) (fun _ _ _ h => h) (Or.inl ⟨by rfl, ?_⟩) hHeld ?_
            rotate_left
            · (intro w hSw; (try dsimp only at hSw); go_simp; try with_reducible rfl)
            simp only [Act.put, List.setIfInBounds_toArray, List.set_cons_zero, List.set_cons_succ]
            refine wpAnyH_take (i := 15) (oi := { dst := some 61, op := Op.move (Operand.tmp 9), type := 4, pos := "law.go:111", after := #[{ on := 14, ground := Ground.guard }], guard := some (14, false) }) (v := ?_) rfl (by kernel_rfl) (by kernel_rfl) (by kernel_rfl) (fun _ _ _ h => h) (Or.inl ⟨by rfl, ?_⟩) hHeld ?_
            rotate_left
            · (intro w hSw; (try dsimp only at hSw); go_simp; try with_reducible rfl)
            simp only [Act.put, List.setIfInBounds_toArray, List.set_cons_zero, List.set_cons_succ]
            refine wpAnyH_take (i := 16) (oi := { dst := some 62, op := Op.unOp UnOp.not 4 (Operand.tmp 61), type := 4, pos := "law.go:111", after := #[{ on := 15, ground := Ground.data }, { on := 14, ground := Ground.guard }], guard := some (14, false) }) (v := ?_) rfl (by kernel_rfl) (by kernel_rfl) (by kernel_rfl) (fun _ _ _ h => h) (Or.inl ⟨by rfl, ?_⟩) hHeld ?_
            rotate_left
            · (intro w hSw; (try dsimp only at hSw); go_simp; try with_reducible rfl)
            simp only [Act.put, List.setIfInBounds_toArray, List.set_cons_zero, List.set_cons_succ]
            refine wpAnyH_take (i := 17) (oi := { dst := some 63, op := Op.move (Operand.tmp 62), type := 4, pos := "law.go:111", after := #[{ on := 16, ground := Ground.data }, { on := 14, ground := Ground.chain }, { on := 14, ground := Ground.guard }], guard := some (14, false) }) (v := ?_) rfl (by kernel_rfl) (by kernel_rfl) (by kernel_rfl) (fun _ _ _ h => h) (Or.inl ⟨by rfl, ?_⟩) hHeld ?_
            rotate_left
            · (intro w hSw; (try dsimp only at hSw); go_simp; try with_reducible rfl)
            simp only [Act.put, List.setIfInBounds_toArray, List.set_cons_zero, List.set_cons_succ]
            refine wpAnyH_take (i := 18) (oi := { dst := some 64, op := Op.move (Operand.tmp 10), type := 4, pos := "law.go:111", after := #[{ on := 17, ground := Ground.guard }], guard := some (17, true) }) (v := undef) rfl (by kernel_rfl) (by kernel_rfl) (by kernel_rfl) (fun _ _ _ h => h) (Or.inr ⟨by rfl, rfl⟩) hHeld ?_
            simp only [Act.put, List.setIfInBounds_toArray, List.set_cons_zero, List.set_cons_succ]
            refine wpAnyH_take (i := 19) (oi := { dst := some 65, op := Op.unOp UnOp.not 4 (Operand.tmp 64), type := 4, pos := "law.go:111", after := #[{ on := 18, ground := Ground.data }, { on := 17, ground := Ground.guard }], guard := some (17, true) }) (v := undef) rfl (by kernel_rfl) (by kernel_rfl) (by kernel_rfl) (fun _ _ _ h => h) (Or.inr ⟨by rfl, rfl⟩) hHeld ?_
            simp only [Act.put, List.setIfInBounds_toArray, List.set_cons_zero, List.set_cons_succ]
            refine wpAnyH_take (i := 20) (oi := { dst := some 66, op := Op.pick (Operand.tmp 63) (Operand.tmp 65) (Operand.const (Value.bool false)), type := 4, pos := "law.go:111", after := #[{ on := 17, ground := Ground.data }, { on := 19, ground := Ground.data }, { on := 14, ground := Ground.guard }], guard := some (14, false) }) (v := ?_) rfl (by kernel_rfl) (by kernel_rfl) (by kernel_rfl) (fun _ _ _ h => h) (Or.inl ⟨by rfl, ?_⟩) hHeld ?_
            rotate_left
            · (intro w hSw; (try dsimp only at hSw); go_simp; try with_reducible rfl)
            simp only [Act.put, List.setIfInBounds_toArray, List.set_cons_zero, List.set_cons_succ]
            refine wpAnyH_take (i := 21) (oi := { dst := some 67, op := Op.pick (Operand.tmp 60) (Operand.const (Value.bool true)) (Operand.tmp 66), type := 4, pos := "law.go:111", after := #[{ on := 14, ground := Ground.data }, { on := 20, ground := Ground.data }], guard := none }) (v := ?_) rfl (by kernel_rfl) (by kernel_rfl) (by kernel_rfl) (fun _ _ _ h => h) (Or.inl ⟨by rfl, ?_⟩) hHeld ?_
            rotate_left
            · (intro w hSw; (try dsimp only at hSw); go_simp; try with_reducible rfl)
            simp only [Act.put, List.setIfInBounds_toArray, List.set_cons_zero, List.set_cons_succ]
            refine wpAnyH_done (by kernel_rfl) ?_ _
            clear hHeld
            clear m1 m2 m3 m4 u1 u2 u3 u4 HLV0 hcall
            have pB : (K1 ++ [(y1, y2)]).length ≤ i + 1 := by obtain ⟨S, q1, -⟩ := HLV.out; exact q1.length
            obtain ⟨N1, hN1⟩ : ∃ N1, N1 = (K1 ++ [(y1, y2)]).length := ⟨_, rfl⟩
            have hls := HLV.out.list (by omega)
            rw [← hN1] at hls pB
            have HLS := Lib.hid hls
            obtain ⟨p, hp⟩ : ∃ p, p = K1.length := ⟨_, rfl⟩
            have ep : N1 = p + 1 := by rw [hN1, hp]; simp
            have e1 : (N1 : Int) - 1 = (p : Int) := by omega
            have e2 : IntKind.i64.wrap (p : Int) = (p : Int) := by exact IntWalk.i64_in _ (by omega)
            have ln : p < N1 := by omega
            have ln0 : 0 < N1 := by omega
            have lnd : decide (0 < (N1 : Int)) = true := by simp; omega
            have HN1 := Lib.hid hN1
            clear hls hN1 ep
            go_wp2_with fail
            refine HLS.out.mono ?_
            rintro _ V2 ⟨rfl, hbl, hlr⟩
            have hla := hlr.liv.last
            rw [show (K1 ++ [(y1, y2)]).getLast?.getD (0, 0) = (y1, y2) from by simp, show decide (0 < (K1 ++ [(y1, y2)]).length) = true from by simp] at hla
            have HLA := Lib.hid hla
            have HBL := Lib.hid hbl
            have HPP := Lib.hid hp
            clear hla hbl hlr HLS HLV hp
            go_wp2_with fail
            refine HLA.out.mono ?_
            rintro _ V3 ⟨rfl, hl3, hb3⟩
            have b4 := (Below.refl _ V3).alloc (Nat.le_refl _) (.cells #[.int .i64 y1, .int .i64 y2] 42)
            have hbl4 := (HBL.out.below hb3).below b4
            have hy : (K1 ++ [(y1, y2)])[p]? = some (y1, y2) := by rw [HPP.out]; simp
            have c1 := hbl4.fst hy
            have c2 := hbl4.snd hy
            have hl4 := hl3.below b4
            have HLN := Lib.hid (show ∀ d, Calls Try.prog 25 #[.pointer (some ⟨s, 0, none⟩)] ((V3.alloc (.cells #[.int .i64 y1, .int .i64 y2] 42)).drewN d) fun e W' => e = .returned (.int .i64 (N1 : Int)) ∧ W' = (V3.alloc (.cells #[.int .i64 y1, .int .i64 y2] 42)).drewN d from fun d => by
              have := (LivR.drewN hl4 d).len
              rw [← HN1.out] at this
              exact this)
            have HL4 := Lib.hid hl4
            have nq1 := fun W => neqR y1 y2 y1 y2 W
            have gd1 := fun op x y W => guardR op x y y1 y2 y1 y2 W
            rw [show (!decide (y1 = y1 ∧ y2 = y2)) = false from by simp] at nq1
            clear hl3 hb3 b4 hbl4 hy hl4 HLA HBL
            go_wp2
            go_quiet ((go_at_call 25; exact Calls.quiet_of_same (HLN.out _)))
            have HL5 := Lib.hid (LivR.drewN HL4.out nq)
            clear c1 c2 HLN HL4 nq1 gd1 e1 e2 ln ln0 lnd HN1 pB
            go_wp2
            go_roundw
            case rel => exact ⟨i + 1, _, congrArg (Value.int .i64) (by omega), by omega, HL5.out⟩
            case measure => simp [intOf]; omega
    · obtain rfl : i = len0 := by omega
      have HE := Lib.hid (show Below w.heap.size w wr from B1.out.trans (hlv.base.mono B1.out.size))
      clear hlv
      go_wp2
      go_ret
      exact ⟨rfl, HE.out⟩
theorem own : ownKnob Try.prog.godebug = none := by kernel_rfl
theorem laidOut : laidOutB Try.prog = true := by kernel_rfl
set_option maxRecDepth 100000 in
theorem lifted (os : Os) (started : os.Started) (H : Type) (enc : TypeId × Value → H) :
    ReturnsInHanded {} Try.checked os 6 .any (Rows.topkLastSpec.pre6 enc Try.prog Try.f6 Rows.topkLastRow.domain false) (Rows.topkLastSpec.post enc Try.prog Try.f6 false true false false) := by
  refine returnsInHanded_of_change (C := Try.checked) own started (by kernel_rfl) Try.func6
    (ChangeSpec.witness6 (enc := enc) (C := Try.checked) false ⟨#[], #[.slice none 0 0, .int .u8 0], []⟩ 8 (by kernel_rfl) (by kernel_rfl) (by kernel_rfl) (by kernel_rfl)) ?_
  intro W base args ds gs before hval0 hW hcnd _
  have hval : ∀ (j : Nat) t v, Try.f6.params[j]? = some t → args[j]? = some v → Value.okWide Try.prog W .any base t v := hval0
  have hW' := hW
  obtain ⟨p, q, hA0, hV, rfl, hfz, hnd⟩ := hW
  have hA : DataW.TrodAll enc Try.prog W 0 (fun _ => true) true Try.f6.params.toList args.toList ds p := hA0
  rw [Try.params6] at hA hval
  obtain ⟨v0, vs0, d0, ds0, p0, q0, hargs, rfl, rfl, h0, r0⟩ := trodAll_cons hA
  obtain ⟨v1, vs1, d1, ds1, p1, q1, rfl, rfl, rfl, h1, r1⟩ := trodAll_cons r0
  obtain ⟨rfl, rfl, rfl⟩ := trodAll_nil r1
  obtain rfl : args = #[v0, v1] := by cases args; simp_all
  obtain ⟨rfl, rfl⟩ := trodVars_none hV
  obtain ⟨a0, len0, cap0, rfl⟩ := okWide_slice Try.underlying39 (hval 0 39 v0 rfl rfl)
  have k0 := h0
  have lt0 : ∀ x ∈ p0, x.block < W.heap.size := by obtain ⟨m, hm⟩ := k0; exact DataW.trod_lt m _ _ _ hm
  obtain ⟨z0, w0⟩ : ∃ l, VecE W a0 len0 l ∧ len0 ≤ cap0 ∧ (a0 = none → cap0 = 0) := by
    obtain ⟨fuel, hf⟩ := h0
    rcases Go.Deep.open_slice_pairs Try.underlying39 Try.underlying42 (by kernel_rfl) rfl rfl (by kernel_rfl) (by kernel_rfl) hf with ⟨hcs, _⟩ | ⟨x, len, cap, m, n, V0, V1, D0, D1, P0, P1, hcs, _, hl, _, hmm, _, hcell⟩
    · simp [Value.cells] at hcs
      obtain ⟨rfl, rfl, rfl⟩ := hcs
      exact ⟨[], VecE.nil_ _ _, Nat.le_refl _, fun _ => rfl⟩
    · simp [Value.cells] at hcs
      obtain ⟨rfl, rfl, rfl⟩ := hcs
      obtain ⟨l, hv⟩ := VecE.of_each (w := W) (x := x) len0 (fun j hj => by
        obtain ⟨h1, h2, h3, h4⟩ := hcell j (by simp at hmm; omega)
        obtain ⟨p, hp, -⟩ := DataW.trod_int Try.underlying3 h3
        obtain ⟨q, hq, -⟩ := DataW.trod_int Try.underlying2 h4
        simp at hp hq
        exact ⟨(p, q), by rw [h1, hp], by rw [h2, hq]⟩)
      exact ⟨l, hv, hl, fun h => by cases h⟩
  obtain ⟨a1, rfl, rfl, rfl, w1⟩ := open_int Try.underlying5 (hval 1 5 v1 rfl rfl) h1
  clear hA0 hval0
  refine (walk a0 len0 cap0 z0 a1 W w0 w1).mono fun e W' ⟨he, bel⟩ => ?_
  subst he
  exact ⟨_, rfl, _, _, _, [], _, [], hW', trodAll_mk1 (shut_bool Try.underlying4 _), (trodAll_cons_mk (Below.trod laidOut (by kernel_rfl) (of_decide_eq_true (by kernel_rfl)) k0 bel lt0) (trodAll_cons_mk (shut_int Try.underlying5 w1) trodAll_mk0)), rfl, bel.frame _, fun h => by cases h⟩
theorem over : Rows.topkLastRow.holds Try.pinned (OpenSpec.ofChange Rows.topkLastSpec) :=
  OpenClaim.holds_of_wide 6 Try.f6 rfl rfl rfl rfl rfl rfl rfl ⟨rfl, rfl, rfl, rfl, rfl⟩ rfl rfl rfl rfl rfl (by kernel_rfl) Try.func6 (by kernel_rfl)
    (of_decide_eq_true (by kernel_rfl)) (by unfold Func.isWrapper; first | (rw [if_pos (by decide +kernel)]; kernel_rfl) | (rw [if_neg (by decide +kernel)]; exact ⟨rfl, rfl⟩))
    (fun os started H enc _ => lifted os started H enc)
/-- the statement -/
theorem proved : Rows.TopkLastSaid := over
#print axioms proved
end topkLast
end Go.Proofs.Ytdpoieemadblnaa
