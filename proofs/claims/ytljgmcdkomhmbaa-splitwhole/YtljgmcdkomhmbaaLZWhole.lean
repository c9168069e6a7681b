/-
  SplitWhole holds for every input: both sides together are all ids, each as often; of two at least neither is empty; a side that isn't a half has an eighth at least. No condition.
-/
import Derived.Test.YtljgmcdkomhmbaaZAwk
import Derived.Maps.OwnSet
import Derived.ProofKit
import Derived.Lib.SmallJoins
import Derived.OpenShut
import Derived.ShutString
import Derived.ChangeOld
import Derived.WalkSmall
namespace Go.Proofs.Ytljgmcdkomhmbaa.splitWhole
open Go.ChangeShapes Go.WideShapes Go.ChangeAt Go.RowKit Go.Joins Go.Maps
open Go.ChangeMaps (open_string shut_string)
set_option linter.unusedVariables false

theorem u64_in {n : Int} (h : (Lit.int .u64 n).wf = true) : 0 ≤ n ∧ n < 18446744073709551616 := by have := bounds_u64 h; omega
theorem row_len {k : IntKind} {w : World} {a : Option Addr} {len cap : Nat} {zs : List Int} (h : IsRow k w a len cap zs) : len ≤ maxLen := by
  rcases h with ⟨rfl, rfl, rfl, rfl⟩ | ⟨x, rfl, hl, hm, _⟩
  · exact Nat.zero_le _
  · omega
/-- the number at k of a map of numbers -/
def vi (D : DataW Unit) (k : Int) : Int := match D.atKey (.int .i64 k) (.lit (.int .i64 0)) with | .lit (.int _ a) => a | _ => 0
theorem vi_of {D : DataW Unit} {k c : Int} (h : D.atKey (.int .i64 k) (.lit (.int .i64 0)) = .lit (.int .i64 c)) : vi D k = c := by unfold vi; rw [h]
theorem vi_put {D : DataW Unit} (hD : IsMap D) (p v : Int) : vi (D.put (.int .i64 p) (.lit (.int .i64 v))) = fun k => if k = p then v else vi D k := by
  funext k
  by_cases hk : k = p
  · subst hk
    rw [if_pos rfl]
    exact vi_of (atKey_put_same (k := .int .i64 k) hD (by simp [WideAt.IsKeyLit]) _ _)
  · rw [if_neg hk]
    unfold vi
    rw [atKey_put_other (by simpa using hk)]
/-- a map of numbers at block b tells g -/
def Cn (w : World) (b n : Nat) (g : Int → Int) : Prop := ∃ D : DataW Unit, w.ownsMap Try.prog 3 (plainElem Try.prog 3) b n D ∧ ∀ k, vi D k = g k
theorem Cn.look {w : World} {b n : Nat} {g : Int → Int} (h : Cn w b n g) (p : Int) (hp : (Lit.int .i64 p).wf = true) : ∀ W : World, W.heap = w.heap → (Instr.lookup 56 (.map (some b)) (.int .i64 p) false).run Try.prog W = .ok (.int .i64 (g p)) W := by
  obtain ⟨D, h1, h2⟩ := h
  intro W hW
  have hk : keyOf Try.prog 3 (.int .i64 p) = some (.int .i64 p) := keyOf_int_mk Try.underlying3 hp
  obtain ⟨es, clock, h3, h4⟩ := h1
  have h1' : W.ownsMap Try.prog 3 (plainElem Try.prog 3) b n D := ⟨es, clock, by rw [hW]; exact h3, h4⟩
  obtain ⟨c, hr, ha, hw⟩ := h1'.lookup_int (int_keyed Try.underlying3) Try.underlying56 Try.underlying3 (Try.zeroValue3 _) hk
  rw [hr, ← h2 p, vi_of ha]
theorem Cn.put {W : World} {b n : Nat} {g : Int → Int} {D : DataW Unit} (hD : IsMap D) (h2 : ∀ k, vi D k = g k) (p v : Int) (ho : W.ownsMap Try.prog 3 (plainElem Try.prog 3) b (n + 1) (D.put (.int .i64 p) (.lit (.int .i64 v)))) : Cn W b (n + 1) (fun k => if k = p then v else g k) :=
  ⟨_, ho, fun k => by rw [vi_put hD]; simp only [h2]⟩
/-- how often more in the first ones of l than in those of m -/
def bal (l m : List Int) (k : Int) : Int := (l.count k : Int) - (m.count k : Int)
theorem bal_l (l m : List Int) (x : Int) : (fun k => if k = x then bal l m x + 1 else bal l m k) = bal (l ++ [x]) m := by
  funext k
  unfold bal
  by_cases e : k = x
  · subst e; simp; omega
  · simp [e, List.count_append, List.count_singleton, show (x == k) = false from by simp; omega]
theorem bal_m (l m : List Int) (x : Int) : (fun k => if k = x then bal l m x - 1 else bal l m k) = bal l (m ++ [x]) := by
  funext k
  unfold bal
  by_cases e : k = x
  · subst e; simp; omega
  · simp [e, List.count_append, List.count_singleton, show (x == k) = false from by simp; omega]
theorem bal_in (l m : List Int) (k : Int) : -(m.length : Int) ≤ bal l m k ∧ bal l m k ≤ (l.length : Int) := by
  unfold bal
  have h1 := List.count_le_length (a := k) (l := l)
  have h2 := List.count_le_length (a := k) (l := m)
  omega
theorem bal_perm {l m : List Int} (h : m.Perm l) (k : Int) : bal l m k = 0 := by unfold bal; rw [h.count_eq]; omega

set_option maxHeartbeats 6400000 in
set_option maxRecDepth 100000 in
theorem walk (dim : Int) (a1 : Option Addr) (len1 cap1 : Nat) (L : List (List Int)) (a2 : Option Addr) (len2 cap2 : Nat) (z2 : List Int) (st : Int) (w : World)
    (w0 : (Lit.int .i64 dim).wf = true) (w1 : Lv w a1 len1 cap1 L) (w2 : IsRow .i64 w a2 len2 cap2 z2) (w3 : (Lit.int .u64 st).wf = true) :
    Calls Try.prog 5 #[.int .i64 dim, .slice a1 len1 cap1, .slice a2 len2 cap2, .int .u64 st] w fun e w' => e = .returned (.bool true) ∧ Below w.heap.size w w' := by
  obtain ⟨i0, hi, hz0, hz1, hz2⟩ := info_parts Try.infoI
  have hml := row_len w2
  have hS := Sl.of_row w2
  have hwf := w2.lst.2.2.2.1
  obtain ⟨ids, hids⟩ : ∃ ids, ids = z2.take len2 := ⟨_, rfl⟩
  rw [← hids] at hS hwf
  obtain ⟨s0, s1⟩ := u64_in w3
  have HL := Lib.hid w1
  have HS := Lib.hid hS
  have S0 := Lib.hid s0
  have S1 := Lib.hid s1
  have HWF := Lib.hid hwf
  have HLEN := Lib.hid hS.length
  clear w0 w1 w2 w3 hS hids s0 s1 hwf
  go_enter Try.func5, Try.ntmps5
  go_wp2_with fail
  refine (awakeZ _).mono ?_
  rintro e w1 ⟨rfl, hb1⟩
  have B1 := Lib.hid hb1
  clear hb1
  go_wp2_with fail
  refine (someZ (HL.out.below B1.out) dim (HS.out.below B1.out) hml).mono ?_
  rintro e w2 (⟨rfl, hb2⟩ | ⟨s, S, rfl, hit, hSn, hb2, hck, h301, h200⟩)
  · have B2 := Lib.hid (B1.out.trans (hb2.mono B1.out.size))
    clear hb2
    go_wp2
    go_ret
    exact ⟨rfl, B2.out⟩
  have B2 := Lib.hid (B1.out.trans (hb2.mono B1.out.size))
  have HI := Lib.hid hit
  have S2 := Lib.hid (HS.out.below B2.out)
  clear hb2 hit hSn hck B1 hml
  obtain ⟨P, hP⟩ : ∃ P, P = refP (Rm.mixAt st) len2 := ⟨_, rfl⟩
  obtain ⟨Q, hQ⟩ : ∃ Q, Q = refQ (Rm.mixAt st) len2 := ⟨_, rfl⟩
  go_wp2_with fail
  refine (mix_new st w2 S0.out S1.out).mono ?_
  rintro e w3 ⟨b, rfl, hbas, hb3⟩
  have FC := chooseZ (HI.out.below hb3) (S2.out.below hb3) (lo := w2.heap.size) (hi := w3.heap.size) (fun k hk => .inl (HI.out.lt k hk)) (S2.out.out (Nat.le_refl _)) (.inl hbas) (by omega) (N := 0) (by omega)
  rw [← hP, ← hQ] at FC
  have FC' := Lib.hid FC
  have B23 := Lib.hid hb3
  have hperm := Zm.of_perm (L := L) (ids := ids) (p := P) (q := Q)
  have hwhole := fun h => Zm.of_whole (L := L) (ids := ids) (p := P) (q := Q) h
  have htr := Zm.tries_le (L := L) (ids := ids) (p := P) (q := Q)
  have htz : len2 < 2 → Zm.tries L ids P Q = 0 := fun h => by unfold Zm.tries; rw [if_pos (by rw [HLEN.out]; exact h)]
  have hsum := Zm.of_length (L := L) (ids := ids) (p := P) (q := Q)
  rw [HLEN.out] at hwhole hsum
  obtain ⟨PO, hPO⟩ : ∃ PO, Zm.poOf L ids P Q = PO := ⟨_, rfl⟩
  obtain ⟨LF, hLF⟩ : ∃ LF, Zm.lfOf L ids P Q = LF := ⟨_, rfl⟩
  obtain ⟨RG, hRG⟩ : ∃ RG, Zm.rgOf L ids P Q = RG := ⟨_, rfl⟩
  obtain ⟨T, hT⟩ : ∃ T, Zm.tries L ids P Q = T := ⟨_, rfl⟩
  rw [hPO, hLF, hRG, hT] at FC'
  rw [hLF, hRG] at hperm hwhole hsum
  rw [hT] at htr htz
  have HPERM := Lib.hid hperm
  clear hP hQ hPO hLF hRG hT FC hbas hb3 hperm
  go_wp2_with fail
  refine FC'.out.mono ?_
  rintro e w4 ⟨Ap, np, cp, A1, c1, A3, c3, rfl, -, -, hl, hr, -, hbt, -, -, -⟩
  have B24 := B23.out.trans (hbt.old (B := w2.heap.size) B23.out.size (Nat.le_refl _))
  obtain ⟨F, hF⟩ : ∃ F, F = w4.alloc (.cells #[.slice Ap np cp, .int .i64 PO, .slice A1 LF.length c1, .slice A3 RG.length c3, .int .i64 (T : Int)] 48) := ⟨_, rfl⟩
  have bF : Below w4.heap.size w4 F := by rw [hF]; exact (Below.refl _ _).alloc (Nat.le_refl _) _
  have r1 : F.heap[w4.heap.size]? = some (.cells #[.slice Ap np cp, .int .i64 PO, .slice A1 LF.length c1, .slice A3 RG.length c3, .int .i64 (T : Int)] 48 (0, 0)) := by rw [hF]; exact heap_alloc_new _ _
  have R1 := Lib.hid r1
  have LFF := Lib.hid (hl.below bF)
  have RGF := Lib.hid (hr.below bF)
  have BF := Lib.hid (B2.out.trans ((B24.trans (bF.mono B24.size)).mono B2.out.size))
  have HF := Lib.hid hF
  have CL : Hid (∀ V, Below F.heap.size F V → V.cell? ⟨w4.heap.size, 2, none⟩ = some (.slice A1 LF.length c1) ∧ V.cell? ⟨w4.heap.size, 3, none⟩ = some (.slice A3 RG.length c3) ∧ V.cell? ⟨w4.heap.size, 4, none⟩ = some (.int .i64 (T : Int))) := Lib.hid fun V hb => by
    have e1 := (hb.block _ (lt_of_block R1.out)).trans R1.out
    refine ⟨?_, ?_, ?_⟩
    all_goals (rw [cell_of_row _ _ _ _ _ _ e1]; rfl)
  have LN := Lib.hid LFF.out.nil
  have RN := Lib.hid RGF.out.nil
  have oa := Lib.hid (show (F.alloc (.cells #[] 3)).drew.ownsRow F.heap.size 3 1 (.slice (some ⟨F.heap.size, 0, none⟩) 0 0) 0 [] from own_none (heap_alloc_new F _) (Nat.le_refl _))
  have ba := Lib.hid (show Below F.heap.size F (F.alloc (.cells #[] 3)).drew from ((Below.refl _ F).alloc (Nat.le_refl _) _).drew)
  obtain ⟨k0, k1, -⟩ := CL.out F (Below.refl _ _)
  clear hl hr hbt B24 hF bF r1 FC'
  go_wp2
  rw [← HF.out]
  go_region_held3 (fun V => V.cell? ⟨w4.heap.size, 2, none⟩ = some (.slice A1 LF.length c1) ∧ V.cell? ⟨w4.heap.size, 3, none⟩ = some (.slice A3 RG.length c3)) (go_keep) (first
    | (refine step_append_lst rfl (.tmp 28) (.tmp 30) 23 rfl F.heap.size 3 i0 (.int .i64 0) 8 Try.underlying23 hi hz0 hz1 hz2 rfl (.slice (some ⟨F.heap.size, 0, none⟩) 0 0) 0 [] (by simp [Act.eval]) oa.out F.heap.size A1 LF.length c1 (ci LF) (by simp [Act.eval]) LN.out (LFF.out.lst.below ba.out) (ints_one .i64 _) (by unfold maxLen; omega) (by omega) ba.out.size ?_; intro v1 w5 ho hg; have HB5 := Lib.hid (ba.out.grown hg ba.out.size (own_block oa.out)); have HO5 := Lib.hid ho; have hs5 := HB5.out.size; obtain ⟨u0, u1, -⟩ := CL.out w5 HB5.out; clear ho hg)
    | (refine step_append_lst rfl (.tmp 31) (.tmp 33) 23 rfl F.heap.size 3 i0 (.int .i64 0) 8 Try.underlying23 hi hz0 hz1 hz2 rfl v1 (0 + LF.length) ([] ++ ci LF) (by simp [Act.eval]) HO5.out F.heap.size A3 RG.length c3 (ci RG) (by simp [Act.eval]) RN.out (RGF.out.lst.below HB5.out) (ints_one .i64 _) (by unfold maxLen; omega) (by omega) hs5 ?_; intro v2 w6 ho hg; have HB6 := Lib.hid (HB5.out.grown hg hs5 (own_block HO5.out)); have HO6 := Lib.hid ho; obtain ⟨x0, x1, x2⟩ := CL.out w6 HB6.out; clear ho hg))
  have hO := HO6.out
  rw [show 0 + LF.length + RG.length = len2 from by omega, show [] ++ ci LF ++ ci RG = ci (LF ++ RG) from by simp [ci]] at hO
  obtain ⟨A9, c9, rfl, -, -⟩ := own_form hO
  obtain ⟨ALL, hALL⟩ : ∃ ALL, ALL = LF ++ RG := ⟨_, rfl⟩
  rw [← hALL] at hO
  have S9 := Lib.hid (Sl.of_own hO)
  have HLA : Hid (ALL.length = len2) := Lib.hid (by rw [hALL, List.length_append]; exact hsum)
  have HPA : Hid (ALL.Perm ids) := Lib.hid (by rw [hALL]; exact HPERM.out)
  have W6 := Lib.hid (BF.out.trans (HB6.out.mono BF.out.size))
  have S6 := Lib.hid (HS.out.below W6.out)
  clear hO hALL HO6 HO5 oa ba k0 k1 u0 u1 HF hi hz0 hz1 hz2 hs5 LN RN HPERM
  obtain ⟨G, hG⟩ : ∃ G, G = w6.alloc (.map #[] 0) := ⟨_, rfl⟩
  have hmm := @run_makeMap Try.prog
  have bG : Below w6.heap.size w6 G := by rw [hG]; exact (Below.refl _ _).alloc (Nat.le_refl _) _
  have cn0 : Cn G w6.heap.size 0 (bal (ids.take 0) (ALL.take 0)) := by
    rw [hG]; exact ⟨.map [], World.ownsMap_made w6 _ _ _, fun k => by simp [vi, DataW.atKey, bal]⟩
  have CN0 := Lib.hid cn0
  have HG := Lib.hid hG
  have BG := Lib.hid bG
  clear cn0 hG bG
  have hcase : (len2 < 2 ∧ T = 0) ∨ (2 ≤ len2 ∧ T ≤ 4) := by
    rcases Nat.lt_or_ge len2 2 with h | h
    · exact .inl ⟨h, htz h⟩
    · exact .inr ⟨h, htr⟩
  have HW := Lib.hid hwhole
  have HSUM := Lib.hid hsum
  clear htz htr hwhole hsum
  rcases hcase with ⟨g, rfl⟩ | ⟨g, g4⟩
  all_goals
    go_wp2
    rw [← HG.out]
    go_loopw [13] (fun i wr => ∃ k : Nat, k ≤ len2 ∧ i = .int .i64 k ∧ Cn wr w6.heap.size (2 * k) (bal (ids.take k) (ALL.take k)) ∧ Below w6.heap.size w6 wr) (fun i _ => len2 - (intOf i).toNat)
    case atStart => exact ⟨0, Nat.zero_le _, rfl, CN0.out, BG.out⟩
    case round =>
      obtain ⟨k, hk, rfl, hcn, hbw⟩ := hrel
      have CN := Lib.hid hcn
      have HBW := Lib.hid hbw
      have hszw := hbw.size
      clear hcn hbw
      by_cases hlt : k < len2
      · have hki : k < ids.length := by rw [HLEN.out]; exact hlt
        have hka : k < ALL.length := by rw [HLA.out]; exact hlt
        obtain ⟨bi, oi, hAi, hbi, hci⟩ := S6.out.at_ (List.getElem?_eq_getElem hki)
        obtain ⟨ba, oa, hAa, hba, hca⟩ := S9.out.at_ (List.getElem?_eq_getElem hka)
        have HT1 := Lib.hid (List.take_succ_eq_append_getElem hki)
        have HT2 := Lib.hid (List.take_succ_eq_append_getElem hka)
        have hwx := HWF.out ids[k] (List.getElem_mem _)
        have hwy := HWF.out ALL[k] (HPA.out.mem_iff.1 (List.getElem_mem _))
        obtain ⟨x, hx⟩ : ∃ x, x = ids[k] := ⟨_, rfl⟩
        obtain ⟨y, hy⟩ : ∃ y, y = ALL[k] := ⟨_, rfl⟩
        rw [← hx] at hci HT1 hwx
        rw [← hy] at hca HT2 hwy
        subst hAi
        subst hAa
        have kx := (HBW.out.cell (p := ⟨bi, oi + k, none⟩) hbi).trans hci
        have KY := Lib.hid (fun V (hV : Below w6.heap.size w6 V) => (hV.cell (p := ⟨ba, oa + k, none⟩) hba).trans hca)
        have hv := bal_in (ids.take k) (ALL.take k) x
        have hu := bal_in (ids.take k ++ [x]) (ALL.take k) y
        rw [List.length_take, List.length_take] at hv
        rw [List.length_append, List.length_take, List.length_take, List.length_singleton] at hu
        have l1 := CN.out.look x hwx wr rfl
        obtain ⟨v, hve⟩ : ∃ v, bal (ids.take k) (ALL.take k) x = v := ⟨_, rfl⟩
        obtain ⟨u, hue⟩ : ∃ u, bal (ids.take k ++ [x]) (ALL.take k) y = u := ⟨_, rfl⟩
        rw [hve] at hv l1
        rw [hue] at hu
        have hv0 : -200 ≤ v := by omega
        have hv1 : v ≤ 200 := by omega
        have hu0 : -201 ≤ u := by omega
        have hu1 : u ≤ 201 := by omega
        obtain ⟨D, hown, hD2⟩ := CN.out
        have HOWN := Lib.hid hown
        have HD2 := Lib.hid hD2
        have KEYX := Lib.hid (show keyOf Try.prog 3 (.int .i64 x) = some (.int .i64 x) from keyOf_int_mk Try.underlying3 hwx)
        have KEYY := Lib.hid (show keyOf Try.prog 3 (.int .i64 y) = some (.int .i64 y) from keyOf_int_mk Try.underlying3 hwy)
        have VALX := Lib.hid (show plainElem (H := Unit) Try.prog 3 (.int .i64 (v + 1)) = some (.lit (.int .i64 (v + 1)), []) from plainElem_int Try.underlying3 (by simp [Lit.wf, IntKind.min, IntKind.max, IntKind.signed, IntKind.bits]; omega))
        have VALY := Lib.hid (show plainElem (H := Unit) Try.prog 3 (.int .i64 (u - 1)) = some (.lit (.int .i64 (u - 1)), []) from plainElem_int Try.underlying3 (by simp [Lit.wf, IntKind.min, IntKind.max, IntKind.signed, IntKind.bits]; omega))
        have HVE := Lib.hid hve
        have HUE := Lib.hid hue
        have HWY := Lib.hid hwy
        clear hx hy hci hca hbi hba hwx hwy hv hu hve hue hown hD2
        go_wp2_with (at_mapUpdate; first
          | (refine wpList_mapUpdate_own _ rfl _ _ _ 56 rfl 3 3 (int_keyed Try.underlying3) Try.underlying56 _ w6.heap.size (2 * k) D rfl HOWN.out (by unfold maxLen; omega) _ _ (.int .i64 x) rfl rfl KEYX.out (.lit (.int .i64 (v + 1))) [] VALX.out ?_; intro wA hoA hgA; have CA : Hid (Cn wA w6.heap.size (2 * k + 1) (bal (ids.take k ++ [x]) (ALL.take k))) := Lib.hid (by { have h := Cn.put HOWN.out.isMap HD2.out x (v + 1) hoA; rw [← HVE.out, bal_l] at h; exact h }); have BA := Lib.hid (HBW.out.grown hgA hszw (by intro q hq; injection hq with hq; omega)); have hszA := BA.out.size; have ky := KY.out wA BA.out; have l2 := CA.out.look y HWY.out wA rfl; rw [HUE.out] at l2; obtain ⟨D', hown', hD2'⟩ := CA.out; have HOWN' := Lib.hid hown'; have HD2' := Lib.hid hD2'; clear hoA hgA hown' hD2' l1)
          | (refine wpList_mapUpdate_own _ rfl _ _ _ 56 rfl 3 3 (int_keyed Try.underlying3) Try.underlying56 _ w6.heap.size (2 * k + 1) D' rfl HOWN'.out (by unfold maxLen; omega) _ _ (.int .i64 y) rfl rfl KEYY.out (.lit (.int .i64 (u - 1))) [] VALY.out ?_; intro wB hoB hgB; have CB : Hid (Cn wB w6.heap.size (2 * k + 1 + 1) (bal (ids.take k ++ [x]) (ALL.take k ++ [y]))) := Lib.hid (by { have h := Cn.put HOWN'.out.isMap HD2'.out y (u - 1) hoB; rw [← HUE.out, bal_m] at h; exact h }); have BB := Lib.hid (BA.out.grown hgB hszA (by intro q hq; injection hq with hq; omega)); clear hoB hgB l2))
        exact ⟨⟨k + 1, by omega, by go_num, by rw [HT1.out, HT2.out]; exact CB.out, BB.out⟩, by simp [intOf]; omega⟩
      · obtain rfl : k = len2 := by omega
        have hti : ids.take k = ids := List.take_of_length_le (by rw [HLEN.out]; exact Nat.le_refl _)
        have hta : ALL.take k = ALL := List.take_of_length_le (by rw [HLA.out]; exact Nat.le_refl _)
        rw [hti, hta] at CN
        have FW : Hid (Below F.heap.size F wr) := Lib.hid (HB6.out.trans (HBW.out.mono HB6.out.size))
        have WW := Lib.hid (BF.out.trans (FW.out.mono BF.out.size))
        have SW := Lib.hid (HS.out.below WW.out)
        have BAL := Lib.hid (fun x => bal_perm HPA.out x)
        obtain ⟨y0, y1, y2⟩ := CL.out wr FW.out
        clear hti hta HBW HB6 S6 S9 W6 CN0 HG BG hmm x0 x1 x2
        go_wp2_with fail
        go_loop [14] (fun i => ∃ q : Nat, q ≤ k ∧ i = .int .i64 q) (fun i => k - (intOf i).toNat)
        case atStart => exact ⟨0, Nat.zero_le _, rfl⟩
        case round =>
          obtain ⟨q, hq, rfl⟩ := hrel
          by_cases hlt2 : q < k
          · have hki : q < ids.length := by rw [HLEN.out]; exact hlt2
            obtain ⟨bi, oi, hAi, hbi, hci⟩ := SW.out.at_ (List.getElem?_eq_getElem hki)
            have hwx := HWF.out ids[q] (List.getElem_mem _)
            have l1 := CN.out.look ids[q] hwx wr rfl
            rw [BAL.out] at l1
            obtain ⟨x, hx⟩ : ∃ x, x = ids[q] := ⟨_, rfl⟩
            rw [← hx] at hci l1
            subst hAi
            clear hx hbi hwx
            go_wp2
            go_round
            case rel => exact ⟨q + 1, by omega, by go_num⟩
            case measure => simp [intOf]; omega
          · rcases Nat.lt_or_ge k 2 with g2 | g2
            · first
                | exact absurd g2 (by omega)
                | (clear CN; go_wp2; go_ret; exact ⟨rfl, WW.out⟩)
            · (first | exact absurd g2 (by omega) | skip)
              all_goals
                obtain ⟨a0, a1x, a2x, a3x⟩ := HW.out g2
                obtain ⟨mn, hmn⟩ : ∃ mn, mn = min LF.length RG.length := ⟨_, rfl⟩
                have hmin : ∀ W ts t, (Builtin.min_ ts t #[.int .i64 (LF.length : Int), .int .i64 (RG.length : Int)]).run Try.prog W = .ok (.int .i64 (mn : Int)) W := fun W ts t => by
                  rw [run_min2, show min (LF.length : Int) (RG.length : Int) = (mn : Int) from by omega]
                have h8 : (k : Int) ≤ 8 * (mn : Int) := by omega
                have hm8 : mn ≤ 200 := by have := HSUM.out; omega
                have p1 : (0 : Int) < (LF.length : Int) := by omega
                have p2 : (0 : Int) < (RG.length : Int) := by omega
                clear CN hmn a2x a3x
                go_wp2
                go_ret
                exact ⟨rfl, WW.out⟩
theorem own : ownKnob Try.prog.godebug = none := by kernel_rfl
theorem laidOut : laidOutB Try.prog = true := by kernel_rfl
set_option maxRecDepth 100000 in
theorem lifted (os : Os) (started : os.Started) (H : Type) (enc : TypeId × Value → H) :
    ReturnsInHanded {} Try.checked os 5 .any (Rows.splitWholeSpec.pre6 enc Try.prog Try.f5 Rows.splitWholeRow.domain false) (Rows.splitWholeSpec.post enc Try.prog Try.f5 false true false false) := by
  refine returnsInHanded_of_change (C := Try.checked) own started (by kernel_rfl) Try.func5
    (ChangeSpec.witness6 (enc := enc) (C := Try.checked) false ⟨#[], #[.int .i64 0, .slice none 0 0, .slice none 0 0, .int .u64 0], []⟩ 8 (by kernel_rfl) (by kernel_rfl) (by kernel_rfl) (by kernel_rfl)) ?_
  intro W base args ds gs before hval0 hW hcnd _
  have hval : ∀ (j : Nat) t v, Try.f5.params[j]? = some t → args[j]? = some v → Value.okWide Try.prog W .any base t v := hval0
  have hW' := hW
  obtain ⟨p, q, hA0, hV, rfl, hfz, hnd⟩ := hW
  have hA : DataW.TrodAll enc Try.prog W 0 (fun _ => true) true Try.f5.params.toList args.toList ds p := hA0
  rw [Try.params5] at hA hval
  obtain ⟨v0, vs0, d0, ds0, p0, q0, hargs, rfl, rfl, h0, r0⟩ := trodAll_cons hA
  obtain ⟨v1, vs1, d1, ds1, p1, q1, rfl, rfl, rfl, h1, r1⟩ := trodAll_cons r0
  obtain ⟨v2, vs2, d2, ds2, p2, q2, rfl, rfl, rfl, h2, r2⟩ := trodAll_cons r1
  obtain ⟨v3, vs3, d3, ds3, p3, q3, rfl, rfl, rfl, h3, r3⟩ := trodAll_cons r2
  obtain ⟨rfl, rfl, rfl⟩ := trodAll_nil r3
  obtain rfl : args = #[v0, v1, v2, v3] := by cases args; simp_all
  obtain ⟨rfl, rfl⟩ := trodVars_none hV
  obtain ⟨a0, rfl, rfl, rfl, w0⟩ := open_int Try.underlying3 (hval 0 3 v0 rfl rfl) h0
  obtain ⟨a1, len1, cap1, rfl⟩ := okWide_slice Try.underlying22 (hval 1 22 v1 rfl rfl)
  have k1 := h1
  have lt1 : ∀ x ∈ p1, x.block < W.heap.size := by obtain ⟨m, hm⟩ := k1; exact DataW.trod_lt m _ _ _ hm
  obtain ⟨z1, w1⟩ : ∃ L, Lv W a1 len1 cap1 L := by
    obtain ⟨fuel, hf⟩ := h1
    rcases Go.Deep.open_int_rows Try.underlying22 Try.underlying24 Try.underlying21 (by kernel_rfl) (by kernel_rfl) hf with ⟨hcs, _⟩ | ⟨x, l, c, _, _, _, _, hcs, _, hl, _, _, hx⟩
    · simp [Value.cells] at hcs
      obtain ⟨rfl, rfl, rfl⟩ := hcs
      exact ⟨[], Lv.nil_ _⟩
    · simp [Value.cells] at hcs
      obtain ⟨rfl, rfl, rfl⟩ := hcs
      exact ⟨_, Lv.of_rows hl hx⟩
  obtain ⟨a2, len2, cap2, rfl⟩ := okWide_slice Try.underlying23 (hval 2 23 v2 rfl rfl)
  have k2 := h2
  have lt2 : ∀ x ∈ p2, x.block < W.heap.size := by obtain ⟨m, hm⟩ := k2; exact DataW.trod_lt m _ _ _ hm
  obtain ⟨z2, w2⟩ : ∃ zs, IsRow .i64 W a2 len2 cap2 zs := by
    obtain ⟨fuel, hf⟩ := h2
    rcases open_ints Try.underlying23 Try.underlying3 (by kernel_rfl) hf with ⟨hcs, _⟩ | ⟨x, l, c, zs, hcs, _, hl, hm, hz, _, hcell, hwz⟩
    · simp [Value.cells] at hcs
      obtain ⟨rfl, rfl, rfl⟩ := hcs
      exact ⟨[], .inl ⟨rfl, rfl, rfl, rfl⟩⟩
    · simp [Value.cells] at hcs
      obtain ⟨rfl, rfl, rfl⟩ := hcs
      exact ⟨zs, .inr ⟨_, rfl, hl, hm, by simpa using hz, hcell, hwz⟩⟩
  obtain ⟨a3, rfl, rfl, rfl, w3⟩ := open_int Try.underlying44 (hval 3 44 v3 rfl rfl) h3
  clear hA0 hval0
  refine (walk a0 a1 len1 cap1 z1 a2 len2 cap2 z2 a3 W w0 w1 w2 w3).mono fun e W' ⟨he, bel⟩ => ?_
  subst he
  exact ⟨_, rfl, _, _, _, [], _, [], hW', trodAll_mk1 (shut_bool Try.underlying4 _), (trodAll_cons_mk (shut_int Try.underlying3 w0) (trodAll_cons_mk (Below.trod laidOut (by kernel_rfl) (of_decide_eq_true (by kernel_rfl)) k1 bel lt1) (trodAll_cons_mk (Below.trod laidOut (by kernel_rfl) (of_decide_eq_true (by kernel_rfl)) k2 bel lt2) (trodAll_cons_mk (shut_int Try.underlying44 w3) trodAll_mk0)))), rfl, bel.frame _, fun h => by cases h⟩
theorem over : Rows.splitWholeRow.holds Try.pinned (OpenSpec.ofChange Rows.splitWholeSpec) :=
  OpenClaim.holds_of_wide 5 Try.f5 rfl rfl rfl rfl rfl rfl rfl ⟨rfl, rfl, rfl, rfl, rfl⟩ rfl rfl rfl rfl rfl (by kernel_rfl) Try.func5 (by kernel_rfl)
    (of_decide_eq_true (by kernel_rfl)) (by unfold Func.isWrapper; first | (rw [if_pos (by decide +kernel)]; kernel_rfl) | (rw [if_neg (by decide +kernel)]; exact ⟨rfl, rfl⟩))
    (fun os started H enc _ => lifted os started H enc)
/-- the statement -/
theorem proved : Rows.SplitWholeSaid := over
#print axioms proved
end Go.Proofs.Ytljgmcdkomhmbaa.splitWhole
