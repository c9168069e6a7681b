/-
  SplitStays holds for every input: ids are split as they are, when all items are shifted by the same: the same tries, the same sides. No condition.
-/
import Derived.Test.YtljgmcdkomhmbaaZAwk
import Derived.ProofKit
import Derived.Lib.SmallJoins
import Derived.OpenShut
import Derived.ShutString
import Derived.ChangeOld
import Derived.WalkSmall
namespace Go.Proofs.Ytljgmcdkomhmbaa.splitStays
open Go.ChangeShapes Go.WideShapes Go.ChangeAt Go.RowKit Go.Joins
open Go.ChangeMaps (open_string shut_string)
set_option linter.unusedVariables false

theorem u64_in {n : Int} (h : (Lit.int .u64 n).wf = true) : 0 ≤ n ∧ n < 18446744073709551616 := by have := bounds_u64 h; omega
theorem row_len {k : IntKind} {w : World} {a : Option Addr} {len cap : Nat} {zs : List Int} (h : IsRow k w a len cap zs) : len ≤ maxLen := by
  rcases h with ⟨rfl, rfl, rfl, rfl⟩ | ⟨x, rfl, hl, hm, _⟩
  · exact Nat.zero_le _
  · omega
theorem up_snoc (c : Int) (l : List Int) (k : Nat) (hk : k < l.length) : Zm.up c (l.take (k + 1)) = Zm.up c (l.take k) ++ [l[k] + c] := by
  unfold Zm.up; rw [List.take_succ_eq_append_getElem hk, List.map_append]; rfl
theorem ups_snoc (c : Int) (L : List (List Int)) (k : Nat) (hk : k < L.length) : (L.take (k + 1)).map (Zm.up c) = (L.take k).map (Zm.up c) ++ [Zm.up c L[k]] := by
  rw [List.take_succ_eq_append_getElem hk, List.map_append]; rfl
theorem all_of {d : Int} {L : List (List Int)} (h : Dm.chks d L = 0) : Zm.All L d.toNat := by
  obtain ⟨d0, d1, hok⟩ := Dm.chks_zero h
  intro l hl
  obtain ⟨-, -, h1, h2⟩ := Vm.chk_ok (hok l hl)
  exact ⟨by omega, h2⟩

/-- rows of unlike elements stand in unlike blocks -/
theorem own_ne {w : World} {B B' : Nat} {e e' : TypeId} {v v' : Value} {n n' : Nat} {xs xs' : List Value} (h : w.ownsRow B e 1 v n xs) (h' : w.ownsRow B' e' 1 v' n' xs') (he : e ≠ e') : v.ownBlock = none ∨ v.ownBlock ≠ v'.ownBlock := by
  cases hb : v.ownBlock with
  | none => exact .inl rfl
  | some k =>
    refine .inr fun hk => ?_
    obtain ⟨cs, h1⟩ := own_at h hb
    obtain ⟨cs', h2⟩ := own_at h' hk.symm
    rw [h1] at h2
    injection h2 with h2
    injection h2 with _ h2 _
    exact he h2
theorem own_zero {w : World} {B : Nat} {e : TypeId} {v : Value} {n : Nat} {xs : List Value} (h : w.ownsRow B e 1 v n xs) : w.ownsRow 0 e 1 v n xs := by
  refine ⟨h.1, ?_⟩
  rcases h.2 with h0 | ⟨g, cap, cur, hv, hg, hr⟩
  · exact .inl h0
  · exact .inr ⟨g, cap, cur, hv, Nat.zero_le _, hr⟩
/-- slices that are rows of numbers of their own -/
def Vo (w : World) (vs : List Value) (L : List (List Int)) : Prop :=
  vs.length = L.length ∧ ∀ (k : Nat) (l : List Int), L[k]? = some l → ∃ A n c, vs[k]? = some (.slice A n c) ∧ w.ownsRow 0 21 1 (.slice A n c) n (l.map (Value.int .i32)) ∧ (∀ z ∈ l, -2147483648 ≤ z ∧ z ≤ 2147483647) ∧ n ≤ maxLen
theorem Vo.nil (w : World) : Vo w [] [] := ⟨rfl, fun k l h => by simp at h⟩
theorem Vo.below {w w' : World} {vs : List Value} {L : List (List Int)} (h : Vo w vs L) (hb : Below w.heap.size w w') : Vo w' vs L :=
  ⟨h.1, fun k l hl => by obtain ⟨A, n, c, h1, h2, h3⟩ := h.2 k l hl; exact ⟨A, n, c, h1, own_below h2 hb, h3⟩⟩
theorem Vo.grown {w w' : World} {vs : List Value} {L : List (List Int)} {B : Nat} {v : Value} {n : Nat} {xs : List Value} (h : Vo w vs L) (ho : w.ownsRow B 24 1 v n xs) (hg : w.grownBy w' v.ownBlock) : Vo w' vs L :=
  ⟨h.1, fun k l hl => by obtain ⟨A, n, c, h1, h2, h3⟩ := h.2 k l hl; exact ⟨A, n, c, h1, h2.kept hg (own_ne h2 ho (by decide)), h3⟩⟩
theorem Vo.snoc {w : World} {vs : List Value} {L : List (List Int)} {A : Option Addr} {n c : Nat} {l : List Int} (h : Vo w vs L) (hv : w.ownsRow 0 21 1 (.slice A n c) n (l.map (Value.int .i32))) (hb : ∀ z ∈ l, -2147483648 ≤ z ∧ z ≤ 2147483647) (hn : n ≤ maxLen) : Vo w (vs ++ [.slice A n c]) (L ++ [l]) := by
  refine ⟨by simp [h.1], fun k x hx => ?_⟩
  rcases Nat.lt_or_ge k L.length with hk | hk
  · rw [List.getElem?_append_left hk] at hx
    obtain ⟨A', n', c', h1, h2, h3⟩ := h.2 k x hx
    exact ⟨A', n', c', by rw [List.getElem?_append_left (by rw [h.1]; exact hk)]; exact h1, h2, h3⟩
  · have hk2 : k = L.length := by
      have := (List.getElem?_eq_some_iff.1 hx).1
      simp at this
      omega
    subst hk2
    rw [List.getElem?_append_right (Nat.le_refl _)] at hx
    simp at hx
    subst hx
    exact ⟨A, n, c, by rw [← h.1, List.getElem?_append_right (Nat.le_refl _)]; simp, hv, hb, hn⟩
theorem Vo.vl {w : World} {vs : List Value} {L : List (List Int)} (h : Vo w vs L) : Vl w vs L :=
  ⟨h.1, fun k l hl => by obtain ⟨A, n, c, h1, h2, h3, h4⟩ := h.2 k l hl; exact ⟨A, n, c, h1, ⟨Lst.of_own h2, h3⟩, h4⟩⟩

set_option maxHeartbeats 3200000 in
set_option maxRecDepth 100000 in
theorem walk (dim : Int) (a1 : Option Addr) (len1 cap1 : Nat) (L : List (List Int)) (a2 : Option Addr) (len2 cap2 : Nat) (z2 : List Int) (st by_ : Int) (w : World)
    (w0 : (Lit.int .i64 dim).wf = true) (w1 : Lv w a1 len1 cap1 L) (w2 : IsRow .i64 w a2 len2 cap2 z2) (w3 : (Lit.int .u64 st).wf = true) (w4 : (Lit.int .i32 by_).wf = true) :
    Calls Try.prog 7 #[.int .i64 dim, .slice a1 len1 cap1, .slice a2 len2 cap2, .int .u64 st, .int .i32 by_] w fun e w' => e = .returned (.bool true) ∧ Below w.heap.size w w' := by
  obtain ⟨i0, hi, hz0, hz1, hz2⟩ := info_parts Try.infoI32
  obtain ⟨iv, gi, gz0, gz1, gz2⟩ := info_parts Try.infoV
  have hml := row_len w2
  have hS := Sl.of_row w2
  obtain ⟨ids, hids⟩ : ∃ ids, ids = z2.take len2 := ⟨_, rfl⟩
  rw [← hids] at hS
  obtain ⟨s0, s1⟩ := u64_in w3
  have HL := Lib.hid w1
  have HS := Lib.hid hS
  have S0 := Lib.hid s0
  have S1 := Lib.hid s1
  clear w0 w1 w2 w3 w4 hS hids s0 s1
  go_enter Try.func7, Try.ntmps7
  go_wp2_with fail
  refine (awakeZ _).mono ?_
  rintro e w1 ⟨rfl, hb1⟩
  have B1 := Lib.hid hb1
  clear hb1
  go_wp2_with fail
  refine (someZ (HL.out.below B1.out) dim (HS.out.below B1.out) hml).mono ?_
  rintro e w2 (⟨rfl, hb2⟩ | ⟨s, S, rfl, hit, hSn, hb2, hck, h301, h200⟩)
  · have B2 := Lib.hid (B1.out.trans (hb2.mono B1.out.size))
    clear hb2
    go_wp2
    go_ret
    exact ⟨rfl, B2.out⟩
  have B2 := Lib.hid (B1.out.trans (hb2.mono B1.out.size))
  have HI := Lib.hid hit
  have HC := Lib.hid (chks_lens hck)
  have HCK := Lib.hid hck
  have HLEN := Lib.hid HS.out.length
  have HLL := Lib.hid HL.out.len
  clear hb2 hit hSn hck B1
  by_cases g0 : by_ < -1000
  · go_wp2
    go_ret
    exact ⟨rfl, B2.out⟩
  by_cases g1 : 1000 < by_
  · go_wp2
    go_ret
    exact ⟨rfl, B2.out⟩
  have H2L := Lib.hid (HL.out.below B2.out)
  have H2S := Lib.hid (HS.out.below B2.out)
  go_wp2
  go_loop [12] (fun i => ∃ k : Nat, k ≤ len2 ∧ i = .int .i64 k ∧ ∀ x ∈ ids.take k, Zm.In L x) (fun i => len2 - (intOf i).toNat)
  case atStart => exact ⟨0, Nat.zero_le _, rfl, by simp⟩
  case round =>
    obtain ⟨k, hk, rfl, hin⟩ := hrel
    have HIN := Lib.hid hin
    clear hin
    by_cases hlt : k < len2
    · have hkl : k < ids.length := by rw [HLEN.out]; exact hlt
      obtain ⟨b, off, hA, hb, hc⟩ := H2S.out.at_ (List.getElem?_eq_getElem hkl)
      have HT := Lib.hid (List.take_succ_eq_append_getElem hkl)
      obtain ⟨x, hx⟩ : ∃ x, x = ids[k] := ⟨_, rfl⟩
      rw [← hx] at hc HT
      subst hA
      clear hx hb
      by_cases q0 : x < 0
      · go_wp2
        go_ret
        exact ⟨rfl, B2.out⟩
      by_cases q1 : (len1 : Int) ≤ x
      · go_wp2
        go_ret
        exact ⟨rfl, B2.out⟩
      · go_wp2
        go_round
        case rel => exact ⟨k + 1, by omega, by go_num, by rw [HT.out]; intro y hy; rcases List.mem_append.1 hy with hy | hy; exact HIN.out y hy; rw [List.mem_singleton.1 hy]; exact ⟨by omega, by rw [HLL.out]; omega⟩⟩
        case measure => simp [intOf]; omega
    · have HALL := Lib.hid (show ∀ x ∈ ids, Zm.In L x from fun x hx => HIN.out x (by rw [List.take_of_length_le (by rw [HLEN.out]; omega)]; exact hx))
      clear HIN
      go_wp2_with fail
      go_loopw [13, 14] (fun m i wr => ∃ (k : Nat) (vs : List Value), k ≤ len1 ∧ i = .int .i64 k ∧ wr.ownsRow w2.heap.size 24 1 m k vs ∧ Vo wr vs ((L.take k).map (Zm.up by_)) ∧ Below w2.heap.size w2 wr) (fun _ i _ => len1 - (intOf i).toNat)
      case atStart => exact ⟨0, [], Nat.zero_le _, rfl, World.ownsRow_nil _ _ _ _, by simpa using Vo.nil w2, Below.refl _ _⟩
      case round =>
        rename World => WR
        obtain ⟨k, vs, hk, rfl, hown, hvl, hb⟩ := hrel
        have OM := Lib.hid hown
        have VLs := Lib.hid hvl
        have HB := Lib.hid hb
        have hsz := hb.size
        clear hown hvl hb
        by_cases hlt : k < len1
        · have hkl : k < L.length := by rw [HLL.out]; exact hlt
          obtain ⟨bl, ol, hA, hbl, Ar, nr, cr, hcr, hvr, hnr⟩ := H2L.out.at_ k L[k] (List.getElem?_eq_getElem hkl)
          have hnd : nr ≤ 10000 := by rw [← hvr.length]; exact HC.out _ (List.getElem_mem _)
          have HGD := Lib.hid ((all_of HCK.out L[k] (List.getElem_mem _)).2)
          have HRL := Lib.hid hvr.length
          have HUS := Lib.hid (ups_snoc by_ L k hkl)
          obtain ⟨l, hl⟩ : ∃ l, l = L[k] := ⟨_, rfl⟩
          rw [← hl] at hvr HGD HRL HUS
          have HCR := Lib.hid hcr
          have HVR := Lib.hid hvr
          subst hA
          clear hl hvr hcr
          go_wp2_with fail
          go_loopw [15, 16] (fun v i ws => ∃ q : Nat, q ≤ nr ∧ i = .int .i64 q ∧ ws.ownsRow WR.heap.size 21 1 v q ((Zm.up by_ (l.take q)).map (Value.int .i32)) ∧ Below WR.heap.size WR ws) (fun _ i _ => nr - (intOf i).toNat)
          case atStart => exact ⟨0, Nat.zero_le _, rfl, by simpa [Zm.up] using World.ownsRow_nil WR WR.heap.size 21 1, Below.refl _ _⟩
          case round =>
            obtain ⟨q, hq, rfl, hov, hbq⟩ := hrel
            have OV := Lib.hid hov
            have HBQ := Lib.hid hbq
            have hszq := hbq.size
            have kc : wr.cell? ⟨bl, ol + k, none⟩ = some (.slice Ar nr cr) := ((HB.out.trans (hbq.mono hsz)).cell (p := ⟨bl, ol + k, none⟩) hbl).trans HCR.out
            clear hov hbq
            by_cases hltq : q < nr
            · have hql : q < l.length := by rw [HRL.out]; exact hltq
              obtain ⟨br, orr, hAr, hbr, hcx, -, -⟩ := HVR.out.at_ hltq hql
              subst hAr
              have kx : wr.cell? ⟨br, orr + q, none⟩ = some (.int .i32 l[q]) := ((HB.out.trans (HBQ.out.mono hsz)).cell (p := ⟨br, orr + q, none⟩) hbr).trans hcx
              have HUP := Lib.hid (up_snoc by_ l q hql)
              have hgx := HGD.out l[q] (List.getElem_mem _)
              obtain ⟨x, hx⟩ : ∃ x, x = l[q] := ⟨_, rfl⟩
              rw [← hx] at kx HUP hgx
              obtain ⟨x0, x1⟩ := hgx
              obtain ⟨y, hy⟩ : ∃ y, x + by_ = y := ⟨_, rfl⟩
              have hy' : IntKind.i32.wrap (x + by_) = y := by rw [IntWalk.i32_left, Vm.wrap32_in (by omega) (by omega)]; exact hy
              have hy2 : wrap32 (x + by_) = y := by rw [Vm.wrap32_in (by omega) (by omega)]; exact hy
              rw [hy] at HUP
              clear hx hcx hbr x0 x1 hy hy'
              go_wp2_with (at_builtin; refine wpList_append_own _ rfl (.tmp 71) (.tmp 81) 24 rfl WR.heap.size 21 i0 (.int .i32 0) 1 4 Try.underlying24 hi hz0 hz1 hz2 rfl (by decide) u15 q _ rfl (OV.out.alloc _) ⟨wr.heap.size, 0, none⟩ 1 1 [.int .i32 y] rfl rfl (World.news_of_block (heap_alloc_new wr _)) (by intro u hu; simp at hu; subst hu; rfl) (by unfold maxLen; omega) (by omega) (by simp; omega) ?_; intro vA wA hownA hgA _; have OA := Lib.hid hownA; have BA := Lib.hid ((HBQ.out.alloc hszq (.cells #[.int .i32 y] 21)).grown hgA (by simp; omega) (own_block OV.out)); clear hownA hgA)
              refine ⟨⟨q + 1, by omega, by go_num, ?_, BA.out⟩, by simp [intOf]; omega⟩
              rw [HUP.out, List.map_append]; exact OA.out
            · obtain rfl : q = nr := by omega
              have hlq : l.take q = l := List.take_of_length_le (by rw [HRL.out]; exact Nat.le_refl _)
              rw [hlq] at OV
              obtain ⟨A9, c9, rfl, -, -⟩ := own_form OV.out
              have hul : (Zm.up by_ l).length = q := by rw [Zm.up_length, HRL.out]
              have hbd : ∀ z ∈ Zm.up by_ l, -2147483648 ≤ z ∧ z ≤ 2147483647 := fun z hz => by
                unfold Zm.up at hz
                obtain ⟨y, hy, rfl⟩ := List.mem_map.1 hz
                have := HGD.out y hy
                unfold Vm.good at this
                omega
              have OMW := Lib.hid (own_below OM.out HBQ.out)
              have VLW := Lib.hid ((VLs.out.below HBQ.out).snoc (c := c9) (own_zero OV.out) hbd (by unfold maxLen; omega))
              have HBW := Lib.hid (HB.out.trans (HBQ.out.mono hsz))
              have hszw := HBW.out.size
              clear hlq hul hbd OV
              go_wp2_with (at_builtin; refine wpList_append_own _ rfl (.tmp 83) (.tmp 85) 22 rfl w2.heap.size 24 iv (.slice none 0 0) 1 24 Try.underlying22 gi gz0 gz1 gz2 rfl (by decide) u13 k vs rfl (OMW.out.alloc _) ⟨wr.heap.size, 0, none⟩ 1 1 [.slice A9 q c9] rfl rfl (World.news_of_block (heap_alloc_new wr _)) (by intro u hu; simp at hu; subst hu; rfl) (by unfold maxLen; omega) (by omega) (by simp; omega) ?_; intro vB wB hownB hgB _; have OB := Lib.hid hownB; have BB := Lib.hid ((HBW.out.alloc hszw (.cells #[.slice A9 q c9] 24)).grown hgB (by simp; omega) (own_block OMW.out)); have GB := Lib.hid hgB; clear hownB hgB)
              refine ⟨⟨k + 1, vs ++ [.slice A9 q c9], by omega, by go_num, OB.out, ?_, BB.out⟩, by simp [intOf]; omega⟩
              rw [HUS.out]
              exact (VLW.out.below ((Below.refl _ _).alloc (Nat.le_refl _) _)).grown (OMW.out.alloc _) GB.out
        · obtain rfl : k = len1 := by omega
          have hlk : L.take k = L := List.take_of_length_le (by rw [HLL.out]; exact Nat.le_refl _)
          rw [hlk] at VLs
          obtain ⟨A9, c9, rfl, -, -⟩ := own_form OM.out
          have LV9 := Lib.hid (Lv.of_own OM.out VLs.out.vl)
          have BW := Lib.hid (B2.out.trans (HB.out.mono B2.out.size))
          clear hlk
          go_wp2_with fail
          refine (someZ LV9.out dim (HS.out.below BW.out) hml).mono ?_
          rintro e w3 (⟨rfl, hb3⟩ | ⟨s', S', rfl, hit, hSn, hb3, hck, h301', h200'⟩)
          · have B3 := Lib.hid (BW.out.trans (hb3.mono BW.out.size))
            clear hb3
            go_wp2
            go_ret
            exact ⟨rfl, B3.out⟩
          have B3 := Lib.hid (BW.out.trans (hb3.mono BW.out.size))
          have B23 := Lib.hid (HB.out.trans (hb3.mono HB.out.size))
          have HIY := Lib.hid hit
          have HIX := Lib.hid (HI.out.below B23.out)
          have SX := Lib.hid (HS.out.below B3.out)
          have HX := Lib.hid (fun k hk => HI.out.lt k hk)
          have hs23 := B23.out.size
          obtain ⟨P, hP⟩ : ∃ P, P = refP (Rm.mixAt st) len2 := ⟨_, rfl⟩
          obtain ⟨Q, hQ⟩ : ∃ Q, Q = refQ (Rm.mixAt st) len2 := ⟨_, rfl⟩
          have hd1 : dim.toNat ≤ 1024 := by have := (Dm.chks_zero hck).2.1; omega
          obtain ⟨u1, u2, u3⟩ := Zm.up_of (L := L) (n := dim.toNat) (c := by_) (ids := ids) (p := P) (q := Q) hd1 (all_of HCK.out) (all_of hck) HALL.out (fun t h2 => by
            rw [HLEN.out] at h2 ⊢
            obtain ⟨p0, p1, q0, q1, -⟩ := Rm.pair_ok (Rm.dr (Rm.mixAt st) (2 * t)) (len2 : Int) (by omega)
            rw [hP, hQ]
            exact ⟨p0, p1, q0, q1⟩)
          have hll : (Zm.lfOf L ids P Q).length + (Zm.rgOf L ids P Q).length = len2 := by rw [← HLEN.out]; exact Zm.of_length
          have FX : Hid (∀ V T lo hi b, It V S s dim L → (∀ k, S k → k < lo ∨ hi ≤ k) → Sl V a2 len2 cap2 ids → Out lo hi len2 a2 → Src T V lo hi b (Rm.mixAt st) 0 → Calls Try.prog 18 #[.pointer (some ⟨s, 0, none⟩), .slice a2 len2 cap2, .iface T (.pointer (some ⟨b, 0, none⟩))] V fun e w' => ∃ Ap np cp po A1 c1 A3 c3, e = .returned (.agg #[.slice Ap np cp, .int .i64 po, .slice A1 (Zm.lfOf L ids P Q).length c1, .slice A3 (Zm.rgOf L ids P Q).length c3, .int .i64 ((Zm.tries L ids P Q : Nat) : Int)]) ∧ Sl w' A1 (Zm.lfOf L ids P Q).length c1 (Zm.lfOf L ids P Q) ∧ Sl w' A3 (Zm.rgOf L ids P Q).length c3 (Zm.rgOf L ids P Q) ∧ Btw lo hi V w') := Lib.hid fun V T lo hi b hx hSx hs ho hr => by
            have := chooseZ hx hs hSx ho hr (by omega) (N := 0) (by omega)
            rw [← hP, ← hQ] at this
            exact this.mono fun _ _ ⟨Ap, np, cp, A1, c1, A3, c3, h1, _, _, h4, h5, _, h7, _⟩ => ⟨Ap, np, cp, _, A1, c1, A3, c3, h1, h4, h5, h7⟩
          have FY : Hid (∀ V T lo hi b, It V S' s' dim (L.map (Zm.up by_)) → (∀ k, S' k → k < lo ∨ hi ≤ k) → Sl V a2 len2 cap2 ids → Out lo hi len2 a2 → Src T V lo hi b (Rm.mixAt st) 0 → Calls Try.prog 18 #[.pointer (some ⟨s', 0, none⟩), .slice a2 len2 cap2, .iface T (.pointer (some ⟨b, 0, none⟩))] V fun e w' => ∃ Ap np cp po A1 c1 A3 c3, e = .returned (.agg #[.slice Ap np cp, .int .i64 po, .slice A1 (Zm.lfOf L ids P Q).length c1, .slice A3 (Zm.rgOf L ids P Q).length c3, .int .i64 ((Zm.tries L ids P Q : Nat) : Int)]) ∧ Sl w' A1 (Zm.lfOf L ids P Q).length c1 (Zm.lfOf L ids P Q) ∧ Sl w' A3 (Zm.rgOf L ids P Q).length c3 (Zm.rgOf L ids P Q) ∧ Btw lo hi V w') := Lib.hid fun V T lo hi b hx hSx hs ho hr => by
            have := chooseZ hx hs hSx ho hr (by omega) (N := 0) (by omega)
            rw [← hP, ← hQ, u1, u2, u3] at this
            exact this.mono fun _ _ ⟨Ap, np, cp, A1, c1, A3, c3, h1, _, _, h4, h5, _, h7, _⟩ => ⟨Ap, np, cp, _, A1, c1, A3, c3, h1, h4, h5, h7⟩
          obtain ⟨LF, hLF⟩ : ∃ LF, Zm.lfOf L ids P Q = LF := ⟨_, rfl⟩
          obtain ⟨RG, hRG⟩ : ∃ RG, Zm.rgOf L ids P Q = RG := ⟨_, rfl⟩
          obtain ⟨T, hT⟩ : ∃ T, Zm.tries L ids P Q = T := ⟨_, rfl⟩
          rw [hLF, hRG, hT] at FX FY
          rw [hLF, hRG] at hll
          clear hP hQ u1 u2 u3 hLF hRG hT hit hSn hb3 hck HI OM VLs LV9 HB BW
          go_wp2_with fail
          refine (mix_new st w3 S0.out S1.out).mono ?_
          rintro e w4 ⟨b, rfl, hbas, hb4⟩
          have BAS := Lib.hid hbas
          have B34 := Lib.hid hb4
          clear hbas hb4
          go_wp2_with fail
          refine (FX.out w4 _ w3.heap.size w4.heap.size b (HIX.out.below B34.out) (fun k hk => .inl (Nat.lt_of_lt_of_le (HX.out k hk) hs23)) (SX.out.below B34.out) (SX.out.out (Nat.le_refl _)) (.inl BAS.out)).mono ?_
          rintro e w5 ⟨Ap, np, cp, po, A1, c1, A3, c3, rfl, hl, hr, hbt⟩
          have B35 := Lib.hid (B34.out.trans (hbt.old (B := w3.heap.size) B34.out.size (Nat.le_refl _)))
          have L5 := Lib.hid hl
          have R5 := Lib.hid hr
          have hs35 := B35.out.size
          clear hl hr hbt
          go_wp2_with fail
          refine (mix_new st w5 S0.out S1.out).mono ?_
          rintro e w6 ⟨b', rfl, hbas, hb6⟩
          have BAS' := Lib.hid hbas
          have B56 := Lib.hid hb6
          clear hbas hb6
          go_wp2_with fail
          refine (FY.out w6 _ w5.heap.size w6.heap.size b' ((HIY.out.below B35.out).below B56.out) (fun k hk => .inl (Nat.lt_of_lt_of_le (HIY.out.lt k hk) hs35)) ((SX.out.below B35.out).below B56.out) (SX.out.out hs35) (.inl BAS'.out)).mono ?_
          rintro e w7 ⟨Bp, mp, dp, qo, A4, c4, A6, c6, rfl, hl, hr, hbt⟩
          have B57 := B56.out.trans (hbt.old (B := w5.heap.size) B56.out.size (Nat.le_refl _))
          have L7 := L5.out.below B57
          have R7 := R5.out.below B57
          obtain ⟨F1w, hF1⟩ : ∃ F1w, F1w = w7.alloc (.cells #[.slice Ap np cp, .int .i64 po, .slice A1 LF.length c1, .slice A3 RG.length c3, .int .i64 (T : Int)] 48) := ⟨_, rfl⟩
          obtain ⟨F, hF⟩ : ∃ F, F = F1w.alloc (.cells #[.slice Bp mp dp, .int .i64 qo, .slice A4 LF.length c4, .slice A6 RG.length c6, .int .i64 (T : Int)] 48) := ⟨_, rfl⟩
          have sz1 : F1w.heap.size = w7.heap.size + 1 := by rw [hF1]; simp
          have b1 : Below w7.heap.size w7 F1w := by rw [hF1]; exact (Below.refl _ _).alloc (Nat.le_refl _) _
          have b2 : Below F1w.heap.size F1w F := by rw [hF]; exact (Below.refl _ _).alloc (Nat.le_refl _) _
          have b7 : Below w7.heap.size w7 F := b1.trans (b2.mono b1.size)
          have r1 : F.heap[w7.heap.size]? = some (.cells #[.slice Ap np cp, .int .i64 po, .slice A1 LF.length c1, .slice A3 RG.length c3, .int .i64 (T : Int)] 48 (0, 0)) := (b2.block w7.heap.size (by omega)).trans (by rw [hF1]; exact heap_alloc_new _ _)
          have r2 : F.heap[w7.heap.size + 1]? = some (.cells #[.slice Bp mp dp, .int .i64 qo, .slice A4 LF.length c4, .slice A6 RG.length c6, .int .i64 (T : Int)] 48 (0, 0)) := by rw [← sz1, hF]; exact heap_alloc_new _ _
          have HF := Lib.hid (show F = (w7.alloc (.cells #[.slice Ap np cp, .int .i64 po, .slice A1 LF.length c1, .slice A3 RG.length c3, .int .i64 (T : Int)] 48)).alloc (.cells #[.slice Bp mp dp, .int .i64 qo, .slice A4 LF.length c4, .slice A6 RG.length c6, .int .i64 (T : Int)] 48) from by rw [hF, hF1])
          have R1 := Lib.hid r1
          have R2 := Lib.hid r2
          have LF7 := Lib.hid (L7.below b7)
          have RF7 := Lib.hid (R7.below b7)
          have LF8 := Lib.hid (hl.below b7)
          have RF8 := Lib.hid (hr.below b7)
          have BF := Lib.hid (B3.out.trans ((B35.out.trans ((B57.trans (b7.mono B57.size)).mono B35.out.size)).mono B3.out.size))
          clear hl hr hbt B57 L7 R7 hF1 hF sz1 b1 b2 b7 r1 r2
          go_wp2_with fail
          rw [← HF.out]
          refine (refSame _ _ _ _ _ _ _ _ _ LF7.out LF8.out (by omega)).mono ?_
          rintro e w8 ⟨rfl, hb8⟩
          rw [decide_eq_true rfl]
          have B8 := Lib.hid hb8
          have e1 := (hb8.block _ (lt_of_block R1.out)).trans R1.out
          have e2 := (hb8.block _ (lt_of_block R2.out)).trans R2.out
          have k0 : w8.cell? ⟨w7.heap.size, 3, none⟩ = some (.slice A3 RG.length c3) := by rw [cell_of_row _ _ _ _ _ _ e1]; rfl
          have k1 : w8.cell? ⟨w7.heap.size + 1, 3, none⟩ = some (.slice A6 RG.length c6) := by rw [cell_of_row _ _ _ _ _ _ e2]; rfl
          clear hb8 e1 e2 HF
          go_wp2_with fail
          refine (refSame _ _ _ _ _ _ _ _ _ (RF7.out.below B8.out) (RF8.out.below B8.out) (by omega)).mono ?_
          rintro e w9 ⟨rfl, hb9⟩
          rw [decide_eq_true rfl]
          have B9 := Lib.hid (B8.out.trans (hb9.mono B8.out.size))
          clear hb9 k0 k1
          go_wp2
          go_ret
          exact ⟨rfl, BF.out.trans (B9.out.mono BF.out.size)⟩
theorem own : ownKnob Try.prog.godebug = none := by kernel_rfl
theorem laidOut : laidOutB Try.prog = true := by kernel_rfl
set_option maxRecDepth 100000 in
theorem lifted (os : Os) (started : os.Started) (H : Type) (enc : TypeId × Value → H) :
    ReturnsInHanded {} Try.checked os 7 .any (Rows.splitStaysSpec.pre6 enc Try.prog Try.f7 Rows.splitStaysRow.domain false) (Rows.splitStaysSpec.post enc Try.prog Try.f7 false true false false) := by
  refine returnsInHanded_of_change (C := Try.checked) own started (by kernel_rfl) Try.func7
    (ChangeSpec.witness6 (enc := enc) (C := Try.checked) false ⟨#[], #[.int .i64 0, .slice none 0 0, .slice none 0 0, .int .u64 0, .int .i32 0], []⟩ 8 (by kernel_rfl) (by kernel_rfl) (by kernel_rfl) (by kernel_rfl)) ?_
  intro W base args ds gs before hval0 hW hcnd _
  have hval : ∀ (j : Nat) t v, Try.f7.params[j]? = some t → args[j]? = some v → Value.okWide Try.prog W .any base t v := hval0
  have hW' := hW
  obtain ⟨p, q, hA0, hV, rfl, hfz, hnd⟩ := hW
  have hA : DataW.TrodAll enc Try.prog W 0 (fun _ => true) true Try.f7.params.toList args.toList ds p := hA0
  rw [Try.params7] at hA hval
  obtain ⟨v0, vs0, d0, ds0, p0, q0, hargs, rfl, rfl, h0, r0⟩ := trodAll_cons hA
  obtain ⟨v1, vs1, d1, ds1, p1, q1, rfl, rfl, rfl, h1, r1⟩ := trodAll_cons r0
  obtain ⟨v2, vs2, d2, ds2, p2, q2, rfl, rfl, rfl, h2, r2⟩ := trodAll_cons r1
  obtain ⟨v3, vs3, d3, ds3, p3, q3, rfl, rfl, rfl, h3, r3⟩ := trodAll_cons r2
  obtain ⟨v4, vs4, d4, ds4, p4, q4, rfl, rfl, rfl, h4, r4⟩ := trodAll_cons r3
  obtain ⟨rfl, rfl, rfl⟩ := trodAll_nil r4
  obtain rfl : args = #[v0, v1, v2, v3, v4] := by cases args; simp_all
  obtain ⟨rfl, rfl⟩ := trodVars_none hV
  obtain ⟨a0, rfl, rfl, rfl, w0⟩ := open_int Try.underlying3 (hval 0 3 v0 rfl rfl) h0
  obtain ⟨a1, len1, cap1, rfl⟩ := okWide_slice Try.underlying22 (hval 1 22 v1 rfl rfl)
  have k1 := h1
  have lt1 : ∀ x ∈ p1, x.block < W.heap.size := by obtain ⟨m, hm⟩ := k1; exact DataW.trod_lt m _ _ _ hm
  obtain ⟨z1, w1⟩ : ∃ L, Lv W a1 len1 cap1 L := by
    obtain ⟨fuel, hf⟩ := h1
    rcases Go.Deep.open_int_rows Try.underlying22 Try.underlying24 Try.underlying21 (by kernel_rfl) (by kernel_rfl) hf with ⟨hcs, _⟩ | ⟨x, l, c, _, _, _, _, hcs, _, hl, _, _, hx⟩
    · simp [Value.cells] at hcs
      obtain ⟨rfl, rfl, rfl⟩ := hcs
      exact ⟨[], Lv.nil_ _⟩
    · simp [Value.cells] at hcs
      obtain ⟨rfl, rfl, rfl⟩ := hcs
      exact ⟨_, Lv.of_rows hl hx⟩
  obtain ⟨a2, len2, cap2, rfl⟩ := okWide_slice Try.underlying23 (hval 2 23 v2 rfl rfl)
  have k2 := h2
  have lt2 : ∀ x ∈ p2, x.block < W.heap.size := by obtain ⟨m, hm⟩ := k2; exact DataW.trod_lt m _ _ _ hm
  obtain ⟨z2, w2⟩ : ∃ zs, IsRow .i64 W a2 len2 cap2 zs := by
    obtain ⟨fuel, hf⟩ := h2
    rcases open_ints Try.underlying23 Try.underlying3 (by kernel_rfl) hf with ⟨hcs, _⟩ | ⟨x, l, c, zs, hcs, _, hl, hm, hz, _, hcell, hwz⟩
    · simp [Value.cells] at hcs
      obtain ⟨rfl, rfl, rfl⟩ := hcs
      exact ⟨[], .inl ⟨rfl, rfl, rfl, rfl⟩⟩
    · simp [Value.cells] at hcs
      obtain ⟨rfl, rfl, rfl⟩ := hcs
      exact ⟨zs, .inr ⟨_, rfl, hl, hm, by simpa using hz, hcell, hwz⟩⟩
  obtain ⟨a3, rfl, rfl, rfl, w3⟩ := open_int Try.underlying44 (hval 3 44 v3 rfl rfl) h3
  obtain ⟨a4, rfl, rfl, rfl, w4⟩ := open_int Try.underlying21 (hval 4 21 v4 rfl rfl) h4
  clear hA0 hval0
  refine (walk a0 a1 len1 cap1 z1 a2 len2 cap2 z2 a3 a4 W w0 w1 w2 w3 w4).mono fun e W' ⟨he, bel⟩ => ?_
  subst he
  exact ⟨_, rfl, _, _, _, [], _, [], hW', trodAll_mk1 (shut_bool Try.underlying4 _), (trodAll_cons_mk (shut_int Try.underlying3 w0) (trodAll_cons_mk (Below.trod laidOut (by kernel_rfl) (of_decide_eq_true (by kernel_rfl)) k1 bel lt1) (trodAll_cons_mk (Below.trod laidOut (by kernel_rfl) (of_decide_eq_true (by kernel_rfl)) k2 bel lt2) (trodAll_cons_mk (shut_int Try.underlying44 w3) (trodAll_cons_mk (shut_int Try.underlying21 w4) trodAll_mk0))))), rfl, bel.frame _, fun h => by cases h⟩
theorem over : Rows.splitStaysRow.holds Try.pinned (OpenSpec.ofChange Rows.splitStaysSpec) :=
  OpenClaim.holds_of_wide 7 Try.f7 rfl rfl rfl rfl rfl rfl rfl ⟨rfl, rfl, rfl, rfl, rfl⟩ rfl rfl rfl rfl rfl (by kernel_rfl) Try.func7 (by kernel_rfl)
    (of_decide_eq_true (by kernel_rfl)) (by unfold Func.isWrapper; first | (rw [if_pos (by decide +kernel)]; kernel_rfl) | (rw [if_neg (by decide +kernel)]; exact ⟨rfl, rfl⟩))
    (fun os started H enc _ => lifted os started H enc)
/-- the statement -/
theorem proved : Rows.SplitStaysSaid := over
#print axioms proved
end Go.Proofs.Ytljgmcdkomhmbaa.splitStays
