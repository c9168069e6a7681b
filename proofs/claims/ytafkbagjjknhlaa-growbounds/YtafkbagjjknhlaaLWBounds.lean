/-
  GrowBounds holds for every input: whatever is drawn, a tree has as many leaves as splits, and one, at most 2n - 1 nodes, none deeper than told, each id in just one leaf; leaves above the limit stand at the greatest depth alone; it takes no more draws than the bound. No condition.
-/
import Derived.Test.YtafkbagjjknhlaaWWit
import Derived.Test.YtafkbagjjknhlaaWArg
import Derived.ProofKit
import Derived.Lib.SmallJoins
import Derived.OpenShut
import Derived.ShutString
import Derived.ChangeOld
import Derived.WalkSmall
import Derived.Deep.RegionHeld3
namespace Go.Proofs.Ytafkbagjjknhlaa.growBounds
open Go.ChangeShapes Go.WideShapes Go.ChangeAt Go.RowKit Go.Joins
open Go.ChangeMaps (open_string shut_string)
set_option linter.unusedVariables false

theorem u64_in {n : Int} (h : (Lit.int .u64 n).wf = true) : 0 ≤ n ∧ n < 18446744073709551616 := by have := bounds_u64 h; omega
theorem row_len {k : IntKind} {w : World} {a : Option Addr} {len cap : Nat} {zs : List Int} (h : IsRow k w a len cap zs) : len ≤ maxLen := by
  rcases h with ⟨rfl, rfl, rfl, rfl⟩ | ⟨x, rfl, hl, hm, _⟩
  · exact Nat.zero_le _
  · omega
theorem sk_of_own {w : World} {base g n : Nat} {C : List Int} (h : w.ownsRow base 3 1 (.slice (some ⟨g, 0, none⟩) n n) n (ci C)) : Sk w g C := by
  rcases h.2 with ⟨hv, _⟩ | ⟨g', cap, cur, hv, _, hg, _, _, hcs, htake⟩
  · cases hv
  · injection hv with h1 _ h3
    injection h1 with h1
    injection h1 with h1
    subst h1
    subst h3
    rw [List.take_of_length_le (by simp; omega)] at htake
    unfold Sk
    rw [hg, ← htake]
/-- what is known of a tree -/
structure Bd (T : List Wm.Nd) (kk dp n lim dn : Nat) : Prop where
  twice : T.length + 1 = 2 * Wm.leaves T
  few : Wm.leaves T ≤ n
  draws : kk + 8 ≤ 8 * n
  perm : (Wm.held T).Perm (Wm.upto n)
  deep : dp ≤ dn
  full : ∀ t ∈ T, t.leaf = true → 1 ≤ t.ids.length ∧ (t.ids.length ≤ lim ∨ dp = dn)

set_option maxHeartbeats 3200000 in
set_option maxRecDepth 100000 in
theorem walk (dim : Int) (a1 : Option Addr) (len1 cap1 : Nat) (L : List (List Int)) (tr lf dp : Int) (sc : Bool) (sd : Int) (pA : Option Addr) (pn pc : Nat) (mx : Bool) (st : Int) (a3 : Option Addr) (len3 cap3 : Nat) (z3 : List Int) (w : World)
    (w0 : (Lit.int .i64 dim).wf = true) (w1 : Lv w a1 len1 cap1 L) (w2 : True) (w4 : (Lit.int .u64 st).wf = true) (w5 : IsRow .u64 w a3 len3 cap3 z3) :
    Calls Try.prog 4 #[.int .i64 dim, .slice a1 len1 cap1, .agg #[.int .i64 tr, .int .i64 lf, .int .i64 dp, .bool sc, .int .u64 sd, .slice pA pn pc], .bool mx, .int .u64 st, .slice a3 len3 cap3] w fun e w' => e = .returned (.bool true) ∧ Below w.heap.size w w' := by
  obtain ⟨i0, hi, hz0, hz1, hz2⟩ := info_parts Try.infoI
  obtain ⟨t0, t1⟩ := u64_in w4
  obtain ⟨d1, -, -, d4, d5⟩ := w5.lst
  obtain ⟨ds, hds⟩ : ∃ ds, ds = z3.take len3 := ⟨_, rfl⟩
  rw [← hds] at d1 d4
  have hml := row_len w5
  obtain ⟨E0, hE0⟩ : ∃ E, E = w.alloc (.cells #[.int .i64 tr, .int .i64 lf, .int .i64 dp, .bool sc, .int .u64 sd, .slice pA pn pc] 28) := ⟨_, rfl⟩
  have b0 : Below w.heap.size w E0 := by rw [hE0]; exact (Below.refl _ w).alloc (Nat.le_refl _) _
  have HP0 : Hid (Prx E0 w.heap.size tr lf dp sc sd pA pn pc) := by rw [hE0]; exact Prx.new w _ _ _ _ _ _ _ _
  have HE0 := Lib.hid hE0
  have HL := Lib.hid w1
  have D1 := Lib.hid d1
  have D4 := Lib.hid (show ∀ x ∈ ds, 0 ≤ x ∧ x < 18446744073709551616 from fun x hx => u64_in (d4 x hx))
  have D5 := Lib.hid d5
  have BE0 := Lib.hid b0
  have HLN := Lib.hid w1.len
  clear w0 w1 w2 w4 w5 hE0 b0 d1 d4 d5 hds
  go_enter Try.func4, Try.ntmps4
  go_wp2_with fail
  rw [← HE0.out]
  clear HE0
  refine (awakeW _).mono ?_
  rintro e w1 ⟨rfl, hb1⟩
  have B1 := Lib.hid (BE0.out.trans (hb1.mono BE0.out.size))
  have P1 := Lib.hid (HP0.out.below hb1)
  clear hb1 HP0
  go_wp2_with fail
  refine (someW (HL.out.below B1.out) dim).mono ?_
  rintro e w2 (⟨rfl, hb2⟩ | ⟨s, S, rfl, hit, hSn, hb2, hck, h301⟩)
  · have B2 := Lib.hid (B1.out.trans (hb2.mono B1.out.size))
    clear hb2
    go_wp2
    go_ret
    exact ⟨rfl, B2.out⟩
  have B2 := Lib.hid (B1.out.trans (hb2.mono B1.out.size))
  have P2 := Lib.hid (P1.out.below hb2)
  have HI := Lib.hid hit
  have HD := Lib.hid (Dm.chks_zero hck)
  have hpw : w.heap.size < w2.heap.size := P2.out.lt
  clear hb2 hit hSn hck B1 P1
  by_cases g : 500 < len3
  · go_wp2
    go_ret
    exact ⟨rfl, B2.out⟩
  have g' : len3 ≤ 500 := by omega
  clear g
  have hsw := B2.out.size
  go_wp2_with fail
  refine (script_new a3 len3 cap3 ds w2 ((D1.out.below B2.out).more B2.out.size) D5.out (by omega) D4.out).mono ?_
  rintro e w3 ⟨b, rfl, hbas, hb3⟩
  have BAS := Lib.hid hbas
  have B23 := Lib.hid hb3
  have s3 := hb3.size
  clear hbas hb3 D1 D4 D5
  have FM := Lib.hid (mix_new st w3 t0 t1)
  cases mx
  all_goals
    first
      | (go_wp2_with fail
         refine FM.out.mono ?_
         rintro e w3' ⟨b', rfl, hbas', hb3'⟩
         have BAS := Lib.hid hbas'
         have B23 := Lib.hid (B23.out.trans (hb3'.mono B23.out.size))
         have s3' := hb3'.size
         clear hbas' hb3' t0 t1
         go_wp2_with fail
         refine (count_new BAS.out).mono ?_
         rintro e w4 ⟨q, rfl, hctr, hb4⟩
         obtain ⟨lo, hlo0⟩ : ∃ lo, lo = w3.heap.size := ⟨_, rfl⟩
         obtain ⟨f0, hf0⟩ : ∃ f, f = Rm.mixAt st := ⟨_, rfl⟩
         rw [← hf0] at hctr
         rw [← hlo0] at hctr s3)
      | (go_wp2_with fail
         refine (count_new BAS.out).mono ?_
         rintro e w4 ⟨q, rfl, hctr, hb4⟩
         obtain ⟨lo, hlo0⟩ : ∃ lo, lo = w2.heap.size := ⟨_, rfl⟩
         obtain ⟨f0, hf0⟩ : ∃ f, f = lstF ds := ⟨_, rfl⟩
         rw [← hf0] at hctr
         rw [← hlo0] at hctr s3)
  all_goals
    have CE := Lib.hid hctr
    have BE := Lib.hid (B23.out.trans (hb4.mono B23.out.size))
    have BW := Lib.hid (B2.out.trans (BE.out.mono B2.out.size))
    have PE := Lib.hid (P2.out.below BE.out)
    have hlo := CE.out.size
    have hlo2 : w2.heap.size ≤ lo := by omega
    have q0 := PE.out.c0
    have q1 := PE.out.c1
    have q2 := PE.out.c2
    have q3 := PE.out.c3
    have q4 := PE.out.c4
    have q5 := PE.out.c5
    clear hctr hb4 BAS B23 hlo0 FM
    obtain ⟨ck, hck⟩ : ∃ ck, ck = Wm.chk tr lf dp := ⟨_, rfl⟩
    have HCK := Lib.hid hck
    clear hck
    by_cases hbad : ck ≠ 0 ∨ L = []
    · have FN0 := treeW_no (tr := tr) (lf := lf) (dp := dp) (sc := sc) (sd := sd) (pA := pA) (pn := pn) (pc := pc) (v := .iface 32 (.pointer (some ⟨q, 0, none⟩))) (HI.out.below BE.out) (by rw [← HCK.out]; exact hbad)
      obtain ⟨er, her⟩ : ∃ er, er = (if Wm.chk tr lf dp = 0 then 15 else Wm.chk tr lf dp) := ⟨_, rfl⟩
      have her0 : er ≠ 0 := by rw [her]; split <;> omega
      rw [← her] at FN0
      have FN := Lib.hid FN0
      have hcb2 : (er != 0) = true := by simpa using her0
      clear FN0 her hbad
      go_wp2_with fail
      refine FN.out.mono ?_
      rintro e w5 ⟨At, ct, rfl, hb5⟩
      have B5 := Lib.hid (BW.out.trans (hb5.mono BW.out.size))
      clear FN hb5 q0 q1 q2 q3 q4 q5
      go_wp2
      go_ret
      exact ⟨rfl, B5.out⟩
    have hc0 : ck = 0 := by omega
    have hL0 : len1 ≠ 0 := fun h => hbad (.inr (List.eq_nil_of_length_eq_zero (by rw [HLN.out]; exact h)))
    clear hbad
    have hck := Wm.chk_ok (show Wm.chk tr lf dp = 0 from by rw [← HCK.out]; exact hc0)
    obtain ⟨lim, hlim⟩ : ∃ lim : Nat, lf = (lim : Int) := ⟨lf.toNat, by omega⟩
    obtain ⟨dn, hdn⟩ : ∃ dn : Nat, dp = (dn : Int) := ⟨dp.toNat, by omega⟩
    obtain ⟨dd, hdd⟩ : ∃ dd : Nat, dim = (dd : Int) := ⟨dim.toNat, by have := HD.out.1; omega⟩
    subst hlim
    subst hdn
    have hLn : L.length = len1 := HLN.out
    have FT0 := treeW (tr := tr) (sc := sc) (sd := sd) (pA := pA) (pn := pn) (pc := pc) (lim := lim) (dp := dn) (HI.out.below BE.out) (lo := lo) (hi := w4.heap.size) (fun k hk => .inl (by have := HI.out.lt k hk; omega)) CE.out.src (N := 0) (by omega) (by omega) (by omega) (by rw [← HCK.out]; exact hc0)
    unfold growT at FT0
    rw [hdd, Int.toNat_natCast, hLn] at FT0
    obtain ⟨dt, htr⟩ := Wm.grow_tr (L := L) (d := dd) (lim := lim) (by omega) dn (Wm.upto len1) 0 f0
    have hu := Wm.upto_length len1
    obtain ⟨G, hG⟩ : ∃ G, G = Wm.grow L dd lim dn (Wm.upto len1) 0 f0 := ⟨_, rfl⟩
    rw [← hG] at FT0 htr
    have hf := htr.few (by omega)
    have BD : Hid (Bd G.1 G.2 dt len1 lim dn) := Lib.hid ⟨htr.twice, by omega, by omega, htr.perm, htr.deep, htr.full (by omega)⟩
    obtain ⟨tn, htn⟩ : ∃ tn, tn = G.1.length := ⟨_, rfl⟩
    obtain ⟨gk, hgk⟩ : ∃ gk, gk = G.2 := ⟨_, rfl⟩
    obtain ⟨lv, hlv⟩ : ∃ lv, lv = Wm.leaves G.1 := ⟨_, rfl⟩
    have h1 := BD.out.twice
    have h2 := BD.out.few
    have h3 := BD.out.draws
    have h4 := BD.out.deep
    have HTR := Lib.hid htr
    rw [← htn, ← hlv] at h1
    rw [← hlv] at h2
    rw [← hgk] at h3
    rw [← htn, ← hgk] at FT0
    have FT := Lib.hid FT0
    have HTN := Lib.hid htn
    have HLV := Lib.hid hlv
    have hdep : dn ≤ 64 := by omega
    clear FT0 htr hG hf hu htn hgk hlv hf0
    subst hdd
    go_wp2_with fail
    refine FT.out.mono ?_
    rintro e w5 ⟨At, ct, rfl, hnt, hsrc, hbt⟩
    have P5 := Lib.hid (PE.out.btw (.inl (by omega)) hbt)
    have B5 := Lib.hid (BW.out.trans (hbt.old (B := w.heap.size) BW.out.size (by omega)))
    have C5 := Lib.hid hsrc.ctr
    have N5 := Lib.hid hnt.old
    clear FT hnt hsrc hbt q0 q1 q2 q3 q4 q5 CE PE
    go_wp2_with (at_make; refine wpList_make_full _ rfl _ _ 51 rfl w5.heap.size 3 i0 (.int .i64 0) 1 Try.underlying51 hi hz0 hz1 .i64 .i64 _ _ len1 rfl rfl rfl rfl (by rw [hz2]; omega) (by unfold maxLen; omega) (Nat.le_refl _) ?_; intro w6 hown6 hgr6; have SK6 : Hid (Sk w6 w5.heap.size (List.replicate len1 0)) := Lib.hid (sk_of_own (base := w5.heap.size) (by rw [show (madeCells (Value.int .i64 0).cells (len1 * 1)).toList = ci (List.replicate len1 0) from by { rw [Nat.mul_one, show (Value.int .i64 0).cells = #[Value.int .i64 0] from rfl, toList_madeCells_one]; simp [ci] }] at hown6; exact hown6)); have B6 : Hid (Below w5.heap.size w5 w6) := Lib.hid ((Below.refl _ w5).grown hgr6 (Nat.le_refl _) (fun k h => by cases h)); clear hown6 hgr6)
    have FW0 := withinW (n := len1) (g := w5.heap.size) (N := tn) (by omega) (by omega) (fun k hk => Nat.ne_of_lt hk) HTR.out 0 0 (List.replicate len1 0) w6 (N5.out.below B6.out) (fun j hj => by rw [Nat.zero_add]) (by omega) (by rw [Wm.upto_length]; omega) (fun x hx => Wm.upto_in hx) SK6.out (by simp) (fun x hx => by rw [List.eq_of_mem_replicate hx]; omega) (by rw [Wm.upto_length]; omega)
    rw [show ((0 : Nat) : Int) = 0 from rfl, Nat.zero_add, Nat.zero_add, ← HTN.out, ← HLV.out] at FW0
    have FW := Lib.hid FW0
    clear FW0
    refine FW.out.mono ?_
    rintro _ w7 ⟨rfl, hs7, hb7⟩
    have SK7 := Lib.hid hs7
    have hsz7 := hb7.size
    have s6 := B6.out.size
    have P7 := (P5.out.below B6.out).btw (.inl (by have := P5.out.lt; omega)) hb7
    have q1 := P7.c1
    have q2 := P7.c2
    have HP7 := Lib.hid P7
    have N7 := Lib.hid ((N5.out.below B6.out).btw (lo := w5.heap.size) (hi := w5.heap.size + 1) (fun k hk => .inl hk) hb7)
    have hlo5 := C5.out.size
    have FD0 := drawn_any ((C5.out.below B6.out).other hb7 (.inl hlo5))
    rw [Nat.zero_add] at FD0
    have FD := Lib.hid FD0
    have FBd := Lib.hid (boundW (n := len1) (w := w7) (by omega))
    have B7 := Lib.hid ((B5.out.trans (B6.out.mono B5.out.size)).trans (hb7.old (B := w.heap.size) (by have := B5.out.size; omega) (B5.out.size)))
    have e1 : ((tn : Int) != (tn : Int)) = false := by simp
    have e2 : ((tn : Int) != 2 * (lv : Int) - 1) = false := by simp; omega
    clear FW hs7 hb7 FD0 P7 C5 P5 N5 B6 SK6 HTR
    go_wp2_with fail
    refine FD.out.mono ?_
    rintro _ _ ⟨rfl, rfl⟩
    have hbd : ¬ (((8 * (len1 - 1) : Nat) : Int) < (gk : Int)) := by omega
    obtain ⟨bd, hbdn⟩ : ∃ bd : Int, bd = ((8 * (len1 - 1) : Nat) : Int) := ⟨_, rfl⟩
    rw [← hbdn] at hbd FBd
    clear FD hbdn
    go_wp2_with fail
    refine FBd.out.mono ?_
    rintro _ w8 ⟨rfl, hb8⟩
    have SK8 := Lib.hid (SK7.out.below hb8)
    have P8 := Lib.hid (HP7.out.below hb8)
    have N8 := Lib.hid (N7.out.below hb8)
    have B8 := Lib.hid (B7.out.trans (hb8.mono B7.out.size))
    clear hb8 FBd q1 q2 e1 e2 SK7 HP7 N7 B7
    go_wp2
    go_loopw [24] (fun i wr => ∃ k : Nat, k ≤ len1 ∧ i = .int .i64 k ∧ Below w8.heap.size w8 wr) (fun i _ => len1 - (intOf i).toNat)
    case atStart => exact ⟨0, Nat.zero_le _, rfl, Below.refl _ _⟩
    case round =>
      obtain ⟨k, hk, rfl, hbr⟩ := hrel
      have HBR := Lib.hid hbr
      by_cases hlt : k < len1
      · have ho := Wm.bump_once BD.out.perm hlt
        have hl : (Wm.bump (List.replicate len1 0) (Wm.held G.1)).length = len1 := by rw [Wm.bump_length]; simp
        have hc := (SK8.out.below hbr).cell (j := k) (x := 1) (by
          rw [List.getD_eq_getElem?_getD, List.getElem?_eq_getElem (by omega), Option.getD_some] at ho
          rw [List.getElem?_eq_getElem (by omega), ho])
        clear ho hl hbr
        go_wp2
        exact ⟨⟨k + 1, by omega, by go_num, HBR.out⟩, by simp [intOf]; omega⟩
      · obtain rfl : k = len1 := by omega
        obtain ⟨WR, hWR⟩ : ∃ WR, WR = wr := ⟨_, rfl⟩
        subst hWR
        clear hbr
        go_wp2
        go_loopw [25] (fun i wr => ∃ j : Nat, j ≤ tn ∧ i = .int .i64 j ∧ Below w8.heap.size w8 wr) (fun i _ => tn - (intOf i).toNat)
        case atStart => exact ⟨0, Nat.zero_le _, rfl, HBR.out⟩
        case round =>
          obtain ⟨j, hj, rfl, hbi⟩ := hrel
          have HBI := Lib.hid hbi
          by_cases hlj : j < tn
          · have hjl : j < G.1.length := by rw [← HTN.out]; exact hlj
            obtain ⟨t, ht⟩ : ∃ t, G.1[j]? = some t := ⟨_, List.getElem?_eq_getElem hjl⟩
            have hmem := List.mem_of_getElem? ht
            obtain ⟨b9, o9, rfl, -, -, A1, n1, c1, A2, n2, c2, na, a0, a1, -, -, -, -⟩ := (N8.out.below hbi).at_ ht
            have hn1 := na.ids.length
            have hp := P8.out.below hbi
            have q1 := hp.c1
            have q2 := hp.c2
            clear na ht hjl hp hbi
            have HX : Hid ((∃ j_1 : Nat, j_1 ≤ tn ∧ Value.int IntKind.i64 ((j : Int) + 1) = Value.int IntKind.i64 (j_1 : Int) ∧ Below w8.heap.size w8 wr.drew) ∧ tn - (intOf (Value.int IntKind.i64 ((j : Int) + 1))).toNat < tn - (intOf (Value.int IntKind.i64 (j : Int))).toNat) := Lib.hid ⟨⟨j + 1, by omega, by go_num, HBI.out.drew⟩, by simp [intOf]; omega⟩
            cases hlf : t.leaf with
            | false =>
              rw [hlf] at a0
              clear hn1 hmem hlf
              go_wp2
              go_region
              go_wp2
              exact HX.out
            | true =>
              rw [hlf] at a0
              obtain ⟨f1, f2⟩ := BD.out.full t hmem hlf
              rw [hn1] at f1 f2
              have f3 : decide ((n1 : Int) < 1) = false := decide_eq_false (by omega)
              by_cases hle : n1 ≤ lim
              · have f4 : decide (lim < n1) = false := decide_eq_false (by omega)
                clear f2 hn1 hmem hlf
                go_wp2
                go_region
                go_wp2
                exact HX.out
              · have f4 : decide (lim < n1) = true := decide_eq_true (by omega)
                have f5 : dt = dn := by omega
                subst f5
                have f6 : ((dt : Int) != (dt : Int)) = false := by simp
                clear f2 hn1 hmem hlf
                go_wp2
                go_region
                go_wp2
                exact HX.out
          · obtain rfl : j = tn := by omega
            clear hbi
            go_wp2
            go_ret
            exact ⟨rfl, B8.out.trans (HBI.out.mono B8.out.size)⟩
theorem own : ownKnob Try.prog.godebug = none := by kernel_rfl
theorem laidOut : laidOutB Try.prog = true := by kernel_rfl
set_option maxRecDepth 100000 in
theorem lifted (os : Os) (started : os.Started) (H : Type) (enc : TypeId × Value → H) :
    ReturnsInHanded {} Try.checked os 4 .any (Rows.growBoundsSpec.pre6 enc Try.prog Try.f4 Rows.growBoundsRow.domain false) (Rows.growBoundsSpec.post enc Try.prog Try.f4 false true false false) := by
  refine returnsInHanded_of_change (C := Try.checked) own started (by kernel_rfl) Try.func4
    (ChangeSpec.witness6 (enc := enc) (C := Try.checked) false ⟨#[], #[.int .i64 0, .slice none 0 0, .agg #[.int .i64 0, .int .i64 0, .int .i64 0, .bool false, .int .u64 0, .slice none 0 0], .bool false, .int .u64 0, .slice none 0 0], []⟩ 8 (by kernel_rfl) (by kernel_rfl) (by kernel_rfl) (by kernel_rfl)) ?_
  intro W base args ds gs before hval0 hW hcnd _
  have hval : ∀ (j : Nat) t v, Try.f4.params[j]? = some t → args[j]? = some v → Value.okWide Try.prog W .any base t v := hval0
  have hW' := hW
  obtain ⟨p, q, hA0, hV, rfl, hfz, hnd⟩ := hW
  have hA : DataW.TrodAll enc Try.prog W 0 (fun _ => true) true Try.f4.params.toList args.toList ds p := hA0
  rw [Try.params4] at hA hval
  obtain ⟨v0, vs0, d0, ds0, p0, q0, hargs, rfl, rfl, h0, r0⟩ := trodAll_cons hA
  obtain ⟨v1, vs1, d1, ds1, p1, q1, rfl, rfl, rfl, h1, r1⟩ := trodAll_cons r0
  obtain ⟨v2, vs2, d2, ds2, p2, q2, rfl, rfl, rfl, h2, r2⟩ := trodAll_cons r1
  obtain ⟨v3, vs3, d3, ds3, p3, q3, rfl, rfl, rfl, h3, r3⟩ := trodAll_cons r2
  obtain ⟨v4, vs4, d4, ds4, p4, q4, rfl, rfl, rfl, h4, r4⟩ := trodAll_cons r3
  obtain ⟨v5, vs5, d5, ds5, p5, q5, rfl, rfl, rfl, h5, r5⟩ := trodAll_cons r4
  obtain ⟨rfl, rfl, rfl⟩ := trodAll_nil r5
  obtain rfl : args = #[v0, v1, v2, v3, v4, v5] := by cases args; simp_all
  obtain ⟨rfl, rfl⟩ := trodVars_none hV
  obtain ⟨a0, rfl, rfl, rfl, w0⟩ := open_int Try.underlying3 (hval 0 3 v0 rfl rfl) h0
  obtain ⟨a1, len1, cap1, rfl⟩ := okWide_slice Try.underlying22 (hval 1 22 v1 rfl rfl)
  have k1 := h1
  have lt1 : ∀ x ∈ p1, x.block < W.heap.size := by obtain ⟨m, hm⟩ := k1; exact DataW.trod_lt m _ _ _ hm
  obtain ⟨z1, w1⟩ : ∃ L, Lv W a1 len1 cap1 L := by
    obtain ⟨fuel, hf⟩ := h1
    rcases Go.Deep.open_int_rows Try.underlying22 Try.underlying55 Try.underlying21 (by kernel_rfl) (by kernel_rfl) hf with ⟨hcs, _⟩ | ⟨x, l, c, _, _, _, _, hcs, _, hl, _, _, hx⟩
    · simp [Value.cells] at hcs
      obtain ⟨rfl, rfl, rfl⟩ := hcs
      exact ⟨[], Lv.nil_ _⟩
    · simp [Value.cells] at hcs
      obtain ⟨rfl, rfl, rfl⟩ := hcs
      exact ⟨_, Lv.of_rows hl hx⟩
  have k2 := h2
  have lt2 : ∀ x ∈ p2, x.block < W.heap.size := by obtain ⟨m, hm⟩ := k2; exact DataW.trod_lt m _ _ _ hm
  obtain ⟨tr2, lf2, dp2, sc2, sd2, a2, len2, cap2, g2⟩ := params_open (hval 2 28 v2 rfl rfl) h2
  subst g2
  have w2 := trivial
  obtain ⟨a3, rfl, rfl, rfl⟩ := open_bool Try.underlying4 (hval 3 4 v3 rfl rfl) h3
  obtain ⟨a4, rfl, rfl, rfl, w4⟩ := open_int Try.underlying23 (hval 4 23 v4 rfl rfl) h4
  obtain ⟨a5, len5, cap5, rfl⟩ := okWide_slice Try.underlying24 (hval 5 24 v5 rfl rfl)
  have k5 := h5
  have lt5 : ∀ x ∈ p5, x.block < W.heap.size := by obtain ⟨m, hm⟩ := k5; exact DataW.trod_lt m _ _ _ hm
  obtain ⟨z5, w5⟩ : ∃ zs, IsRow .u64 W a5 len5 cap5 zs := by
    obtain ⟨fuel, hf⟩ := h5
    rcases open_ints Try.underlying24 Try.underlying23 (by kernel_rfl) hf with ⟨hcs, _⟩ | ⟨x, l, c, zs, hcs, _, hl, hm, hz, _, hcell, hwz⟩
    · simp [Value.cells] at hcs
      obtain ⟨rfl, rfl, rfl⟩ := hcs
      exact ⟨[], .inl ⟨rfl, rfl, rfl, rfl⟩⟩
    · simp [Value.cells] at hcs
      obtain ⟨rfl, rfl, rfl⟩ := hcs
      exact ⟨zs, .inr ⟨_, rfl, hl, hm, by simpa using hz, hcell, hwz⟩⟩
  clear hA0 hval0
  refine (walk a0 a1 len1 cap1 z1 tr2 lf2 dp2 sc2 sd2 a2 len2 cap2 a3 a4 a5 len5 cap5 z5 W w0 w1 w2 w4 w5).mono fun e W' ⟨he, bel⟩ => ?_
  subst he
  exact ⟨_, rfl, _, _, _, [], _, [], hW', trodAll_mk1 (shut_bool Try.underlying4 _), (trodAll_cons_mk (shut_int Try.underlying3 w0) (trodAll_cons_mk (Below.trod laidOut (by kernel_rfl) (of_decide_eq_true (by kernel_rfl)) k1 bel lt1) (trodAll_cons_mk (Below.trod laidOut (by kernel_rfl) (of_decide_eq_true (by kernel_rfl)) k2 bel lt2) (trodAll_cons_mk (shut_bool Try.underlying4 a3) (trodAll_cons_mk (shut_int Try.underlying23 w4) (trodAll_cons_mk (Below.trod laidOut (by kernel_rfl) (of_decide_eq_true (by kernel_rfl)) k5 bel lt5) trodAll_mk0)))))), rfl, bel.frame _, fun h => by cases h⟩
theorem over : Rows.growBoundsRow.holds Try.pinned (OpenSpec.ofChange Rows.growBoundsSpec) :=
  OpenClaim.holds_of_wide 4 Try.f4 rfl rfl rfl rfl rfl rfl rfl ⟨rfl, rfl, rfl, rfl, rfl⟩ rfl rfl rfl rfl rfl (by kernel_rfl) Try.func4 (by kernel_rfl)
    (of_decide_eq_true (by kernel_rfl)) (by unfold Func.isWrapper; first | (rw [if_pos (by decide +kernel)]; kernel_rfl) | (rw [if_neg (by decide +kernel)]; exact ⟨rfl, rfl⟩))
    (fun os started H enc _ => lifted os started H enc)
/-- the statement -/
theorem proved : Rows.GrowBoundsSaid := over
#print axioms proved
end Go.Proofs.Ytafkbagjjknhlaa.growBounds
