/-
  StreamApart: a tree's stream hangs on none of the numbers of a script that are other trees', nor on the seed. No condition.
-/
import Derived.Test.YtggbclkinndpnaaMAwk
import Derived.Lib.SmallJoins
import Derived.Deep.DeepCutAuto
import Derived.Deep.WholeRow
import Derived.OpenShut
namespace Go.Proofs.Ytggbclkinndpnaa
open Go.RowKit Go.Joins Go.ChangeShapes Go.WideShapes Go.Deep
namespace streamApart

/-- the other list's number at place j, when the places below i are turned -/
def oth (xs : List Int) (y : Int) (t n i j : Nat) : Int := if j < i ∧ j % n ≠ t then bits .xor .u64 (xs[j]?.getD 0) y else xs[j]?.getD 0
theorem oth_zero (xs : List Int) (y : Int) (t n : Nat) : oth xs y t n 0 = fun j => xs[j]?.getD 0 := by funext j; unfold oth; rw [if_neg (by omega)]
theorem oth_keep (xs : List Int) (y : Int) (t n i : Nat) (h : i % n = t) : oth xs y t n (i + 1) = oth xs y t n i := by
  funext j
  unfold oth
  by_cases e : j = i
  · subst e; rw [if_neg (by omega), if_neg (by omega)]
  · congr 1
    apply propext
    constructor <;> rintro ⟨h1, h2⟩ <;> exact ⟨by omega, h2⟩
theorem oth_turn (xs : List Int) (y : Int) (t n i : Nat) (h : i % n ≠ t) (j : Nat) : oth xs y t n (i + 1) j = if j = i then bits .xor .u64 (oth xs y t n i i) y else oth xs y t n i j := by
  by_cases e : j = i
  · subst e
    rw [if_pos rfl]
    unfold oth
    rw [if_pos ⟨by omega, h⟩, if_neg (by omega)]
  · rw [if_neg e]
    unfold oth
    congr 1
    apply propext
    constructor <;> rintro ⟨h1, h2⟩ <;> exact ⟨by omega, h2⟩
theorem oth_in {xs : List Int} (hx : ∀ x ∈ xs, 0 ≤ x ∧ x < 18446744073709551616) (y : Int) (t n i j : Nat) : 0 ≤ oth xs y t n i j ∧ oth xs y t n i j < 18446744073709551616 := by
  unfold oth
  split
  · exact Rm.bits_in _ _
  · exact Sm.getD_in hx _
/-- a tree's stream is the same of both -/
theorem same (xs : List Int) (y : Int) (t n i : Nat) (ht : t < n) (s s' : Int) : Sm.strF true s xs t n = Sm.strF true s' ((List.range xs.length).map (oth xs y t n i)) t n := by
  rw [Sm.strF_list (by omega), Sm.strF_list (by omega)]
  funext k
  show xs[t + k * n]?.getD 0 = ((List.range xs.length).map (oth xs y t n i))[t + k * n]?.getD 0
  by_cases h : t + k * n < xs.length
  · rw [List.getElem?_eq_getElem (l := (List.range xs.length).map (oth xs y t n i)) (by simpa using h)]
    simp only [List.getElem_map, List.getElem_range, Option.getD_some]
    unfold oth
    rw [if_neg]
    rintro ⟨-, h2⟩
    apply h2
    rw [Nat.add_mul_mod_self_right, Nat.mod_eq_of_lt ht]
  · rw [List.getElem?_eq_none (by omega), List.getElem?_eq_none (by simp; omega)]
theorem own_end {xs : List Int} {t n o : Nat} (h : Sm.Own t n xs.length o) (ht : t < n) (s : Int) (k : Nat) (hk : o ≤ k) : Sm.strF true s xs t n k = 0 := by
  rw [Sm.strF_list (by omega)]
  show xs[t + k * n]?.getD 0 = 0
  have := Nat.mul_le_mul_right n hk
  have := h.1
  rw [List.getElem?_eq_none (by omega)]
  rfl

/-- a row of the call's own that reads as L -/
def RowF (w : World) (base : Nat) (A : Option Addr) (n : Nat) (L : Nat → Int) : Prop :=
  0 < n → ∃ (g : Nat) (C : Array Value), A = some ⟨g, 0, none⟩ ∧ base ≤ g ∧ w.heap[g]? = some (.cells C 22 (0, 0)) ∧ ∀ j, j < n → C[j]? = some (.int .u64 (L j))
theorem RowF.of_own {w : World} {base n c : Nat} {A : Option Addr} {xs : List Int} (h : w.ownsRow base 22 1 (.slice A n c) n (xs.map (Value.int .u64))) : RowF w base A n (fun j => xs[j]?.getD 0) := by
  intro hn
  have hl := Lst.of_own h
  rcases h.2 with ⟨_, h0⟩ | ⟨g, cap, cur, hv, hg, hb, _⟩
  · omega
  · have hA : A = some ⟨g, 0, none⟩ := by injection hv
    refine ⟨g, cur, hA, hg, hb, fun j hj => ?_⟩
    obtain ⟨b, off, e, _, hc⟩ := hl.at_ hj
    rw [hA] at e
    injection e with e
    injection e with e1 e2
    subst e1
    subst e2
    rw [cell_of_row _ _ _ _ _ _ hb, Nat.zero_add] at hc
    have hj' : j < xs.length := by have := hl.1; simp at this; omega
    rw [hc, List.getElem?_map]
    show _ = some (Value.int .u64 (xs[j]?.getD 0))
    rw [List.getElem?_eq_getElem hj']
    rfl
theorem RowF.lst {w : World} {base n : Nat} {A : Option Addr} {L : Nat → Int} (h : RowF w base A n L) : Lst w w.heap.size A n (((List.range n).map L).map (Value.int .u64)) := by
  refine ⟨by simp, fun hn => ?_⟩
  obtain ⟨g, C, rfl, _, hb, hc⟩ := h hn
  refine ⟨g, 0, rfl, lt_of_block hb, fun j u hu => ?_⟩
  have hj : j < n := by have := (List.getElem?_eq_some_iff.1 hu).1; simpa using this
  rw [cell_of_row _ _ _ _ _ _ hb, Nat.zero_add, hc j hj, ← hu]
  simp [hj]
theorem RowF.set {w : World} {base n g i : Nat} {C : Array Value} {L L' : Nat → Int} (hg : base ≤ g) (hb : w.heap[g]? = some (.cells C 22 (0, 0))) (hc : ∀ j, j < n → C[j]? = some (.int .u64 (L j))) (x : Int) (hi : i < n) (hL : ∀ j, L' j = if j = i then x else L j) :
    RowF (w.setCell ⟨g, i, none⟩ (.int .u64 x)) base (some ⟨g, 0, none⟩) n L' := by
  intro _
  refine ⟨g, C.setIfInBounds i (.int .u64 x), rfl, hg, heap_setCell_same _ _ _ _ _ _ hb, fun j hj => ?_⟩
  rw [Array.getElem?_setIfInBounds, hL]
  by_cases e : i = j
  · subst e
    have := (Array.getElem?_eq_some_iff.1 (hc i hi)).1
    rw [if_pos rfl, if_pos this, if_pos rfl]
  · rw [if_neg e, if_neg (fun h => e h.symm)]; exact hc j hj
theorem RowF.same {w : World} {base n : Nat} {A : Option Addr} {L L' : Nat → Int} (h : RowF w base A n L) (e : L = L') : RowF w base A n L' := e ▸ h

/-- both streams have told the same N draws -/
structure Both (w wr : World) (T lo hi b ho b' : Nat) (F : Nat → Int) (N : Nat) : Prop where
  s : Bas T wr lo hi b (Rm.dr F N)
  r : Bas T wr hi ho b' (Rm.dr F N)
  u : Below w.heap.size w wr
structure Half (w wr : World) (T lo hi b ho b' : Nat) (F : Nat → Int) (N : Nat) : Prop where
  s : Bas T wr lo hi b (Rm.dr F (N + 1))
  r : Bas T wr hi ho b' (Rm.dr F N)
  u : Below w.heap.size w wr
theorem Both.half {w wr w' : World} {T lo hi b ho b' : Nat} {F : Nat → Int} {N : Nat} (h : Both w wr T lo hi b ho b' F N) (hs : Bas T w' lo hi b (Rm.dr (Rm.dr F N) 1)) (hb : Btw lo hi wr w') (h1 : w.heap.size ≤ lo) : Half w w' T lo hi b ho b' F N :=
  ⟨by rw [Rm.dr_dr] at hs; exact hs, h.r.keep hb.size fun k q1 q2 => hb.block k (by have := h.r.size; omega) (by omega), h.u.trans (hb.old h.u.size h1)⟩
theorem Half.both {w wr w' : World} {T lo hi b ho b' : Nat} {F : Nat → Int} {N : Nat} (h : Half w wr T lo hi b ho b' F N) (hr : Bas T w' hi ho b' (Rm.dr (Rm.dr F N) 1)) (hb : Btw hi ho wr w') (h1 : w.heap.size ≤ hi) : Both w w' T lo hi b ho b' F (N + 1) :=
  ⟨h.s.keep hb.size fun k q1 q2 => hb.block k (by have := h.s.size; omega) (by omega), by rw [Rm.dr_dr] at hr; exact hr, h.u.trans (hb.old h.u.size h1)⟩

set_option maxHeartbeats 1600000 in
set_option maxRecDepth 100000 in
theorem walk (A : Option Addr) (len cap : Nat) (z : List Int) (y seed tree trees : Int) (w : World) (wl : IsRow .u64 w A len cap z) (wb : (Lit.int .u64 y).wf = true) (ws : (Lit.int .u64 seed).wf = true) (wt : (Lit.int .i64 tree).wf = true) (wn : (Lit.int .i64 trees).wf = true) :
    Calls Try.prog 6 #[.slice A len cap, .int .u64 y, .int .u64 seed, .int .i64 tree, .int .i64 trees] w fun e w' => e = .returned (.bool true) ∧ Below w.heap.size w w' := by
  have q1 := iface_eql
  have G := Lib.hid (Dws.of_row ws wl)
  have by1 := bounds_u64 wb
  have b1 := bounds_i64 wt
  have b2 := bounds_i64 wn
  clear wl wb ws wt wn
  go_enter Try.func6, Try.ntmps6
  go_wp2_with fail
  refine (awake_any _).mono ?_
  rintro _ W1 ⟨rfl, hb1⟩
  have HB1 := Lib.hid hb1
  have hs1 := hb1.size
  clear hb1
  by_cases g1 : 300 < len
  · go_wp2
    go_ret
    exact ⟨rfl, HB1.out⟩
  by_cases g2 : trees < 1
  · go_wp2
    go_ret
    exact ⟨rfl, HB1.out⟩
  by_cases g3 : 60 < trees
  · go_wp2
    go_ret
    exact ⟨rfl, HB1.out⟩
  by_cases g4 : tree < 0
  · go_wp2
    go_ret
    exact ⟨rfl, HB1.out⟩
  by_cases g5 : trees ≤ tree
  · go_wp2
    go_ret
    exact ⟨rfl, HB1.out⟩
  obtain ⟨t, rfl⟩ : ∃ t : Nat, tree = t := ⟨tree.toNat, by omega⟩
  obtain ⟨n, rfl⟩ : ∃ n : Nat, trees = n := ⟨trees.toNat, by omega⟩
  obtain ⟨xs, hxs⟩ : ∃ xs, xs = z.take len := ⟨_, rfl⟩
  rw [← hxs] at G
  clear hxs z
  have HX := Lib.hid G.out.len
  obtain ⟨i0, hi, hz0, hz1, hz2⟩ := info_parts Try.infoU64
  have HBE := Lib.hid ((Below.refl W1.heap.size W1).alloc (Nat.le_refl _) (.cells #[] 22))
  have HL := Lib.hid ((G.out.below HB1.out).l.more hs1)
  have HLE := Lib.hid (HL.out.below HBE.out)
  go_wp2_with (at_builtin; refine append_lst _ rfl (.tmp 41) (.tmp 42) 23 rfl W1.heap.size 22 i0 (.int .u64 0) 8 Try.underlying23 hi hz0 hz1 hz2 rfl (.slice (some ⟨W1.heap.size, 0, none⟩) 0 0) 0 [] rfl (own_empty W1 22) W1.heap.size A len cap (xs.map (Value.int .u64)) rfl G.out.nil HLE.out (ints_one .u64 xs) (by unfold maxLen; omega) (by omega) (by simp) ?_; intro v1 W2 hown1 hg1; have HB2 := Lib.hid (HBE.out.grown hg1 HBE.out.size (built_ge (Nat.le_refl _))); rw [Nat.zero_add, List.nil_append] at hown1; obtain ⟨A', c', hv1, hc1⟩ := own_form hown1; subst hv1; have R := Lib.hid (RowF.of_own hown1); have HN := Lib.hid (own_nil hown1); clear hown1 hg1)
  have HXX := Lib.hid G.out.x
  have HB12 := Lib.hid (HB1.out.trans (HB2.out.mono hs1))
  have HLN := Lib.hid (HL.out.below HB2.out)
  have hs2 := HB2.out.size
  have HG := Lib.hid G.out
  clear G HBE HLE HL
  go_loopw [12, 13] (fun o p wr => ∃ i k : Nat, o = .int .i64 (k : Int) ∧ p = .int .i64 (i : Int) ∧ i ≤ len ∧ Sm.Own t n i k ∧ RowF wr W1.heap.size A' len (oth xs y t n i) ∧ Below W1.heap.size W1 wr) (fun _ p _ => len - (intOf p).toNat)
  case atStart => exact ⟨0, 0, rfl, rfl, by omega, Sm.own_zero (by omega), R.out.same (oth_zero _ _ _ _).symm, HB2.out⟩
  case round =>
    obtain ⟨i, k, rfl, rfl, hil, hown, hR, hbel⟩ := hrel
    have HO := Lib.hid hown
    have HBW := Lib.hid hbel
    have hki := hown.2.2
    have HRR := Lib.hid hR
    clear hown hbel hR
    by_cases hlt : i < len
    · have hrem : (i : Int).tmod (n : Int) = ((i % n : Nat) : Int) := by rfl
      have hml := Nat.mod_lt i (show n > 0 by omega)
      by_cases e : i % n = t
      · have HE : Hid (Sm.Own t n (i + 1) (k + 1)) := Sm.own_yes HO.out (by omega) e
        have HR2 := Lib.hid (HRR.out.same (oth_keep xs y t n i e).symm)
        rw [e] at hrem
        clear e hml
        go_wp2
        go_roundw
        case rel => exact ⟨i + 1, k + 1, congrArg (Value.int .i64) (by omega), congrArg (Value.int .i64) (by omega), by omega, HE.out, HR2.out, HBW.out⟩
        case measure => simp [intOf]; omega
      · have HE : Hid (Sm.Own t n (i + 1) k) := Sm.own_no HO.out (by omega) e
        obtain ⟨g, C, rfl, hg, hb, hc⟩ := HRR.out (by omega)
        have HT := Lib.hid (oth_turn xs y t n i e)
        obtain ⟨v, hv⟩ : ∃ v, v = oth xs y t n i i := ⟨_, rfl⟩
        have hcc : wr.cell? ⟨g, i, none⟩ = some (.int .u64 v) := by rw [cell_of_row _ _ _ _ _ _ hb, hc i hlt, hv]
        have hff := frozen_of_row wr g i _ _ hb
        rw [← hv] at HT
        have HR2 := Lib.hid (RowF.set hg hb hc (bits .xor .u64 v y) hlt HT.out)
        have HB2' := Lib.hid (HBW.out.setCell (p := ⟨g, i, none⟩) hg (.int .u64 (bits .xor .u64 v y)))
        obtain ⟨r, hr⟩ : ∃ r, r = i % n := ⟨_, rfl⟩
        rw [← hr] at hrem e hml
        clear hv hb hc HT hr HRR
        go_wp2
        go_roundw
        case rel => exact ⟨i + 1, k, rfl, congrArg (Value.int .i64) (by omega), by omega, HE.out, HR2.out, HB2'.out⟩
        case measure => simp [intOf]; omega
    · obtain rfl : i = len := by omega
      have HU := Lib.hid (HB1.out.trans (HBW.out.mono hs1))
      have hsr := HBW.out.size
      have K1 := Lib.hid (strOf_any true 0 A i cap xs t n wr ⟨by omega, by omega, (HG.out.below HU.out).l.more HU.out.size, HG.out.nil, HG.out.x⟩ (by omega) (by omega))
      have HY : Hid (∀ x ∈ (List.range i).map (oth xs y t n i), 0 ≤ x ∧ x < 18446744073709551616) := Lib.hid (fun x hx => by
        obtain ⟨j, _, rfl⟩ := List.mem_map.1 hx
        exact oth_in HG.out.x y t n i j)
      have K2 := Lib.hid (fun (W : World) (hb : Below wr.heap.size wr W) => strOf_any true seed A' i c' ((List.range i).map (oth xs y t n i)) t n W ⟨HG.out.s0, HG.out.s1, (HRR.out.lst.below hb).more hb.size, HN.out, HY.out⟩ (by omega) (by omega))
      have HS := same xs y t n i (by omega) 0 seed
      rw [HX.out] at HS
      rw [← HS] at K2
      have HZ : Hid (∀ q, k ≤ q → Sm.strF true 0 xs t n q = 0) := Lib.hid (fun q hq => own_end (by rw [HX.out]; exact HO.out) (by omega) 0 q hq)
      obtain ⟨F, hF⟩ : ∃ F, F = Sm.strF true 0 xs t n := ⟨_, rfl⟩
      obtain ⟨T, hT⟩ : ∃ T, T = strT true t n := ⟨_, rfl⟩
      rw [← hF, ← hT] at K1 K2
      rw [← hF] at HZ
      clear hF hT HS HO HRR HY HG HX HXX HLN HB12 HB2 R HBW HN
      go_wp2_with fail
      refine K1.out.mono ?_
      rintro _ W3 ⟨b, rfl, h3, b3⟩
      have HB3 := Lib.hid b3
      have H3 := Lib.hid h3
      clear b3 h3 K1
      go_wp2_with fail
      refine (K2.out _ HB3.out).mono ?_
      rintro _ W4 ⟨b', rfl, h4, b4⟩
      have HA : Hid (Both w W4 T wr.heap.size W3.heap.size b W4.heap.size b' F 0) := ⟨H3.out.below b4, h4, (HU.out.trans (HB3.out.mono HU.out.size)).trans (b4.mono (Nat.le_trans HU.out.size HB3.out.size))⟩
      obtain ⟨m1, m2, m3⟩ := h4.meth
      have hs3 := HB3.out.size
      clear b4 h4 K2 H3 HB3 HU HB1
      go_wp2
      go_loopw [16] (fun I wr' => ∃ N : Nat, I = .int .i64 (N : Int) ∧ N ≤ k + 3 ∧ Both w wr' T wr.heap.size W3.heap.size b W4.heap.size b' F N) (fun i _ => k + 3 - (intOf i).toNat)
      case atStart => exact ⟨0, rfl, by omega, HA.out⟩
      case round =>
        clear HA
        obtain ⟨N, rfl, hN, hA⟩ := hrel
        have HA := Lib.hid hA
        clear hA
        by_cases hlt2 : N < k + 3
        · have K1 := bas_draw HA.out.s
          obtain ⟨x, hx⟩ : ∃ x, x = Rm.dr F N 0 := ⟨_, rfl⟩
          rw [← hx] at K1
          have HK1 := Lib.hid K1
          have HX := Lib.hid hx
          have HX2 : Hid (k ≤ N → x = 0) := Lib.hid (fun h => by rw [HX.out, Rm.dr_at, Nat.zero_add]; exact HZ.out N h)
          clear K1 hx
          go_wp2_with fail
          refine HK1.out.mono ?_
          rintro _ U1 ⟨rfl, hc1, hb1⟩
          have HH := Lib.hid (HA.out.half hc1 hb1 (by omega))
          have K2 := bas_draw HH.out.r
          rw [← HX.out] at K2
          have HK2 := Lib.hid K2
          clear hc1 hb1 K2 HA HK1
          go_wp2_with fail
          refine HK2.out.mono ?_
          rintro _ U2 ⟨rfl, hr2, hb2⟩
          have HA2 := Lib.hid (HH.out.both hr2 hb2 (by omega))
          clear HH HK2 hr2 hb2
          by_cases hkN : k ≤ N
          · obtain rfl : x = 0 := HX2.out hkN
            go_wp2
            go_roundw
            case rel => exact ⟨N + 1, congrArg (Value.int .i64) (by omega), by omega, HA2.out⟩
            case measure => simp [intOf]; omega
          · go_wp2
            go_roundw
            case rel => exact ⟨N + 1, congrArg (Value.int .i64) (by omega), by omega, HA2.out⟩
            case measure => simp [intOf]; omega
        · have HU := Lib.hid HA.out.u
          clear HA m1 m2 m3
          go_wp2
          go_ret
          exact ⟨rfl, HU.out⟩

theorem own : ownKnob Try.prog.godebug = none := by kernel_rfl
theorem laidOut : laidOutB Try.prog = true := by kernel_rfl
set_option maxRecDepth 100000 in
theorem lifted (os : Os) (started : os.Started) (H : Type) (enc : TypeId × Value → H) :
    ReturnsInHanded {} Try.checked os 6 .any (Rows.streamApartSpec.pre6 enc Try.prog Try.f6 Rows.streamApartRow.domain false) (Rows.streamApartSpec.post enc Try.prog Try.f6 false true false false) := by
  refine returnsInHanded_of_change (C := Try.checked) own started (by kernel_rfl) Try.func6
    (ChangeSpec.witness6 (enc := enc) (C := Try.checked) false ⟨#[], #[.slice none 0 0, .int .u64 0, .int .u64 0, .int .i64 0, .int .i64 0], []⟩ 8 (by kernel_rfl) (by kernel_rfl) (by kernel_rfl) (by kernel_rfl)) ?_
  intro W base args ds gs before hval0 hW hcnd _
  have hval : ∀ (j : Nat) t v, Try.f6.params[j]? = some t → args[j]? = some v → Value.okWide Try.prog W .any base t v := hval0
  have hW' := hW
  obtain ⟨p, q, hA0, hV, rfl, hfz, hnd⟩ := hW
  have hA : DataW.TrodAll enc Try.prog W 0 (fun _ => true) true Try.f6.params.toList args.toList ds p := hA0
  rw [Try.params6] at hA hval
  obtain ⟨v0, vs0, d0, ds0, p0, q0, hargs, rfl, rfl, h0, r0⟩ := trodAll_cons hA
  obtain ⟨v1, vs1, d1, ds1, p1, q1, rfl, rfl, rfl, h1, r1⟩ := trodAll_cons r0
  obtain ⟨v2, vs2, d2, ds2, p2, q2, rfl, rfl, rfl, h2, r2⟩ := trodAll_cons r1
  obtain ⟨v3, vs3, d3, ds3, p3, q3, rfl, rfl, rfl, h3, r3⟩ := trodAll_cons r2
  obtain ⟨v4, vs4, d4, ds4, p4, q4, rfl, rfl, rfl, h4, r4⟩ := trodAll_cons r3
  obtain ⟨rfl, rfl, rfl⟩ := trodAll_nil r4
  obtain rfl : args = #[v0, v1, v2, v3, v4] := by cases args; simp_all
  obtain ⟨rfl, rfl⟩ := trodVars_none hV
  obtain ⟨a0, len0, cap0, rfl⟩ := okWide_slice Try.underlying23 (hval 0 23 v0 rfl rfl)
  have k0 := h0
  have lt0 : ∀ x ∈ p0, x.block < W.heap.size := by obtain ⟨m, hm⟩ := k0; exact DataW.trod_lt m _ _ _ hm
  obtain ⟨z0, w0⟩ : ∃ zs, IsRow .u64 W a0 len0 cap0 zs := by
    obtain ⟨fuel, hf⟩ := h0
    rcases open_ints Try.underlying23 Try.underlying22 (by kernel_rfl) hf with ⟨hcs, _⟩ | ⟨x, l, c, zs, hcs, _, hl, hm, hz, _, hcell, hwz⟩
    · simp [Value.cells] at hcs
      obtain ⟨rfl, rfl, rfl⟩ := hcs
      exact ⟨[], .inl ⟨rfl, rfl, rfl, rfl⟩⟩
    · simp [Value.cells] at hcs
      obtain ⟨rfl, rfl, rfl⟩ := hcs
      exact ⟨zs, .inr ⟨_, rfl, hl, hm, by simpa using hz, hcell, hwz⟩⟩
  obtain ⟨a1, rfl, rfl, rfl, w1⟩ := open_int Try.underlying22 (hval 1 22 v1 rfl rfl) h1
  obtain ⟨a2, rfl, rfl, rfl, w2⟩ := open_int Try.underlying22 (hval 2 22 v2 rfl rfl) h2
  obtain ⟨a3, rfl, rfl, rfl, w3⟩ := open_int Try.underlying3 (hval 3 3 v3 rfl rfl) h3
  obtain ⟨a4, rfl, rfl, rfl, w4⟩ := open_int Try.underlying3 (hval 4 3 v4 rfl rfl) h4
  clear hA0 hval0
  refine (walk a0 len0 cap0 z0 a1 a2 a3 a4 W w0 w1 w2 w3 w4).mono fun e W' ⟨he, bel⟩ => ?_
  subst he
  exact ⟨_, rfl, _, _, _, [], _, [], hW', trodAll_mk1 (shut_bool Try.underlying4 _), (trodAll_cons_mk (Below.trod laidOut (by kernel_rfl) (of_decide_eq_true (by kernel_rfl)) k0 bel lt0) (trodAll_cons_mk (shut_int Try.underlying22 w1) (trodAll_cons_mk (shut_int Try.underlying22 w2) (trodAll_cons_mk (shut_int Try.underlying3 w3) (trodAll_cons_mk (shut_int Try.underlying3 w4) trodAll_mk0))))), rfl, bel.frame _, fun h => by cases h⟩
theorem over : Rows.streamApartRow.holds Try.pinned (OpenSpec.ofChange Rows.streamApartSpec) :=
  OpenClaim.holds_of_wide 6 Try.f6 rfl rfl rfl rfl rfl rfl rfl ⟨rfl, rfl, rfl, rfl, rfl⟩ rfl rfl rfl rfl rfl (by kernel_rfl) Try.func6 (by kernel_rfl)
    (of_decide_eq_true (by kernel_rfl)) (by unfold Func.isWrapper; first | (rw [if_pos (by decide +kernel)]; kernel_rfl) | (rw [if_neg (by decide +kernel)]; exact ⟨rfl, rfl⟩))
    (fun os started H enc _ => lifted os started H enc)
/-- the statement -/
theorem proved : Rows.StreamApartSaid := over
#print axioms proved
end streamApart
end Go.Proofs.Ytggbclkinndpnaa
