/-
  GrowStays holds for every input: a tree is the same again of the same items, params and draws; it leaves the items as they are. No condition.
-/
import Derived.Test.YtafkbagjjknhlaaWAwk
import Derived.Test.YtafkbagjjknhlaaWArg
import Derived.Test.YtafkbagjjknhlaaDGat
import Derived.ProofKit
import Derived.Lib.SmallJoins
import Derived.OpenShut
import Derived.ShutString
import Derived.ChangeOld
import Derived.WalkSmall
import Derived.Shelf.AbstractIn
import Derived.Stop.RegionWithIn
import Derived.Deep.RegionHeld3
import Derived.Sort.CutIn
namespace Go.Proofs.Ytafkbagjjknhlaa.growStays
open Go.ChangeShapes Go.WideShapes Go.ChangeAt Go.RowKit Go.Joins Go.Deep Go.Shelf
open Go.ChangeMaps (open_string shut_string)
set_option linter.unusedVariables false
attribute [local go_sem] Oper.semAt_some

theorem u64_in {n : Int} (h : (Lit.int .u64 n).wf = true) : 0 ≤ n ∧ n < 18446744073709551616 := by have := bounds_u64 h; omega
/-- the law's variables: the list, params, what is answered -/
structure Vars (w : World) (p : Nat) (a : Option Addr) (n c : Nat) (tr lf dp : Int) (sc : Bool) (sd : Int) (pA : Option Addr) (pn pc : Nat) (r : Bool) : Prop where
  l0 : w.heap[p]? = some (.cells #[.slice a n c] 22 (0, 0))
  p0 : Prx w (p + 1) tr lf dp sc sd pA pn pc
  r0 : w.heap[p + 2]? = some (.cells #[.bool r] 4 (0, 0))
section
variable {w w' : World} {p : Nat} {a : Option Addr} {n c : Nat} {tr lf dp : Int} {sc : Bool} {sd : Int} {pA : Option Addr} {pn pc : Nat} {r : Bool}
theorem Vars.below (h : Vars w p a n c tr lf dp sc sd pA pn pc r) (hb : Below w.heap.size w w') : Vars w' p a n c tr lf dp sc sd pA pn pc r :=
  ⟨(hb.block _ (lt_of_block h.l0)).trans h.l0, h.p0.below hb, (hb.block _ (lt_of_block h.r0)).trans h.r0⟩
theorem Vars.cl (h : Vars w p a n c tr lf dp sc sd pA pn pc r) : w.cell? ⟨p, 0, none⟩ = some (.slice a n c) := by rw [cell_of_row _ _ _ _ _ _ h.l0]; rfl
theorem Vars.cr (h : Vars w p a n c tr lf dp sc sd pA pn pc r) : w.cell? ⟨p + 2, 0, none⟩ = some (.bool r) := by rw [cell_of_row _ _ _ _ _ _ h.r0]; rfl
theorem Vars.fr (h : Vars w p a n c tr lf dp sc sd pA pn pc r) : w.frozen? ⟨p + 2, 0, none⟩ = false := frozen_of_row w (p + 2) 0 _ _ h.r0
end
theorem someO {w : World} {A : Option Addr} {n c : Nat} {L : List (List Int)} (h : Lv w A n c L) (d : Int) :
    Calls Try.prog 9 #[.int .i64 d, .slice A n c] w fun e w' => ∃ X, e = .returned (.pointer X) ∧ Below w.heap.size w w' ∧ (X = none ∨ ∃ s S, X = some ⟨s, 0, none⟩ ∧ It w' S s d L ∧ (∀ k, S k → w.heap.size ≤ k) ∧ Dm.chks d L = 0 ∧ n ≤ 301) :=
  (someW h d).mono fun _ w' h => by
    rcases h with ⟨h1, h2⟩ | ⟨s, S, h1, h2, h3, h4, h5, h6⟩
    · exact ⟨none, h1, h2, .inl rfl⟩
    · exact ⟨_, h1, h4, .inr ⟨s, S, rfl, h2, h3, h5, h6⟩⟩

theorem off_below {a W W' : World} (h : Below a.heap.size a W) (ho : Off (a.heap.size + 1) W W') : Below a.heap.size a W' :=
  ⟨ho.os.trans h.os, ho.tape.trans h.tape, ho.output.trans h.output, by rw [ho.size]; exact h.size, fun k hk => (ho.block k (by omega)).trans (h.block k hk)⟩
/-- items, or none -/
def Ok (d : Int) (L : List (List Int)) (X : Option Addr) (V : World) : Prop := X = none ∨ ∃ s S, X = some ⟨s, 0, none⟩ ∧ It V S s d L ∧ Dm.chks d L = 0 ∧ L.length ≤ 301
theorem Ok.below {d : Int} {L : List (List Int)} {X : Option Addr} {V W : World} (h : Ok d L X V) (hb : Below V.heap.size V W) : Ok d L X W := by
  rcases h with h | ⟨s, S, h1, h2, h3, h4⟩
  · exact .inl h
  · exact .inr ⟨s, S, h1, h2.below hb, h3, h4⟩

set_option maxHeartbeats 3200000 in
set_option maxRecDepth 100000 in
theorem walk (dim : Int) (a1 : Option Addr) (len1 cap1 : Nat) (L : List (List Int)) (tr lf dp : Int) (sc : Bool) (sd : Int) (pA : Option Addr) (pn pc : Nat) (st : Int) (w : World)
    (w0 : (Lit.int .i64 dim).wf = true) (w1 : Lv w a1 len1 cap1 L) (w2 : True) (w3 : (Lit.int .u64 st).wf = true) :
    Calls Try.prog 7 #[.int .i64 dim, .slice a1 len1 cap1, .agg #[.int .i64 tr, .int .i64 lf, .int .i64 dp, .bool sc, .int .u64 sd, .slice pA pn pc], .int .u64 st] w fun e w' => e = .returned (.bool true) ∧ Below w.heap.size w w' := by
  obtain ⟨t0, t1⟩ := u64_in w3
  obtain ⟨p, hp⟩ : ∃ p, p = w.heap.size := ⟨_, rfl⟩
  obtain ⟨W0, hW0⟩ : ∃ W, W = ((w.alloc (.cells #[.slice a1 len1 cap1] 22)).alloc (.cells #[.int .i64 tr, .int .i64 lf, .int .i64 dp, .bool sc, .int .u64 sd, .slice pA pn pc] 28)).alloc (.cells #[.bool false] 4) := ⟨_, rfl⟩
  have b0 : Below w.heap.size w W0 := by rw [hW0]; exact (((Below.refl _ w).alloc (Nat.le_refl _) _).alloc (by simp) _).alloc (by simp; omega) _
  have v0 : Vars W0 w.heap.size a1 len1 cap1 tr lf dp sc sd pA pn pc false := by
    have h1 := heap_alloc_new w (.cells #[.slice a1 len1 cap1] 22)
    have h2 := Prx.new (w.alloc (.cells #[.slice a1 len1 cap1] 22)) tr lf dp sc sd pA pn pc
    have h3 := heap_alloc_new ((w.alloc (.cells #[.slice a1 len1 cap1] 22)).alloc (.cells #[.int .i64 tr, .int .i64 lf, .int .i64 dp, .bool sc, .int .u64 sd, .slice pA pn pc] 28)) (.cells #[.bool false] 4)
    rw [show (w.alloc (.cells #[.slice a1 len1 cap1] 22)).heap.size = w.heap.size + 1 from by simp] at h2
    rw [show ((w.alloc (.cells #[.slice a1 len1 cap1] 22)).alloc (.cells #[.int .i64 tr, .int .i64 lf, .int .i64 dp, .bool sc, .int .u64 sd, .slice pA pn pc] 28)).heap.size = w.heap.size + 2 from by simp] at h3
    have c1 : Below (w.alloc (.cells #[.slice a1 len1 cap1] 22)).heap.size (w.alloc (.cells #[.slice a1 len1 cap1] 22)) W0 := by rw [hW0]; exact ((Below.refl _ _).alloc (Nat.le_refl _) _).alloc (by simp) _
    have c2 : Below ((w.alloc (.cells #[.slice a1 len1 cap1] 22)).alloc (.cells #[.int .i64 tr, .int .i64 lf, .int .i64 dp, .bool sc, .int .u64 sd, .slice pA pn pc] 28)).heap.size ((w.alloc (.cells #[.slice a1 len1 cap1] 22)).alloc (.cells #[.int .i64 tr, .int .i64 lf, .int .i64 dp, .bool sc, .int .u64 sd, .slice pA pn pc] 28)) W0 := by rw [hW0]; exact (Below.refl _ _).alloc (Nat.le_refl _) _
    exact ⟨(c1.block _ (lt_of_block h1)).trans h1, h2.below c2, by rw [hW0]; exact h3⟩
  have HW0 := Lib.hid hW0
  have B0 := Lib.hid b0
  have V0 := Lib.hid v0
  have HL := Lib.hid w1
  have HLN := Lib.hid w1.len
  clear w0 w1 w2 w3 hW0 b0 v0
  refine (callsIn_wide (n := 6)).1 ?_
  refine callsIn_of_wp_marks Try.func7 rfl trivial ?_ rfl
  simp only [Try.ntmps7, List.size_toArray, List.length_cons, List.length_nil, Nat.reduceAdd, Nat.reduceSub, Array.replicate_succ, Array.replicate_zero, List.push_toArray, List.append_toArray, List.nil_append, List.cons_append]
  gi_wp2_with fail
  rw [← HW0.out]
  refine ⟨trivial, ?_⟩
  refine (callsIn_wide.2 (awakeW _)).mono ?_
  rintro _ W1 ⟨rfl, b1⟩
  have B1 := Lib.hid (B0.out.trans (b1.mono B0.out.size))
  have hv1 := V0.out.below b1
  have L1 := Lib.hid (HL.out.below B1.out)
  have c1 := hv1.cl
  have V1 := Lib.hid hv1
  have FS : Hid (∀ V, Below W1.heap.size W1 V → Calls Try.prog 9 #[.int .i64 dim, .slice a1 len1 cap1] V fun e w' => ∃ X, e = .returned (.pointer X) ∧ Below V.heap.size V w' ∧ Ok dim L X w') := Lib.hid fun V hV =>
    (someO (L1.out.below hV) dim).mono fun _ _ ⟨X, h1, h2, h3⟩ => ⟨X, h1, h2, by
      rcases h3 with h | ⟨s, S, h4, h5, _, h6, h7⟩
      · exact .inl h
      · exact .inr ⟨s, S, h4, h5, h6, by rw [HLN.out]; exact h7⟩⟩
  have G0 := Lib.hid (Below.refl W1.heap.size W1).drew
  have s1 := B1.out.size
  clear b1 V0 B0 hv1
  gi_upto_region 3 with fail
  gi_cut [9, 10] from 19 (fun x y wc => ∃ X1 X2, x = .pointer X1 ∧ y = .pointer X2 ∧ Below W1.heap.size W1 wc ∧ Ok dim L X1 wc ∧ Ok dim L X2 wc)
  case first =>
    refine wpIn_mono (?_ : Code.wpIn _ _ _ _ (NoPanic _) _ _) NoPanic.imp
    gi_region_with (first
      | (refine ⟨trivial, ?_⟩; refine (callsIn_wide.2 (FS.out _ G1.out)).mono ?_; rintro _ U2 ⟨X2, rfl, hb2, hx2⟩; have G2 := Lib.hid (G1.out.trans (hb2.mono G1.out.size)); have HX2 := Lib.hid (And.intro (HX1.out.below hb2) hx2); clear hb2 hx2)
      | (refine ⟨trivial, ?_⟩; refine (callsIn_wide.2 (FS.out _ G0.out)).mono ?_; rintro _ U1 ⟨X1, rfl, hb, hx⟩; have G1 : Hid (Below W1.heap.size W1 U1) := Lib.hid (G0.out.trans (hb.mono G0.out.size)); have c2 := (V1.out.below G1.out).cl; have HX1 := Lib.hid hx; clear hb hx))
    all_goals
      refine NoPanic.normal ?_
      gi_wp2_with fail
      gi_meet
      exact ⟨_, _, rfl, rfl, G2.out, HX2.out.1, HX2.out.2⟩
  case rest =>
    obtain ⟨X1, X2, rfl, rfl, hb2, hx1, hx2⟩ := hcut
    obtain ⟨W2, hW2⟩ : ∃ W2, W2 = wc := ⟨_, rfl⟩
    subst hW2
    have B2 := Lib.hid (B1.out.trans (hb2.mono B1.out.size))
    have hv2 := V1.out.below hb2
    have V2 := Lib.hid hv2
    have cr := hv2.cr
    have fr := hv2.fr
    have HR2 := Lib.hid (one_set (u := .bool true) hv2.r0)
    have s2 := hb2.size
    clear hb2 hv2 FS G0 V1 c1
    rcases hx1 with rfl | ⟨s, S, rfl, hit1, hck, h301⟩
    · gi_wp2
      refine ⟨_, result_bool rfl _ _ (w.heap.size + 2) true rfl ?_, rfl, B2.out.setCell (p := ⟨w.heap.size + 2, 0, none⟩) (by show w.heap.size ≤ w.heap.size + 2; omega) _⟩
      rw [cell_of_row _ _ _ _ _ _ HR2.out]; rfl
    rcases hx2 with rfl | ⟨s', S', rfl, hit2, -, -⟩
    · gi_wp2
      refine ⟨_, result_bool rfl _ _ (w.heap.size + 2) true rfl ?_, rfl, B2.out.setCell (p := ⟨w.heap.size + 2, 0, none⟩) (by show w.heap.size ≤ w.heap.size + 2; omega) _⟩
      rw [cell_of_row _ _ _ _ _ _ HR2.out]; rfl
    obtain ⟨er, G, hGl, hGi, hFT⟩ := treeW_all (L := L) (d := dim) (tr := tr) (lf := lf) (dp := dp) (sc := sc) (sd := sd) (pA := pA) (pn := pn) (pc := pc) (f := Rm.mixAt st) (by omega)
    have FT := Lib.hid hFT
    have HGI := Lib.hid hGi
    have HD := Lib.hid (Dm.chks_zero hck)
    have FM := Lib.hid (fun V => mix_new st V t0 t1)
    have I1 := Lib.hid hit1
    have I2 := Lib.hid hit2
    have hq : (er != er) = false := by simp
    clear hFT hGi hck hit1 hit2 cr fr HR2
    gi_upto_region 6 with fail
    gi_cut [11, 12] from 19 (fun a b wc => ∃ A' c', a = .slice A' G.length c' ∧ b = .int .i64 er ∧ Below W2.heap.size W2 wc ∧ Nds (fun _ => True) wc A' G.length c' G)
    case first =>
      have q0 := V2.out.p0.c0
      have q1 := V2.out.p0.c1
      have q2 := V2.out.p0.c2
      have q3 := V2.out.p0.c3
      have q4 := V2.out.p0.c4
      have q5 := V2.out.p0.c5
      have G0 := Lib.hid (Below.refl W2.heap.size W2).drew
      refine wpIn_mono (?_ : Code.wpIn _ _ _ _ (NoPanic _) _ _) NoPanic.imp
      gi_region_with (first
        | (refine ⟨trivial, ?_⟩; refine (callsIn_wide.2 FT1.out).mono ?_; rintro _ U2 ⟨A', c', rfl, hnt, hbt⟩; have G2 : Hid (Below W2.heap.size W2 U2) := Lib.hid (G1.out.trans (hbt.old (B := W2.heap.size) G1.out.size (Nat.le_refl _))); have N2 := Lib.hid (hnt.mono (Pr' := fun _ => True) (fun _ _ => trivial)); clear hnt hbt)
        | (refine ⟨trivial, ?_⟩; refine (callsIn_wide.2 (FM.out W2.drew)).mono ?_; rintro _ U1 ⟨b, rfl, hbas, hb⟩; have G1 : Hid (Below W2.heap.size W2 U1) := Lib.hid (G0.out.trans (hb.mono G0.out.size)); have hpx := (V2.out.below G1.out).p0; have u0 := hpx.c0; have u1 := hpx.c1; have u2 := hpx.c2; have u3 := hpx.c3; have u4 := hpx.c4; have u5 := hpx.c5; have FT1 := Lib.hid (FT.out U1 S s W2.heap.size b _ (I1.out.below G1.out) (fun k hk => I1.out.lt k hk) (.inl hbas)); clear hbas hb hpx))
      all_goals
        refine NoPanic.normal ?_
        gi_wp2_with fail
        gi_meet
        exact ⟨_, _, rfl, rfl, G2.out, N2.out⟩
    case rest =>
      obtain ⟨Aa, ca, rfl, rfl, hb3, hn3⟩ := hcut
      obtain ⟨W3, hW3⟩ : ∃ W3, W3 = wc := ⟨_, rfl⟩
      subst hW3
      have s3 := hb3.size
      have V3 := Lib.hid (V2.out.below hb3)
      have I13 := Lib.hid (I1.out.below hb3)
      have I23 := Lib.hid (I2.out.below hb3)
      have B3 := Lib.hid (B2.out.trans (hb3.mono B2.out.size))
      have NA3 := Lib.hid hn3
      clear hb3 hn3 I1 I2 V2 B2
      gi_upto_region 7 with fail
      gi_cut [13, 14] from 19 (fun a b wc => ∃ A' c', a = .slice A' G.length c' ∧ b = .int .i64 er ∧ Below W3.heap.size W3 wc ∧ Nds (fun _ => True) wc A' G.length c' G)
      case first =>
        have q0 := V3.out.p0.c0
        have q1 := V3.out.p0.c1
        have q2 := V3.out.p0.c2
        have q3 := V3.out.p0.c3
        have q4 := V3.out.p0.c4
        have q5 := V3.out.p0.c5
        have G0 := Lib.hid (Below.refl W3.heap.size W3).drew
        refine wpIn_mono (?_ : Code.wpIn _ _ _ _ (NoPanic _) _ _) NoPanic.imp
        gi_region_with (first
          | (refine ⟨trivial, ?_⟩; refine (callsIn_wide.2 FT1.out).mono ?_; rintro _ U2 ⟨A', c', rfl, hnt, hbt⟩; have G2 : Hid (Below W3.heap.size W3 U2) := Lib.hid (G1.out.trans (hbt.old (B := W3.heap.size) G1.out.size (Nat.le_refl _))); have N2 := Lib.hid (hnt.mono (Pr' := fun _ => True) (fun _ _ => trivial)); clear hnt hbt)
          | (refine ⟨trivial, ?_⟩; refine (callsIn_wide.2 (FM.out W3.drew)).mono ?_; rintro _ U1 ⟨b, rfl, hbas, hb⟩; have G1 : Hid (Below W3.heap.size W3 U1) := Lib.hid (G0.out.trans (hb.mono G0.out.size)); have hpx := (V3.out.below G1.out).p0; have u0 := hpx.c0; have u1 := hpx.c1; have u2 := hpx.c2; have u3 := hpx.c3; have u4 := hpx.c4; have u5 := hpx.c5; have FT1 := Lib.hid (FT.out U1 S s W3.heap.size b _ (I13.out.below G1.out) (fun k hk => I13.out.lt k hk) (.inl hbas)); clear hbas hb hpx))
        all_goals
          refine NoPanic.normal ?_
          gi_wp2_with fail
          gi_meet
          exact ⟨_, _, rfl, rfl, G2.out, N2.out⟩
      case rest =>

        obtain ⟨Ab, cb, rfl, rfl, hb4, hn4⟩ := hcut
        obtain ⟨W4, hW4⟩ : ∃ W4, W4 = wc := ⟨_, rfl⟩
        subst hW4
        have s4 := hb4.size
        have V4 := Lib.hid (V3.out.below hb4)
        have I14 := Lib.hid (I13.out.below hb4)
        have I24 := Lib.hid (I23.out.below hb4)
        have B4 := Lib.hid (B3.out.trans (hb4.mono B3.out.size))
        have NA4 := Lib.hid (NA3.out.below hb4)
        have NB4 := Lib.hid hn4
        clear hb4 hn4 I13 I23 V3 B3 NA3
        gi_upto_region 8 with fail
        gi_cut [15, 16] from 19 (fun a b wc => ∃ A' c', a = .slice A' G.length c' ∧ b = .int .i64 er ∧ Below W4.heap.size W4 wc ∧ Nds (fun _ => True) wc A' G.length c' G)
        case first =>
          have q0 := V4.out.p0.c0
          have q1 := V4.out.p0.c1
          have q2 := V4.out.p0.c2
          have q3 := V4.out.p0.c3
          have q4 := V4.out.p0.c4
          have q5 := V4.out.p0.c5
          have G0 := Lib.hid (Below.refl W4.heap.size W4).drew
          refine wpIn_mono (?_ : Code.wpIn _ _ _ _ (NoPanic _) _ _) NoPanic.imp
          gi_region_with (first
            | (refine ⟨trivial, ?_⟩; refine (callsIn_wide.2 FT1.out).mono ?_; rintro _ U2 ⟨A', c', rfl, hnt, hbt⟩; have G2 : Hid (Below W4.heap.size W4 U2) := Lib.hid (G1.out.trans (hbt.old (B := W4.heap.size) G1.out.size (Nat.le_refl _))); have N2 := Lib.hid (hnt.mono (Pr' := fun _ => True) (fun _ _ => trivial)); clear hnt hbt)
            | (refine ⟨trivial, ?_⟩; refine (callsIn_wide.2 (FM.out W4.drew)).mono ?_; rintro _ U1 ⟨b, rfl, hbas, hb⟩; have G1 : Hid (Below W4.heap.size W4 U1) := Lib.hid (G0.out.trans (hb.mono G0.out.size)); have hpx := (V4.out.below G1.out).p0; have u0 := hpx.c0; have u1 := hpx.c1; have u2 := hpx.c2; have u3 := hpx.c3; have u4 := hpx.c4; have u5 := hpx.c5; have FT1 := Lib.hid (FT.out U1 S' s' W4.heap.size b _ (I24.out.below G1.out) (fun k hk => I24.out.lt k hk) (.inl hbas)); clear hbas hb hpx))
          all_goals
            refine NoPanic.normal ?_
            gi_wp2_with fail
            gi_meet
            exact ⟨_, _, rfl, rfl, G2.out, N2.out⟩
        case rest =>

          obtain ⟨Ac, cc, rfl, rfl, hb5, hn5⟩ := hcut
          obtain ⟨W5, hW5⟩ : ∃ W5, W5 = wc := ⟨_, rfl⟩
          subst hW5
          have s5 := hb5.size
          have hv5 := V4.out.below hb5
          have V5 := Lib.hid hv5
          have c5 := hv5.cl
          have I15 := Lib.hid (I14.out.below hb5)
          have B5 := Lib.hid (B4.out.trans (hb5.mono B4.out.size))
          have FQB : Hid (∀ V, Below W5.heap.size W5 V → Calls Try.prog 16 #[.slice Aa G.length ca, .slice Ab G.length cb] V fun e w' => e = .returned (.bool true) ∧ Below V.heap.size V w') := Lib.hid fun V hV => refSameT ((NA4.out.below hb5).below hV) ((NB4.out.below hb5).below hV) (by omega) HGI.out
          have FQC : Hid (∀ V, Below W5.heap.size W5 V → Calls Try.prog 16 #[.slice Aa G.length ca, .slice Ac G.length cc] V fun e w' => e = .returned (.bool true) ∧ Below V.heap.size V w') := Lib.hid fun V hV => refSameT ((NA4.out.below hb5).below hV) (hn5.below hV) (by omega) HGI.out
          have FLN : Hid (∀ V, Below W5.heap.size W5 V → Calls Try.prog 22 #[.pointer (some ⟨s, 0, none⟩)] V fun e w' => e = .returned (.int .i64 (len1 : Int)) ∧ V = w') := Lib.hid fun V hV => by
            have := lenD (I15.out.below hV)
            rwa [HLN.out] at this
          have G0 := Lib.hid (Below.refl W5.heap.size W5).drew
          have GA := Lib.hid (Below.refl W5.heap.size W5)
          have hq2 : ((len1 : Int) != (len1 : Int)) = false := by simp
          clear hb5 hn5 I14 I24 V4 B4 NA4 NB4 hv5
          gi_upto_region 9 with fail
          gi_cut [83] from 19 (fun t wc => t = .bool false ∧ Below W5.heap.size W5 wc)
          case first =>
            refine wpIn_wide.2 ?_
            go_region_held3 (fun V => V.cell? ⟨w.heap.size, 0, none⟩ = some (.slice a1 len1 cap1)) (go_keep) (first
              | (go_at_call 22; (with_reducible refine (FLN.out _ G2.out).mono ?_); rintro _ U3 ⟨rfl, rfl⟩)
              | (go_at_call 16; (with_reducible refine (FQC.out _ G1.out).mono ?_); rintro _ U2 ⟨rfl, hb⟩; have G2 : Hid (Below W5.heap.size W5 U2) := Lib.hid (G1.out.trans (hb.mono G1.out.size)); have u5 := (V5.out.below G2.out).cl; clear hb)
              | (go_at_call 16; (with_reducible refine (FQB.out _ (by first | exact G0.out | exact GA.out)).mono ?_); rintro _ U1 ⟨rfl, hb⟩; have G1 : Hid (Below W5.heap.size W5 U1) := Lib.hid ((by first | exact G0.out.trans (hb.mono G0.out.size) | exact GA.out.trans (hb.mono GA.out.size))); have v5 := (V5.out.below G1.out).cl; clear hb))
            all_goals
              go_wp2_with fail
              go_meet
              exact ⟨rfl, G2.out⟩
          case rest =>
            obtain ⟨rfl, hb6⟩ := hcut
            obtain ⟨W6, hW6⟩ : ∃ W6, W6 = wc := ⟨_, rfl⟩
            subst hW6
            have V6 := Lib.hid (V5.out.below hb6)
            have FAL := Lib.hid (allD (I15.out.below hb6))
            have B6 := Lib.hid (B5.out.trans (hb6.mono B5.out.size))
            have s6 := hb6.size
            clear hb6 I15 V5 B5 FQB FQC FLN G0 GA c5 hq hq2 FT FM
            gi_wp2_with fail
            refine ⟨trivial, ?_⟩
            refine (callsIn_wide.2 FAL.out).mono ?_
            rintro _ W9 ⟨rfl, ht9, hb9⟩
            have HT9 := Lib.hid ht9
            have V9 := Lib.hid (V6.out.below hb9)
            have B9 := Lib.hid (B6.out.trans (hb9.mono B6.out.size))
            have s9 := hb9.size
            obtain ⟨D, hD⟩ : ∃ D, D = dim.toNat := ⟨_, rfl⟩
            have HDD := Lib.hid hD
            have hD1 : D ≤ 1024 := by have := HD.out.2.1; omega
            have h19 : W1.heap.size ≤ W9.heap.size := by omega
            have LW : Hid (∀ W, Below W9.heap.size W9 W → Lv W a1 len1 cap1 L) := Lib.hid fun W hW => HL.out.below (B9.out.trans (hW.mono B9.out.size))
            clear ht9 hb9 FAL V6 B6 hD
            gi_wp2
            refine range_keeps (n := 6) rfl (by omega) (gf := 33) (lb := #[.pointer (some ⟨W6.heap.size, 0, none⟩)]) rfl trivial (enters_of Try.func33 (by kernel_rfl) rfl)
              (fun k W => W9.heap.size + 2 ≤ W.heap.size ∧ Below W9.heap.size W9 W)
              (fun k vs W => ∃ g x, vs = #[.int .i64 (k : Int), .slice (some ⟨g, 0, none⟩) D D] ∧ L[k]? = some x ∧ W9.heap.size + 2 ≤ g ∧ Blk W g x ∧ Below W9.heap.size W9 W)
              (fun W => W9.heap.size + 2 ≤ W.heap.size ∧ Below W9.heap.size W9 W)
              (fun _ _ => False)
              (fun vs t => (((t.setIfInBounds 86 (vs.getD 0 undef)).setIfInBounds 87 (vs.getD 1 undef)).setIfInBounds 17 (vs.getD 0 undef)).setIfInBounds 18 (vs.getD 1 undef))
              (fun k W W' h ho => ⟨by rw [ho.size]; exact h.1, off_below h.2 ho⟩) (fun k vs W W' h ho => by obtain ⟨g, x, h1, h2, h3, h4, h5⟩ := h; exact ⟨g, x, h1, h2, h3, (ho.block g (by omega)).trans h4, off_below h5 ho⟩) (fun W W' h ho => ⟨by rw [ho.size]; exact h.1, off_below h.2 ho⟩)
              (fun c W W' h hb => h) (fun k vs W h => by obtain ⟨g, x, h1, -⟩ := h; rw [h1]; rfl)
              (fun W hb hs => ⟨by omega, hb⟩) ?iter ?assign ?body ?done ?stop
            case iter =>
              intro y Kk Y hKk hY W hI hKW
              refine iterD (m := 4) HT9.out (by omega) (fun k W => W9.heap.size + 2 ≤ W.heap.size ∧ Below W9.heap.size W9 W) Kk Y (fun k W h => ⟨h.2.size, fun q hq => h.2.block q (HT9.out.lt q hq)⟩) (fun V V' h hb => hKk V V' h (kf_kept (Kept.of_below (S := fun _ => False) hb) (fun k h => h.elim))) ?_ W hI hKW
              rintro k x g1 V V' hx ⟨hr1, hr2⟩ hb hg hk hKV
              rw [← HDD.out]
              refine (hY k _ V' ⟨g1, x, rfl, hx, by omega, hk, hr2.trans (hb.mono hr2.size)⟩ hKV)
            case assign =>
              rintro y k vs W KK ⟨g, x, rfl, -⟩ hKK
              gi_wp2
              exact hKK
            case body =>
              rintro y k vs W ⟨g, x, rfl, hx, hge, hbk, hbe⟩
              have hlw := LW.out W hbe
              obtain ⟨b, off, rfl, hb, A', n', c', x1, hv, hn'⟩ := hlw.at_ k x hx
              have hkl : k < len1 := by rw [← HLN.out]; exact (List.getElem?_eq_some_iff.1 hx).1
              have hcl := (V9.out.below hbe).cl
              have hchk := HD.out.2.2 x (List.mem_of_getElem? hx)
              obtain ⟨Z1, hZ1⟩ : ∃ Z1, Z1 = (W.alloc (.cells #[.slice (some ⟨g, 0, none⟩) D D] 55)).alloc (.cells #[.slice A' n' c'] 55) := ⟨_, rfl⟩
              have bz : Below W.heap.size W Z1 := by rw [hZ1]; exact ((Below.refl _ _).alloc (Nat.le_refl _) _).alloc (by simp) _
              have r1 : Z1.heap[W.heap.size]? = some (.cells #[.slice (some ⟨g, 0, none⟩) D D] 55 (0, 0)) := by
                rw [hZ1, Below.heap_alloc _ _ _ (by simp)]; exact heap_alloc_new W _
              have r2 : Z1.heap[W.heap.size + 1]? = some (.cells #[.slice A' n' c'] 55 (0, 0)) := by
                have h := heap_alloc_new (W.alloc (.cells #[.slice (some ⟨g, 0, none⟩) D D] 55)) (.cells #[.slice A' n' c'] 55)
                rw [show (W.alloc (.cells #[.slice (some ⟨g, 0, none⟩) D D] 55)).heap.size = W.heap.size + 1 from by simp] at h
                rw [hZ1]; exact h
              have hvD : Vec Z1 (some ⟨g, 0, none⟩) D x := (show Vec W (some ⟨g, 0, none⟩) D x from by rw [HDD.out]; exact hbk.vecD hchk).below bz
              have hxl : x.length ≤ 10000 := by have := hvD.length; omega
              have FSM := Lib.hid (refSameD (lv_one r1 hvD (by unfold maxLen; omega)) (lv_one r2 (hv.below bz) hn') (by omega) (by intro l hl; rw [List.mem_singleton] at hl; subst hl; exact hxl))
              have hcl2 : (W.alloc (.cells #[.slice (some ⟨g, 0, none⟩) D D] 55)).cell? ⟨w.heap.size, 0, none⟩ = some (.slice (some ⟨b, off, none⟩) len1 cap1) := by rw [World.cell?_alloc_some _ _ _ (by rw [hcl]; rfl), hcl]
              have x2 : (W.alloc (.cells #[.slice (some ⟨g, 0, none⟩) D D] 55)).cell? ⟨b, off + k, none⟩ = some (.slice A' n' c') := by rw [World.cell?_alloc_some _ _ _ (by rw [x1]; rfl), x1]
              have HZ1 := Lib.hid hZ1
              have BZ := Lib.hid bz
              have HBE := Lib.hid hbe
              have hle := hbe.size
              have hgW := lt_of_block hbk
              generalize hP : leftBy W9.heap.size _ _ W = Pst
              have HP := Lib.hid hP
              clear hlw hv hn' hchk hZ1 bz r1 r2 hvD hxl hx hbk hbe hb hP
              gi_wp2_with fail
              rw [← HZ1.out]
              refine ⟨trivial, ?_⟩
              refine (callsIn_wide.2 FSM.out).mono ?_
              rintro _ _ ⟨rfl, m, rfl⟩
              have BZm := Lib.hid (bdrew BZ.out m)
              gi_wp2
              rw [← HP.out]
              exact ⟨kf_kept (Kept.of_below (S := fun _ => False) BZm.out) (fun k h => h.elim), by have := BZm.out.size; omega, HBE.out.trans (BZm.out.mono HBE.out.size)⟩
            case done =>
              rintro Dd W rfl hE hKd
              have hv := V9.out.below hE.2
              have cr := hv.cr
              have fr := hv.fr
              have HR9 := Lib.hid (one_set (u := .bool true) hv.r0)
              have hw9 := lt_of_block V9.out.r0
              have HWW := Lib.hid (B9.out.trans (hE.2.mono B9.out.size))
              have HK9 := Lib.hid (show (W.setCell ⟨w.heap.size + 2, 0, none⟩ (.bool true)).heap[W9.heap.size]? = some (.deferred (some [])) from by rw [Below.heap_setCell _ _ _ _ (show W9.heap.size ≠ w.heap.size + 2 by omega)]; exact hKd)
              have hne : w.heap.size + 2 ≠ W9.heap.size := by omega
              clear hv hE hKd
              gi_wp2
              refine ⟨by simp, .inl ⟨_, _, rfl, run_takeDeferred HK9.out, ?_⟩⟩
              refine ⟨_, result_bool rfl _ _ (w.heap.size + 2) true rfl ?_, rfl, (HWW.out.setCell (p := ⟨w.heap.size + 2, 0, none⟩) (by show w.heap.size ≤ w.heap.size + 2; omega) _).trans (below_put (by omega) _)⟩
              rw [cell_of_row _ _ _ _ _ _ ((World.putObj_heap_other hne).trans HR9.out)]
              rfl
            case stop => rintro D c W hD h; exact h.elim
theorem own : ownKnob Try.prog.godebug = none := by kernel_rfl
theorem laidOut : laidOutB Try.prog = true := by kernel_rfl
set_option maxRecDepth 100000 in
theorem lifted (os : Os) (started : os.Started) (H : Type) (enc : TypeId × Value → H) :
    ReturnsInHanded {} Try.checked os 7 .any (Rows.growStaysSpec.pre6 enc Try.prog Try.f7 Rows.growStaysRow.domain false) (Rows.growStaysSpec.post enc Try.prog Try.f7 false true false false) := by
  refine returnsInHanded_of_change (C := Try.checked) own started (by kernel_rfl) Try.func7
    (ChangeSpec.witness6 (enc := enc) (C := Try.checked) false ⟨#[], #[.int .i64 0, .slice none 0 0, .agg #[.int .i64 0, .int .i64 0, .int .i64 0, .bool false, .int .u64 0, .slice none 0 0], .int .u64 0], []⟩ 8 (by kernel_rfl) (by kernel_rfl) (by kernel_rfl) (by kernel_rfl)) ?_
  intro W base args ds gs before hval0 hW hcnd _
  have hval : ∀ (j : Nat) t v, Try.f7.params[j]? = some t → args[j]? = some v → Value.okWide Try.prog W .any base t v := hval0
  have hW' := hW
  obtain ⟨p, q, hA0, hV, rfl, hfz, hnd⟩ := hW
  have hA : DataW.TrodAll enc Try.prog W 0 (fun _ => true) true Try.f7.params.toList args.toList ds p := hA0
  rw [Try.params7] at hA hval
  obtain ⟨v0, vs0, d0, ds0, p0, q0, hargs, rfl, rfl, h0, r0⟩ := trodAll_cons hA
  obtain ⟨v1, vs1, d1, ds1, p1, q1, rfl, rfl, rfl, h1, r1⟩ := trodAll_cons r0
  obtain ⟨v2, vs2, d2, ds2, p2, q2, rfl, rfl, rfl, h2, r2⟩ := trodAll_cons r1
  obtain ⟨v3, vs3, d3, ds3, p3, q3, rfl, rfl, rfl, h3, r3⟩ := trodAll_cons r2
  obtain ⟨rfl, rfl, rfl⟩ := trodAll_nil r3
  obtain rfl : args = #[v0, v1, v2, v3] := by cases args; simp_all
  obtain ⟨rfl, rfl⟩ := trodVars_none hV
  obtain ⟨a0, rfl, rfl, rfl, w0⟩ := open_int Try.underlying3 (hval 0 3 v0 rfl rfl) h0
  obtain ⟨a1, len1, cap1, rfl⟩ := okWide_slice Try.underlying22 (hval 1 22 v1 rfl rfl)
  have k1 := h1
  have lt1 : ∀ x ∈ p1, x.block < W.heap.size := by obtain ⟨m, hm⟩ := k1; exact DataW.trod_lt m _ _ _ hm
  obtain ⟨z1, w1⟩ : ∃ L, Lv W a1 len1 cap1 L := by
    obtain ⟨fuel, hf⟩ := h1
    rcases Go.Deep.open_int_rows Try.underlying22 Try.underlying55 Try.underlying21 (by kernel_rfl) (by kernel_rfl) hf with ⟨hcs, _⟩ | ⟨x, l, c, _, _, _, _, hcs, _, hl, _, _, hx⟩
    · simp [Value.cells] at hcs
      obtain ⟨rfl, rfl, rfl⟩ := hcs
      exact ⟨[], Lv.nil_ _⟩
    · simp [Value.cells] at hcs
      obtain ⟨rfl, rfl, rfl⟩ := hcs
      exact ⟨_, Lv.of_rows hl hx⟩
  have k2 := h2
  have lt2 : ∀ x ∈ p2, x.block < W.heap.size := by obtain ⟨m, hm⟩ := k2; exact DataW.trod_lt m _ _ _ hm
  obtain ⟨tr2, lf2, dp2, sc2, sd2, a2, len2, cap2, g2⟩ := params_open (hval 2 28 v2 rfl rfl) h2
  subst g2
  have w2 := trivial
  obtain ⟨a3, rfl, rfl, rfl, w3⟩ := open_int Try.underlying23 (hval 3 23 v3 rfl rfl) h3
  clear hA0 hval0
  refine (walk a0 a1 len1 cap1 z1 tr2 lf2 dp2 sc2 sd2 a2 len2 cap2 a3 W w0 w1 w2 w3).mono fun e W' ⟨he, bel⟩ => ?_
  subst he
  exact ⟨_, rfl, _, _, _, [], _, [], hW', trodAll_mk1 (shut_bool Try.underlying4 _), (trodAll_cons_mk (shut_int Try.underlying3 w0) (trodAll_cons_mk (Below.trod laidOut (by kernel_rfl) (of_decide_eq_true (by kernel_rfl)) k1 bel lt1) (trodAll_cons_mk (Below.trod laidOut (by kernel_rfl) (of_decide_eq_true (by kernel_rfl)) k2 bel lt2) (trodAll_cons_mk (shut_int Try.underlying23 w3) trodAll_mk0)))), rfl, bel.frame _, fun h => by cases h⟩
theorem over : Rows.growStaysRow.holds Try.pinned (OpenSpec.ofChange Rows.growStaysSpec) :=
  OpenClaim.holds_of_wide 7 Try.f7 rfl rfl rfl rfl rfl rfl rfl ⟨rfl, rfl, rfl, rfl, rfl⟩ rfl rfl rfl rfl rfl (by kernel_rfl) Try.func7 (by kernel_rfl)
    (of_decide_eq_true (by kernel_rfl)) (by unfold Func.isWrapper; first | (rw [if_pos (by decide +kernel)]; kernel_rfl) | (rw [if_neg (by decide +kernel)]; exact ⟨rfl, rfl⟩))
    (fun os started H enc _ => lifted os started H enc)
/-- the statement -/
theorem proved : Rows.GrowStaysSaid := over
#print axioms proved
end Go.Proofs.Ytafkbagjjknhlaa.growStays
