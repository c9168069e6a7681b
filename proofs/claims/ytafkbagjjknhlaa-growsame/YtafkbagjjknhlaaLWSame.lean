/-
  GrowSame holds for every input: items that are all the same are halved again and again: as many leaves of as few, whatever is drawn. No condition.
-/
import Derived.Test.YtafkbagjjknhlaaWAwk
import Derived.Test.YtafkbagjjknhlaaWArg
import Derived.ProofKit
import Derived.Lib.SmallJoins
import Derived.OpenShut
import Derived.ShutString
import Derived.ChangeOld
import Derived.WalkSmall
import Derived.Deep.RegionHeld3
namespace Go.Proofs.Ytafkbagjjknhlaa.growSame
open Go.ChangeShapes Go.WideShapes Go.ChangeAt Go.RowKit Go.Joins
open Go.ChangeMaps (open_string shut_string)
set_option linter.unusedVariables false

theorem u64_in {n : Int} (h : (Lit.int .u64 n).wf = true) : 0 ≤ n ∧ n < 18446744073709551616 := by have := bounds_u64 h; omega
theorem u8_bd {n : Int} (h : (Lit.int .u8 n).wf = true) : 0 ≤ n ∧ n ≤ 255 := by have := bounds_u8 h; omega
theorem rep_succ {α : Type} (k : Nat) (x : α) : List.replicate (k + 1) x = List.replicate k x ++ [x] := List.replicate_succ'
theorem vl_rep {w : World} {A : Option Addr} {n c : Nat} {l : List Int} (h : Vec w A n l) (hn : n ≤ maxLen) (k : Nat) : Vl w (List.replicate k (.slice A n c)) (List.replicate k l) := by
  induction k with
  | zero => exact Vl.nil w
  | succ k ih => rw [rep_succ, rep_succ]; exact ih.snoc h hn
theorem item_rep {N : Nat} {v : List Int} : ∀ x ∈ Wm.upto N, Zm.item (List.replicate N v) x = v := fun x hx => by
  obtain ⟨h0, h1⟩ := Wm.upto_in hx
  obtain ⟨k, rfl⟩ : ∃ k : Nat, x = k := ⟨x.toNat, by omega⟩
  rw [Zm.item_in (by simp; omega)]; simp
theorem held_take {T : List Wm.Nd} {k : Nat} {t : Wm.Nd} (h : T[k]? = some t) : Wm.held (T.take (k + 1)) = Wm.held (T.take k) ++ t.ids := by
  rw [List.take_add_one, h]
  simp [Wm.held]
theorem held_at {T : List Wm.Nd} {k j : Nat} {t : Wm.Nd} (h : T[k]? = some t) (hj : j < t.ids.length) : t.ids[j]? = (Wm.held T)[(Wm.held (T.take k)).length + j]? := by
  have h1 : Wm.held T = Wm.held (T.take (k + 1)) ++ Wm.held (T.drop (k + 1)) := by rw [← Wm.held_append, List.take_append_drop]
  rw [h1, held_take h, List.append_assoc, List.getElem?_append_right (by omega), List.getElem?_append_left (by omega)]
  congr 1
  omega
theorem upto_get {n p : Nat} (h : p < n) : (Wm.upto n)[p]? = some (p : Int) := by
  unfold Wm.upto
  rw [List.getElem?_map, List.getElem?_range h]; rfl
theorem held_le {T : List Wm.Nd} (k : Nat) : (Wm.held (T.take k)).length ≤ (Wm.held T).length := by
  have h1 : Wm.held T = Wm.held (T.take k) ++ Wm.held (T.drop k) := by rw [← Wm.held_append, List.take_append_drop]
  rw [h1, List.length_append]; omega

/-- what is known of a tree of items that are all the same -/
structure Sm (T : List Wm.Nd) (M lim : Nat) : Prop where
  held : Wm.held T = Wm.upto M
  few : ∀ t ∈ T, t.leaf = true → t.ids.length ≤ lim
  bare : ∀ t ∈ T, t.leaf = false → t.ids = []
  len : T.length ≤ 1000 ∧ 0 < T.length

theorem tr_bare {lim r p k dp : Nat} {ids : List Int} {T : List Wm.Nd} (h : Wm.Tr lim r ids p T k dp) : ∀ t ∈ T, t.leaf = false → t.ids = [] := by
  induction h with
  | leaf h => intro t ht hl; rw [List.mem_singleton] at ht; subst ht; cases hl
  | node h hp hl hg h2 h8 a b iha ihb =>
    intro t ht hlf
    rcases List.mem_cons.1 ht with rfl | ht
    · rfl
    rcases List.mem_append.1 ht with ht | ht
    · exact iha t ht hlf
    · exact ihb t ht hlf
theorem sm_tree (v : List Int) (d M P : Nat) (f0 : Nat → Int) (hM : M + 1 ≤ 60) : ∃ T, (∀ f, (growT (List.replicate (M + 1) v) (d : Int) (P + 1) 64 f).1 = T) ∧ Sm T (M + 1) (P + 1) := by
  have hs := fun f => Wm.same_tree (L := List.replicate (M + 1) v) (v := v) (d := d) (lim := P + 1) (by omega) 64 (Wm.upto (M + 1)) 0 f0 f item_rep
  obtain ⟨dp, ht⟩ := Wm.grow_tr (L := List.replicate (M + 1) v) (d := d) (lim := P + 1) (by omega) 64 (Wm.upto (M + 1)) 0 f0
  refine ⟨(Wm.grow (List.replicate (M + 1) v) d (P + 1) 64 (Wm.upto (M + 1)) 0 f0).1, fun f => ?_, (hs f0).2.1, fun t hm hl => (hs f0).2.2 (by rw [Wm.upto_length]; exact Nat.le_trans hM (by decide)) t hm hl, tr_bare ht, ?_⟩
  · unfold growT
    rw [List.length_replicate, Int.toNat_natCast]
    exact (hs f).1.symm
  · have h1 := ht.twice
    have h2 := ht.few (by rw [Wm.upto_length]; omega)
    have h3 := ht.pos
    rw [Wm.upto_length] at h2
    omega

set_option maxHeartbeats 3200000 in
set_option maxRecDepth 100000 in
theorem good_walk (a0 : Option Addr) (len0 cap0 : Nat) (v : List Int) (n lf : Int) (a3 : Option Addr) (len3 cap3 : Nat) (ds : List Int) (w : World) (V : Hid (Vec w a0 len0 v)) (h0 : len0 ≤ 50) (n0 : 0 ≤ n) (n1 : n ≤ 255) (l0 : 0 ≤ lf) (l1 : lf ≤ 255) (D1 : Hid (Lst w w.heap.size a3 len3 (ds.map (Value.int .u64)))) (D4 : Hid (∀ x ∈ ds, 0 ≤ x ∧ x < 18446744073709551616)) (D5 : Hid (a3 = none → cap3 = 0)) (h3 : len3 ≤ 500) :
    Calls Try.prog 5 #[.slice a0 len0 cap0, .int .u8 n, .int .u8 lf, .slice a3 len3 cap3] w fun e w' => e = .returned (.bool true) ∧ Below w.heap.size w w' := by
  obtain ⟨iv, gi, gz0, gz1, gz2⟩ := info_parts Try.infoV
  obtain ⟨M, hM⟩ : ∃ M : Nat, n.tmod 60 = (M : Int) := ⟨(n % 60).toNat, by rw [Int.tmod_eq_emod_of_nonneg (by omega)]; omega⟩
  have hM60 : M < 60 := by have : n.tmod 60 = n % 60 := Int.tmod_eq_emod_of_nonneg (by omega); omega
  obtain ⟨P, hP⟩ : ∃ P : Nat, lf.tmod 9 = (P : Int) := ⟨(lf % 9).toNat, by rw [Int.tmod_eq_emod_of_nonneg (by omega)]; omega⟩
  have hP9 : P < 9 := by have : lf.tmod 9 = lf % 9 := Int.tmod_eq_emod_of_nonneg (by omega); omega
  go_enter Try.func5, Try.ntmps5
  go_wp2_with fail
  refine (awakeW _).mono ?_
  rintro e w1 ⟨rfl, hb1⟩
  have B1 := Lib.hid hb1
  clear hb1
  go_wp2_with fail
  go_loopw [9, 10] (fun l i wr => ∃ k : Nat, k ≤ M + 1 ∧ i = .int .i64 k ∧ wr.ownsRow w1.heap.size 55 1 l k (List.replicate k (.slice a0 len0 cap0)) ∧ Below w1.heap.size w1 wr) (fun _ i _ => M + 1 - (intOf i).toNat)
  case atStart => exact ⟨0, by omega, rfl, World.ownsRow_nil _ _ _ _, Below.refl _ _⟩
  case round =>
    obtain ⟨k, hk, rfl, ol, hb⟩ := hrel
    have OL := Lib.hid ol
    have HB := Lib.hid hb
    have hsz := hb.size
    clear ol hb
    by_cases hlt : k < M + 1
    · go_wp2_with (at_builtin; refine wpList_append_own _ rfl (.tmp 39) (.tmp 41) 22 rfl w1.heap.size 55 iv (.slice none 0 0) 1 24 Try.underlying22 gi gz0 gz1 gz2 rfl (by decide) u9 k (List.replicate k (.slice a0 len0 cap0)) rfl (OL.out.alloc _) ⟨wr.heap.size, 0, none⟩ 1 1 [.slice a0 len0 cap0] rfl rfl (World.news_of_block (heap_alloc_new wr _)) (by intro u hu; simp at hu; subst hu; rfl) (by unfold maxLen; omega) (by omega) (by simp; omega) ?_; intro vA wA hownA hgA _; have OA := Lib.hid hownA; have BA := Lib.hid ((HB.out.alloc hsz (.cells #[.slice a0 len0 cap0] 55)).grown hgA (by simp; omega) (own_block OL.out)); clear hownA hgA)
      refine ⟨⟨k + 1, by omega, by go_num, ?_, BA.out⟩, by simp [intOf]; omega⟩
      rw [rep_succ]; exact OA.out
    · obtain rfl : k = M + 1 := by omega
      obtain ⟨AL, cL, rfl, hAL, hcL⟩ := own_form OL.out
      have LV := Lib.hid (Lv.of_own OL.out (vl_rep (V.out.below (B1.out.trans (HB.out.mono B1.out.size))) (by unfold maxLen; omega) (M + 1)))
      have BWR := Lib.hid (B1.out.trans (HB.out.mono B1.out.size))
      clear OL HB B1 gi gz0 gz1 gz2
      by_cases hck : Dm.chks (len0 : Int) (List.replicate (M + 1) v) = 0
      case neg =>
        obtain ⟨p, hp⟩ : ∃ p, Dm.chks (len0 : Int) (List.replicate (M + 1) v) = p := ⟨_, rfl⟩
        have q := ne_bool hck
        rw [hp] at q
        have HP := Lib.hid hp
        have HC := Lib.hid hck
        clear hp hck
        go_wp2_with fail
        refine (ofD_no LV.out (by omega) _ HC.out).mono ?_
        rintro _ w2 ⟨rfl, hb⟩
        rw [HP.out]
        have B2 := Lib.hid (BWR.out.trans (hb.mono BWR.out.size))
        clear hb
        go_wp2
        go_ret
        exact ⟨rfl, B2.out⟩
      have HC := Lib.hid hck
      clear hck
      go_wp2_with fail
      refine (ofD LV.out (by omega) _ HC.out).mono ?_
      rintro _ w2 ⟨s, S, rfl, hit, hSn, hb2⟩
      have HI := Lib.hid hit
      have B2 := Lib.hid (BWR.out.trans (hb2.mono BWR.out.size))
      obtain ⟨E, hE⟩ : ∃ E, E = w2.alloc (.cells #[.int .i64 1, .int .i64 ((P : Int) + 1), .int .i64 64, .bool false, .int .u64 0, .slice none 0 0] 28) := ⟨_, rfl⟩
      have bE : Below w2.heap.size w2 E := by rw [hE]; exact (Below.refl _ _).alloc (Nat.le_refl _) _
      have hp : Prx E w2.heap.size 1 ((P : Int) + 1) 64 false 0 none 0 0 := by rw [hE]; exact Prx.new w2 _ _ _ _ _ _ _ _
      have PE := Lib.hid hp
      have IE := Lib.hid (HI.out.below bE)
      have BE := Lib.hid (B2.out.trans (bE.mono B2.out.size))
      have sE : E.heap.size = w2.heap.size + 1 := by rw [hE]; simp
      have q0 := hp.c0
      have q1 := hp.c1
      have q2 := hp.c2
      have q3 := hp.c3
      have q4 := hp.c4
      have q5 := hp.c5
      have HE := Lib.hid hE
      have FS : Hid (∀ V, Below E.heap.size E V → Calls Try.prog 11 #[.slice a3 len3 cap3] V fun e w' => ∃ b, e = .returned (.iface 72 (.pointer (some ⟨b, 0, none⟩))) ∧ Bas 72 w' V.heap.size w'.heap.size b (lstF ds) ∧ Below E.heap.size E w') := Lib.hid fun V hV =>
        (script_new a3 len3 cap3 ds V ((D1.out.below (BE.out.trans (hV.mono BE.out.size))).more ((BE.out.trans (hV.mono BE.out.size)).size)) D5.out (by omega) D4.out).mono fun _ _ ⟨b, h1, h2, h3⟩ => ⟨b, h1, h2, hV.trans (h3.mono hV.size)⟩
      clear hit hSn hb2 bE hE hp
      have G0 := Lib.hid (Below.refl E.heap.size E).drew
      have GA := Lib.hid (Below.refl E.heap.size E)
      obtain ⟨T, hT, hSm⟩ := sm_tree v len0 M P (lstF ds) (by omega)
      have SM := Lib.hid hSm
      have FT : Hid (∀ V b lo (f : Nat → Int) t, Below E.heap.size E V → E.heap.size ≤ lo → Src t V lo V.heap.size b f 0 → Calls Try.prog 12 #[.pointer (some ⟨s, 0, none⟩), .agg #[.int .i64 1, .int .i64 ((P : Int) + 1), .int .i64 64, .bool false, .int .u64 0, .slice none 0 0], .iface t (.pointer (some ⟨b, 0, none⟩))] V fun e w' => ∃ A' c',
          e = .returned (.tuple #[.slice A' T.length c', .int .i64 0]) ∧ Nds (fun k => V.heap.size ≤ k) w' A' T.length c' T ∧ Below E.heap.size E w' ∧ Prx w' w2.heap.size 1 ((P : Int) + 1) 64 false 0 none 0 0 ∧ ∀ D, Below D.heap.size D V → D.heap.size ≤ lo → Below D.heap.size D w') := Lib.hid fun V b lo f t hV hlo hr => by
        have h := treeW (tr := 1) (sd := 0) (sc := false) (pA := none) (pn := 0) (pc := 0) (lim := P + 1) (dp := 64) (IE.out.below hV) (lo := lo) (hi := V.heap.size) (fun k hk => .inl (by have := IE.out.lt k hk; omega)) hr (by omega) (by rw [List.length_replicate]; omega) (by rw [List.length_replicate]; omega) (by unfold Wm.chk; rw [if_neg (by omega), if_neg (by omega)])
        refine h.mono ?_
        rintro e w' ⟨A', c', h1, h2, -, h4⟩
        rw [hT f] at h1 h2
        exact ⟨A', c', h1, h2, hV.trans (h4.old (B := E.heap.size) hV.size hlo), (PE.out.below hV).btw (.inl (by omega)) h4, fun D hD hlo' => hD.trans (h4.old (B := D.heap.size) hD.size hlo')⟩
      have hT1 := hSm.len
      clear hT hSm
      go_wp2_with fail
      rw [← HE.out]
      go_region_held3 (fun V => V.cell? ⟨w2.heap.size, 0, none⟩ = some (.int .i64 1) ∧ V.cell? ⟨w2.heap.size, 1, none⟩ = some (.int .i64 ((P : Int) + 1)) ∧ V.cell? ⟨w2.heap.size, 2, none⟩ = some (.int .i64 64) ∧ V.cell? ⟨w2.heap.size, 3, none⟩ = some (.bool false) ∧ V.cell? ⟨w2.heap.size, 4, none⟩ = some (.int .u64 0) ∧ V.cell? ⟨w2.heap.size, 5, none⟩ = some (.slice none 0 0)) (go_keep) (first
        | (go_at_call 11; (with_reducible refine (FS.out _ (by first | exact G0.out | exact GA.out)).mono ?_); rintro _ Y1 ⟨b, rfl, hbas, hby⟩; have hpx := PE.out.below hby; have u0 := hpx.c0; have u1 := hpx.c1; have u2 := hpx.c2; have u3 := hpx.c3; have u4 := hpx.c4; have u5 := hpx.c5; have FT1 := Lib.hid (FT.out Y1 b _ (lstF ds) _ hby (by first | exact G0.out.size | exact GA.out.size) (.inl hbas)); clear hbas hby hpx)
        | (go_at_call 12; (with_reducible refine FT1.out.mono ?_); rintro _ Y2 ⟨At, ct, rfl, hnt, hby, hpx, -⟩; have v0 := hpx.c0; have v1 := hpx.c1; have v2 := hpx.c2; have v3 := hpx.c3; have v4 := hpx.c4; have v5 := hpx.c5; have HPY := Lib.hid hpx; have NT := Lib.hid hnt; have HBY := Lib.hid hby; clear hnt hby hpx))
      clear q0 q1 q2 q3 q4 q5 u0 u1 u2 u3 u4 u5 FT1 G0 GA FS HE
      have FM : Hid (∀ V, Below Y2.heap.size Y2 V → Calls Try.prog 18 #[.int .u64 n] V fun e w' => ∃ b, e = .returned (.iface 80 (.pointer (some ⟨b, 0, none⟩))) ∧ Bas 80 w' V.heap.size w'.heap.size b (Rm.mixAt n) ∧ Below Y2.heap.size Y2 w') := Lib.hid fun V hV =>
        (mix_new n V n0 (by omega)).mono fun _ _ ⟨b, h1, h2, h3⟩ => ⟨b, h1, h2, hV.trans (h3.mono hV.size)⟩
      have hwn : IntKind.u64.wrap n = n := IntWalk.u64_in n ⟨n0, by omega⟩
      have G2 := Lib.hid (Below.refl Y2.heap.size Y2).drew
      have GB := Lib.hid (Below.refl Y2.heap.size Y2)
      go_wp2_with fail
      go_region_held3 (fun V => V.cell? ⟨w2.heap.size, 0, none⟩ = some (.int .i64 1) ∧ V.cell? ⟨w2.heap.size, 1, none⟩ = some (.int .i64 ((P : Int) + 1)) ∧ V.cell? ⟨w2.heap.size, 2, none⟩ = some (.int .i64 64) ∧ V.cell? ⟨w2.heap.size, 3, none⟩ = some (.bool false) ∧ V.cell? ⟨w2.heap.size, 4, none⟩ = some (.int .u64 0) ∧ V.cell? ⟨w2.heap.size, 5, none⟩ = some (.slice none 0 0)) (go_keep) (first
        | (go_at_call 18; (with_reducible refine (FM.out _ (by first | exact G2.out | exact GB.out)).mono ?_); rintro _ Y3 ⟨b3, rfl, hbas, hby⟩; have hpx := HPY.out.below hby; have u0 := hpx.c0; have u1 := hpx.c1; have u2 := hpx.c2; have u3 := hpx.c3; have u4 := hpx.c4; have u5 := hpx.c5; have FT1 := Lib.hid (FT.out Y3 b3 _ (Rm.mixAt n) _ (HBY.out.trans (hby.mono HBY.out.size)) (Nat.le_trans HBY.out.size (by first | exact G2.out.size | exact GB.out.size)) (.inl hbas)); have HB3 := Lib.hid hby; clear hbas hby hpx)
        | (go_at_call 12; (with_reducible refine FT1.out.mono ?_); rintro _ Y4 ⟨Au, cu, rfl, hnt, hby, hpx, hD⟩; have x0 := hpx.c0; have x1 := hpx.c1; have x2 := hpx.c2; have x3 := hpx.c3; have x4 := hpx.c4; have x5 := hpx.c5; have HPZ := Lib.hid hpx; have NU := Lib.hid hnt; have HBZ := Lib.hid (hD Y2 HB3.out (by first | exact G2.out.size | exact GB.out.size)); clear hnt hby hpx hD))
      have NT4 := Lib.hid (NT.out.below HBZ.out)
      have FQ := Lib.hid (refSameT NT4.out NU.out (by omega) (fun t ht => by
        have h1 := Wm.held_le ht
        rw [SM.out.held, Wm.upto_length] at h1
        omega))
      have hT2 : T.length ≠ 0 := by omega
      have hT3 : ((T.length : Int) == 0) = false := by rw [beq_eq_false_iff_ne]; omega
      have s4 := HBZ.out.size
      have s3 := HBY.out.size
      have s2 := BE.out.size
      clear x0 x1 x2 x3 x4 x5 u0 u1 u2 u3 u4 u5 v0 v1 v2 v3 v4 v5 FT1 FT FM G2 GB HB3 NU NT hwn IE
      go_wp2_with fail
      refine FQ.out.mono ?_
      rintro _ Y5 ⟨rfl, hb5⟩
      have N5 := Lib.hid (NT4.out.below hb5)
      have P5 := Lib.hid (HPZ.out.below hb5)
      have B5 := Lib.hid ((BE.out.trans (HBY.out.mono BE.out.size)).trans ((HBZ.out.trans (hb5.mono HBZ.out.size)).mono (by have := BE.out.size; have := HBY.out.size; omega)))
      obtain ⟨TN, hTN⟩ : ∃ TN, TN = T.length := ⟨_, rfl⟩
      have HTN := Lib.hid hTN
      rw [← hTN] at hT1 hT2 hT3 N5
      rw [← hTN]
      clear hb5 FQ NT4 HBZ HPZ HPY HBY hTN
      go_wp2
      go_loopw [18, 19] (fun nx i wr => ∃ k : Nat, k ≤ TN ∧ i = .int .i64 k ∧ nx = .int .i64 ((Wm.held (T.take k)).length : Int) ∧ Below Y5.heap.size Y5 wr) (fun _ i _ => TN - (intOf i).toNat)
      case atStart => exact ⟨0, Nat.zero_le _, rfl, rfl, Below.refl _ _⟩
      case round =>
        obtain ⟨k, hk, rfl, rfl, hbr⟩ := hrel
        have HBR := Lib.hid hbr
        have hpr := P5.out.below hbr
        have q1 := hpr.c1
        have hmx : (Wm.held (T.take k)).length ≤ M + 1 := by
          have h1 := held_le (T := T) k
          rw [SM.out.held, Wm.upto_length] at h1
          exact h1
        by_cases hlt : k < TN
        · have hkl : k < T.length := by rw [← HTN.out]; exact hlt
          obtain ⟨t, ht⟩ : ∃ t, T[k]? = some t := ⟨_, List.getElem?_eq_getElem hkl⟩
          have hmem := List.mem_of_getElem? ht
          obtain ⟨b, off, rfl, hb, -, A1, n1', c1, A2, n2, c2, na, a0', a1, -, -, -, -⟩ := (N5.out.below hbr).at_ ht
          have hn1 := na.ids.length
          have HIDS := Lib.hid na.ids
          have HHT := Lib.hid (held_take ht)
          have HAT := Lib.hid (fun j (hj : j < t.ids.length) => held_at ht hj)
          have HBB := Lib.hid hb
          obtain ⟨bs, hbs⟩ : ∃ bs, bs = (Wm.held (T.take k)).length := ⟨_, rfl⟩
          rw [← hbs] at hmx
          rw [← hbs]
          cases hlf : t.leaf with
          | false =>
            have he := SM.out.bare t hmem hlf
            rw [hlf] at a0'
            have hnx : (Wm.held (T.take (k + 1))).length = bs := by rw [HHT.out, he, List.append_nil, ← hbs]
            have HNX := Lib.hid hnx
            clear na a1 ht hmem hpr q1 hbs hnx he hn1 hkl hb hbr
            go_wp2
            exact ⟨⟨k + 1, by omega, by go_num, by rw [HNX.out], HBR.out⟩, by simp [intOf]; omega⟩
          | true =>
            have hfew := SM.out.few t hmem hlf
            rw [hlf] at a0'
            have HNX : Hid ((Wm.held (T.take (k + 1))).length = bs + n1') := Lib.hid (by rw [HHT.out, List.length_append, ← hbs, hn1])
            have hbn : bs + n1' ≤ M + 1 := by
              have h1 := held_le (T := T) (k + 1)
              rw [SM.out.held, Wm.upto_length, HNX.out] at h1
              exact h1
            have HJ : Hid (∀ j, j < n1' → t.ids[j]? = some ((bs + j : Nat) : Int)) := Lib.hid fun j hj => by
              rw [HAT.out j (by rw [hn1]; exact hj), ← hbs, SM.out.held, upto_get (by omega)]
            have hfw : ¬ ((P : Int) + 1) < (n1' : Int) := by omega
            clear na ht hmem hpr hbs hkl hb hbr hfew HAT HHT
            have HA1 := Lib.hid a1
            go_wp2
            go_region
            obtain ⟨WR, hWR⟩ : ∃ WR, WR = wr := ⟨_, rfl⟩
            subst hWR
            have hbw : b < WR.heap.size := HBB.out
            go_wp2
            go_loopw [18, 20] (fun nx i wr => ∃ j : Nat, j ≤ n1' ∧ i = .int .i64 j ∧ nx = .int .i64 ((bs + j : Nat) : Int) ∧ Below WR.heap.size WR wr) (fun _ i _ => n1' - (intOf i).toNat)
            case atStart => exact ⟨0, Nat.zero_le _, rfl, rfl, (Below.refl WR.heap.size WR).drew⟩
            case round =>
              obtain ⟨j, hj, rfl, rfl, hbi⟩ := hrel
              have HBI := Lib.hid hbi
              have a1 := (hbi.cell (p := ⟨b, off + k * 6 + 1, none⟩) hbw).trans HA1.out
              by_cases hlj : j < n1'
              · obtain ⟨b2, o2, rfl, hb2, x0⟩ := (HIDS.out.below hbi).at_ (HJ.out j hlj)
                have hq : (((bs + j : Nat) : Int) != ((bs + j : Nat) : Int)) = false := by simp
                clear hb2 hbi
                go_wp2
                exact ⟨⟨j + 1, by omega, by go_num, by go_num, HBI.out⟩, by simp [intOf]; omega⟩
              · obtain rfl : j = n1' := by omega
                clear hbi
                go_wp2
                exact ⟨⟨k + 1, by omega, by go_num, by rw [HNX.out], HBR.out.trans (HBI.out.mono HBR.out.size)⟩, by simp [intOf]; omega⟩
        · obtain rfl : k = TN := by omega
          have hall : (Wm.held (T.take k)).length = M + 1 := by rw [HTN.out, List.take_length, SM.out.held, Wm.upto_length]
          rw [hall]
          clear hpr q1 hbr
          go_wp2
          go_ret
          exact ⟨by simp, B5.out.trans (HBR.out.mono B5.out.size)⟩

set_option maxRecDepth 100000 in
theorem walk (a0 : Option Addr) (len0 cap0 : Nat) (z0 : List Int) (n lf : Int) (a3 : Option Addr) (len3 cap3 : Nat) (z3 : List Int) (w : World) (w0 : IsRow .i32 w a0 len0 cap0 z0) (w1 : (Lit.int .u8 n).wf = true) (w2 : (Lit.int .u8 lf).wf = true) (w3 : IsRow .u64 w a3 len3 cap3 z3) :
    Calls Try.prog 5 #[.slice a0 len0 cap0, .int .u8 n, .int .u8 lf, .slice a3 len3 cap3] w fun e w' => e = .returned (.bool true) ∧ Below w.heap.size w w' := by
  obtain ⟨v, hV, -, -⟩ := w0.vec
  obtain ⟨n0, n1⟩ := u8_bd w1
  obtain ⟨l0, l1⟩ := u8_bd w2
  obtain ⟨d1, -, -, d4, d5⟩ := w3.lst
  by_cases g0 : 50 < len0
  · go_enter Try.func5, Try.ntmps5
    go_wp2_with fail
    refine (awakeW _).mono ?_
    rintro e w1 ⟨rfl, hb1⟩
    have B1 := Lib.hid hb1
    clear hb1
    go_wp2
    go_ret
    exact ⟨rfl, B1.out⟩
  by_cases g3 : 500 < len3
  · go_enter Try.func5, Try.ntmps5
    go_wp2_with fail
    refine (awakeW _).mono ?_
    rintro e w1 ⟨rfl, hb1⟩
    have B1 := Lib.hid hb1
    clear hb1
    go_wp2
    go_ret
    exact ⟨rfl, B1.out⟩
  exact good_walk a0 len0 cap0 v n lf a3 len3 cap3 (z3.take len3) w (Lib.hid hV) (by omega) n0 n1 l0 l1 (Lib.hid d1) (Lib.hid fun x hx => u64_in (d4 x hx)) (Lib.hid d5) (by omega)
theorem own : ownKnob Try.prog.godebug = none := by kernel_rfl
theorem laidOut : laidOutB Try.prog = true := by kernel_rfl
set_option maxRecDepth 100000 in
theorem lifted (os : Os) (started : os.Started) (H : Type) (enc : TypeId × Value → H) :
    ReturnsInHanded {} Try.checked os 5 .any (Rows.growSameSpec.pre6 enc Try.prog Try.f5 Rows.growSameRow.domain false) (Rows.growSameSpec.post enc Try.prog Try.f5 false true false false) := by
  refine returnsInHanded_of_change (C := Try.checked) own started (by kernel_rfl) Try.func5
    (ChangeSpec.witness6 (enc := enc) (C := Try.checked) false ⟨#[], #[.slice none 0 0, .int .u8 0, .int .u8 0, .slice none 0 0], []⟩ 8 (by kernel_rfl) (by kernel_rfl) (by kernel_rfl) (by kernel_rfl)) ?_
  intro W base args ds gs before hval0 hW hcnd _
  have hval : ∀ (j : Nat) t v, Try.f5.params[j]? = some t → args[j]? = some v → Value.okWide Try.prog W .any base t v := hval0
  have hW' := hW
  obtain ⟨p, q, hA0, hV, rfl, hfz, hnd⟩ := hW
  have hA : DataW.TrodAll enc Try.prog W 0 (fun _ => true) true Try.f5.params.toList args.toList ds p := hA0
  rw [Try.params5] at hA hval
  obtain ⟨v0, vs0, d0, ds0, p0, q0, hargs, rfl, rfl, h0, r0⟩ := trodAll_cons hA
  obtain ⟨v1, vs1, d1, ds1, p1, q1, rfl, rfl, rfl, h1, r1⟩ := trodAll_cons r0
  obtain ⟨v2, vs2, d2, ds2, p2, q2, rfl, rfl, rfl, h2, r2⟩ := trodAll_cons r1
  obtain ⟨v3, vs3, d3, ds3, p3, q3, rfl, rfl, rfl, h3, r3⟩ := trodAll_cons r2
  obtain ⟨rfl, rfl, rfl⟩ := trodAll_nil r3
  obtain rfl : args = #[v0, v1, v2, v3] := by cases args; simp_all
  obtain ⟨rfl, rfl⟩ := trodVars_none hV
  obtain ⟨a0, len0, cap0, rfl⟩ := okWide_slice Try.underlying55 (hval 0 55 v0 rfl rfl)
  have k0 := h0
  have lt0 : ∀ x ∈ p0, x.block < W.heap.size := by obtain ⟨m, hm⟩ := k0; exact DataW.trod_lt m _ _ _ hm
  obtain ⟨z0, w0⟩ : ∃ zs, IsRow .i32 W a0 len0 cap0 zs := by
    obtain ⟨fuel, hf⟩ := h0
    rcases open_ints Try.underlying55 Try.underlying21 (by kernel_rfl) hf with ⟨hcs, _⟩ | ⟨x, l, c, zs, hcs, _, hl, hm, hz, _, hcell, hwz⟩
    · simp [Value.cells] at hcs
      obtain ⟨rfl, rfl, rfl⟩ := hcs
      exact ⟨[], .inl ⟨rfl, rfl, rfl, rfl⟩⟩
    · simp [Value.cells] at hcs
      obtain ⟨rfl, rfl, rfl⟩ := hcs
      exact ⟨zs, .inr ⟨_, rfl, hl, hm, by simpa using hz, hcell, hwz⟩⟩
  obtain ⟨a1, rfl, rfl, rfl, w1⟩ := open_int Try.underlying5 (hval 1 5 v1 rfl rfl) h1
  obtain ⟨a2, rfl, rfl, rfl, w2⟩ := open_int Try.underlying5 (hval 2 5 v2 rfl rfl) h2
  obtain ⟨a3, len3, cap3, rfl⟩ := okWide_slice Try.underlying24 (hval 3 24 v3 rfl rfl)
  have k3 := h3
  have lt3 : ∀ x ∈ p3, x.block < W.heap.size := by obtain ⟨m, hm⟩ := k3; exact DataW.trod_lt m _ _ _ hm
  obtain ⟨z3, w3⟩ : ∃ zs, IsRow .u64 W a3 len3 cap3 zs := by
    obtain ⟨fuel, hf⟩ := h3
    rcases open_ints Try.underlying24 Try.underlying23 (by kernel_rfl) hf with ⟨hcs, _⟩ | ⟨x, l, c, zs, hcs, _, hl, hm, hz, _, hcell, hwz⟩
    · simp [Value.cells] at hcs
      obtain ⟨rfl, rfl, rfl⟩ := hcs
      exact ⟨[], .inl ⟨rfl, rfl, rfl, rfl⟩⟩
    · simp [Value.cells] at hcs
      obtain ⟨rfl, rfl, rfl⟩ := hcs
      exact ⟨zs, .inr ⟨_, rfl, hl, hm, by simpa using hz, hcell, hwz⟩⟩
  clear hA0 hval0
  refine (walk a0 len0 cap0 z0 a1 a2 a3 len3 cap3 z3 W w0 w1 w2 w3).mono fun e W' ⟨he, bel⟩ => ?_
  subst he
  exact ⟨_, rfl, _, _, _, [], _, [], hW', trodAll_mk1 (shut_bool Try.underlying4 _), (trodAll_cons_mk (Below.trod laidOut (by kernel_rfl) (of_decide_eq_true (by kernel_rfl)) k0 bel lt0) (trodAll_cons_mk (shut_int Try.underlying5 w1) (trodAll_cons_mk (shut_int Try.underlying5 w2) (trodAll_cons_mk (Below.trod laidOut (by kernel_rfl) (of_decide_eq_true (by kernel_rfl)) k3 bel lt3) trodAll_mk0)))), rfl, bel.frame _, fun h => by cases h⟩
theorem over : Rows.growSameRow.holds Try.pinned (OpenSpec.ofChange Rows.growSameSpec) :=
  OpenClaim.holds_of_wide 5 Try.f5 rfl rfl rfl rfl rfl rfl rfl ⟨rfl, rfl, rfl, rfl, rfl⟩ rfl rfl rfl rfl rfl (by kernel_rfl) Try.func5 (by kernel_rfl)
    (of_decide_eq_true (by kernel_rfl)) (by unfold Func.isWrapper; first | (rw [if_pos (by decide +kernel)]; kernel_rfl) | (rw [if_neg (by decide +kernel)]; exact ⟨rfl, rfl⟩))
    (fun os started H enc _ => lifted os started H enc)
/-- the statement -/
theorem proved : Rows.GrowSameSaid := over
#print axioms proved
end Go.Proofs.Ytafkbagjjknhlaa.growSame
