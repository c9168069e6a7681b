/-
  Layer 13 (grow): the document's own recursion, by a contract.
-/
import Derived.Test.YtafkbagjjknhlaaWRef
namespace Go.Proofs.Ytafkbagjjknhlaa
open Go.RowKit

theorem own_new6 (W : World) (v0 v1 v2 v3 v4 v5 : Value) : (W.alloc (.cells #[v0, v1, v2, v3, v4, v5] 59)).ownsRow W.heap.size 59 6 (.slice (some ⟨W.heap.size, 0, none⟩) 1 1) 1 [v0, v1, v2, v3, v4, v5] :=
  ⟨rfl, .inr ⟨W.heap.size, 1, #[v0, v1, v2, v3, v4, v5], rfl, Nat.le_refl _, heap_alloc_new W _, Nat.le_refl _, by unfold maxLen; omega, rfl, rfl⟩⟩
theorem nil_in (Pr : Nat → Prop) (A : Option Addr) : Inn Pr 0 A := fun h => absurd h (Nat.lt_irrefl 0)
theorem Out.inn {mm n : Nat} {A : Option Addr} (h : Out mm (mm + 1) n A) : Inn (fun k => k ≠ mm) n A := fun hn b off s e => by have := h hn b off s e; omega
theorem cells_below {B bb ob : Nat} {a w : World} {vs : List Value} (hb : Below B a w) (h : bb < B) (hc : ∀ j u, vs[j]? = some u → a.cell? ((⟨bb, ob, none⟩ : Addr).add j) = some u) : ∀ j u, vs[j]? = some u → w.cell? ((⟨bb, ob, none⟩ : Addr).add j) = some u :=
  fun j u hu => (hb.cell (p := (⟨bb, ob, none⟩ : Addr).add j) (by rw [addr_block]; exact h)).trans (hc j u hu)
section
variable {A : Option Addr} {n c dd mm B lim dp : Nat} {L : List (List Int)} {w0 : World} {tr sd : Int} {sc : Bool} {pA : Option Addr} {pn pc : Nat}
set_option maxRecDepth 100000 in
theorem refGrowL {ids : List Int} {p : Int} {w : World} {dep m c2 : Nat} {A2 : Option Addr} (b : Nat) (h : m ≤ lim ∨ dp ≤ dep) (hs : Sl w A2 m c2 ids) (ho : Out mm (mm + 1) m A2) (hmm : mm < w.heap.size) :
    Calls Try.prog 30 #[.slice A n c, .int .i64 (dd : Int), .agg #[.int .i64 tr, .int .i64 (lim : Int), .int .i64 (dp : Int), .bool sc, .int .u64 sd, .slice pA pn pc], .slice A2 m c2, .int .i64 (dep : Int), .int .i64 p, .pointer (some ⟨b, 0, none⟩)] w fun e w' => ∃ A' c', e = .returned (.slice A' 1 c') ∧ Nds (fun k => k ≠ mm) w' A' 1 c' [Wm.one ids] ∧ Below w.heap.size w w' := by
  obtain ⟨W, hW⟩ : ∃ W, W = w.alloc (.cells #[.int .i64 tr, .int .i64 (lim : Int), .int .i64 (dp : Int), .bool sc, .int .u64 sd, .slice pA pn pc] 28) := ⟨_, rfl⟩
  have hb : Below w.heap.size w W := by rw [hW]; exact (Below.refl _ w).alloc (Nat.le_refl _) _
  have hp : Prx W w.heap.size tr (lim : Int) (dp : Int) sc sd pA pn pc := by rw [hW]; exact Prx.new w _ _ _ _ _ _ _ _
  have k1 := hp.c1
  have k2 := hp.c2
  have hsz := hb.size
  have fin : Nds (fun k => k ≠ mm) (W.alloc (.cells #[.bool true, .slice A2 m c2, .slice none 0 0, .int .i64 0, .int .i64 0, .int .i64 0] 59)) (some ⟨w.heap.size + 1, 0, none⟩) 1 1 [Wm.one ids] ∧
      Below w.heap.size w (W.alloc (.cells #[.bool true, .slice A2 m c2, .slice none 0 0, .int .i64 0, .int .i64 0, .int .i64 0] 59)) := by
    have hb2 : Below W.heap.size W (W.alloc (.cells #[.bool true, .slice A2 m c2, .slice none 0 0, .int .i64 0, .int .i64 0, .int .i64 0] 59)) := (Below.refl _ _).alloc (Nat.le_refl _) _
    have hsW : w.heap.size + 1 = W.heap.size := by rw [hW]; simp
    rw [hsW]
    exact ⟨Nds.of_own (own_new6 W _ _ _ _ _ _) (NdV.one (t := Wm.one ids) ⟨(hs.below hb).below hb2, ho.inn, ⟨Lst.nil _ _ _, by simp [Wm.one]⟩, nil_in _ _, by omega⟩) rfl (fun k hk _ => by omega), hb.trans (hb2.mono hsz)⟩
  have HW := Lib.hid hW
  have FIN := Lib.hid fin
  clear hW hb hp hs ho fin
  by_cases g : m ≤ lim
  · clear h
    go_enter Try.func30, Try.ntmps30
    go_wp2_with fail
    rw [← HW.out]
    clear HW
    go_wp2
    go_ret
    exact ⟨_, _, rfl, FIN.out⟩
  · have g2 : dp ≤ dep := by omega
    clear h
    go_enter Try.func30, Try.ntmps30
    go_wp2_with fail
    rw [← HW.out]
    clear HW
    go_wp2
    go_ret
    exact ⟨_, _, rfl, FIN.out⟩

set_option maxHeartbeats 1600000 in
set_option maxRecDepth 100000 in
theorem refGrow (HLV : Hid (Lv w0 A n c L)) (hmm : w0.heap.size ≤ mm) (hn : n ≤ maxLen) (HLL : Hid (∀ l ∈ L, l.length ≤ 10000)) (hd : dd ≤ 1024) (hlim : 1 ≤ lim) (hdp : dp ≤ 64) :
    ∀ (r : Nat) (ids : List Int) (p : Nat) (f : Nat → Int) (N : Nat) (w : World) (dep : Nat) (A2 : Option Addr) (m c2 : Nat), dep + r = dp → Below w0.heap.size w0 w → Sl w A2 m c2 ids → Out mm (mm + 1) m A2 → 1 ≤ m → m ≤ 100000 → p + 2 * m ≤ 1000000 → Rfs w B mm f N → N + 8 * m ≤ 900000 →
    Calls Try.prog 30 #[.slice A n c, .int .i64 (dd : Int), .agg #[.int .i64 tr, .int .i64 (lim : Int), .int .i64 (dp : Int), .bool sc, .int .u64 sd, .slice pA pn pc], .slice A2 m c2, .int .i64 (dep : Int), .int .i64 (p : Int), .pointer (some ⟨mm, 0, none⟩)] w fun e w' => ∃ A' c',
      e = .returned (.slice A' (Wm.grow L dd lim r ids p f).1.length c') ∧ Nds (fun k => k ≠ mm) w' A' (Wm.grow L dd lim r ids p f).1.length c' (Wm.grow L dd lim r ids p f).1 ∧
      Rfs w' B mm (Rm.dr f (Wm.grow L dd lim r ids p f).2) (N + (Wm.grow L dd lim r ids p f).2) ∧ Btw mm (mm + 1) w w' := by
  obtain ⟨i0, hi, hz0, hz1, hz2⟩ := info_parts Try.infoNode
  intro r
  induction r with
  | zero =>
    intro ids p f N w dep A2 m c2 hr hb0 hs ho h1 hm hp hrf hN
    rw [Wm.grow_leaf (.inr rfl)]
    have hBm : B ≤ mm := by obtain ⟨_, _, _, _, _, _, _, _, _, hB, _⟩ := hrf; exact hB
    have hlt := hrf.lt
    refine (refGrowL mm (.inr (by omega)) hs ho hlt).mono ?_
    rintro _ w' ⟨A', c', rfl, h2, h3⟩
    exact ⟨A', c', rfl, h2, hrf.keep fun k hk => h3.block k (by omega), Btw.of_below h3⟩
  | succ r ih =>
    intro ids p f N w dep A2 m c2 hr hb0 hs ho h1 hm hp hrf hN
    have hBm : B ≤ mm := by obtain ⟨_, _, _, _, _, _, _, _, _, hB, _⟩ := hrf; exact hB
    have hlt := hrf.lt
    have hlen := hs.length
    by_cases hle : m ≤ lim
    · rw [Wm.grow_leaf (.inl (by omega))]
      refine (refGrowL mm (.inl hle) hs ho hlt).mono ?_
      rintro _ w' ⟨A', c', rfl, h2, h3⟩
      exact ⟨A', c', rfl, h2, hrf.keep fun k hk => h3.block k (by omega), Btw.of_below h3⟩
    · obtain ⟨K, hK⟩ : ∃ K, K = Wm.trF L ids f := ⟨_, rfl⟩
      obtain ⟨LF, hLF⟩ : ∃ LF, LF = Wm.lfF L ids f := ⟨_, rfl⟩
      obtain ⟨RG, hRG⟩ : ∃ RG, RG = Wm.rgF L ids f := ⟨_, rfl⟩
      obtain ⟨PN, hPN⟩ : ∃ PN, PN = Wm.pnF L ids f dd := ⟨_, rfl⟩
      obtain ⟨PO, hPO⟩ : ∃ PO, PO = Wm.poF L ids f := ⟨_, rfl⟩
      obtain ⟨a, ha⟩ : ∃ a, Wm.grow L dd lim r (Wm.lfF L ids f) (p + 1) (Rm.dr f (2 * Wm.trF L ids f)) = a := ⟨_, rfl⟩
      obtain ⟨b, hb⟩ : ∃ b, Wm.grow L dd lim r (Wm.rgF L ids f) (p + 1 + a.1.length) (Rm.dr f (2 * Wm.trF L ids f + a.2)) = b := ⟨_, rfl⟩
      rw [Wm.grow_node (by omega) ha hb]
      have hK4 : K ≤ 4 := by rw [hK]; exact Wm.tr_le
      have hpos := Wm.lr_pos (L := L) (f := f) (ids := ids) (by omega)
      have hsum := Wm.lr_len (L := L) (f := f) (ids := ids)
      rw [← hLF, ← hRG] at hpos hsum
      obtain ⟨da, hta⟩ := Wm.grow_tr (L := L) (d := dd) hlim r (Wm.lfF L ids f) (p + 1) (Rm.dr f (2 * Wm.trF L ids f))
      obtain ⟨db, htb⟩ := Wm.grow_tr (L := L) (d := dd) hlim r (Wm.rgF L ids f) (p + 1 + a.1.length) (Rm.dr f (2 * Wm.trF L ids f + a.2))
      rw [ha, ← hLF] at hta
      rw [hb, ← hRG] at htb
      have fa := hta.few hpos.1
      have fb := htb.few hpos.2
      have ta := hta.twice
      have tb := htb.twice
      have pa := hta.pos
      have pb := htb.pos
      rw [← hLF, ← hK] at ha
      rw [← hRG, ← hK] at hb
      obtain ⟨W, hW⟩ : ∃ W, W = w.alloc (.cells #[.int .i64 tr, .int .i64 (lim : Int), .int .i64 (dp : Int), .bool sc, .int .u64 sd, .slice pA pn pc] 28) := ⟨_, rfl⟩
      have hbW : Below w.heap.size w W := by rw [hW]; exact (Below.refl _ w).alloc (Nat.le_refl _) _
      have hp0 : Prx W w.heap.size tr (lim : Int) (dp : Int) sc sd pA pn pc := by rw [hW]; exact Prx.new w _ _ _ _ _ _ _ _
      have hsW : W.heap.size = w.heap.size + 1 := by rw [hW]; simp
      have hsz0 := hb0.size
      have FC0 := refChoose_at A A2 n c m c2 mm N B dd L ids f w0 W HLV.out (hb0.trans (hbW.mono hsz0)) hmm hn HLL.out (hs.below hbW) ho hm (hrf.keep fun k hk => hbW.block k (by omega)) (by omega) hd
      rw [show Zm.lfOf L ids (refP f m) (refQ f m) = LF from by rw [hLF, ← hlen]; rfl, show Zm.rgOf L ids (refP f m) (refQ f m) = RG from by rw [hRG, ← hlen]; rfl, show Zm.pnOf L ids (refP f m) (refQ f m) dd = PN from by rw [hPN, ← hlen]; rfl,
        show Zm.poOf L ids (refP f m) (refQ f m) = PO from by rw [hPO, ← hlen]; rfl, show Zm.tries L ids (refP f m) (refQ f m) = K from by rw [hK, ← hlen]; rfl] at FC0
      have FC := Lib.hid FC0
      have IH := Lib.hid ih
      have HW := Lib.hid hW
      have HBW := Lib.hid hbW
      have HB0 := Lib.hid hb0
      have HPx := Lib.hid hp0
      have HA := Lib.hid ha
      have HB := Lib.hid hb
      have HPN := Lib.hid hPN
      have HPO := Lib.hid hPO
      have HKK := Lib.hid hK
      have TA := Lib.hid (And.intro ta (And.intro fa pa))
      have TB := Lib.hid (And.intro tb (And.intro fb pb))
      have hlt2 : ¬ (dp : Int) ≤ (dep : Int) := by omega
      have hgt2 : ¬ (m : Int) ≤ (lim : Int) := by omega
      have hmL : LF.length ≤ m := by omega
      have hmR : RG.length ≤ m := by omega
      have hd0 : dep ≤ 64 := by omega
      have k1 := hp0.c1
      have k2 := hp0.c2
      clear FC0 ih hW hbW hb0 hp0 ha hb hPN hPO hK hta htb hLF hRG hs hrf ta tb fa fb pa pb ho
      go_enter Try.func30, Try.ntmps30
      go_wp2_with fail
      rw [← HW.out]
      clear HW
      go_wp2_with fail
      refine FC.out.mono ?_
      rintro _ w1 ⟨Ap, np, cp, A1, c1, A3, c3, rfl, hv, hnp, hs1, hs3, hr1, hb1, o1, o3⟩
      have s1 := hb1.size
      obtain ⟨W1, hW1⟩ : ∃ W1, W1 = w1.alloc (.cells #[.slice Ap np cp, .int .i64 PO, .slice A1 LF.length c1, .slice A3 RG.length c3, .int .i64 (K : Int)] 99) := ⟨_, rfl⟩
      have hbw : Below w1.heap.size w1 W1 := by rw [hW1]; exact (Below.refl _ w1).alloc (Nat.le_refl _) _
      have Z1 : W1.heap[w1.heap.size]? = some (.cells #[.slice Ap np cp, .int .i64 PO, .slice A1 LF.length c1, .slice A3 RG.length c3, .int .i64 (K : Int)] 99 (0, 0)) := by rw [hW1]; exact heap_alloc_new w1 _
      have s2 := hbw.size
      have sq : w1.heap.size < W1.heap.size := lt_of_block Z1
      have PW := Lib.hid (HPx.out.btw (lo := mm) (hi := mm + 1) (.inr (by omega)) hb1)
      have P1 := Lib.hid (PW.out.below hbw)
      have BL1 := Lib.hid (((HB0.out.trans (HBW.out.mono hsz0)).trans (hb1.old (by omega) hmm)).trans (hbw.mono (by omega)))
      have BT1 : Hid (Btw mm (mm + 1) w W1) := Lib.hid (((Btw.of_below HBW.out).trans hb1).trans (Btw.of_below hbw))
      have hr2 : Rfs W1 B mm (Rm.dr f (2 * K)) (N + 2 * K) := hr1.keep fun k hk => hbw.block k (by omega)
      have FGa := IH.out LF (p + 1) (Rm.dr f (2 * K)) (N + 2 * K) W1 (dep + 1) A1 LF.length c1 (by omega) BL1.out (hs1.below hbw) o1 hpos.1 (by omega) (by omega) hr2 (by omega)
      rw [HA.out, Rm.dr_dr, show ((dep + 1 : Nat) : Int) = (dep : Int) + 1 from rfl, show ((p + 1 : Nat) : Int) = (p : Int) + 1 from rfl] at FGa
      have FA := Lib.hid FGa
      have V1 := Lib.hid (hv.below hbw)
      have IV := Lib.hid ((hv.below hbw).off_src hr2)
      have S3 := Lib.hid (hs3.below hbw)
      have O3 := Lib.hid o3
      have q0 := P1.out.c0
      rw [hW1] at q0
      have q1 := P1.out.c1
      rw [hW1] at q1
      have q2 := P1.out.c2
      rw [hW1] at q2
      have q3 := P1.out.c3
      rw [hW1] at q3
      have q4 := P1.out.c4
      rw [hW1] at q4
      have q5 := P1.out.c5
      rw [hW1] at q5
      have z2 : W1.cell? ⟨w1.heap.size, 2, none⟩ = some (.slice A1 LF.length c1) := by rw [cell_of_row _ _ _ _ _ _ Z1]; rfl
      rw [hW1] at z2
      have ZZ := Lib.hid Z1
      have HW1 := Lib.hid hW1
      clear FGa hv hs1 hs3 hr1 hb1 hr2 o1 o3 Z1 hW1 FC hbw k1 k2
      go_wp2_with fail
      rw [← HW1.out]
      clear HW1 q0 q1 q2 q3 q4 q5 z2
      refine FA.out.mono ?_
      rintro _ w2 ⟨AL, cL, rfl, hna, hr2, hb2⟩
      have s3 := hb2.size
      have FGb := IH.out RG (p + 1 + a.1.length) (Rm.dr f (2 * K + a.2)) (N + (2 * K + a.2)) w2 (dep + 1) A3 RG.length c3 (by omega) (BL1.out.trans (hb2.old BL1.out.size hmm)) (S3.out.btw O3.out hb2) O3.out hpos.2 (by omega) (by have := TA.out; omega) (by rw [show N + (2 * K + a.2) = N + 2 * K + a.2 from by omega]; exact hr2) (by have := TA.out; omega)
      rw [HB.out, Rm.dr_dr, show ((dep + 1 : Nat) : Int) = (dep : Int) + 1 from rfl, show ((p + 1 + a.1.length : Nat) : Int) = (p : Int) + 1 + (a.1.length : Int) from rfl] at FGb
      have FB := Lib.hid FGb
      have NA := Lib.hid hna
      have P2 := Lib.hid (P1.out.btw (lo := mm) (hi := mm + 1) (.inr (by omega)) hb2)
      have Z2 := Lib.hid ((hb2.block w1.heap.size sq (.inr (by omega))).trans ZZ.out)
      have q0 := P2.out.c0
      have q1 := P2.out.c1
      have q2 := P2.out.c2
      have q3 := P2.out.c3
      have q4 := P2.out.c4
      have q5 := P2.out.c5
      have z3 : w2.cell? ⟨w1.heap.size, 3, none⟩ = some (.slice A3 RG.length c3) := by rw [cell_of_row _ _ _ _ _ _ Z2.out]; rfl
      have BT2 := Lib.hid (BT1.out.trans hb2)
      have V2 := Lib.hid (V1.out.keepIn IV.out hb2.size fun k hk hne => hb2.block k hk (by omega))
      have la : a.1.length ≤ 200000 := by have := TA.out; omega
      have lb : b.1.length ≤ 200000 := by have := TB.out; omega
      clear FGb FA hna hr2 hb2 S3 O3 V1
      go_wp2_with fail
      refine FB.out.mono ?_
      rintro _ w3 ⟨AR, cR, rfl, hnb, hr3, hb3⟩
      have s4 := hb3.size
      have Z3 := Lib.hid ((hb3.block w1.heap.size (by omega) (.inr (by omega))).trans Z2.out)
      have z0 : w3.cell? ⟨w1.heap.size, 0, none⟩ = some (.slice Ap np cp) := by rw [cell_of_row _ _ _ _ _ _ Z3.out]; rfl
      have z1 : w3.cell? ⟨w1.heap.size, 1, none⟩ = some (.int .i64 PO) := by rw [cell_of_row _ _ _ _ _ _ Z3.out]; rfl
      have BT3 := Lib.hid (BT2.out.trans hb3)
      have V3 := Lib.hid (V2.out.keepIn IV.out hb3.size fun k hk hne => hb3.block k hk (by omega))
      have NA3 := Lib.hid (NA.out.btw (lo := mm) (hi := mm + 1) (fun k hk => by omega) hb3)
      have NB3 := Lib.hid hnb
      have R3 := Lib.hid hr3
      clear hnb hr3 hb3 FB z3 q0 q1 q2 q3 q4 q5 V2 NA P2 Z2
      obtain ⟨W5, hW5⟩ : ∃ W5, W5 = (w3.alloc (.cells #[.bool false, .slice none 0 0, .slice Ap np cp, .int .i64 PO, .int .i64 ((p : Int) + 1), .int .i64 ((p : Int) + 1 + (a.1.length : Int))] 59)).alloc (.cells #[.bool false, .slice none 0 0, .slice Ap np cp, .int .i64 PO, .int .i64 ((p : Int) + 1), .int .i64 ((p : Int) + 1 + (a.1.length : Int))] 59) := ⟨_, rfl⟩
      have hb5 : Below w3.heap.size w3 W5 := by rw [hW5]; exact ((Below.refl _ _).alloc (Nat.le_refl _) _).alloc (by simp) _
      have own5 : W5.ownsRow (w3.heap.size + 1) 59 6 (.slice (some ⟨w3.heap.size + 1, 0, none⟩) 1 1) 1 [.bool false, .slice none 0 0, .slice Ap np cp, .int .i64 PO, .int .i64 ((p : Int) + 1), .int .i64 ((p : Int) + 1 + (a.1.length : Int))] := by
        have h := own_new6 (w3.alloc (.cells #[.bool false, .slice none 0 0, .slice Ap np cp, .int .i64 PO, .int .i64 ((p : Int) + 1), .int .i64 ((p : Int) + 1 + (a.1.length : Int))] 59)) (.bool false) (.slice none 0 0) (.slice Ap np cp) (.int .i64 PO) (.int .i64 ((p : Int) + 1)) (.int .i64 ((p : Int) + 1 + (a.1.length : Int)))
        rw [show (w3.alloc (.cells #[.bool false, .slice none 0 0, .slice Ap np cp, .int .i64 PO, .int .i64 ((p : Int) + 1), .int .i64 ((p : Int) + 1 + (a.1.length : Int))] 59)).heap.size = w3.heap.size + 1 from by simp] at h
        rw [hW5]
        exact h
      have s5 : W5.heap.size = w3.heap.size + 2 := by rw [hW5]; simp
      obtain ⟨vsA, ba, oa, nvA, lA, eA, -, hbA, hcA⟩ := NA3.out.vals (by have := TA.out; omega)
      subst eA
      obtain ⟨vsB, bb, ob, nvB, lB, eB, -, hbB, hcB⟩ := NB3.out.vals (by have := TB.out; omega)
      subst eB
      have nv0 : NdV (fun k => k ≠ mm) w3 [.bool false, .slice none 0 0, .slice Ap np cp, .int .i64 PO, .int .i64 ((p : Int) + 1), .int .i64 ((p : Int) + 1 + (a.1.length : Int))] [⟨false, [], PN, PO, p + 1, p + 1 + a.1.length⟩] :=
        NdV.one (t := ⟨false, [], PN, PO, p + 1, p + 1 + a.1.length⟩) ⟨Sl.none_ w3, nil_in _ _, V3.out, IV.out, hnp⟩
      have NV := Lib.hid (And.intro nv0 (And.intro nvA nvB))
      have hcA5 : ∀ j u, vsA[j]? = some u → W5.cell? ((⟨ba, oa, none⟩ : Addr).add j) = some u := cells_below hb5 hbA hcA
      have HC := Lib.hid (And.intro hcA5 (And.intro (And.intro lA lB) (And.intro nvA.cells nvB.cells)))
      have HVB := Lib.hid hcB
      have OWN := Lib.hid own5
      have HW5 := Lib.hid hW5
      have HB5 := Lib.hid hb5
      clear hW5 hb5 own5 nvA nvB nv0 lA lB hcA hcA5 hcB NA3 NB3 BL1 PW P1
      go_wp2_with (at_builtin; first
        | (refine wpList_append_own _ rfl (.tmp 74) (.tmp 75) 40 rfl (w3.heap.size + 1) 59 i0 (.agg #[.bool false, .slice none 0 0, .slice none 0 0, .int .i64 0, .int .i64 0, .int .i64 0]) 6 80 Try.underlying40 hi hz0 hz1 hz2 rfl (by decide) (.slice (some ⟨w3.heap.size + 1, 0, none⟩) 1 1) 1 [.bool false, .slice none 0 0, .slice Ap np cp, .int .i64 PO, .int .i64 ((p : Int) + 1), .int .i64 ((p : Int) + 1 + (a.1.length : Int))] rfl (by rw [← HW5.out]; exact OWN.out) ⟨ba, oa, none⟩ a.1.length cL vsA rfl HC.out.2.1.1 (by rw [← HW5.out]; exact HC.out.1) HC.out.2.2.1 (by unfold maxLen; omega) (by omega) (by simp) ?_; intro vA wA hownA hgrA _; rw [← HW5.out] at hgrA; have HOA := Lib.hid hownA; have HBA : Hid (Below w3.heap.size w3 wA) := Lib.hid (HB5.out.grown hgrA (by omega) (fun k hk => by have := own6_block OWN.out k hk; omega)); have hsA : w3.heap.size + 1 ≤ wA.heap.size := (by have := hgrA.size; omega); clear hownA hgrA)
        | (refine wpList_append_own _ rfl (.tmp 76) (.tmp 77) 40 rfl (w3.heap.size + 1) 59 i0 (.agg #[.bool false, .slice none 0 0, .slice none 0 0, .int .i64 0, .int .i64 0, .int .i64 0]) 6 80 Try.underlying40 hi hz0 hz1 hz2 rfl (by decide) vA (1 + a.1.length) ([.bool false, .slice none 0 0, .slice Ap np cp, .int .i64 PO, .int .i64 ((p : Int) + 1), .int .i64 ((p : Int) + 1 + (a.1.length : Int))] ++ vsA) rfl HOA.out ⟨bb, ob, none⟩ b.1.length cR vsB rfl HC.out.2.1.2 (cells_below HBA.out hbB HVB.out) HC.out.2.2.2 (by unfold maxLen; omega) (by omega) hsA ?_; intro vB wB hownB hgrB _; have HOB := Lib.hid hownB; have HBB : Hid (Below w3.heap.size w3 wB) := Lib.hid (HBA.out.grown hgrB (by omega) (fun k hk => by have := own6_block HOA.out k hk; omega)); clear hownB hgrB))
      obtain ⟨A', c', rfl, -, -⟩ := own6_form HOB.out
      go_ret
      rw [← HKK.out, ← HPN.out, ← HPO.out]
      have hT : (a.1 ++ b.1).length + 1 = 1 + a.1.length + b.1.length := by rw [List.length_append]; omega
      rw [hT]
      refine ⟨A', c', rfl, ?_, ?_, BT3.out.trans (Btw.of_below HBB.out)⟩
      · refine Nds.of_own HOB.out ?_ (by rw [List.length_cons, hT]) (fun k hk _ => by have := s5; omega)
        have := ((NV.out.1.append NV.out.2.1).append NV.out.2.2).below HBB.out
        rw [show ([⟨false, [], PN, PO, p + 1, p + 1 + a.1.length⟩] ++ a.1 ++ b.1 : List Wm.Nd) = ⟨false, [], PN, PO, p + 1, p + 1 + a.1.length⟩ :: (a.1 ++ b.1) from by simp] at this
        exact this
      · have := R3.out.keep (w' := wB) fun k hk => HBB.out.block k (by omega)
        rw [show N + (2 * K + a.2 + b.2) = N + (2 * K + a.2) + b.2 from by omega]
        exact this
end
end Go.Proofs.Ytafkbagjjknhlaa
