/-
  Layer 8 (topk): slices.Values, ranged over, and Of, by contracts (results).
-/
import Derived.Test.YtdpoieemadblnaaKLswR
namespace Go.Proofs.Ytdpoieemadblnaa
open Go.RowKit Go.Shelf
attribute [local go_sem] Oper.semAt_some

theorem valsR (A : Option Addr) (n c : Nat) (w : World) :
    Calls Try.prog 21 #[.slice A n c] w fun e w' => e = .returned (.func (.func 39) #[] #[.pointer (some ⟨w.heap.size, 0, none⟩)]) ∧ w' = w.alloc (.cells #[.slice A n c] 39) := by
  go_enter Try.func21, Try.ntmps21
  go_wp2
  go_ret
  exact ⟨rfl, rfl⟩

/-- what Values hands back, ranged over: each of l is told, in order -/
theorem iterV {m y q n c : Nat} {A : Option Addr} {l : List Om.E} {w0 : World} (hn : n ≤ 100000) (hq : w0.cell? ⟨q, 0, none⟩ = some (.slice A n c)) (hql : q < w0.heap.size) (hl : VecE w0 A n l)
    (I : Nat → World → Prop) (K Y : World → Prop) (hI : ∀ k W, I k W → Below w0.heap.size w0 W) (hIk : ∀ k W W', I k W → Below W.heap.size W W' → I k W') (hK : ∀ W W', K W → Below W.heap.size W W' → K W')
    (hY : ∀ k x1 x2 W, l[k]? = some (x1, x2) → I k W → K W → YieldAt Fence.wide (m - 1) Try.prog y #[.agg #[.int .i64 x1, .int .i64 x2]] W fun e W' => (e = .returned (.bool true) ∧ I (k + 1) W' ∧ K W') ∨ (e = .returned (.bool false) ∧ Y W'))
    (W : World) (h0 : I 0 W) (hK0 : K W) :
    CallsIn Fence.wide m Try.prog 39 #[.func (.yield y) #[] #[], .pointer (some ⟨q, 0, none⟩)] W fun e W' => (∃ v, e = .returned v) ∧ ((I n W' ∧ K W') ∨ Y W') := by
  have cq := ((hI 0 W h0).cell (p := ⟨q, 0, none⟩) hql).trans hq
  have H0 := Lib.hid h0
  have HK0 := Lib.hid hK0
  have HLL := Lib.hid hl.length
  have HL := Lib.hid hl
  clear h0 hK0 hl hq
  refine callsIn_of_wp Try.func39 rfl trivial ?_ rfl
  simp only [Try.ntmps39, List.size_toArray, List.length_cons, List.length_nil, Nat.reduceAdd, Nat.reduceSub, Array.replicate_succ, Array.replicate_zero, List.push_toArray, List.append_toArray, List.nil_append, List.cons_append]
  gi_wp2
  gi_loopw [7] (fun p wr => ∃ k : Nat, p = .int .i64 (k : Int) ∧ k ≤ n ∧ I k wr ∧ K wr) (fun p _ => n - (intOf p).toNat)
  case atStart => exact ⟨0, rfl, by omega, H0.out, HK0.out⟩
  case round =>
    clear H0 HK0 cq
    obtain ⟨k, rfl, hkn, hIk0, hKr⟩ := hrel
    by_cases hk : k < n
    · obtain ⟨x, hx⟩ : ∃ x, l[k]? = some x := ⟨_, List.getElem?_eq_getElem (by rw [HLL.out]; exact hk)⟩
      obtain ⟨x1, x2⟩ := x
      obtain ⟨b, off, rfl, hb, c1, c2⟩ := (HL.out.below (hI k wr hIk0)).at_ hx
      have hb1 := (Below.refl _ wr).alloc (Nat.le_refl _) (.cells #[.int .i64 x1, .int .i64 x2] 42)
      obtain ⟨fn, tmps, assign, body, hy, hR⟩ := hY k x1 x2 _ hx (hIk k _ _ hIk0 hb1) (hK _ _ hKr hb1)
      have HR := Lib.hid hR
      clear hR hb1 hIk0 hKr hx hb
      gi_wp2
      refine ⟨(fun h => by cases h), ?_⟩
      refine HR.out.mono ?_
      rintro e W3 (⟨rfl, hI3, hK3⟩ | ⟨rfl, hY3⟩)
      · have HI3 := Lib.hid hI3
        have HK3 := Lib.hid hK3
        clear hI3 hK3 HR hy c1 c2
        gi_wp2
        go_roundw
        case rel => exact ⟨k + 1, congrArg (Value.int .i64) (by omega), by omega, HI3.out, HK3.out⟩
        case measure => simp [intOf]; omega
      · have HY3 := Lib.hid hY3
        clear hY3 HR hy c1 c2
        gi_wp2
        refine bodyPost_ret (results_none rfl _ _ _) rfl ?_
        exact ⟨⟨_, rfl⟩, .inr HY3.out⟩
    · obtain rfl : k = n := by omega
      have HI := Lib.hid hIk0
      have HKr := Lib.hid hKr
      clear hIk0 hKr
      gi_wp2
      go_end0
      exact ⟨⟨_, rfl⟩, .inl ⟨HI.out, HKr.out⟩⟩
/-- a selector lies in a few blocks of cells -/
theorem SelR.tight {w : World} {S : Nat → Prop} {s : Nat} {m : Int} {c : Nat} {K : List Om.E} (h : SelR w S s m c K) : ∃ S2 : Nat → Prop, SelR w S2 s m c K ∧ (∀ k, S2 k → S k) ∧ ∀ k, S2 k → ∃ cs t st, w.heap[k]? = some (.cells cs t st) := by
  obtain ⟨cb, B, Sh, q, es, h, hK⟩ := h
  obtain ⟨xs, hd, hp, hpm⟩ := h.hp
  have hBn : B ≠ s := fun e => h.ns (by rw [← e]; exact hd.d.1)
  have hcn : cb ≠ s := fun e => h.ns (by rw [← e]; exact hd.sc)
  obtain ⟨A, c2, hblk, -, -, -, -, hown, hA⟩ := hd.d.list
  rcases hA with ⟨rfl, hn, rfl, hcs⟩ | ⟨g, rfl, hg, hi⟩
  · refine ⟨fun k => (k = cb ∨ k = B) ∨ k = s, ⟨cb, B, fun k => k = cb ∨ k = B, q, es, ⟨h.blk, ⟨xs, ⟨⟨.inr rfl, fun k hk => ?_, .inl ⟨hcs, hn, by rw [hblk, hn]⟩⟩, hd.cap, .inl rfl, hd.bB, hd.bg⟩, hp, hpm⟩, fun k hk => .inl hk, .inr rfl, fun hk => ?_, fun k hk => ?_, h.so, h.old, h.qc, h.len⟩, hK⟩, fun k hk => ?_, fun k hk => ?_⟩
    · rcases hk with rfl | rfl
      · exact hd.cap.lt
      · exact hd.lt
    · rcases hk with e | e
      · exact hcn e.symm
      · exact hBn e.symm
    · rcases hk with (rfl | rfl) | rfl
      · exact hd.cap.lt
      · exact hd.lt
      · exact h.lt _ h.ss
    · rcases hk with (rfl | rfl) | rfl
      · exact h.sub _ hd.sc
      · exact h.sub _ hd.d.1
      · exact h.ss
    · rcases hk with (rfl | rfl) | rfl
      · exact ⟨_, _, _, hd.cap⟩
      · exact ⟨_, _, _, hblk⟩
      · exact ⟨_, _, _, h.blk⟩
  · have hgn : g ≠ s := fun e => h.ns (by rw [← e]; exact hg)
    refine ⟨fun k => ((k = cb ∨ k = B) ∨ k = g) ∨ k = s, ⟨cb, B, fun k => (k = cb ∨ k = B) ∨ k = g, q, es, ⟨h.blk, ⟨xs, ⟨⟨.inl (.inr rfl), fun k hk => ?_, .inr ⟨g, c2, .inr rfl, hi⟩⟩, hd.cap, .inl (.inl rfl), hd.bB, hd.bg⟩, hp, hpm⟩, fun k hk => .inl hk, .inr rfl, fun hk => ?_, fun k hk => ?_, h.so, h.old, h.qc, h.len⟩, hK⟩, fun k hk => ?_, fun k hk => ?_⟩
    · rcases hk with (rfl | rfl) | rfl
      · exact hd.cap.lt
      · exact hd.lt
      · exact hi.row.lt
    · rcases hk with (e | e) | e
      · exact hcn e.symm
      · exact hBn e.symm
      · exact hgn e.symm
    · rcases hk with ((rfl | rfl) | rfl) | rfl
      · exact hd.cap.lt
      · exact hd.lt
      · exact hi.row.lt
      · exact h.lt _ h.ss
    · rcases hk with ((rfl | rfl) | rfl) | rfl
      · exact h.sub _ hd.sc
      · exact h.sub _ hd.d.1
      · exact h.sub _ hg
      · exact h.ss
    · rcases hk with ((rfl | rfl) | rfl) | rfl
      · exact ⟨_, _, _, hd.cap⟩
      · exact ⟨_, _, _, hblk⟩
      · obtain ⟨cur, hc, _⟩ := hi.row; exact ⟨_, _, _, hc⟩
      · exact ⟨_, _, _, h.blk⟩
/-- the selector that is filled, behind k offers: its variable lies in block p, the loop's two blocks behind it -/
def StO (w : World) (p s : Nat) (m : Int) (l : List Om.E) (k : Nat) (W : World) : Prop :=
  ∃ S : Nat → Prop, SelR W S s m k (Km.fst Om.near m (l.take k)) ∧ (∀ j, S j → (w.heap.size ≤ j ∧ j < p) ∨ p + 3 ≤ j) ∧ Below w.heap.size w W ∧ W.heap[p]? = some (.cells #[.pointer (some ⟨s, 0, none⟩)] 51 (0, 0)) ∧ p + 3 ≤ W.heap.size
section
variable {w W W' : World} {p s k : Nat} {m : Int} {l : List Om.E}
theorem StO.below (h : StO w p s m l k W) (hb : Below W.heap.size W W') : StO w p s m l k W' := by
  obtain ⟨S, h1, h2, h3, h4, h5⟩ := h
  exact ⟨S, h1.below hb, h2, h3.trans (hb.mono h3.size), (hb.block p (lt_of_block h4)).trans h4, Nat.le_trans h5 hb.size⟩
theorem StO.off (h : StO w p s m l k W) (hp : w.heap.size ≤ p) (ho : Off (p + 1 + 1) W W') : StO w p s m l k W' := by
  obtain ⟨S, h1, h2, h3, h4, h5⟩ := h
  exact ⟨S, h1.keep (by rw [ho.size]; exact Nat.le_refl _) fun j hj => ho.block j (by rcases h2 j hj with q | q <;> omega), h2, h3.trans ⟨ho.os, ho.tape, ho.output, by rw [ho.size]; exact Nat.le_refl _, fun j hj => ho.block j (by omega)⟩, (ho.block p (by omega)).trans h4, by rw [ho.size]; exact h5⟩
/-- one is offered -/
theorem StO.offer (h : StO w p s m l k W) (hp : w.heap.size ≤ p) (hk : k ≤ 100000) {x1 x2 : Int} (hx : l[k]? = some (x1, x2)) :
    Calls Try.prog 26 #[.pointer (some ⟨s, 0, none⟩), .agg #[.int .i64 x1, .int .i64 x2]] W fun e W' => (∃ r, e = .returned (.bool r)) ∧ StO w p s m l (k + 1) W' ∧ KeepsFrom (p + 1) W W' := by
  obtain ⟨S0, h0, h2, h3, h4, h5⟩ := h
  obtain ⟨S, h1, hs, hcs⟩ := h0.tight
  replace h2 := fun j hj => h2 j (hs j hj)
  refine (sofferR S s m k _ x1 x2 W h1 hk).mono ?_
  rintro e W' ⟨he, S', g1, g2, g3⟩
  have e1 : l.take (k + 1) = l.take k ++ [(x1, x2)] := by rw [List.take_add_one, hx]; rfl
  rw [Km.fst_off Om.near_ord, ← e1] at g1
  refine ⟨⟨_, he⟩, ⟨S', g1, fun j hj => ?_, h3.trans (g2.old h3.size fun j hj => by rcases h2 j hj with q | q <;> omega), (g2.block p (lt_of_block h4) (fun q => by rcases h2 p q with q | q <;> omega)).trans h4, Nat.le_trans h5 g2.size⟩, ⟨g2.size, fun j o hj ho hc => ?_⟩⟩
  · rcases g3 j hj with q | q
    · exact h2 j q
    · exact .inr (by omega)
  · by_cases q : S j
    · obtain ⟨cs, t, st, e⟩ := hcs j q
      rw [ho] at e
      injection e with e
      subst e
      cases hc
    · exact (g2.block j (Array.getElem?_eq_some_iff.1 ho).1 q).trans ho
end

set_option maxHeartbeats 1600000 in
set_option maxRecDepth 100000 in
theorem ofR (m : Int) (A : Option Addr) (n c q : Nat) (l : List Om.E) (w : World) (hq : w.heap[q]? = some (.cells #[.slice A n c] 39 (0, 0))) (hv : VecE w A n l) (hn : n ≤ 1000) :
    Calls Try.prog 20 #[.func (.func 19) #[] #[], .int .i64 m, .func (.func 39) #[] #[.pointer (some ⟨q, 0, none⟩)]] w fun e w' => ∃ g, e = .returned (.slice (some ⟨g, 0, none⟩) (Km.fst Om.near m l).length (Km.fst Om.near m l).length) ∧ w.heap.size ≤ g ∧ BlkE 42 w' g (Km.fst Om.near m l) ∧ Below w.heap.size w w' := by
  have HQ := Lib.hid hq
  have HV := Lib.hid hv
  clear hq hv
  refine (callsIn_wide (n := 6)).1 ?_
  refine callsIn_of_wp_marks Try.func20 rfl trivial ?_ rfl
  simp only [Try.ntmps20, List.size_toArray, List.length_cons, List.length_nil, Nat.reduceAdd, Nat.reduceSub, Array.replicate_succ, Array.replicate_zero, List.push_toArray, List.append_toArray, List.nil_append, List.cons_append]
  gi_wp2_with fail
  refine ⟨trivial, ?_⟩
  refine (callsIn_wide.2 (snewR m _)).mono ?_
  rintro _ W1 ⟨S, s, rfl, h1, b1, hS⟩
  have s1 := b1.size
  have HP1 := Lib.hid (heap_alloc_new W1 (.cells #[.pointer (some ⟨s, 0, none⟩)] 51))
  have HS1 := Lib.hid (h1.below ((Below.refl _ W1).alloc (Nat.le_refl _) (.cells #[.pointer (some ⟨s, 0, none⟩)] 51)))
  have HB1 := Lib.hid (show Below w.heap.size w (W1.alloc (.cells #[.pointer (some ⟨s, 0, none⟩)] 51)) from b1.alloc s1 _)
  have HSS := Lib.hid (show ∀ j, S j → w.heap.size ≤ j ∧ j < W1.heap.size from fun j hj => ⟨hS j hj, h1.in_ j hj⟩)
  clear h1 b1 hS
  gi_wp2
  have sz : (W1.alloc (.cells #[.pointer (some ⟨s, 0, none⟩)] 51)).heap.size = W1.heap.size + 1 := by simp
  refine range_boxes (n := 6) (ι := Nat) rfl (by omega) (gf := 39) (lb := #[.pointer (some ⟨q, 0, none⟩)]) rfl trivial (enters_of Try.func39 (by kernel_rfl) rfl)
    (fun W => StO w W1.heap.size s m l 0 W)
    (fun k vs W => (∃ x1 x2, l[k]? = some (x1, x2) ∧ vs = #[.agg #[.int .i64 x1, .int .i64 x2]]) ∧ StO w W1.heap.size s m l k W)
    (fun k vs c W => (∃ x1 x2, l[k]? = some (x1, x2) ∧ vs = #[.agg #[.int .i64 x1, .int .i64 x2]] ∧ W.heap[c]? = some (.cells #[.int .i64 x1, .int .i64 x2] 42 (0, 0)) ∧ W1.heap.size + 3 ≤ c) ∧ StO w W1.heap.size s m l k W)
    (fun k W => StO w W1.heap.size s m l (k + 1) W)
    (fun W => StO w W1.heap.size s m l n W)
    (fun _ _ => False)
    (fun c vs t => (t.setIfInBounds 13 (vs.getD 0 undef)).setIfInBounds 8 (.pointer (some ⟨c, 0, none⟩)))
    ?hJ ?hA ?hE ?hX ?hps ?h0 ?iter ?assign ?body ?done ?stop
  case hJ => intro k W W' h ho; rw [sz] at ho; exact h.off s1 ho
  case hA => rintro k vs c W W' ⟨⟨x1, x2, hx, hv, hc, hc2⟩, h⟩ ho; rw [sz] at ho; exact ⟨⟨x1, x2, hx, hv, (ho.block c (by omega)).trans hc, hc2⟩, h.off s1 ho⟩
  case hE => intro W W' h ho; rw [sz] at ho; exact h.off s1 ho
  case hX => rintro c W W' ⟨⟩
  case hps => rintro k vs W ⟨⟨x1, x2, hx, rfl⟩, _⟩; rfl
  case h0 =>
    intro W hb hs
    rw [sz] at hs
    refine ⟨S, ?_, fun j hj => .inl (HSS.out j hj), HB1.out.trans (hb.mono (by omega)), (hb.block _ (by omega)).trans HP1.out, by omega⟩
    have := HS1.out.below hb
    simpa [Km.fst_nil] using this
  case iter =>
    intro y Kk Y hK hY W hI hKW
    rw [sz] at hK
    refine iterV (m := 5) (w0 := w) (by omega) (show w.cell? ⟨q, 0, none⟩ = some (.slice A n c) from by rw [cell_of_row _ _ _ _ _ _ HQ.out]; rfl) (lt_of_block HQ.out) HV.out (fun k W => StO w W1.heap.size s m l k W) Kk Y (fun k W h => by obtain ⟨S, g1, g2, g3, g4, g5⟩ := h; exact g3) (fun k W W' h hb => h.below hb) (fun W W' h hb => hK W W' h ⟨hb.size, fun j o _ ho _ => (hb.block j (Array.getElem?_eq_some_iff.1 ho).1).trans ho⟩) ?_ W hI hKW
    intro k x1 x2 W hx hI hKW
    exact hY k _ W ⟨⟨x1, x2, hx, rfl⟩, hI⟩ hKW
  case assign =>
    rintro y k vs W Kk ⟨⟨x1, x2, hx, rfl⟩, hst⟩ hK
    have h5 : W1.heap.size + 3 ≤ W.heap.size := by obtain ⟨S, g1, g2, g3, g4, g5⟩ := hst; exact g5
    have hb := (Below.refl _ W).alloc (Nat.le_refl _) (.cells #[.int .i64 x1, .int .i64 x2] 42)
    have HC := Lib.hid (hK W.heap.size (W.alloc (.cells #[.int .i64 x1, .int .i64 x2] 42)) ⟨⟨x1, x2, hx, rfl, heap_alloc_new _ _, h5⟩, hst.below hb⟩ ⟨hb.size, fun j o _ ho _ => (hb.block j (Array.getElem?_eq_some_iff.1 ho).1).trans ho⟩)
    clear hK hst hb
    gi_wp2
    exact HC.out
  case body =>
    rintro y k vs cc W ⟨⟨x1, x2, hx, rfl, hc, hc2⟩, hst⟩
    have hkn : k < n := by have := (List.getElem?_eq_some_iff.1 hx).1; have := HV.out.length; omega
    have hpc : W.cell? ⟨W1.heap.size, 0, none⟩ = some (.pointer (some ⟨s, 0, none⟩)) := by
      obtain ⟨S, g1, g2, g3, g4, g5⟩ := hst
      rw [cell_of_row _ _ _ _ _ _ g4]; rfl
    have c1 := cell_of_row _ _ 0 _ _ _ hc
    have c2 := cell_of_row _ _ 1 _ _ _ hc
    have HOF := Lib.hid (hst.offer s1 (by omega) hx)
    clear hst hc hx
    generalize hP : leftBy _ _ _ W = Pst
    have HP := Lib.hid hP
    clear hP
    gi_wp2_with fail
    refine ⟨trivial, ?_⟩
    refine CallsIn.inRound y ((callsIn_wide.2 HOF.out).mono ?_)
    rintro _ W5 ⟨⟨r, rfl⟩, hst5, hk5⟩
    have HK5 := Lib.hid hk5
    have HS5 := Lib.hid hst5
    clear hk5 hst5
    gi_wp2
    rw [← HP.out, sz]
    exact ⟨HK5.out, HS5.out⟩
  case stop => rintro D c W rfl ⟨⟩
  case done =>
    rintro D W hD hst hK
    rw [sz] at hD
    subst hD
    have h5 : W1.heap.size + 3 ≤ W.heap.size := by obtain ⟨S, g1, g2, g3, g4, g5⟩ := hst; exact g5
    obtain ⟨S2, g1, g2, g3, g4, g5⟩ := hst
    have hc1 := cell_of_row _ _ 0 _ _ _ g4
    have e1 : l.take n = l := List.take_of_length_le (by rw [HV.out.length]; exact Nat.le_refl _)
    rw [e1] at g1
    have HG := Lib.hid (slistR.list_ S2 s m n _ W g1 (by omega))
    have HG2 := Lib.hid g2
    have HG3 := Lib.hid g3
    have HKD := Lib.hid hK
    clear g1 g2 g3 g4 g5 hK
    gi_wp2_with fail
    refine ⟨trivial, ?_⟩
    refine (callsIn_wide.2 HG.out).mono ?_
    rintro _ W6 ⟨rfl, hbl, S3, hs3, hn3, hk6, hq6⟩
    have hD6 := (hk6.block (W1.heap.size + 1) (by omega) (fun q => by rcases HG2.out _ q with q | q <;> omega)).trans HKD.out
    have HD6 := Lib.hid hD6
    have HBL := Lib.hid hbl
    have HB6 := Lib.hid (HG3.out.trans (hk6.old HG3.out.size fun j hj => by rcases HG2.out j hj with q | q <;> omega))
    clear hbl hs3 hn3 hk6 hq6 hD6
    gi_wp2
    refine ⟨by simp, .inl ⟨_, _, rfl, run_takeDeferred HD6.out, ?_⟩⟩
    refine ⟨_, results_tmp rfl _ _ _, W.heap.size, rfl, by omega, (World.putObj_heap_other (by omega)).trans HBL.out, HB6.out.trans (below_put (by omega) _)⟩
end Go.Proofs.Ytdpoieemadblnaa
