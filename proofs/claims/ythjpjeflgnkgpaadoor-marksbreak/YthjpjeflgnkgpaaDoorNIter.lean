/-
  Layer 9 (marks): what All hands back, ranged over, by contract: each id is told, rising.
-/
import Derived.Test.YthjpjeflgnkgpaaDoorNAll
namespace Go.Proofs.YthjpjeflgnkgpaaDoor
open Go.RowKit Go.Shelf Go.Maps
attribute [local go_sem] Oper.semAt_some

/-- the word that is looked up, in whatever world keeps it -/
theorem look_word {w : World} {b n : Nat} {D : DataW Unit} (h : w.ownsMap Tryd.prog 3 (plainElem Tryd.prog 53) b n D) (p : Int) (hp : 0 ≤ p ∧ p ≤ 1000000000) :
    (Instr.lookup 50 (.map (some b)) (.int .i64 p) false).run Tryd.prog w = .ok (.int .u64 ((wd D p : Nat) : Int)) w := by
  have hk : keyOf Tryd.prog 3 (.int .i64 p) = some (.int .i64 p) := keyOf_int_mk Tryd.underlying3 (by simp [Lit.wf, IntKind.min, IntKind.max, IntKind.signed, IntKind.bits]; omega)
  obtain ⟨c, hr, ha, hw⟩ := h.lookup_int (int_keyed Tryd.underlying3) Tryd.underlying50 Tryd.underlying53 (Tryd.zeroValue53 _) hk
  have hc := wd_of ha
  have : 0 ≤ c := by simp [Lit.wf, IntKind.min, IntKind.max, IntKind.signed, IntKind.bits] at hw; omega
  rw [hr, hc, show ((c.toNat : Nat) : Int) = c from by omega]
theorem al_cons (f : Int → Nat) (k : Int) (r : List Int) : Nm.al f (k :: r) = (Nm.bl (f k)).map (fun j : Nat => k * 64 + (j : Int)) ++ Nm.al f r := rfl
theorem drop_head {l r : List Int} {T : Nat} {x : Int} (h : l.drop T = x :: r) : l[T]? = some x ∧ l.drop (T + 1) = r ∧ T + 1 ≤ l.length := by
  have h1 : T < l.length := by
    rcases Nat.lt_or_ge T l.length with h2 | h2
    · exact h2
    · rw [List.drop_eq_nil_of_le h2] at h; cases h
  rw [List.drop_eq_getElem_cons h1] at h
  injection h with h2 h3
  exact ⟨by rw [List.getElem?_eq_getElem h1, h2], h3, h1⟩

theorem kcell {lo : Nat} {w W : World} (h : Kept (fun q => q < lo) w W) {p : Addr} (h1 : lo ≤ p.block) (h2 : p.block < w.heap.size) : W.cell? p = w.cell? p := World.cell?_of_block (w := w) (h.block p.block h2 (by omega))
set_option maxHeartbeats 1600000 in
set_option maxRecDepth 100000 in
theorem iterA {m y lo g1 g2 : Nat} {LL : List Int} {w0 : World} (ha : Alc w0 lo g1 g2 LL)
    (I : Nat → World → Prop) (K Y : World → Prop) (hI : ∀ k W, I k W → Kept (fun q => q < lo) w0 W ∧ TabAt 0 Lib.deBruijn64tab W)
    (hY : ∀ k x W, LL[k]? = some x → I k W → K W → YieldAt Fence.wide (m + 1 - 1) Tryd.prog y #[.int .i64 x] W fun e W' => (e = .returned (.bool true) ∧ I (k + 1) W' ∧ K W') ∨ (e = .returned (.bool false) ∧ Y W'))
    (W : World) (h0 : I 0 W) (hK0 : K W) :
    CallsIn Fence.wide (m + 1) Tryd.prog 26 #[.func (.yield y) #[] #[], .pointer (some ⟨g1, 0, none⟩), .pointer (some ⟨g2, 0, none⟩)] W fun e W' => (∃ v, e = .returned v) ∧ ((I LL.length W' ∧ K W') ∨ Y W') := by
  obtain ⟨A, n, c, ks, b, nn, D, h1, h2, h3, h4, h5, h6, h7, h8, h9, h10, h11, h12⟩ := ha.ex
  have q1 := lt_of_block h1
  have q2 := lt_of_block h3
  have e1 : w0.cell? ⟨g1, 0, none⟩ = some (.slice A n c) := by rw [cell_of_row _ _ _ _ _ _ h1]; rfl
  have e2 : w0.cell? ⟨g2, 0, none⟩ = some (.map (some b)) := by rw [cell_of_row _ _ _ _ _ _ h3]; rfl
  have c1 := (kcell (p := ⟨g1, 0, none⟩) (hI 0 W h0).1 h9 q1).trans e1
  have HS := Lib.hid h2
  have HO := Lib.hid h4
  have HLT := Lib.hid h5
  have HLL := Lib.hid h6
  have HKB := Lib.hid h7
  have HE2 := Lib.hid e2
  have HLO := Lib.hid h12
  have H0 := Lib.hid h0
  have HK0 := Lib.hid hK0
  clear ha h1 h2 h3 h4 h5 h6 h7 h12 h0 hK0 e1 e2 q1
  refine callsIn_of_wp Tryd.func26 rfl trivial ?_ rfl
  simp only [Tryd.ntmps26, List.size_toArray, List.length_cons, List.length_nil, Nat.reduceAdd, Nat.reduceSub, Array.replicate_succ, Array.replicate_zero, List.push_toArray, List.append_toArray, List.nil_append, List.cons_append]
  gi_wp2
  gi_loopw [9] (fun p wr => ∃ k T : Nat, p = .int .i64 (k : Int) ∧ k ≤ n ∧ T ≤ LL.length ∧ LL.drop T = Nm.al (wd D) (ks.drop k) ∧ I T wr ∧ K wr) (fun p _ => n - (Go.RowKit.intOf p).toNat)
  case atStart => exact ⟨0, 0, rfl, by omega, by omega, by rw [HLL.out]; rfl, H0.out, HK0.out⟩
  case round =>
    clear H0 HK0 c1
    obtain ⟨k, T, rfl, hkn, hTL, hdr, hI0, hK0⟩ := hrel
    by_cases hk : k < n
    · obtain ⟨κ, hx⟩ := HS.out.get hk
      obtain ⟨bb, off, rfl, hb, c0⟩ := HS.out.at_ hx
      have hB := hI T wr hI0
      have c1 := (kcell (p := ⟨bb, off + k, none⟩) hB.1 (HLO.out bb off rfl) hb).trans c0
      have c2 := (kcell (p := ⟨g2, 0, none⟩) hB.1 h10 q2).trans HE2.out
      have hkb := HKB.out κ (List.mem_of_getElem? hx)
      have l1 := look_word (own_keep (w' := wr) HO.out (hB.1.block _ HO.out.lt (by omega))) κ hkb
      have hd : ks.drop k = κ :: ks.drop (k + 1) := by
        have hl := (List.getElem?_eq_some_iff.1 hx)
        rw [List.drop_eq_getElem_cons hl.1, hl.2]
      rw [hd, al_cons] at hdr
      have hlt := HLT.out κ
      obtain ⟨x, hxx⟩ : ∃ x, x = wd D κ := ⟨_, rfl⟩
      rw [← hxx] at hdr hlt l1
      have HDR := Lib.hid hdr
      have HI0 := Lib.hid hI0
      have HK0 := Lib.hid hK0
      have HLX := Lib.hid hlt
      clear hdr hd hxx hI0 hK0 hB hb c0 hx hlt
      gi_wp2
      gi_loopw [6] (fun v ws => ∃ x T : Nat, v = .int .u64 (x : Int) ∧ x < 18446744073709551616 ∧ T ≤ LL.length ∧ LL.drop T = (Nm.bl x).map (fun j : Nat => κ * 64 + (j : Int)) ++ Nm.al (wd D) (ks.drop (k + 1)) ∧ I T ws ∧ K ws) (fun v _ => (Nm.bl (Go.RowKit.intOf v).toNat).length)
      case atStart => exact ⟨x, T, rfl, HLX.out, hTL, HDR.out, HI0.out, HK0.out⟩
      case round =>
        clear HDR HI0 HK0 HLX c1 c2 l1 hTL
        obtain ⟨x, T, rfl, hx64, hTL, hdr, hI1, hK1⟩ := hrel
        by_cases hx0 : x = 0
        · subst hx0
          rw [Nm.bl_zero] at hdr
          have HDR := Lib.hid hdr
          have HI1 := Lib.hid hI1
          have HK1 := Lib.hid hK1
          clear hdr hI1 hK1
          gi_wp2
          go_roundw
          case rel => exact ⟨k + 1, T, congrArg (Value.int .i64) (by omega), by omega, hTL, HDR.out, HI1.out, HK1.out⟩
          case measure => simp [Go.RowKit.intOf]; omega
        · have hn := Nm.bl_next hx0 hx64
          have hlen := Nm.bl_len hx0 hx64
          obtain ⟨m0, -, hc64, -⟩ := Nm.ctz_spec hx0 hx64
          have hand := Nm.and_lt x hx64
          have HTZ := Lib.hid (Any7.bits_TrailingZeros64 Tryd.tz x hx64 wr (fun _ => (hI T wr hI1).2))
          obtain ⟨c0, hc0⟩ : ∃ c0, c0 = Lib.ctz 64 x := ⟨_, rfl⟩
          rw [← hc0] at HTZ hc64 hn
          have hbits := bits_and_u64_nat x (x - 1) hx64 (by omega)
          obtain ⟨x', hx'⟩ : ∃ x', x' = x &&& (x - 1) := ⟨_, rfl⟩
          rw [← hx'] at hbits hn hlen hand
          rw [hn, List.map_cons, List.cons_append] at hdr
          obtain ⟨d1, d2, d3⟩ := drop_head hdr
          obtain ⟨z, hz⟩ : ∃ z : Int, z = κ * 64 := ⟨_, rfl⟩
          obtain ⟨t, ht⟩ : ∃ t : Int, t = z + (c0 : Int) := ⟨_, rfl⟩
          rw [← hz, ← ht] at d1
          have r1 : IntKind.i64.wrap (κ * 64) = z := by rw [IntWalk.i64_in _ (by omega), hz]
          have r2 : IntKind.i64.wrap (z + (c0 : Int)) = t := by rw [IntWalk.i64_in _ (by omega), ht]
          have r3 : IntKind.u64.wrap ((x : Int) - 1) = ((x - 1 : Nat) : Int) := by rw [IntKind.wrap_u64]; omega
          have g0 : ((x : Int) != 0) = true := by simp [hx0]
          obtain ⟨fn, tmps, assign, body, hy, hR⟩ := hY T t wr d1 hI1 hK1
          have HR := Lib.hid hR
          have HD2 := Lib.hid d2
          have HLEN := Lib.hid hlen
          have HAND := Lib.hid hand
          have HBT := Lib.hid hbits
          clear hn hlen hand hdr hI1 hK1 d1 d2 hz ht hR hx' hc0 hbits
          gi_wp2_with fail
          refine ⟨trivial, ?_⟩
          refine (callsIn_wide.2 HTZ.out).mono ?_
          rintro _ _ ⟨rfl, rfl⟩
          gi_wp2
          refine HR.out.mono ?_
          have hbt := HBT.out
          rintro e W3 (⟨rfl, hI3, hK3⟩ | ⟨rfl, hY3⟩)
          · have HI3 := Lib.hid hI3
            have HK3 := Lib.hid hK3
            clear hI3 hK3 HR hy g0 r1 r2 HTZ
            gi_wp2
            refine ⟨⟨x', T + 1, rfl, HAND.out, d3, HD2.out, HI3.out, HK3.out⟩, ?_⟩
            have := HLEN.out
            simp [Go.RowKit.intOf]
            omega
          · have HY3 := Lib.hid hY3
            clear hY3 HR hy hbt g0 r1 r2 r3 HTZ
            gi_wp2
            refine bodyPost_ret (results_none rfl _ _ _) rfl ?_
            exact ⟨⟨_, rfl⟩, .inr HY3.out⟩
    · obtain rfl : k = n := by omega
      rw [List.drop_eq_nil_of_le (show ks.length ≤ k by rw [HS.out.length]; exact Nat.le_refl _)] at hdr
      have hT2 : T = LL.length := by
        have := List.drop_eq_nil_iff.1 hdr
        omega
      subst hT2
      have HI := Lib.hid hI0
      have HKr := Lib.hid hK0
      clear hI0 hK0 hdr
      gi_wp2
      go_end0
      exact ⟨⟨_, rfl⟩, .inl ⟨HI.out, HKr.out⟩⟩
end Go.Proofs.YthjpjeflgnkgpaaDoor
