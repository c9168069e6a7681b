/-
  Layer 6 (stream): Of, by its contract.
-/
import Derived.Test.YtggbclkinndpnaaMLeaf
import Derived.OpenShut
namespace Go.Proofs.Ytggbclkinndpnaa
open Go.RowKit

/-- Draws, as a world that grew out of the law's first one holds them -/
structure Dws (w : World) (B : Nat) (s : Int) (A : Option Addr) (n c : Nat) (xs : List Int) : Prop where
  s0 : 0 ≤ s
  s1 : s < 18446744073709551616
  l : Lst w B A n (xs.map (Value.int .u64))
  nil : A = none → c = 0
  x : ∀ x ∈ xs, 0 ≤ x ∧ x < 18446744073709551616
section
variable {w w' : World} {B B' : Nat} {s : Int} {A : Option Addr} {n c : Nat} {xs : List Int}
theorem Dws.below (h : Dws w B s A n c xs) (hb : Below B w w') : Dws w' B s A n c xs := ⟨h.s0, h.s1, h.l.below hb, h.nil, h.x⟩
theorem Dws.more (h : Dws w B s A n c xs) (hB : B ≤ B') : Dws w B' s A n c xs := ⟨h.s0, h.s1, h.l.more hB, h.nil, h.x⟩
theorem Dws.of_row {zs : List Int} (hs : (Lit.int .u64 s).wf = true) (h : IsRow .u64 w A n c zs) : Dws w w.heap.size s A n c (zs.take n) := by
  obtain ⟨h1, _, _, h2, h3⟩ := h.lst
  have := bounds_u64 hs
  exact ⟨by omega, by omega, h1, h3, fun x hx => by have := bounds_u64 (h2 x hx); omega⟩
theorem Dws.len (h : Dws w B s A n c xs) : xs.length = n := by have := h.l.1; simpa using this
end
/-- the type of a tree's stream -/
def strT (sc : Bool) (t n : Int) : Nat := if t < 0 ∨ n ≤ t then 49 else if sc then 49 else 53
theorem lstF_nil : lstF [] = fun _ => 0 := by funext k; rfl
theorem Bas.wide {w : World} {lo hi lo' b : Nat} {f : Nat → Int} {T : Nat} (h : Bas T w lo hi b f) (h1 : lo' ≤ lo) : Bas T w lo' hi b f := by
  obtain ⟨a1, a2, a3, a4, a5⟩ := h
  refine ⟨by omega, a2, a3, a4, ?_⟩
  rcases a5 with ⟨rfl, A, n, c, xs, hb, hl, hc, hf⟩ | ⟨rfl, s, hb, hs0, hs1, hf⟩
  · refine .inl ⟨rfl, A, n, c, xs, hb, ⟨hl.1, fun hn => ?_⟩, hc, hf⟩
    obtain ⟨g, off, e, g1, g2, g3⟩ := hl.2 hn
    exact ⟨g, off, e, by omega, g2, g3⟩
  · exact .inr ⟨rfl, s, hb, hs0, hs1, hf⟩
theorem Bas.same {w : World} {lo hi b : Nat} {f g : Nat → Int} {T : Nat} (h : Bas T w lo hi b f) (e : f = g) : Bas T w lo hi b g := e ▸ h

theorem strOf_any (sc : Bool) (s : Int) (A : Option Addr) (len c : Nat) (xs : List Int) (t n : Int) (w : World) (h : Dws w w.heap.size s A len c xs) (hl : len ≤ 1000) (hn : n ≤ 1000000) :
    Calls Try.prog 8 #[.agg #[.bool sc, .int .u64 s, .slice A len c], .int .i64 t, .int .i64 n] w fun e w' => ∃ b, e = .returned (.iface (strT sc t n) (.pointer (some ⟨b, 0, none⟩))) ∧ Bas (strT sc t n) w' w.heap.size w'.heap.size b (Sm.strF sc s xs t n) ∧ Below w.heap.size w w' := by
  have HB : Hid (Below w.heap.size w (w.alloc (.cells #[.bool sc, .int .u64 s, .slice A len c] 25))) := (Below.refl _ _).alloc (Nat.le_refl _) _
  have HD := Lib.hid h
  clear h
  by_cases q : t < 0 ∨ n ≤ t
  · have e1 : strT sc t n = 49 := if_pos q
    rw [e1, Sm.strF_none q]
    have HK := Lib.hid (fun w => script_new none 0 0 [] w (Lst.nil _ _ _) (fun _ => rfl) (by omega) (by simp))
    clear e1
    rcases (show (t < 0) ∨ (¬ t < 0 ∧ n ≤ t) from by omega) with q1 | ⟨q1, q2⟩
    all_goals
      clear q
      go_enter Try.func8, Try.ntmps8
      go_wp2_with fail
      refine (HK.out _).mono ?_
      rintro _ w1 ⟨b, rfl, h1, b1⟩
      have R := Lib.hid h1
      have HB1 := Lib.hid (HB.out.trans (b1.mono HB.out.size))
      have hs := HB.out.size
      clear h1 b1 HB
      go_wp2
      go_ret
      exact ⟨b, rfl, (R.out.wide hs).same lstF_nil, HB1.out⟩
  · have n1 : 1 ≤ n := by omega
    have t0 : 0 ≤ t := by omega
    have tn : ¬ n ≤ t := by omega
    obtain ⟨i, rfl⟩ : ∃ i : Nat, t = i := ⟨t.toNat, by omega⟩
    obtain ⟨m, rfl⟩ : ∃ m : Nat, n = m := ⟨n.toNat, by omega⟩
    cases sc with
    | true =>
      have e1 : strT true i m = 49 := by unfold strT; rw [if_neg q]; rfl
      have e2 : Hid (lstF (Sm.share xs i m) = Sm.strF true s xs i m) := Lib.hid (by rw [Sm.strF_list q]; funext k; exact Sm.share_at xs i m (by omega) k)
      rw [e1]
      have HK := Lib.hid (share_any A len c xs i m _ ((HD.out.below HB.out).l.more HB.out.size) hl (by omega) (by omega))
      have HX := Lib.hid (Sm.part_in HD.out.x i m (Sm.cnt xs.length i m))
      clear e1 q HD
      go_enter Try.func8, Try.ntmps8
      go_wp2_with fail
      refine HK.out.mono ?_
      rintro _ w1 ⟨A', m', c', rfl, hA', hm', hl1, b1⟩
      have HS := Lib.hid (script_new A' m' c' (Sm.share xs i m) w1 hl1 hA' hm' HX.out)
      have HB1 := Lib.hid (HB.out.trans (b1.mono HB.out.size))
      clear hA' hl1 b1 HB HK
      go_wp2_with fail
      refine HS.out.mono ?_
      rintro _ w2 ⟨b, rfl, h2, b2⟩
      have R := Lib.hid (h2.wide HB1.out.size)
      have HB2 := Lib.hid (HB1.out.trans (b2.mono HB1.out.size))
      clear h2 b2 HS HB1
      go_wp2
      go_ret
      exact ⟨b, rfl, R.out.same e2.out, HB2.out⟩
    | false =>
      have e1 : strT false i m = 53 := by unfold strT; rw [if_neg q]; rfl
      have e2 : Hid (Rm.mixAt (Rm.mixAt s i) = Sm.strF false s xs i m) := Lib.hid (by rw [Sm.strF_seed q]; rfl)
      rw [e1]
      have HK := Lib.hid (fun w => strNth_any s i w (by omega))
      have e3 : (if (i : Int) < 0 then 0 else Rm.mixAt s (i : Int).toNat) = Rm.mixAt s i := by rw [if_neg (by omega)]; rfl
      rw [e3] at HK
      have HI := Rm.mixAt_in s i
      obtain ⟨x, hx⟩ : ∃ x, x = Rm.mixAt s i := ⟨_, rfl⟩
      rw [← hx] at HI HK e2
      clear e1 q HD e3 hx
      go_enter Try.func8, Try.ntmps8
      go_wp2_with fail
      refine (HK.out _).mono ?_
      rintro _ w1 ⟨rfl, b1⟩
      have HB1 := Lib.hid (HB.out.trans (b1.mono HB.out.size))
      clear b1 HB HK
      go_wp2_with fail
      refine (mix_new x _ HI.1 HI.2).mono ?_
      rintro _ w2 ⟨b, rfl, h2, b2⟩
      have R := Lib.hid (h2.wide HB1.out.size)
      have HB2 := Lib.hid (HB1.out.trans (b2.mono HB1.out.size))
      clear h2 b2 HB1
      go_wp2
      go_ret
      exact ⟨b, rfl, R.out.same e2.out, HB2.out⟩
end Go.Proofs.Ytggbclkinndpnaa
