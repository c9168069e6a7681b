/-
  Layer 8 (topk): a heap of entries, by contracts: New.
-/
import Derived.Test.YtdpoieemadblnaaKOpsP
import Derived.Test.YtdpoieemadblnaaKVec
namespace Go.Proofs.Ytdpoieemadblnaa
open Go.RowKit

theorem kcloneP (A : Option Addr) (n c : Nat) (l : List Km.Ent) (w : World) (h : VecK w A n l) (hA : A = none → c = 0) (hn : n ≤ 100000) :
    Calls Try.prog 47 #[.slice A n c] w fun e w' => ∃ A' c', e = .returned (.slice A' n c') ∧ w'.ownsRow w.heap.size 61 3 (.slice A' n c') n (ce3 l) ∧ Below w.heap.size w w' := by
  obtain ⟨i0, hi, hz0, hz1, hz2⟩ := info_parts Try.kinfoP
  have HL := Lib.hid h
  cases A with
  | none =>
    obtain rfl := hA rfl
    have hn0 : n = 0 := by
      rcases Nat.eq_zero_or_pos n with h0 | h0
      · exact h0
      · obtain ⟨_, _, hc, _⟩ := h.2 h0; cases hc
    subst hn0
    have hl : ce3 l = [] := by rw [List.length_eq_zero_iff.1 h.1]; rfl
    have HE := Lib.hid hl
    have he : ∀ W, (binOp .eql 68 (.slice none 0 0) (.slice none 0 0)).run Try.prog W = .ok (.bool true) W := fun W => Lib.run_eql_slice_nil W 68 61 none 0 0 0 0 Try.underlying68
    clear h hl hA
    go_enter Try.func47, Try.ntmps47
    go_wp2
    go_ret
    exact ⟨none, 0, rfl, by rw [HE.out]; exact World.ownsRow_nil _ _ _ _, Below.refl _ _⟩
  | some ad =>
    have HB := Lib.hid ((Below.refl _ w).alloc (Nat.le_refl _) (.cells #[] 61))
    have he : ∀ W, (binOp .eql 68 (.slice (some ad) n c) (.slice none 0 0)).run Try.prog W = .ok (.bool false) W := fun W => Lib.run_eql_slice_nil W 68 61 (some ad) n c 0 0 Try.underlying68
    clear h hA
    go_enter Try.func47, Try.ntmps47
    go_wp2_with (at_builtin; refine append_vec3 _ rfl (.tmp 5) (.tmp 6) 68 rfl w.heap.size 61 i0 (.agg #[.int .i64 0, .int .i64 0, .int .i64 0]) 24 Try.underlying68 hi hz0 hz1 hz2 rfl (.slice (some ⟨w.heap.size, 0, none⟩) 0 0) 0 [] rfl (own_none3 (heap_alloc_new w _) (Nat.le_refl _)) (some ad) n c l rfl (fun h => by cases h) (HL.out.below HB.out) (by unfold maxLen; omega) (by omega) HB.out.size ?_; intro v' w' q1 q2; have Q1 := Lib.hid q1; have Q2 := Lib.hid (HB.out.grown q2 HB.out.size (fun k hk => by simp [Value.ownBlock] at hk; omega)); clear q1 q2)
    go_ret
    have q := Q1.out
    rw [Nat.zero_add, List.nil_append] at q
    rcases q.2 with ⟨rfl, rfl⟩ | ⟨g, cap, cur, rfl, _⟩
    · exact ⟨none, 0, rfl, q, Q2.out⟩
    · exact ⟨_, cap, rfl, q, Q2.out⟩

theorem knewP (cb : Nat) (A : Option Addr) (n c : Nat) (l : List Km.Ent) (w : World) (hC : CapP w cb) (h : VecK w A n l) (hA : A = none → c = 0) (hn : n ≤ 100000) :
    Calls Try.prog 28 #[(.func (.func 49) #[] #[.pointer (some ⟨cb, 0, none⟩)]), .slice A n c] w fun e w' => ∃ (S : Nat → Prop) (B : Nat), e = .returned (.pointer (some ⟨B, 0, none⟩)) ∧ HpkP cb w' S B l ∧ Below w.heap.size w w' ∧ ∀ k, S k → k = cb ∨ w.heap.size ≤ k := by
  have HL := Lib.hid h.length
  have HC := Lib.hid (kcloneP A n c l w h hA hn)
  have HCB := Lib.hid hC
  clear h hA hC
  go_enter Try.func28, Try.ntmps28
  go_wp2_with fail
  refine HC.out.mono ?_
  rintro _ w1 ⟨A', c', rfl, ho, hb⟩
  have hlc := HCB.out.lt
  obtain ⟨S, hSd⟩ : ∃ S : Nat → Prop, S = fun k => k = cb ∨ (w.heap.size ≤ k ∧ k < w1.heap.size + 1) := ⟨_, rfl⟩
  have hb2 : Below w.heap.size w (w1.alloc (.cells #[(.func (.func 49) #[] #[.pointer (some ⟨cb, 0, none⟩)]), .slice A' n c'] 94)) := hb.alloc hb.size _
  have hs1 := hb.size
  have hS : HdkP cb (w1.alloc (.cells #[(.func (.func 49) #[] #[.pointer (some ⟨cb, 0, none⟩)]), .slice A' n c'] 94)) S w1.heap.size l := by
    have hB := heap_alloc_new w1 (.cells #[(.func (.func 49) #[] #[.pointer (some ⟨cb, 0, none⟩)]), .slice A' n c'] 94)
    have ho2 := ho.alloc (.cells #[(.func (.func 49) #[] #[.pointer (some ⟨cb, 0, none⟩)]), .slice A' n c'] 94)
    have hcap := HCB.out.below hb2
    have hSlt : ∀ k, S k → k < (w1.alloc (.cells #[(.func (.func 49) #[] #[.pointer (some ⟨cb, 0, none⟩)]), .slice A' n c'] 94)).heap.size := fun k hk => by
      rw [hSd] at hk
      simp
      rcases hk with rfl | ⟨_, hk⟩
      · omega
      · exact hk
    have hSB : S w1.heap.size := by rw [hSd]; exact .inr ⟨hs1, by omega⟩
    have hSc : S cb := by rw [hSd]; exact .inl rfl
    rcases ho.2 with ⟨e, rfl⟩ | ⟨g, cap, cur, e, h1, h2, _⟩
    · injection e with e1 _ e3
      subst e1
      subst e3
      have hl0 : l = [] := List.length_eq_zero_iff.1 HL.out
      subst hl0
      refine ⟨⟨hSB, hSlt, .inl ⟨rfl, rfl, hB⟩⟩, hcap, hSc, by omega, fun v hv => ?_⟩
      rw [cell_of_row _ _ _ _ _ _ hB] at hv
      injection hv with hv
      subst hv
      simp [Value.ownBlock]
    · injection e with e1 _ e3
      subst e1
      subst e3
      have := lt_of_block h2
      have hi : InkP cb (w1.alloc (.cells #[(.func (.func 49) #[] #[.pointer (some ⟨cb, 0, none⟩)]), .slice (some ⟨g, 0, none⟩) n c'] 94)) w1.heap.size g n c' l := ⟨In.of_own hB ho2 (by omega), hcap, by omega, by omega⟩
      exact hi.hd hSB (by rw [hSd]; exact .inr ⟨h1, by omega⟩) hSc hSlt
  have HS := Lib.hid hS
  have HB := Lib.hid hb2
  obtain ⟨A2, c2, -, cl, -⟩ := hS.d.list
  rw [HL.out] at cl
  have e1 : (n : Int).tdiv 2 = ((n / 2 : Nat) : Int) := by rw [Int.tdiv_eq_ediv_of_nonneg (by omega)]; omega
  obtain ⟨B, hBB⟩ : ∃ B, B = w1.heap.size := ⟨_, rfl⟩
  have HSD := Lib.hid hSd
  clear hS hb2 ho hb HC hSd
  go_wp2
  go_loopw [6] (fun I wr => ∃ (j : Nat) (xs : List Km.Ent), I = .int .i64 ((j : Int) - 1) ∧ j ≤ n / 2 ∧ HdkP cb wr S w1.heap.size xs ∧ Hm.Hp (Km.lat Om.less) j xs ∧ xs.Perm l ∧ Below w.heap.size w wr) (fun I _ => (intOf I + 1).toNat)
  case atStart => exact ⟨n / 2, l, congrArg (Value.int .i64) (by omega), Nat.le_refl _, HS.out, Hm.Hp.none (by rw [HL.out]; omega), List.Perm.refl _, HB.out⟩
  case round =>
    obtain ⟨j, xs, rfl, jn, hd, hp, hpm, hb⟩ := hrel
    have HD := Lib.hid hd
    have HP := Lib.hid hp
    have HPM := Lib.hid hpm
    have HBr := Lib.hid hb
    clear hd hp hpm hb cl
    cases j with
    | zero =>
      go_wp2
      go_ret
      exact ⟨S, _, rfl, ⟨xs, HD.out, HP.out, HPM.out⟩, HBr.out, fun k hk => by
        rw [HSD.out] at hk
        rcases hk with rfl | ⟨hk, _⟩
        · exact .inl rfl
        · exact .inr hk⟩
    | succ j =>
      obtain ⟨A3, c3, -, -, -, -, -, -, hA⟩ := HD.out.d.list
      have hxl : xs.length = n := by rw [HPM.out.length_eq, HL.out]
      rcases hA with ⟨_, h, _⟩ | ⟨g, rfl, hg, hI⟩
      · omega
      have HI := Lib.hid (show InkP cb wr w1.heap.size g n c3 xs from HD.out.in_ (by rw [hxl] at hI; exact hI))
      have HG := Lib.hid hg
      clear hI hg hxl
      have ej : ((j + 1 : Nat) : Int) - 1 = (j : Int) := by omega
      rw [ej]
      go_wp2_with fail
      refine (ksinkP cb w1.heap.size g n c3 j j xs _ HI.out HP.out.sk (Nat.le_refl _) (by omega) (by omega)).mono ?_
      rintro _ w4 ⟨rfl, l4, i4, s4, p4, b4⟩
      have hg2 : w.heap.size ≤ g := by
        have := HG.out
        rw [HSD.out] at this
        rcases this with e | ⟨hk, _⟩
        · exact absurd e.symm HI.out.bg
        · exact hk
      have HD4 := Lib.hid (i4.hd HD.out.d.1 HG.out HD.out.sc fun k hk => Nat.lt_of_lt_of_le (HD.out.d.2.1 k hk) b4.size)
      have HP4 := Lib.hid s4
      have HPM4 := Lib.hid (p4.trans HPM.out)
      have HB4 := Lib.hid (HBr.out.trans (b4.old HBr.out.size hg2))
      clear i4 s4 p4 b4 hg2
      go_wp2
      go_roundw
      case rel => exact ⟨j, l4, rfl, by omega, HD4.out, HP4.out, HPM4.out, HB4.out⟩
      case measure => simp [intOf]
end Go.Proofs.Ytdpoieemadblnaa
