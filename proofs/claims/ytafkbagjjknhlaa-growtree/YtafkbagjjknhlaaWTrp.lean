/-
  Layer 13 (grow): grown of the program, by a contract: the stack's machine.
-/
import Derived.Test.YtafkbagjjknhlaaWPsh
import Derived.Test.YtafkbagjjknhlaaWPrg
import Derived.Test.YtafkbagjjknhlaaZSpl
namespace Go.Proofs.Ytafkbagjjknhlaa
open Go.RowKit

def lenOf : Value → Nat
  | .slice _ n _ => n
  | _ => 0
/-- how many draws are left at most -/
def Wm.need (S : List Wm.Tk) : Nat := (S.map fun t => 8 * (t.ids.length - 1)).sum
theorem Wm.need_node {L : List (List Int)} {t : Wm.Tk} {S : List Wm.Tk} (h : 2 ≤ t.ids.length) (g : Nat → Int) (e e' : Nat) (q q' : Option Nat) : Wm.need (⟨Wm.lfF L t.ids g, e, q⟩ :: ⟨Wm.rgF L t.ids g, e', q'⟩ :: S) + 8 = Wm.need (t :: S) := by
  have h1 := Wm.lr_len (L := L) (ids := t.ids) (f := g)
  have h2 := Wm.lr_pos (L := L) (ids := t.ids) (f := g) h
  unfold Wm.need
  rw [List.map_cons, List.map_cons, List.map_cons, List.sum_cons, List.sum_cons, List.sum_cons]
  dsimp only
  omega
/-- what is known of what is left -/
structure Okl (M lim dp : Nat) (S : List Wm.Tk) (N : List Wm.Nd) (k : Nat) : Prop where
  ids : ∀ t ∈ S, 1 ≤ t.ids.length
  dep : ∀ t ∈ S, t.dep ≤ dp
  wh : ∀ t ∈ S, ∀ j, t.wh = some j → j < N.length
  left : N.length + Wm.left S + 1 ≤ 2 * M
  need : k + Wm.need S ≤ 8 * M
theorem btw_below {lo hi : Nat} {a b c : World} (h : Btw lo hi a b) (hb : Below a.heap.size b c) : Btw lo hi a c := ⟨hb.os.trans h.os, hb.tape.trans h.tape, hb.output.trans h.output, Nat.le_trans h.size hb.size, fun k hk ho => (hb.block k hk).trans (h.block k hk ho)⟩
theorem Okl.leaf {M lim dp k : Nat} {t : Wm.Tk} {S : List Wm.Tk} {N : List Wm.Nd} {y : Wm.Nd} (h : Okl M lim dp (t :: S) N k) : Okl M lim dp S (Wm.right N t.wh ++ [y]) k := by
  have h1 := Wm.left_leaf (S := S) (t := t) (h.ids t (.head _))
  have h2 := h.left
  have h3 := h.need
  have h4 : Wm.need S ≤ Wm.need (t :: S) := by unfold Wm.need; rw [List.map_cons, List.sum_cons]; omega
  have hl : (Wm.right N t.wh ++ [y]).length = N.length + 1 := by rw [List.length_append, Wm.right_length]; rfl
  exact ⟨fun t ht => h.ids t (.tail _ ht), fun t ht => h.dep t (.tail _ ht), fun t ht j hj => by have := h.wh t (.tail _ ht) j hj; omega, by omega, by omega⟩
theorem inn_oft {w0 : World} {B q n n' : Nat} {vS vN : Value} {A A' : Option Addr} (h : Oft B n A n' A') (hi : Inn (Pz w0 q vS vN) n A) (h0 : w0.heap.size ≤ B) (hq : q < B) (hS : ∀ k, vS.ownBlock = some k → k < B) (hN : ∀ k, vN.ownBlock = some k → k < B) : Inn (Pz w0 q vS vN) n' A' := by
  have one : ∀ k, k < B → (∀ b, Pz w0 q vS vN b → b ≠ k) → Out k (k + 1) n' A' := fun k hk hb => h k (k + 1) hk fun hn b off s e => by have := hb b (hi hn b off s e); omega
  intro hn b off s e
  have h1 := h 0 w0.heap.size h0 (fun hn b off s e => .inr (hi hn b off s e).1) hn b off s e
  have h2 := one q hq (fun b hb => hb.2.1) hn b off s e
  refine ⟨by omega, by omega, fun e2 => ?_, fun e2 => ?_⟩
  · have h3 := one b (hS b e2) (fun x hx e3 => hx.2.2.1 (e3 ▸ e2)) hn b off s e
    omega
  · have h3 := one b (hN b e2) (fun x hx e3 => hx.2.2.2 (e3 ▸ e2)) hn b off s e
    omega
theorem inn_lt {Pr Pr' : Nat → Prop} {w : World} {A : Option Addr} {n c : Nat} {l : List Int} (h : Sl w A n c l) (hi : Inn Pr n A) (hp : ∀ k, k < w.heap.size → Pr k → Pr' k) : Inn Pr' n A := fun hn b off s e => by
  obtain ⟨b', off', e', hlt, _⟩ := h.lst.2 hn
  have hb : b' = b := by rw [e'] at e; injection e with e; injection e
  exact hp _ (by omega) (hi hn b off s e)
theorem Okl.node {L : List (List Int)} {M lim dp k m : Nat} {t : Wm.Tk} {S : List Wm.Tk} {N : List Wm.Nd} {y : Wm.Nd} {g : Nat → Int} (h : Okl M lim dp (t :: S) N k) (h2 : 2 ≤ t.ids.length) (hd : t.dep < dp) (hm : m ≤ 4) :
    Okl M lim dp (⟨Wm.lfF L t.ids g, t.dep + 1, none⟩ :: ⟨Wm.rgF L t.ids g, t.dep + 1, some N.length⟩ :: S) (Wm.right N t.wh ++ [y]) (k + 2 * m) := by
  have h1 := Wm.left_node (L := L) (S := S) (t := t) h2 g (t.dep + 1) (t.dep + 1) none (some N.length)
  have h3 := Wm.need_node (L := L) (S := S) (t := t) h2 g (t.dep + 1) (t.dep + 1) none (some N.length)
  have h4 := h.left
  have h5 := h.need
  have h6 := Wm.lr_pos (L := L) (f := g) h2
  have hl : (Wm.right N t.wh ++ [y]).length = N.length + 1 := by rw [List.length_append, Wm.right_length]; rfl
  refine ⟨fun x hx => ?_, fun x hx => ?_, fun x hx j hj => ?_, by omega, by omega⟩
  · rcases List.mem_cons.1 hx with rfl | hx
    · exact h6.1
    rcases List.mem_cons.1 hx with rfl | hx
    · exact h6.2
    · exact h.ids x (.tail _ hx)
  · rcases List.mem_cons.1 hx with rfl | hx
    · exact hd
    rcases List.mem_cons.1 hx with rfl | hx
    · exact hd
    · exact h.dep x (.tail _ hx)
  · rcases List.mem_cons.1 hx with rfl | hx
    · cases hj
    rcases List.mem_cons.1 hx with rfl | hx
    · injection hj with hj; omega
    · have := h.wh x (.tail _ hx) j hj; omega
theorem nil_gr {w0 W : World} {q : Nat} (h : W.heap[q]? = some (.cells #[.slice none 0 0] 91 (0, 0))) (hq : w0.heap.size ≤ q) : Gr w0 W q (.slice none 0 0) (.slice none 0 0) [] [] :=
  ⟨h, hq, ⟨[], World.ownsRow_nil _ _ _ _, rfl⟩, ⟨[], World.ownsRow_nil _ _ _ _, rfl⟩⟩
section
variable {w : World} {Sx : Nat → Prop} {s : Nat} {d : Int} {L : List (List Int)} {tr sd : Int} {sc : Bool} {pA : Option Addr} {pn pc : Nat}
set_option maxHeartbeats 3200000 in
set_option maxRecDepth 100000 in
theorem grownT {T lo hi b N0 lim dp : Nat} {f : Nat → Int} (x : It w Sx s d L) (hS : ∀ k, Sx k → k < lo ∨ hi ≤ k) (hr : Src T w lo hi b f N0) (hN : N0 ≤ 800000) (hn : L.length ≤ 1000) (hn1 : 1 ≤ L.length) (hc : Wm.chk tr (lim : Int) (dp : Int) = 0) :
    Calls Try.prog 27 #[.pointer (some ⟨s, 0, none⟩), .agg #[.int .i64 tr, .int .i64 (lim : Int), .int .i64 (dp : Int), .bool sc, .int .u64 sd, .slice pA pn pc], .iface T (.pointer (some ⟨b, 0, none⟩))] w fun e w' => ∃ A' c',
      e = .returned (.slice A' (growT L d lim dp f).1.length c') ∧ Nds (fun k => w.heap.size ≤ k) w' A' (growT L d lim dp f).1.length c' (growT L d lim dp f).1 ∧
      Src T w' lo hi b (Rm.dr f (growT L d lim dp f).2) (N0 + (growT L d lim dp f).2) ∧ Btw lo hi w w' := by
  obtain ⟨in0, hin, hz0, hz1, hz2⟩ := info_parts Try.infoNode
  obtain ⟨Res, hRes⟩ : ∃ Res, Res = growT L d lim dp f := ⟨_, rfl⟩
  rw [← hRes]
  obtain ⟨W0, hW0⟩ : ∃ W0, W0 = w.alloc (.cells #[.int .i64 tr, .int .i64 (lim : Int), .int .i64 (dp : Int), .bool sc, .int .u64 sd, .slice pA pn pc] 28) := ⟨_, rfl⟩
  have hb0 : Below w.heap.size w W0 := by rw [hW0]; exact (Below.refl _ w).alloc (Nat.le_refl _) _
  have hp0 : Prx W0 w.heap.size tr (lim : Int) (dp : Int) sc sd pA pn pc := by rw [hW0]; exact Prx.new w _ _ _ _ _ _ _ _
  have s0 : W0.heap.size = w.heap.size + 1 := by rw [hW0]; simp
  have hhi := hr.size
  have hck := Wm.chk_ok hc
  have HFIN : Hid (Wm.fin L d.toNat lim dp f [⟨Wm.upto L.length, 0, none⟩] [] 0 = Res) := Lib.hid (by
    rw [hRes, Wm.fin, Wm.fin]
    simp [Wm.right, growT, Rm.dr_zero])
  have HI := Lib.hid (x.below hb0)
  have HR := Lib.hid (hr.below hb0)
  have HSS := Lib.hid hS
  have HP := Lib.hid hp0
  have HB0 := Lib.hid hb0
  have HW0 := Lib.hid hW0
  have HC := Lib.hid hc
  have hlen := lenD (x.below hb0)
  clear x hS hr hb0 hp0 hW0 hc hRes
  obtain ⟨M, hM⟩ : ∃ M, M = L.length := ⟨_, rfl⟩
  rw [← hM] at HFIN hn hn1
  have HM := Lib.hid hM
  clear hM hlen
  obtain ⟨W2, hW2⟩ : ∃ W2, W2 = W0.alloc (.cells #[.slice none 0 0] 91) := ⟨_, rfl⟩
  have hb2 : Below W0.heap.size W0 W2 := by rw [hW2]; exact (Below.refl _ W0).alloc (Nat.le_refl _) _
  have s2 : W2.heap.size = W0.heap.size + 1 := by rw [hW2]; simp
  obtain ⟨q, hq⟩ : ∃ q, q = W0.heap.size := ⟨_, rfl⟩
  have G2 : Hid (Gr W0 W2 q (.slice none 0 0) (.slice none 0 0) [] []) := Lib.hid (nil_gr (by rw [hW2, hq]; exact heap_alloc_new W0 _) (by omega))
  have FL2 := lenD (HI.out.below hb2)
  rw [← HM.out] at FL2
  have FLN2 := Lib.hid FL2
  have B2 := Lib.hid hb2
  have HW2 := Lib.hid hW2
  clear hb2 hW2 FL2
  go_enter Try.func27, Try.ntmps27
  go_wp2_with fail
  rw [← HW0.out, ← HW2.out]
  clear HW0 HW2
  refine FLN2.out.mono ?_
  rintro _ _ ⟨rfl, rfl⟩
  clear FLN2
  go_wp2_with fail
  refine (riseW hn).mono ?_
  rintro _ w3 ⟨A3, c3, rfl, hs3, hn3, hb3⟩
  have s3 := hb3.size
  have B3 : Hid (Below W0.heap.size W0 w3) := Lib.hid (B2.out.trans (hb3.mono (by omega)))
  have FP0 := pushW (t := ⟨Wm.upto M, 0, none⟩) (G2.out.below hb3) hs3 (fun h0 b off s e => by have := hn3 b off s e; exact ⟨by omega, by omega, by simp [Value.ownBlock], by simp [Value.ownBlock]⟩) (by simp) (by omega)
  rw [show whI (none : Option Nat) = -1 from rfl, show ((0 : Nat) : Int) = 0 from rfl, List.nil_append] at FP0
  have FP := Lib.hid FP0
  have hq1 : W0.heap.size ≤ q := by omega
  rw [show w.heap.size + 1 = q from by omega]
  clear FP0 hs3 hn3 hb3 G2 hq
  go_wp2_with fail
  refine FP.out.mono ?_
  rintro _ w4 ⟨rfl, ⟨vS4, hg4, -⟩, hb4, -⟩
  have HG4 := Lib.hid hg4
  have B4 : Hid (Below W0.heap.size W0 w4) := Lib.hid (B3.out.trans hb4)
  clear hg4 hb4 FP B3 B2
  go_wp2
  go_loopw [7] (fun vN wr => ∃ vS S N k, Gr W0 wr q vS vN S.reverse N ∧ Wm.fin L d.toNat lim dp f S N k = Res ∧ Okl M lim dp S N k ∧ Src T wr lo hi b (Rm.dr f k) (N0 + k) ∧ Btw lo hi W0 wr) (fun vN _ => 2 * M + 1 - lenOf vN)
  case atStart =>
    refine ⟨vS4, [⟨Wm.upto M, 0, none⟩], [], 0, HG4.out, HFIN.out, ⟨?_, ?_, ?_, ?_, ?_⟩, (HR.out.keep B4.out.size fun k _ hk => B4.out.block k (by omega)), Btw.of_below B4.out⟩
    · intro t ht; rw [List.mem_singleton] at ht; subst ht; rw [Wm.upto_length]; exact hn1
    · intro t ht; rw [List.mem_singleton] at ht; subst ht; exact Nat.zero_le _
    · intro t ht j hj; rw [List.mem_singleton] at ht; subst ht; cases hj
    · simp [Wm.left, Wm.upto_length]; omega
    · simp [Wm.need, Wm.upto_length]; omega
  case round =>
    obtain ⟨vS, S, N, k, hg, hfin, hok, hsrc, hbt⟩ := hrel
    have hqc : wr.cell? ⟨q, 0, none⟩ = some vS := by rw [cell_of_row _ _ _ _ _ _ hg.var]; rfl
    have HG := Lib.hid hg
    have HF := Lib.hid hfin
    have HK := Lib.hid hok
    have HSR := Lib.hid hsrc
    have HBT := Lib.hid hbt
    have sw := hbt.size
    cases S with
    | nil =>
      obtain ⟨vs, h1, -⟩ := hg.st
      obtain ⟨As, cs, rfl, -, -⟩ := own_formG h1
      obtain ⟨ns, h3, h4⟩ := hg.nd
      obtain ⟨An, cn, rfl, -, -⟩ := own6_form h3
      have e : Res = (N, k) := hfin.symm
      have HND : Hid (Nds (fun k => w.heap.size ≤ k) wr An N.length cn N) := Lib.hid (Nds.of_own h3 (h4.mono fun k hp => by have := hp.1; omega) rfl (fun k hk _ => by omega))
      have HE := Lib.hid e
      rw [List.reverse_nil, List.length_nil] at hqc
      clear h1 h3 h4 hg hfin hok hsrc hbt e
      go_wp2
      go_ret
      rw [HE.out]
      exact ⟨An, cn, rfl, HND.out, HSR.out, (Btw.of_below HB0.out).trans HBT.out⟩
    | cons t S1 =>
      rw [List.reverse_cons] at hg HG
      obtain ⟨vs, h1, -⟩ := hg.st
      obtain ⟨As, cs, rfl, hAs, hcs⟩ := own_formG h1
      simp only [List.length_append, List.length_reverse, List.length_singleton] at hcs hqc HG hg h1
      obtain ⟨g, rfl⟩ : ∃ g, As = some ⟨g, 0, none⟩ := by
        rcases h1.2 with ⟨hv, _⟩ | ⟨g, cap, cur, hv, _⟩
        · injection hv with h1 h2; omega
        · injection hv with h1; exact ⟨g, h1⟩
      have hglt : g < wr.heap.size := (own_lt6 h1 g rfl).2.1
      have hSl : S1.length ≤ 2000 := by
        have h5 := hok.left
        have h6 : S1.length ≤ Wm.left (t :: S1) := by
          have : ∀ S : List Wm.Tk, (∀ t ∈ S, 1 ≤ t.ids.length) → S.length ≤ Wm.left S := by
            intro S
            induction S with
            | nil => intro _; exact Nat.zero_le _
            | cons a S ih =>
              intro h
              have h7 := ih fun t ht => h t (.tail _ ht)
              have h8 := h a (.head _)
              unfold Wm.left at h7 ⊢
              rw [List.map_cons, List.sum_cons, List.length_cons]
              omega
          have := this (t :: S1) hok.ids
          simp at this
          omega
        omega
      have hNl : N.length ≤ 2000 := by have := hok.left; omega
      have hlr : S1.reverse.length = S1.length := List.length_reverse
      have hpop := Gr.pop (S := S1.reverse) (t := t) (c := cs) (g := g) (by rw [hlr]; exact hg)
      obtain ⟨-, Ai, mi, ci, k0, k1, k2, hsl, hin⟩ := hpop
      rw [hlr] at k0 k1 k2 hin
      obtain ⟨dpt, hdpt⟩ : ∃ dpt, dpt = t.dep := ⟨_, rfl⟩
      rw [← hdpt] at k1
      have hmi : t.ids.length = mi := hsl.length
      have HSL := Lib.hid hsl
      have HIN := Lib.hid hin
      have HMI := Lib.hid hmi
      have HDT := Lib.hid hdpt
      obtain ⟨ns, h3, -⟩ := hg.nd
      obtain ⟨An, cn, rfl, -, -⟩ := own6_form h3
      obtain ⟨WA, hWA⟩ : ∃ WA, WA = wr.alloc (.cells #[.slice Ai mi ci, .int .i64 (dpt : Int), .int .i64 (whI t.wh)] 93) := ⟨_, rfl⟩
      have hba : Below wr.heap.size wr WA := by rw [hWA]; exact (Below.refl _ wr).alloc (Nat.le_refl _) _
      have hgA := hg.below hba
      have hqA := hgA.var
      have hq2 : WA.cell? ⟨q, 0, none⟩ = some (.slice (some ⟨g, 0, none⟩) (S1.length + 1) cs) := (hba.cell (p := ⟨q, 0, none⟩) (cell_block_lt hqc)).trans hqc
      have hqf : WA.frozen? ⟨q, 0, none⟩ = false := frozen_of_row WA q 0 _ _ hqA
      obtain ⟨WC, hWC⟩ : ∃ WC, WC = wr.setCell ⟨q, 0, none⟩ (.slice (some ⟨g, 0, none⟩) S1.length cs) := ⟨_, rfl⟩
      have sC : WC.heap.size = wr.heap.size := by rw [hWC]; simp [World.setCell]
      obtain ⟨WB, hWB⟩ : ∃ WB, WB = WC.alloc (.cells #[.slice Ai mi ci, .int .i64 (dpt : Int), .int .i64 (whI t.wh)] 93) := ⟨_, rfl⟩
      have hqlt : q < wr.heap.size := cell_block_lt hqc
      have hbB : Below WC.heap.size WC WB := by rw [hWB]; exact (Below.refl _ WC).alloc (Nat.le_refl _) _
      have hpB := (Gr.pop (S := S1.reverse) (t := t) (c := cs) (g := g) (by rw [hlr]; exact hg)).1
      rw [hlr, ← hWC] at hpB
      have hpB := hpB.below hbB
      have hkC : ∀ k, k ≠ q → WC.heap[k]? = wr.heap[k]? := fun k hk => by rw [hWC]; exact Below.heap_setCell _ _ _ _ (show k ≠ q from hk)
      have sB : WB.heap.size = wr.heap.size + 1 := by rw [hWB]; simp [sC]
      have hrB : WB.heap[wr.heap.size]? = some (.cells #[.slice Ai mi ci, .int .i64 (dpt : Int), .int .i64 (whI t.wh)] 93 (0, 0)) := by rw [hWB, ← sC]; exact heap_alloc_new WC _
      have bB : Below W0.heap.size wr WB := (by rw [hWC]; exact (Below.refl _ wr).setCell (p := ⟨q, 0, none⟩) hq1 _ : Below W0.heap.size wr WC).trans (hbB.mono (by omega))
      have slB : Sl WB Ai mi ci t.ids := (hsl.keepIn (w' := WC) hin (by omega) fun k hk hp => hkC k hp.2.1).below hbB
      have HGB := Lib.hid hpB
      have HRB := Lib.hid hrB
      have BB := Lib.hid bB
      have SLB := Lib.hid slB
      have hWAB : WB = (wr.setCell ⟨q, 0, none⟩ (.slice (some ⟨g, 0, none⟩) S1.length cs)).alloc (.cells #[.slice Ai mi ci, .int .i64 (dpt : Int), .int .i64 (whI t.wh)] 93) := by rw [hWB, hWC]
      have HWB := Lib.hid hWAB
      rw [hWA] at hq2 hqf
      clear h1 h3 hsl hin hmi hdpt hfin hok hsrc hbt hg hAs hba hgA hqA hpB hkC hrB bB slB hWAB hWB hWA hbB hWC
      go_upto_region 9 with fail
      rw [← HWB.out]
      clear HWB hq2 hqf hqc k0 k1 k2
      have hr0 : WB.cell? ⟨wr.heap.size, 0, none⟩ = some (.slice Ai mi ci) := by rw [cell_of_row _ _ _ _ _ _ HRB.out]; rfl
      have hr1 : WB.cell? ⟨wr.heap.size, 1, none⟩ = some (.int .i64 (dpt : Int)) := by rw [cell_of_row _ _ _ _ _ _ HRB.out]; rfl
      have hnd := HGB.out.nd
      have HPX : Hid (∀ V, Below W0.heap.size W0 V → Prx V w.heap.size tr (lim : Int) (dp : Int) sc sd pA pn pc) := Lib.hid fun V hV => (hV.block w.heap.size (by omega)).trans HP.out
      have hr2 : WB.cell? ⟨wr.heap.size, 2, none⟩ = some (.int .i64 (whI t.wh)) := by rw [cell_of_row _ _ _ _ _ _ HRB.out]; rfl
      have hwj := HK.out.wh t (.head _)
      obtain ⟨wh, hwh⟩ : ∃ wh, wh = t.wh := ⟨_, rfl⟩
      rw [← hwh] at hr2 hwj
      have HWH := Lib.hid hwh
      clear hwh
      rcases wh with _ | j
      all_goals first
        | (rw [show whI none = -1 from rfl] at hr2
           obtain ⟨WD, hWD⟩ : ∃ WD, WD = WB := ⟨_, rfl⟩
           have HGD : Hid (Gr W0 WD q (.slice (some ⟨g, 0, none⟩) S1.length cs) (.slice An N.length cn) S1.reverse (Wm.right N t.wh)) := Lib.hid (by rw [← HWH.out, hWD]; exact HGB.out)
           have HRD := HRB
           have SLD := SLB
           have BD := BB
           rw [← hWD] at HRD SLD BD
           have hWDs : WD.heap.size = wr.heap.size + 1 := by rw [hWD, sB]
           have HWD := Lib.hid hWD
           obtain ⟨vN, hvN⟩ : ∃ vN, vN = Value.slice An N.length cn := ⟨_, rfl⟩
           rw [← hvN] at HGD
           have HVN := Lib.hid hvN
           clear hwj hnd HGB HRB SLB BB hWD hvN
           go_upto_region 11 with fail
           rw [← HWD.out])
        | (have hj := hwj j rfl
           obtain ⟨ns, h3, h4⟩ := hnd
           obtain ⟨gN, rfl⟩ : ∃ gN, An = some ⟨gN, 0, none⟩ := by
             rcases h3.2 with ⟨hv, h0⟩ | ⟨g', cap, cur, hv, _⟩
             · injection hv with h1 h2; omega
             · injection hv with h1; exact ⟨g', h1⟩
           have hl := h4.len
           have hcN : WB.cell? ⟨gN, j * 6 + 5, none⟩ = some ns[j * 6 + 5] := by
             have := h3.cells (g := gN) rfl (j * 6 + 5) _ (List.getElem?_eq_getElem (by omega))
             rwa [Addr.add_lit, Nat.zero_add] at this
           obtain ⟨-, -, csN, hcsN⟩ := own_lt6 h3 gN rfl
           have hfN := frozen_of_row WB gN (j * 6 + 5) _ _ hcsN
           obtain ⟨xN, hxN⟩ : ∃ xN, xN = ns[j * 6 + 5] := ⟨_, rfl⟩
           rw [← hxN] at hcN
           rw [show whI (some j) = (j : Int) from rfl] at hr2
           obtain ⟨WD, hWD⟩ : ∃ WD, WD = WB.setCell ⟨gN, j * 6 + 5, none⟩ (.int .i64 (N.length : Int)) := ⟨_, rfl⟩
           have HGD : Hid (Gr W0 WD q (.slice (some ⟨g, 0, none⟩) S1.length cs) (.slice (some ⟨gN, 0, none⟩) N.length cn) S1.reverse (Wm.right N t.wh)) := Lib.hid (by rw [← HWH.out, hWD]; exact HGB.out.rt hj)
           have hgr : gN ≠ wr.heap.size := fun e => by
             rw [e, HRB.out] at hcsN
             injection hcsN with hcsN
             injection hcsN with _ hcsN
             exact absurd hcsN (by decide)
           have HRD : Hid (WD.heap[wr.heap.size]? = some (.cells #[.slice Ai mi ci, .int .i64 (dpt : Int), .int .i64 (whI t.wh)] 93 (0, 0))) := Lib.hid (by rw [hWD, Below.heap_setCell _ _ _ _ (show wr.heap.size ≠ gN from fun e => hgr e.symm)]; exact HRB.out)
           have hin := HIN.out
           have SLD : Hid (Sl WD Ai mi ci t.ids) := Lib.hid (SLB.out.keepIn hin (by rw [hWD]; simp [World.setCell]) fun k hk hp => by rw [hWD]; exact Below.heap_setCell _ _ _ _ (show k ≠ gN from fun e => hp.2.2.2 (e ▸ rfl)))
           have BD : Hid (Below W0.heap.size wr WD) := Lib.hid (by rw [hWD]; exact BB.out.setCell (p := ⟨gN, j * 6 + 5, none⟩) (own_lt6 h3 gN rfl).1 _)
           have hWDs : WD.heap.size = wr.heap.size + 1 := by rw [hWD]; simp [World.setCell, sB]
           have HWD := Lib.hid hWD
           obtain ⟨vN, hvN⟩ : ∃ vN, vN = Value.slice (some ⟨gN, 0, none⟩) N.length cn := ⟨_, rfl⟩
           rw [← hvN] at HGD
           have HVN := Lib.hid hvN
           clear hwj h3 h4 HGB HRB SLB BB hWD hvN hxN hcsN hgr hin hl
           go_upto_region 11 with fail
           rw [← HWD.out])
      all_goals
        have hr0 : WD.cell? ⟨wr.heap.size, 0, none⟩ = some (.slice Ai mi ci) := by rw [cell_of_row _ _ _ _ _ _ HRD.out]; rfl
        have hr1 : WD.cell? ⟨wr.heap.size, 1, none⟩ = some (.int .i64 (dpt : Int)) := by rw [cell_of_row _ _ _ _ _ _ HRD.out]; rfl
        have hbt : Btw lo hi W0 WD := btw_below HBT.out BD.out
        have hpx := HP.out.btw (.inr hhi) hbt
        have q1 := hpx.c1
        have q2 := hpx.c2
        have hsr := HSR.out.keep (w' := WD) BD.out.size fun k _ hk => BD.out.block k (by omega)
        have HBD := Lib.hid hbt
        have HSD := Lib.hid hsr
        have hNr : (Wm.right N t.wh).length = N.length := Wm.right_length _ _
        obtain ⟨ns, h3, h4⟩ := HGD.out.nd
        rw [hNr] at h3
        have OWN := Lib.hid h3
        have HNV := Lib.hid h4
        have hok1 := HK.out.ids t (.head _)
        have hok4 := HK.out.left
        rw [HMI.out] at hok1
        have HNR := Lib.hid hNr
        have hWD1 : wr.heap.size + 1 ≤ WD.heap.size := by omega
        clear hbt hpx hsr h3 h4 hr2 hNr hWDs
        by_cases hle : mi ≤ lim ∨ dp ≤ dpt
        · have HFL := Wm.fin_leaf (L := L) (d := d.toNat) (lim := lim) (D := dp) (f := f) (t := t) (S := S1) (N := N) (k := k) (by rw [HMI.out, ← HDT.out]; exact hle)
          rw [HF.out] at HFL
          have HFL := Lib.hid HFL
          obtain ⟨WE, hWE⟩ : ∃ WE, WE = WD.alloc (.cells #[.bool true, .slice Ai mi ci, .slice none 0 0, .int .i64 0, .int .i64 0, .int .i64 0] 59) := ⟨_, rfl⟩
          have hbE : Below WD.heap.size WD WE := by rw [hWE]; exact (Below.refl _ WD).alloc (Nat.le_refl _) _
          have hgE := HGD.out.below hbE
          have ownE : WE.ownsRow W0.heap.size 59 6 vN N.length ns := own_keep6 OWN.out fun k e => hbE.block k (own_lt6 OWN.out k e).2.1
          have nvE : NdV (Pz W0 q (.slice (some ⟨g, 0, none⟩) S1.length cs) vN) WE ns (Wm.right N t.wh) := HNV.out.keep hbE.size fun k hk _ => hbE.block k hk
          have naE : NdA (Pz W0 q (.slice (some ⟨g, 0, none⟩) S1.length cs) vN) WE (Wm.one t.ids) Ai mi ci none 0 0 := ⟨SLD.out.below hbE, (by rw [HVN.out]; exact HIN.out), ⟨Lst.nil _ _ _, by simp [Wm.one]⟩, nil_in _ _, Nat.zero_le _⟩
          have HGE := Lib.hid hgE
          have OWE := Lib.hid ownE
          have NVE := Lib.hid nvE
          have NAE := Lib.hid naE
          have HBE := Lib.hid hbE
          have HWE := Lib.hid hWE
          have hsE := hbE.size
          clear hgE ownE nvE naE hbE hWE
          have hdle : dpt ≤ dp := by have := HK.out.dep t (.head _); rw [HDT.out]; exact this
          rcases (show mi ≤ lim ∨ (¬ mi ≤ lim ∧ ((dpt : Int) == (dp : Int)) = true) from by
            rcases Nat.lt_or_ge lim mi with h | h
            · exact .inr ⟨by omega, by simp; omega⟩
            · exact .inl h) with hA | ⟨hA, hB⟩
          all_goals
            clear hle hdle
            go_wp2_with (at_builtin; refine wpList_append_own_at _ rfl (.tmp 57) (.tmp 61) 40 rfl W0.heap.size 59 in0 (.agg #[.bool false, .slice none 0 0, .slice none 0 0, .int .i64 0, .int .i64 0, .int .i64 0]) 6 80 Try.underlying40 hin hz0 hz1 hz2 rfl (by decide) vN N.length ns (by rw [HVN.out]; rfl) (by rw [← HWE.out]; exact OWE.out) ⟨WD.heap.size, 0, none⟩ 1 1 [.bool true, .slice Ai mi ci, .slice none 0 0, .int .i64 0, .int .i64 0, .int .i64 0] rfl rfl (World.news_of_block (heap_alloc_new WD _)) (by intro u hu; simp at hu; rcases hu with rfl | rfl | rfl | rfl | rfl | rfl <;> rfl) (by unfold maxLen; omega) (by omega) (by simp; omega) ?_; intro v' w1 hown' hgr _ hat; rw [← HWE.out] at hgr hat; have HGN := Lib.hid (HGE.out.node NVE.out NAE.out (by rw [HNR.out]; exact hown') hgr hat); have HBN : Hid (Below W0.heap.size WD w1) := Lib.hid ((HBE.out.mono (by omega)).grown hgr (by omega) (fun k e => (own_lt6 OWE.out k e).1)); obtain ⟨A', c', hvf, -, -⟩ := own_formG hown'; have HVF := Lib.hid hvf; clear hown' hgr hat hvf)
            refine ⟨⟨.slice (some ⟨g, 0, none⟩) S1.length cs, S1, Wm.right N t.wh ++ [Wm.one t.ids], k, HGN.out, HFL.out.symm, HK.out.leaf, (HSD.out.keep HBN.out.size fun k _ hk => HBN.out.block k (by omega)), btw_below HBD.out HBN.out⟩, ?_⟩
            rw [HVF.out]
            simp only [lenOf]
            omega
        · have h5 : lim < mi := by omega
          have h6 : dpt < dp := by omega
          have h6' : ((dpt : Int) == (dp : Int)) = false := by simp; omega
          have HFL := Wm.fin_node (L := L) (d := d.toNat) (lim := lim) (D := dp) (f := f) (t := t) (S := S1) (N := N) (k := k) (by rw [HMI.out]; exact h5) (by rw [← HDT.out]; exact h6)
          rw [HF.out] at HFL
          have HFL := Lib.hid HFL
          have hneed := HK.out.need
          have FC0 := chooseZ (N := N0 + k) ((HI.out.btw HSS.out HBD.out)) SLD.out HSS.out (fun h0 b off s e => .inr (by have := HIN.out h0 b off s e; have := this.1; omega)) HSD.out (by have := HK.out.left; have h7 := Wm.left_leaf (S := S1) (t := t) (by rw [HMI.out]; omega); unfold Wm.left at *; rw [List.map_cons, List.sum_cons, HMI.out] at this; omega) (by omega)
          have FC := Lib.hid FC0
          clear FC0 hle
          go_wp2_with fail
          refine FC.out.mono ?_
          rintro _ w5 ⟨Ap, np, cp, A1, c1, A4, c4, rfl, hv, hnp, hsl1, hsl4, hsrc5, hbt5, hnw, ho1, ho4⟩
          rw [show Zm.lfOf L t.ids (refP (Rm.dr f k) mi) (refQ (Rm.dr f k) mi) = Wm.lfF L t.ids (Rm.dr f k) from by rw [← HMI.out]; rfl] at hsl1 ho1
          rw [show Zm.rgOf L t.ids (refP (Rm.dr f k) mi) (refQ (Rm.dr f k) mi) = Wm.rgF L t.ids (Rm.dr f k) from by rw [← HMI.out]; rfl] at hsl4 ho4
          rw [show Zm.pnOf L t.ids (refP (Rm.dr f k) mi) (refQ (Rm.dr f k) mi) d.toNat = Wm.pnF L t.ids (Rm.dr f k) d.toNat from by rw [← HMI.out]; rfl] at hv
          rw [show Zm.tries L t.ids (refP (Rm.dr f k) mi) (refQ (Rm.dr f k) mi) = Wm.trF L t.ids (Rm.dr f k) from by rw [← HMI.out]; rfl] at hsrc5 ⊢
          rw [show Zm.poOf L t.ids (refP (Rm.dr f k) mi) (refQ (Rm.dr f k) mi) = Wm.poF L t.ids (Rm.dr f k) from by rw [← HMI.out]; rfl, show Zm.lfOf L t.ids (refP (Rm.dr f k) mi) (refQ (Rm.dr f k) mi) = Wm.lfF L t.ids (Rm.dr f k) from by rw [← HMI.out]; rfl, show Zm.rgOf L t.ids (refP (Rm.dr f k) mi) (refQ (Rm.dr f k) mi) = Wm.rgF L t.ids (Rm.dr f k) from by rw [← HMI.out]; rfl]
          obtain ⟨PO, hPO⟩ : ∃ PO, PO = Wm.poF L t.ids (Rm.dr f k) := ⟨_, rfl⟩
          obtain ⟨TR, hTR⟩ : ∃ TR, TR = Wm.trF L t.ids (Rm.dr f k) := ⟨_, rfl⟩
          obtain ⟨nl, hnl⟩ : ∃ nl, nl = (Wm.lfF L t.ids (Rm.dr f k)).length := ⟨_, rfl⟩
          obtain ⟨nr, hnr⟩ : ∃ nr, nr = (Wm.rgF L t.ids (Rm.dr f k)).length := ⟨_, rfl⟩
          rw [← hPO, ← hTR, ← hnl, ← hnr]
          rw [← hnl] at hsl1 ho1
          rw [← hnr] at hsl4 ho4
          rw [← hTR] at hsrc5
          have HPO := Lib.hid hPO
          have HTR := Lib.hid hTR
          have HNL := Lib.hid hnl
          have HNR2 := Lib.hid hnr
          clear hPO hTR hnl hnr
          have s5 := hbt5.size
          have hg5 := HGD.out.btw (by omega) hbt5
          obtain ⟨W6, hW6⟩ : ∃ W6, W6 = w5.alloc (.cells #[.slice Ap np cp, .int .i64 PO, .slice A1 nl c1, .slice A4 nr c4, .int .i64 (TR : Int)] 97) := ⟨_, rfl⟩
          have hb6 : Below w5.heap.size w5 W6 := by rw [hW6]; exact (Below.refl _ w5).alloc (Nat.le_refl _) _
          have hr6 : W6.heap[w5.heap.size]? = some (.cells #[.slice Ap np cp, .int .i64 PO, .slice A1 nl c1, .slice A4 nr c4, .int .i64 (TR : Int)] 97 (0, 0)) := by rw [hW6]; exact heap_alloc_new w5 _
          have HW6 := Lib.hid hW6
          clear hW6
          go_upto_region 14 with fail
          rw [← HW6.out]
          clear HW6
          obtain ⟨hap1, hap2⟩ := HGD.out.apart
          have hqD : q < WD.heap.size := lt_of_block HGD.out.var
          have hgD : g < WD.heap.size := by obtain ⟨vs, h1, -⟩ := HGD.out.st; exact (own_lt6 h1 g rfl).2.1
          have hvD : ∀ k, vN.ownBlock = some k → k < WD.heap.size := fun k e => (own_lt6 OWN.out k e).2.1
          have in1 : Inn (Pz W0 q (.slice (some ⟨g, 0, none⟩) S1.length cs) vN) nl A1 := inn_oft ho1 (by rw [HVN.out]; exact HIN.out) (by omega) hqD (fun k e => by have e2 : some g = some k := e; injection e2 with e2; omega) hvD
          have in4 : Inn (Pz W0 q (.slice (some ⟨g, 0, none⟩) S1.length cs) vN) nr A4 := inn_oft ho4 (by rw [HVN.out]; exact HIN.out) (by omega) hqD (fun k e => by have e2 : some g = some k := e; injection e2 with e2; omega) hvD
          have inp : Inn (Pz W0 q (.slice (some ⟨g, 0, none⟩) S1.length cs) vN) np Ap := fun _ b off s e => by
            have h8 := hnw b off s e
            exact ⟨by omega, by omega, fun e2 => by have e3 : some g = some b := e2; injection e3 with e3; omega, fun e2 => by have := hvD b e2; omega⟩
          have hg6 := hg5.below hb6
          have own6 : W6.ownsRow W0.heap.size 59 6 vN N.length ns := own_keep6 OWN.out fun k e => (hb6.block k (by have := hvD k e; omega)).trans (hbt5.block k (hvD k e) (.inr (by have := (own_lt6 OWN.out k e).1; omega)))
          have nv6 : NdV (Pz W0 q (.slice (some ⟨g, 0, none⟩) S1.length cs) vN) W6 ns (Wm.right N t.wh) := HNV.out.keep (by have := hb6.size; omega) fun k hk hp => (hb6.block k (by omega)).trans (hbt5.block k hk (.inr (by have := hp.1; omega)))
          have sl61 := hsl1.below hb6
          have sl64 := hsl4.below hb6
          have vp6 := hv.below hb6
          have sr6 := hsrc5.below hb6
          have bt6 : Btw lo hi W0 W6 := (HBD.out.trans hbt5).trans (Btw.of_below hb6)
          have rt6 : W6.heap[wr.heap.size]? = some (.cells #[.slice Ai mi ci, .int .i64 (dpt : Int), .int .i64 (whI t.wh)] 93 (0, 0)) := (hb6.block _ (by omega)).trans ((hbt5.block _ (by omega) (.inr (by omega))).trans HRD.out)
          obtain ⟨W7, hW7⟩ : ∃ W7, W7 = W6.alloc (.cells #[.bool false, .slice none 0 0, .slice Ap np cp, .int .i64 PO, .int .i64 ((N.length : Int) + 1), .int .i64 0] 59) := ⟨_, rfl⟩
          have hb7 : Below W6.heap.size W6 W7 := by rw [hW7]; exact (Below.refl _ W6).alloc (Nat.le_refl _) _
          have na7 : NdA (Pz W0 q (.slice (some ⟨g, 0, none⟩) S1.length cs) vN) W7 ⟨false, [], Wm.pnF L t.ids (Rm.dr f k) d.toNat, PO, N.length + 1, 0⟩ none 0 0 Ap np cp := ⟨Sl.none_ _, nil_in _ _, vp6.below hb7, inp, hnp⟩
          have G7 := Lib.hid (hg6.below hb7)
          have O7 : Hid (W7.ownsRow W0.heap.size 59 6 vN N.length ns) := Lib.hid (own_keep6 own6 fun k e => hb7.block k (own_lt6 own6 k e).2.1)
          have NV7 := Lib.hid (nv6.keep hb7.size fun k hk _ => hb7.block k hk)
          have NA7 := Lib.hid na7
          have SL1 := Lib.hid (sl61.below hb7)
          have SL4 := Lib.hid (sl64.below hb7)
          have IN1 := Lib.hid in1
          have IN4 := Lib.hid in4
          have SR7 := Lib.hid (sr6.below hb7)
          have BT7 := Lib.hid (bt6.trans (Btw.of_below hb7))
          have RT7 := Lib.hid ((hb7.block _ (lt_of_block rt6)).trans rt6)
          have R67 := Lib.hid ((hb7.block _ (lt_of_block hr6)).trans hr6)
          have z0 : W6.cell? ⟨w5.heap.size, 0, none⟩ = some (.slice Ap np cp) := by rw [cell_of_row _ _ _ _ _ _ hr6]; rfl
          have z1 : W6.cell? ⟨w5.heap.size, 1, none⟩ = some (.int .i64 PO) := by rw [cell_of_row _ _ _ _ _ _ hr6]; rfl
          have hneN1 : vN.ownBlock ≠ some w5.heap.size := fun e => by have := hvD _ e; omega
          have hneN2 : vN.ownBlock ≠ some wr.heap.size := fun e => by
            obtain ⟨-, -, cs', hc'⟩ := own_lt6 O7.out _ e
            rw [RT7.out] at hc'
            injection hc' with hc'
            injection hc' with _ hc'
            exact absurd hc' (by decide)
          have HNE1 := Lib.hid hneN1
          have HNE2 := Lib.hid hneN2
          have HW7 := Lib.hid hW7
          have s7 := hb7.size
          clear hneN1 hneN2
          have s6 := hb6.size
          clear hg5 hg6 own6 nv6 sl61 sl64 vp6 sr6 bt6 rt6 hb7 na7 in1 in4 inp hr6 hb6 hW7 hv hsl1 hsl4 hsrc5 hbt5 hnw ho1 ho4 hap1 hap2 hr0 q1 q2 hr1
          go_wp2_with (at_builtin; refine wpList_append_own_at _ rfl (.tmp 68) (.tmp 74) 40 rfl W0.heap.size 59 in0 (.agg #[.bool false, .slice none 0 0, .slice none 0 0, .int .i64 0, .int .i64 0, .int .i64 0]) 6 80 Try.underlying40 hin hz0 hz1 hz2 rfl (by decide) vN N.length ns (by rw [HVN.out]; rfl) (by rw [← HW7.out]; exact O7.out) ⟨W6.heap.size, 0, none⟩ 1 1 [.bool false, .slice none 0 0, .slice Ap np cp, .int .i64 PO, .int .i64 ((N.length : Int) + 1), .int .i64 0] rfl rfl (World.news_of_block (heap_alloc_new W6 _)) (by intro u hu; simp at hu; rcases hu with rfl | rfl | rfl | rfl | rfl | rfl <;> rfl) (by unfold maxLen; omega) (by omega) (by simp; omega) ?_; intro v' w8 hown' hgr _ hat; rw [← HW7.out] at hgr hat; have HG8 := Lib.hid (G7.out.node NV7.out NA7.out (by rw [HNR.out]; exact hown') hgr hat); have HB8 : Hid (Below W0.heap.size W7 w8) := Lib.hid ((Below.refl _ W7).grown hgr (by omega) (fun k e => (own_lt6 O7.out k e).1)); have HK8 : Hid (∀ k, k < W7.heap.size → vN.ownBlock ≠ some k → w8.heap[k]? = W7.heap[k]?) := Lib.hid (fun k hk he => hgr.block k hk (fun e => he e.symm)); have s8 := hgr.size; have r8 := (HK8.out _ (lt_of_block R67.out) HNE1.out).trans R67.out; have t8 := (HK8.out _ (lt_of_block RT7.out) HNE2.out).trans RT7.out; have y2 : w8.cell? ⟨w5.heap.size, 2, none⟩ = some (.slice A1 nl c1) := (by rw [cell_of_row _ _ _ _ _ _ r8]; rfl); have y3 : w8.cell? ⟨w5.heap.size, 3, none⟩ = some (.slice A4 nr c4) := (by rw [cell_of_row _ _ _ _ _ _ r8]; rfl); have y1 : w8.cell? ⟨wr.heap.size, 1, none⟩ = some (.int .i64 (dpt : Int)) := (by rw [cell_of_row _ _ _ _ _ _ t8]; rfl); have R8 := Lib.hid r8; have T8 := Lib.hid t8; have HAT8 := Lib.hid hat; obtain ⟨A', c', hvf, -, -⟩ := own_formG hown'; have HVF := Lib.hid hvf; clear hown' hgr hat hvf r8 t8)
          have hpz8 : ∀ k, k < W7.heap.size → Pz W0 q (.slice (some ⟨g, 0, none⟩) S1.length cs) vN k → Pz W0 q (.slice (some ⟨g, 0, none⟩) S1.length cs) v' k := fun k hk hp => ⟨hp.1, hp.2.1, hp.2.2.1, fun e => by
            rcases HAT8.out with ha | ha
            · exact hp.2.2.2 (ha ▸ e)
            · rw [ha] at e; injection e with e; omega⟩
          have sl84 := SL4.out.keepIn (w' := w8) IN4.out s8 fun k hk hp => HK8.out k hk hp.2.2.2
          have sl81 := SL1.out.keepIn (w' := w8) IN1.out s8 fun k hk hp => HK8.out k hk hp.2.2.2
          have in84 := inn_lt SL4.out IN4.out hpz8
          have in81 := inn_lt SL1.out IN1.out hpz8
          have FP0 := pushW (t := ⟨Wm.rgF L t.ids (Rm.dr f k), dpt + 1, some N.length⟩) HG8.out sl84 in84 (by rw [hlr]; omega) (by omega)
          rw [show whI (some N.length) = (N.length : Int) from rfl, show ((dpt + 1 : Nat) : Int) = (dpt : Int) + 1 from rfl] at FP0
          have FP4 := Lib.hid FP0
          have SL81 := Lib.hid sl81
          have IN81 := Lib.hid in81
          clear FP0 sl84 sl81 in84 in81 hpz8
          refine FP4.out.mono ?_
          rintro _ w9 ⟨rfl, ⟨vS9, hg9, hv9⟩, hb9, hk9⟩
          have hgo : (Value.slice (some ⟨g, 0, none⟩) S1.length cs).ownBlock = some g := rfl
          have r9 := (hk9 _ (lt_of_block R8.out) (by omega) (fun e => by rw [hgo] at e; injection e with e; omega)).trans R8.out
          have t9 := (hk9 _ (lt_of_block T8.out) (by omega) (fun e => by rw [hgo] at e; injection e with e; omega)).trans T8.out
          have y2' : w9.cell? ⟨w5.heap.size, 2, none⟩ = some (.slice A1 nl c1) := by rw [cell_of_row _ _ _ _ _ _ r9]; rfl
          have y1' : w9.cell? ⟨wr.heap.size, 1, none⟩ = some (.int .i64 (dpt : Int)) := by rw [cell_of_row _ _ _ _ _ _ t9]; rfl
          have s9 := hb9.size
          have sl91 := SL81.out.keepIn (w' := w9) IN81.out s9 fun k hk hp => hk9 k hk hp.2.1 hp.2.2.1
          have in91 := inn_lt (Pr' := Pz W0 q vS9 v') SL81.out IN81.out fun k hk hp => ⟨hp.1, hp.2.1, fun e => by
            rcases hv9 k e with h | h
            · exact hp.2.2.1 h
            · omega, hp.2.2.2⟩
          have FP0 := pushW (t := ⟨Wm.lfF L t.ids (Rm.dr f k), dpt + 1, none⟩) hg9 sl91 in91 (by simp; omega) (by omega)
          rw [show whI (none : Option Nat) = -1 from rfl, show ((dpt + 1 : Nat) : Int) = (dpt : Int) + 1 from rfl] at FP0
          have FP9 := Lib.hid FP0
          have HB9 := Lib.hid hb9
          clear FP0 sl91 in91 hg9 hv9 hb9 hk9 r9 t9 FP4 y1 y2 y3
          go_wp2_with fail
          refine FP9.out.mono ?_
          rintro _ wX ⟨rfl, ⟨vSX, hgX, -⟩, hbX, -⟩
          have HGX := Lib.hid hgX
          have BX : Hid (Below W0.heap.size W7 wX) := Lib.hid ((HB8.out.trans HB9.out).trans hbX)
          clear hgX hbX FP9 y1' y2'
          go_wp2
          refine ⟨⟨vSX, ⟨Wm.lfF L t.ids (Rm.dr f k), t.dep + 1, none⟩ :: ⟨Wm.rgF L t.ids (Rm.dr f k), t.dep + 1, some N.length⟩ :: S1, Wm.right N t.wh ++ [⟨false, [], Wm.pnF L t.ids (Rm.dr f k) d.toNat, Wm.poF L t.ids (Rm.dr f k), N.length + 1, 0⟩], k + 2 * Wm.trF L t.ids (Rm.dr f k), ?_, HFL.out.symm, HK.out.node (by rw [HMI.out]; omega) (by rw [← HDT.out]; exact h6) (Wm.tr_le), ?_, btw_below BT7.out BX.out⟩, ?_⟩
          · rw [List.reverse_cons, List.reverse_cons, ← HPO.out, ← HDT.out]
            exact HGX.out
          · have h9 := SR7.out.keep (w' := wX) BX.out.size fun k _ hk => BX.out.block k (by omega)
            rw [Rm.dr_dr] at h9
            rw [← HTR.out, show N0 + (k + 2 * TR) = N0 + k + 2 * TR from by omega]
            exact h9
          · rw [HVF.out]
            simp only [lenOf]
            omega
end
end Go.Proofs.Ytafkbagjjknhlaa
