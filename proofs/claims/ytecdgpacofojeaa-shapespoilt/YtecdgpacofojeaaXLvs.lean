/-
  Layer 14 (shape): Leaves, and what it hands back, by contracts: each leaf's ids, copied.
-/
import Derived.Test.YtecdgpacofojeaaXHld
import Derived.Test.YtecdgpacofojeaaXWlk
import Derived.Test.YtecdgpacofojeaaMG
namespace Go.Proofs.Ytecdgpacofojeaa
open Go.RowKit Go.Shelf
attribute [local go_sem] Oper.semAt_some

theorem Try.infoLI : (Try.prog.info? 42).map (fun i => (i.zero, i.size, i.bytes)) = some (some (.slice none 0 0), 1, 24) := by kernel_rfl
/-- slices.Clone of integers -/
theorem cloneL0 (A : Option Addr) (n c : Nat) (l : List Int) (w : World) (h : Lst w w.heap.size A n (ci l)) (hA : A = none → c = 0) (hn : n ≤ 1000000) :
    Calls Try.prog 31 #[.slice A n c] w fun e w' => ∃ A' c', e = .returned (.slice A' n c') ∧ w'.ownsRow w.heap.size 3 1 (.slice A' n c') n (ci l) ∧ Below w.heap.size w w' := by
  obtain ⟨i0, hi, hz0, hz1, hz2⟩ := info_parts Try.infoI
  have HL := Lib.hid h
  cases A with
  | none =>
    obtain rfl := hA rfl
    have hn0 : n = 0 := by
      rcases Nat.eq_zero_or_pos n with h0 | h0
      · exact h0
      · obtain ⟨_, _, hc, _⟩ := h.2 h0; cases hc
    subst hn0
    have hl : ci l = [] := List.length_eq_zero_iff.1 h.1
    have HE := Lib.hid hl
    have he : ∀ W, (binOp .eql 42 (.slice none 0 0) (.slice none 0 0)).run Try.prog W = .ok (.bool true) W := fun W => Lib.run_eql_slice_nil W 42 3 none 0 0 0 0 Try.underlying42
    clear h hl hA
    go_enter Try.func31, Try.ntmps31
    go_wp2
    go_ret
    exact ⟨none, 0, rfl, by rw [HE.out]; exact World.ownsRow_nil _ _ _ _, Below.refl _ _⟩
  | some ad =>
    have HB := Lib.hid ((Below.refl _ w).alloc (Nat.le_refl _) (.cells #[] 3))
    have he : ∀ W, (binOp .eql 42 (.slice (some ad) n c) (.slice none 0 0)).run Try.prog W = .ok (.bool false) W := fun W => Lib.run_eql_slice_nil W 42 3 (some ad) n c 0 0 Try.underlying42
    clear h hA
    go_enter Try.func31, Try.ntmps31
    go_wp2_with (at_builtin; refine append_lst _ rfl (.tmp 5) (.tmp 6) 42 rfl w.heap.size 3 i0 (.int .i64 0) 8 Try.underlying42 hi hz0 hz1 hz2 rfl (.slice (some ⟨w.heap.size, 0, none⟩) 0 0) 0 [] rfl (own_empty w 3) w.heap.size (some ad) n c (ci l) rfl (fun h => by cases h) (HL.out.below HB.out) (ints_one .i64 l) (by unfold maxLen; omega) (by omega) HB.out.size ?_; intro v' w' q1 q2; have Q1 := Lib.hid q1; have Q2 := Lib.hid (HB.out.grown q2 HB.out.size (fun k hk => by simp [Value.ownBlock] at hk; omega)); clear q1 q2)
    go_ret
    have q := Q1.out
    rw [Nat.zero_add, List.nil_append] at q
    rcases q.2 with ⟨rfl, rfl⟩ | ⟨g, cap, cur, rfl, _⟩
    · exact ⟨none, 0, rfl, q, Q2.out⟩
    · exact ⟨_, cap, rfl, q, Q2.out⟩
theorem cloneL (A : Option Addr) (n c : Nat) (l : List Int) (w : World) (h : Sl w A n c l) (hn : n ≤ 1000000) :
    Calls Try.prog 31 #[.slice A n c] w fun e w' => ∃ A' c', e = .returned (.slice A' n c') ∧ w'.ownsRow w.heap.size 3 1 (.slice A' n c') n (ci l) ∧ Below w.heap.size w w' := cloneL0 A n c l w h.lst h.nil hn

theorem op_append_in {F : Fence} {n : Nat} {P : Program} (w : World) {ops : Array Oper} {o : Oper} {a : Act} {K : Act → World → Prop} {Q : Exit → Act → World → Prop} {E : Prop} (hgd : o.guard = none) (s x : Operand) (t : TypeId)
    (hop : o.op = .call { callee := .builtin .append, args := #[s, x], argTypes := #[t, t] }) (base : Nat) (e : TypeId) (i : TypeInfo) (z : Value) (bytes : Nat) (ht : P.underlying t = some (.slice e)) (hi : P.info? e = some i) (hz : i.zero = some z) (h1 : i.size = 1) (hb : i.bytes = bytes) (hzs : z.cells.size = 1)
    (v : Value) (k : Nat) (xs : List Value) (hs : a.eval s = v) (hown : w.ownsRow base e 1 v k xs) (b : Nat) (u : Value) (hx : a.eval x = .slice (some ⟨b, 0, none⟩) 1 1) (hu : w.heap[b]? = some (.cells #[u] e (0, 0))) (ho : u.oneCell' = true) (hk : k ≤ 1000000) (hby : bytes ≤ 64) (hbase : base ≤ w.heap.size)
    (h : ∀ g cap w', w'.ownsRow base e 1 (.slice (some ⟨g, 0, none⟩) (k + 1) cap) (k + 1) (xs ++ [u]) → w.grownBy w' v.ownBlock → (v.ownBlock = some g ∨ g = w.heap.size) → K (a.put o.dst (.slice (some ⟨g, 0, none⟩) (k + 1) cap)) w') :
    if Region.wanted o (yielded ops a.tmps) = true then Oper.wpIn F n P o a w K Q else E := by
  rw [if_pos (by simp [Region.wanted, hgd])]
  have hcell : ∀ (j : Nat) (y : Value), [u][j]? = some y → w.cell? ((⟨b, 0, none⟩ : Addr).add j) = some y := fun j y hy => by
    rw [Addr.add_lit, Nat.zero_add, cell_of_row _ _ _ _ _ _ hu]; simpa using hy
  have hby' : (k + 1) * bytes ≤ (k + 1) * 64 := Nat.mul_le_mul_left _ hby
  obtain ⟨g, cap, w', hr, r1, r2, r3, -⟩ := run_append_lies (P := P) w t o.type base e i z 1 bytes ht hi hz h1 hb hzs (by decide) v k xs hown ⟨b, 0, none⟩ 1 1 [u] rfl hcell (by simpa using ho) (by decide) (by unfold maxLen; omega) (by omega) hbase _ rfl
  have hno : ∀ c, o.op ≠ .defer c := fun c hc => by rw [hop] at hc; cases hc
  refine ⟨by simp [Oper.about, hop, resolve, Target.leads, Sem.run_pure], ?_⟩
  rw [Oper.semAt_plain F _ _ hno]
  simp only [execOp, hop, resolve, invoke, builtin, Sem.run_bind, Sem.run_pure, Result.andThen_ok, List.map_toArray, List.map_cons, List.map_nil, hs, hx, hr]
  exact h g cap w' r1 r2 r3
/-- what is handed back: each list in a block of its own, all from lo on; the variable at p -/
structure Lvd (w : World) (lo p : Nat) (L : List (List Int)) : Prop where
  p1 : lo ≤ p
  p2 : p < w.heap.size
  ex : ∃ A c, w.cell? ⟨p, 0, none⟩ = some (.slice A L.length c) ∧ L.length ≤ c ∧ ∀ k l, L[k]? = some l → ∃ b off A1 c1, A = some ⟨b, off, none⟩ ∧ lo ≤ b ∧ b < w.heap.size ∧ w.cell? ⟨b, off + k, none⟩ = some (.slice A1 l.length c1) ∧
    w.ownsRow lo 3 1 (.slice A1 l.length c1) l.length (ci l)
/-- the first k of L are copied into v, whose variable is block p; the loop begins in WD (its two blocks are the next ones) -/
structure GatS (WD : World) (p : Nat) (L : List (List Int)) (k : Nat) (v : Value) (W : World) : Prop where
  var : W.heap[p]? = some (.cells #[v] 37 (0, 0))
  ex : ∃ vs : List Value, W.ownsRow (WD.heap.size + 2) 42 1 v k vs ∧ ∀ j l, j < k → L[j]? = some l → ∃ A c, vs[j]? = some (.slice A l.length c) ∧ W.ownsRow (WD.heap.size + 2) 3 1 (.slice A l.length c) l.length (ci l)
  sz : WD.heap.size + 2 ≤ W.heap.size
  kp : Kept (fun q => q = p) WD W
section
variable {WD W W' w wb w0 : World} {p k lo base : Nat} {L : List (List Int)} {v : Value} {A : Option Addr} {n c : Nat} {T : List Xm.Nd}
theorem own_blk {W : World} {B n c : Nat} {t : TypeId} {A : Option Addr} {xs : List Value} {b off s} (h0 : 0 < n) (h : W.ownsRow B t 1 (.slice A n c) n xs) (e : A = some ⟨b, off, s⟩) : (Value.slice (some ⟨b, off, s⟩) n c).ownBlock = some b := by
  rcases h.2 with ⟨-, h1⟩ | ⟨g, cap, cur, h1, -⟩
  · omega
  · rw [e] at h1
    injection h1 with h1
    injection h1 with h1
    injection h1 with h2 h3 h4
    subst h2
    subst h3
    subst h4
    rfl
theorem GatS.off (h : GatS WD p L k v W) (hp : p < WD.heap.size) (ho : Off (WD.heap.size + 1) W W') : GatS WD p L k v W' := by
  obtain ⟨vs, h1, h2⟩ := h.ex
  refine ⟨(ho.block _ (by omega)).trans h.var, ⟨vs, own_keep6 h1 fun q e => ho.block q (by have := (own_lt6 h1 q e).1; omega), fun j l hj hl => ?_⟩, by rw [ho.size]; exact h.sz,
    h.kp.trans (S' := fun q => q = WD.heap.size + 1) ⟨ho.os, ho.tape, ho.output, by rw [ho.size]; exact Nat.le_refl _, fun j _ hj => ho.block j hj⟩ fun j hj => .inr (by omega)⟩
  obtain ⟨A, c, h3, h4⟩ := h2 j l hj hl
  exact ⟨A, c, h3, own_keep6 h4 fun q e => ho.block q (by have := (own_lt6 h4 q e).1; omega)⟩
theorem GatS.below (h : GatS WD p L k v W) (hb : Below W.heap.size W W') : GatS WD p L k v W' := by
  obtain ⟨vs, h1, h2⟩ := h.ex
  refine ⟨(hb.block _ (lt_of_block h.var)).trans h.var, ⟨vs, own_below h1 hb, fun j l hj hl => ?_⟩, Nat.le_trans h.sz hb.size, h.kp.below hb⟩
  obtain ⟨A, c, h3, h4⟩ := h2 j l hj hl
  exact ⟨A, c, h3, own_below h4 hb⟩
theorem GatS.cell (h : GatS WD p L k v W) : W.cell? ⟨p, 0, none⟩ = some v := by rw [cell_of_row _ _ _ _ _ _ h.var]; rfl
theorem GatS.new (hv : WD.heap[p]? = some (.cells #[.slice none 0 0] 37 (0, 0))) (hp : p < WD.heap.size) (hb : Below WD.heap.size WD W) (hs : W.heap.size = WD.heap.size + 2) : GatS WD p L 0 (.slice none 0 0) W :=
  ⟨(hb.block _ hp).trans hv, ⟨[], World.ownsRow_nil _ _ _ _, fun j l hj => absurd hj (by omega)⟩, by omega, Kept.of_below hb⟩
/-- one more list is copied -/
theorem GatS.push {vs : List Value} {A1 : Option Addr} {c1 g cap : Nat} {l : List Int} {W1 W3 : World} (h : GatS WD p L k v W) (hp : p < WD.heap.size) (h1 : W.ownsRow (WD.heap.size + 2) 42 1 v k vs)
    (h2 : ∀ j l, j < k → L[j]? = some l → ∃ A c, vs[j]? = some (.slice A l.length c) ∧ W.ownsRow (WD.heap.size + 2) 3 1 (.slice A l.length c) l.length (ci l))
    (hx : L[k]? = some l) (hc : W1.ownsRow W.heap.size 3 1 (.slice A1 l.length c1) l.length (ci l)) (hb : Below W.heap.size W W1)
    (r1 : W3.ownsRow (WD.heap.size + 2) 42 1 (.slice (some ⟨g, 0, none⟩) (k + 1) cap) (k + 1) (vs ++ [.slice A1 l.length c1])) (r2 : (W1.alloc (.cells #[.slice A1 l.length c1] 42)).grownBy W3 v.ownBlock) :
    W3.cell? ⟨p, 0, none⟩ = some v ∧ W3.frozen? ⟨p, 0, none⟩ = false ∧ GatS WD p L (k + 1) (.slice (some ⟨g, 0, none⟩) (k + 1) cap) (W3.setCell ⟨p, 0, none⟩ (.slice (some ⟨g, 0, none⟩) (k + 1) cap)) ∧ KeepsFrom WD.heap.size W (W3.setCell ⟨p, 0, none⟩ (.slice (some ⟨g, 0, none⟩) (k + 1) cap)) := by
  have hpl := lt_of_block h.var
  have hvl : ∀ q, v.ownBlock = some q → WD.heap.size + 2 ≤ q ∧ q < W.heap.size ∧ ∃ cs, W.heap[q]? = some (.cells cs 42 (0, 0)) := fun q e => own_lt6 h1 q e
  have b2 : Below W.heap.size W (W1.alloc (.cells #[.slice A1 l.length c1] 42)) := hb.alloc hb.size _
  have hs2 : (W1.alloc (.cells #[.slice A1 l.length c1] 42)).heap.size = W1.heap.size + 1 := by simp
  have new : ∀ q, q < W1.heap.size → v.ownBlock ≠ some q → W3.heap[q]? = W1.heap[q]? := fun q hq hn => (r2.block q (by omega) (fun e => hn e.symm)).trans (Below.heap_alloc _ _ _ hq)
  have old : ∀ q, q < W.heap.size → v.ownBlock ≠ some q → W3.heap[q]? = W.heap[q]? := fun q hq hn => (new q (Nat.lt_of_lt_of_le hq hb.size) hn).trans (hb.block q hq)
  have hv2 : W3.heap[p]? = some (.cells #[v] 37 (0, 0)) := (old p hpl fun e => by have := (hvl p e).1; omega).trans h.var
  have hg' : WD.heap.size + 2 ≤ g := (own_lt6 r1 g rfl).1
  have hsz : WD.heap.size + 2 ≤ W3.heap.size := by have := r2.size; have := h.sz; have := hb.size; omega
  have row : ∀ (A : Option Addr) (l' : List Int) (c : Nat), W.ownsRow (WD.heap.size + 2) 3 1 (.slice A l'.length c) l'.length (ci l') → (W3.setCell ⟨p, 0, none⟩ (.slice (some ⟨g, 0, none⟩) (k + 1) cap)).ownsRow (WD.heap.size + 2) 3 1 (.slice A l'.length c) l'.length (ci l') := fun A l' c ho => by
    refine own_keep6 ho fun q e => ?_
    obtain ⟨q1, q2, cs, q3⟩ := own_lt6 ho q e
    refine (Below.heap_setCell _ _ _ _ (show q ≠ p by omega)).trans (old q q2 fun e' => ?_)
    obtain ⟨-, -, cs', q3'⟩ := hvl q e'
    rw [q3] at q3'
    injection q3' with q3'
    injection q3' with _ q3'
    cases q3'
  refine ⟨by rw [cell_of_row _ _ _ _ _ _ hv2]; rfl, frozen_of_row _ _ _ _ _ hv2, ⟨one_set hv2, ⟨vs ++ [.slice A1 l.length c1], ?_, fun j l' hj hl => ?_⟩, by simp [World.setCell]; exact hsz, ?_⟩, ?_⟩
  · exact own_keep6 r1 fun q e => by
      have e2 : g = q := by simpa [Value.ownBlock] using e
      exact Below.heap_setCell _ _ _ _ (by show q ≠ p; omega)
  · have hvs : vs.length = k := by have := h1.1; omega
    rcases Nat.lt_or_ge j k with hjk | hjk
    · obtain ⟨A, c, h3, h4⟩ := h2 j l' hjk hl
      exact ⟨A, c, by rw [List.getElem?_append_left (by omega)]; exact h3, row A l' c h4⟩
    · obtain rfl : j = k := by omega
      rw [hx] at hl
      injection hl with hl
      subst hl
      refine ⟨A1, c1, by rw [List.getElem?_append_right (by omega), hvs]; simp, ?_⟩
      refine own_mono (own_keep6 hc fun q e => ?_) h.sz
      obtain ⟨q1, q2, cs, q3⟩ := own_lt6 hc q e
      exact (Below.heap_setCell _ _ _ _ (show q ≠ p by omega)).trans (new q q2 fun e' => by have := (hvl q e').2.1; omega)
  · exact ((h.kp.below b2).grown r2 (fun j hj => by have := hvl j hj; exact .inr (by omega))).setCell (.inl rfl)
  · refine kf_trans (b := W3) ?_ (kf_cell hv2)
    refine ⟨by have := r2.size; have := hb.size; omega, fun j o hj ho hc => ?_⟩
    have hjl := (Array.getElem?_eq_some_iff.1 ho).1
    refine (old j hjl fun e => ?_).trans ho
    obtain ⟨-, -, cs, hcs⟩ := hvl j e
    rw [ho] at hcs
    injection hcs with hcs
    subst hcs
    cases hc
/-- all are copied -/
theorem GatS.done (h : GatS WD p L L.length v W) (hlo : lo ≤ p) (hp : p < WD.heap.size) (o : Obj) : Lvd (W.putObj WD.heap.size o) lo p L := by
  obtain ⟨vs, h1, h2⟩ := h.ex
  have oth : ∀ q, q ≠ WD.heap.size → (W.putObj WD.heap.size o).heap[q]? = W.heap[q]? := fun q hq => World.putObj_heap_other hq
  obtain ⟨A, c, rfl, -, hc⟩ := own_form h1
  have hsz : (W.putObj WD.heap.size o).heap.size = W.heap.size := by simp
  refine ⟨hlo, by have := lt_of_block h.var; omega, A, c, by rw [cell_of_row _ _ _ _ _ _ ((oth p (by omega)).trans h.var)]; rfl, hc, fun k l hl => ?_⟩
  have hk := (List.getElem?_eq_some_iff.1 hl).1
  obtain ⟨A1, c1, h3, h4⟩ := h2 k l hk hl
  have hvs : vs.length = L.length := by have := h1.1; omega
  have own1 : ∀ q, (Value.slice A L.length c).ownBlock = some q → WD.heap.size + 2 ≤ q ∧ q < W.heap.size := fun q e => ⟨(own_lt6 h1 q e).1, (own_lt6 h1 q e).2.1⟩
  rcases h1.2 with ⟨e, h0⟩ | ⟨g, cap, cur, e, hg, hgr, -⟩
  · omega
  · injection e with e
    subst e
    refine ⟨g, 0, A1, c1, rfl, by omega, by have := lt_of_block hgr; omega, ?_, ?_⟩
    · have hcell := h1.cells (g := g) rfl k _ h3
      rw [Addr.add_lit, Nat.zero_add] at hcell
      rw [Nat.zero_add]
      exact (World.cell?_of_block (a := ⟨g, k, none⟩) (oth g (by omega))).trans hcell
    · exact own_mono (own_keep6 h4 fun q e => oth q (by have := (own_lt6 h4 q e).1; omega)) (by omega)
set_option maxHeartbeats 1600000 in
set_option maxRecDepth 100000 in
/-- what Leaves hands back tells each list, as new memory -/
theorem leaves1 (h : Lvd w0 lo p L) (hin : ∀ l ∈ L, l.length ≤ 1000000) (hn : L.length ≤ 100000) : TellsL 32 #[.pointer (some ⟨p, 0, none⟩)] base lo w0 L := by
  obtain ⟨hlo, hp, A, c, hV, hc, hC⟩ := h
  intro m y D I K Y W hI1 hI2 hK hY h0 hK0
  have cq : W.cell? ⟨p, 0, none⟩ = some (.slice A L.length c) := (World.cell?_of_block (a := ⟨p, 0, none⟩) ((hI1 0 W h0).1.2 p hp (.inr hlo))).trans hV
  have HI1 := Lib.hid hI1
  have HI2 := Lib.hid hI2
  have HK := Lib.hid hK
  have HY := Lib.hid hY
  have H0 := Lib.hid h0
  have HK0 := Lib.hid hK0
  have HIN := Lib.hid hin
  have HC := Lib.hid hC
  obtain ⟨N, hN⟩ : ∃ N, N = L.length := ⟨_, rfl⟩
  have HN := Lib.hid hN
  rw [← hN] at cq hn hc
  clear hI1 hI2 hK hY h0 hK0 hin hC hV hN
  refine callsIn_of_wp Try.func32 rfl trivial ?_ rfl
  simp only [Try.ntmps32, List.size_toArray, List.length_cons, List.length_nil, Nat.reduceAdd, Nat.reduceSub, Array.replicate_succ, Array.replicate_zero, List.push_toArray, List.append_toArray, List.nil_append, List.cons_append]
  gi_wp2
  gi_loopw [7] (fun p wr => ∃ k : Nat, p = .int .i64 (k : Int) ∧ k ≤ N ∧ I k wr ∧ K wr) (fun p _ => N - (intOf p).toNat)
  case atStart => exact ⟨0, rfl, Nat.zero_le _, H0.out, HK0.out⟩
  case round =>
    clear H0 HK0 cq
    obtain ⟨k, rfl, hkn, hI, hKr⟩ := hrel
    by_cases hk : k < N
    · obtain ⟨l, hx⟩ : ∃ l, L[k]? = some l := ⟨_, List.getElem?_eq_getElem (by rw [← HN.out]; exact hk)⟩
      obtain ⟨hkp, hD⟩ := HI1.out _ _ hI
      obtain ⟨b, off, A1, c1, rfl, hb1, hb2, g0, ho⟩ := HC.out k l hx
      have gc : wr.cell? ⟨b, off + k, none⟩ = some (.slice A1 l.length c1) := (World.cell?_of_block (a := ⟨b, off + k, none⟩) (hkp.2 b hb2 (.inr hb1))).trans g0
      have ho2 : wr.ownsRow lo 3 1 (.slice A1 l.length c1) l.length (ci l) := own_keep6 ho fun q e => by
        obtain ⟨q1, q2, -⟩ := own_lt6 ho q e
        exact hkp.2 q q2 (.inr q1)
      have HCL := Lib.hid (cloneL A1 l.length c1 l wr (Sl.of_own ho2) (HIN.out l (List.mem_of_getElem? hx)))
      have HX := Lib.hid hx
      have HIr := Lib.hid hI
      have HKr := Lib.hid hKr
      obtain ⟨nl, hnl⟩ : ∃ nl, nl = l.length := ⟨_, rfl⟩
      rw [← hnl] at gc HCL
      have HNL := Lib.hid hnl
      clear hx hI hKr hkp g0 ho ho2 hb1 hb2 hnl
      gi_wp2_with fail
      refine ⟨trivial, ?_⟩
      refine (callsIn_wide.2 HCL.out).mono ?_
      rintro _ W2 ⟨A2, c2, rfl, q1, q2⟩
      have q1' : W2.ownsRow wr.heap.size 3 1 (.slice A2 l.length c2) l.length (ci l) := by rw [← HNL.out]; exact q1
      obtain ⟨fn, tmps, assign, body, hy, hR⟩ := HY.out k l A2 nl c2 W2 HX.out (by rw [HNL.out]; exact Sl.of_own q1') (fun h0 b off s e => .inr (by have := (own_lt6 q1 b (by rw [e]; exact own_blk h0 q1 e)).1; omega)) (HI2.out _ _ _ HIr.out (q2.mono hD)) (HK.out _ _ HKr.out (kf_low (kf_below q2)))
      have HR := Lib.hid hR
      clear hR q1 q1' q2 HCL gc
      gi_wp2
      refine HR.out.mono ?_
      rintro e W3 (⟨rfl, hI3, hK3⟩ | ⟨rfl, hY3⟩)
      · have HI3 := Lib.hid hI3
        have HK3 := Lib.hid hK3
        clear hI3 hK3 HR hy
        gi_wp2
        go_roundw
        case rel => exact ⟨k + 1, congrArg (Value.int .i64) (by omega), by omega, HI3.out, HK3.out⟩
        case measure => simp [intOf]; omega
      · have HY3 := Lib.hid hY3
        clear hY3 HR hy
        gi_wp2
        refine bodyPost_ret (results_none rfl _ _ _) rfl ?_
        exact ⟨⟨_, rfl⟩, .inr HY3.out⟩
    · obtain rfl : k = N := by omega
      have HI := Lib.hid hI
      have HKr := Lib.hid hKr
      clear hI hKr
      gi_wp2
      go_end0
      exact ⟨⟨_, rfl⟩, .inl ⟨by rw [← HN.out]; exact HI.out, HKr.out⟩⟩
set_option maxHeartbeats 1600000 in
set_option maxRecDepth 100000 in
theorem leavesX (h : Xds wb A n c T) (hb : Below wb.heap.size wb w) (hn : n ≤ 100000) (ht : Xm.tot T ≤ 1000000) : Calls Try.prog 15 #[.slice A n c] w fun e w' => ∃ gf lb, e = .returned (.func (.func gf) #[] lb) ∧ (∀ args w, (callFunc gf args).run Try.prog w = .ok (.enter gf args) w) ∧ TellsL gf lb wb.heap.size w.heap.size w' (Xm.lists T) ∧ Below w.heap.size w w' := by
  obtain ⟨L, hL⟩ : ∃ L, L = Xm.lists T := ⟨_, rfl⟩
  have hin : ∀ l ∈ L, l.length ≤ 1000000 := fun l hl => by rw [hL] at hl; exact Nat.le_trans (Xm.lists_in hl) ht
  have hlen : L.length ≤ 100000 := by rw [hL, Xm.lists_length]; have := Xm.leaves_le T; have := h.len; omega
  have hsz := hb.size
  obtain ⟨W0, hW0⟩ : ∃ W0, W0 = w.alloc (.cells #[.slice none 0 0] 37) := ⟨_, rfl⟩
  have b0 : Below w.heap.size w W0 := by rw [hW0]; exact (Below.refl _ w).alloc (Nat.le_refl _) _
  have r0 : W0.heap[w.heap.size]? = some (.cells #[.slice none 0 0] 37 (0, 0)) := by rw [hW0]; exact heap_new w _ _
  have s0 : W0.heap.size = w.heap.size + 1 := by rw [hW0]; simp
  have HH := Lib.hid (heldH h (hb.trans (b0.mono hb.size)) hn)
  have HW0 := Lib.hid hW0
  have B0 := Lib.hid b0
  have R0 := Lib.hid r0
  rw [← hL] at HH ⊢
  have HIN := Lib.hid hin
  obtain ⟨N, hN⟩ : ∃ N, N = L.length := ⟨_, rfl⟩
  rw [← hN] at hlen
  have HN := Lib.hid hN
  clear hW0 b0 r0 h hL hin hb hN
  refine (callsIn_wide (n := 6)).1 ?_
  refine callsIn_of_wp_marks Try.func15 rfl trivial ?_ rfl
  simp only [Try.ntmps15, List.size_toArray, List.length_cons, List.length_nil, Nat.reduceAdd, Nat.reduceSub, Array.replicate_succ, Array.replicate_zero, List.push_toArray, List.append_toArray, List.nil_append, List.cons_append]
  gi_wp2_with fail
  rw [← HW0.out]
  refine ⟨trivial, ?_⟩
  refine (callsIn_wide.2 HH.out).mono ?_
  rintro _ W1 ⟨rfl, hT, b1⟩
  have hs1 := b1.size
  have R1 : Hid (W1.heap[w.heap.size]? = some (.cells #[.slice none 0 0] 37 (0, 0))) := Lib.hid ((b1.block _ (by omega)).trans R0.out)
  have B1 : Hid (Below w.heap.size w W1) := Lib.hid (B0.out.trans (b1.mono B0.out.size))
  rw [s0] at hT
  have HTL := Lib.hid hT
  have hnb : w.heap.size < W1.heap.size := by omega
  clear hT b1 HH R0 B0 HW0
  gi_wp2
  refine range_keeps (n := 6) rfl (by omega) (gf := 42) (lb := #[.pointer (some ⟨w.heap.size + 1, 0, none⟩)]) rfl trivial (enters_of Try.func42 (by kernel_rfl) rfl)
    (fun k W => ∃ v, GatS W1 w.heap.size L k v W)
    (fun k vs W => ∃ l A' c', L[k]? = some l ∧ vs = #[.slice A' l.length c'] ∧ Sl W A' l.length c' l ∧ Inn (fun q => q < W1.heap.size) l.length A' ∧ ∃ v, GatS W1 w.heap.size L k v W)
    (fun W => ∃ v, GatS W1 w.heap.size L L.length v W)
    (fun c W => False)
    (fun vs t => (t.setIfInBounds 7 (vs.getD 0 undef)).setIfInBounds 4 (vs.getD 0 undef))
    (fun k W W' h ho => by obtain ⟨v, h⟩ := h; exact ⟨v, h.off hnb ho⟩) ?hM (fun W W' h ho => by obtain ⟨v, h⟩ := h; exact ⟨v, h.off hnb ho⟩)
    (fun c W W' h ho => h) (fun k vs W h => by obtain ⟨l, A', c', -, h2, -⟩ := h; rw [h2]; rfl)
    (fun W hb hs => ⟨_, GatS.new R1.out hnb hb hs⟩) ?iter ?assign ?body ?done ?stop
  case hM =>
    rintro k vs W W' ⟨l, A', c', h1, h2, h3, h4, v, h5⟩ ho
    exact ⟨l, A', c', h1, h2, h3.keepIn h4 (by rw [ho.size]; exact Nat.le_refl _) (fun q hq hp => ho.block q (by omega)), h4, v, h5.off hnb ho⟩
  case iter =>
    intro y Kk Y hK hY W hI hKW
    refine (HTL.out 4 y (fun k W => ∃ v, GatS W1 w.heap.size L k v W) Kk Y W (fun k V h => by obtain ⟨v, h⟩ := h; exact Keeps.of_kept h.kp (by omega) (by omega)) (fun k V V' h hb => by obtain ⟨v, h⟩ := h; exact ⟨v, h.below hb⟩) (fun V V' h hb => hK V V' h (kf_low hb)) ?_ hI hKW).mono ?_
    · intro k l A' n' c' V hl hs hp hI hKV
      obtain rfl := hs.length
      exact hY k _ V ⟨l, A', c', hl, rfl, hs, fun h0 b off s e => hp h0 b off s e, hI⟩ hKV
    · rintro e W' ⟨hv, h | h⟩
      · exact ⟨hv, .inl h⟩
      · exact ⟨hv, .inr h⟩
  case assign =>
    rintro y k vs W K ⟨l, A', c', -, rfl, -⟩ hK
    gi_wp2
    exact hK
  case body =>
    rintro y k vs W ⟨l, A', c', hx, rfl, hs, -, v, hg⟩
    have hkl : k < N := by rw [HN.out]; exact (List.getElem?_eq_some_iff.1 hx).1
    obtain ⟨WR, hWR⟩ : ∃ WR, WR = W.drew := ⟨_, rfl⟩
    have hg2 : GatS W1 w.heap.size L k v WR := by rw [hWR]; exact hg.below ((Below.refl _ W).drew)
    have hpc := hg2.cell
    obtain ⟨i0, hi, hz0, hz1, hz2⟩ := info_parts Try.infoLI
    have hsz2 := hg2.sz
    obtain ⟨vs, hv1, hv2⟩ := hg2.ex
    have HV1 := Lib.hid hv1
    have HV2 := Lib.hid hv2
    have HCL := Lib.hid (cloneL A' l.length c' l WR (by rw [hWR]; exact hs.below ((Below.refl _ W).drew)) (HIN.out l (List.mem_of_getElem? hx)))
    generalize hP : leftBy W1.heap.size _ _ W = Pst
    have HP := Lib.hid hP
    have HG := Lib.hid hg2
    have HX := Lib.hid hx
    have HWR := Lib.hid hWR
    clear hP hg hg2 hx hs hWR hv1 hv2
    gi_wp2
    refine wpIn_mono (?_ : Code.wpIn _ _ _ _ (NoPanic _) _ _) NoPanic.imp
    refine wpIn_region_any (by kernel_rfl) ?_
    change wpAnyIn _ _ _ _ _ _ _ _ _ (World.drew _)
    rw [← HWR.out]
    refine wpAnyIn_ready (rs := [0, 1]) (by kernel_rfl) (by simp) ?_
    refine AllReadyIn.cons rfl (fun K hK => ?_) (AllReadyIn.cons rfl (fun K hK => ?_) AllReadyIn.nil)
    · go_simp
      refine hK _ _ ?_
      clear hK K
      refine wpAnyIn_ready (rs := [1]) (by kernel_rfl) (by simp) ?_
      refine AllReadyIn.cons rfl (fun K hK => ?_) AllReadyIn.nil
      go_simp
      refine hK _ _ ?_
      clear hK K
      refine wpAnyIn_ready (rs := [2]) (by kernel_rfl) (by simp) ?_
      refine AllReadyIn.cons rfl (fun K hK => ?_) AllReadyIn.nil
      go_simp
      refine ⟨trivial, CallsIn.inRound y ((callsIn_wide.2 HCL.out).mono ?_)⟩
      rintro _ WC ⟨A2, c2, rfl, q1, q2⟩
      have Q1 := Lib.hid q1
      have Q2 := Lib.hid q2
      have hpc1 := (HG.out.below q2).cell
      clear q1 q2
      refine hK _ _ ?_
      clear hK K
      refine wpAnyIn_ready (rs := [3]) (by kernel_rfl) (by simp) ?_
      refine AllReadyIn.cons rfl (fun K hK => ?_) AllReadyIn.nil
      go_simp
      refine hK _ _ ?_
      clear hK K
      refine wpAnyIn_ready (rs := [4]) (by kernel_rfl) (by simp) ?_
      refine AllReadyIn.cons rfl (fun K hK => ?_) AllReadyIn.nil
      have hwc := Q2.out.size
      refine op_append_in _ rfl (.tmp 8) (.tmp 11) 37 rfl (W1.heap.size + 2) 42 i0 (.slice none 0 0) 24 Try.underlying37 hi hz0 hz1 hz2 rfl v k vs rfl (own_below (own_below HV1.out Q2.out) ((Below.refl _ WC).alloc (Nat.le_refl _) _)) WC.heap.size (.slice A2 l.length c2) rfl (heap_new _ _ _) rfl (by omega) (by omega) (by simp; omega) ?_
      intro g cap W3 r1 r2 r3
      obtain ⟨m3, f3, p1, p2⟩ := HG.out.push hnb HV1.out HV2.out HX.out Q1.out Q2.out r1 r2
      have HPP := Lib.hid (And.intro p2 p1)
      clear r1 r2 r3 p1 p2
      refine hK _ _ ?_
      clear hK K
      refine wpAnyIn_ready (rs := [5]) (by kernel_rfl) (by simp) ?_
      refine AllReadyIn.cons rfl (fun K hK => ?_) AllReadyIn.nil
      go_simp
      refine hK _ _ ?_
      clear hK K
      refine wpAnyIn_done (by kernel_rfl) ?_ _
      refine NoPanic.normal ?_
      show Pst _ _ _
      have hkf := HPP.out.1
      rw [HWR.out] at hkf
      rw [← HP.out]
      exact ⟨kf_trans (kf_below (Below.refl _ W).drew) hkf, _, HPP.out.2⟩
    · go_simp
      refine hK _ _ ?_
      clear hK K
      refine wpAnyIn_ready (rs := [0, 2]) (by kernel_rfl) (by simp) ?_
      refine AllReadyIn.cons rfl (fun K hK => ?_) (AllReadyIn.cons rfl (fun K hK => ?_) AllReadyIn.nil)
      · go_simp
        refine hK _ _ ?_
        clear hK K
        refine wpAnyIn_ready (rs := [2]) (by kernel_rfl) (by simp) ?_
        refine AllReadyIn.cons rfl (fun K hK => ?_) AllReadyIn.nil
        go_simp
        refine ⟨trivial, CallsIn.inRound y ((callsIn_wide.2 HCL.out).mono ?_)⟩
        rintro _ WC ⟨A2, c2, rfl, q1, q2⟩
        have Q1 := Lib.hid q1
        have Q2 := Lib.hid q2
        have hpc1 := (HG.out.below q2).cell
        clear q1 q2
        refine hK _ _ ?_
        clear hK K
        refine wpAnyIn_ready (rs := [3]) (by kernel_rfl) (by simp) ?_
        refine AllReadyIn.cons rfl (fun K hK => ?_) AllReadyIn.nil
        go_simp
        refine hK _ _ ?_
        clear hK K
        refine wpAnyIn_ready (rs := [4]) (by kernel_rfl) (by simp) ?_
        refine AllReadyIn.cons rfl (fun K hK => ?_) AllReadyIn.nil
        have hwc := Q2.out.size
        refine op_append_in _ rfl (.tmp 8) (.tmp 11) 37 rfl (W1.heap.size + 2) 42 i0 (.slice none 0 0) 24 Try.underlying37 hi hz0 hz1 hz2 rfl v k vs rfl (own_below (own_below HV1.out Q2.out) ((Below.refl _ WC).alloc (Nat.le_refl _) _)) WC.heap.size (.slice A2 l.length c2) rfl (heap_new _ _ _) rfl (by omega) (by omega) (by simp; omega) ?_
        intro g cap W3 r1 r2 r3
        obtain ⟨m3, f3, p1, p2⟩ := HG.out.push hnb HV1.out HV2.out HX.out Q1.out Q2.out r1 r2
        have HPP := Lib.hid (And.intro p2 p1)
        clear r1 r2 r3 p1 p2
        refine hK _ _ ?_
        clear hK K
        refine wpAnyIn_ready (rs := [5]) (by kernel_rfl) (by simp) ?_
        refine AllReadyIn.cons rfl (fun K hK => ?_) AllReadyIn.nil
        go_simp
        refine hK _ _ ?_
        clear hK K
        refine wpAnyIn_done (by kernel_rfl) ?_ _
        refine NoPanic.normal ?_
        show Pst _ _ _
        have hkf := HPP.out.1
        rw [HWR.out] at hkf
        rw [← HP.out]
        exact ⟨kf_trans (kf_below (Below.refl _ W).drew) hkf, _, HPP.out.2⟩
      · go_simp
        refine ⟨trivial, CallsIn.inRound y ((callsIn_wide.2 HCL.out).mono ?_)⟩
        rintro _ WC ⟨A2, c2, rfl, q1, q2⟩
        have Q1 := Lib.hid q1
        have Q2 := Lib.hid q2
        have hpc1 := (HG.out.below q2).cell
        clear q1 q2
        refine hK _ _ ?_
        clear hK K
        refine wpAnyIn_ready (rs := [0, 3]) (by kernel_rfl) (by simp) ?_
        refine AllReadyIn.cons rfl (fun K hK => ?_) (AllReadyIn.cons rfl (fun K hK => ?_) AllReadyIn.nil)
        · go_simp
          refine hK _ _ ?_
          clear hK K
          refine wpAnyIn_ready (rs := [3]) (by kernel_rfl) (by simp) ?_
          refine AllReadyIn.cons rfl (fun K hK => ?_) AllReadyIn.nil
          go_simp
          refine hK _ _ ?_
          clear hK K
          refine wpAnyIn_ready (rs := [4]) (by kernel_rfl) (by simp) ?_
          refine AllReadyIn.cons rfl (fun K hK => ?_) AllReadyIn.nil
          have hwc := Q2.out.size
          refine op_append_in _ rfl (.tmp 8) (.tmp 11) 37 rfl (W1.heap.size + 2) 42 i0 (.slice none 0 0) 24 Try.underlying37 hi hz0 hz1 hz2 rfl v k vs rfl (own_below (own_below HV1.out Q2.out) ((Below.refl _ WC).alloc (Nat.le_refl _) _)) WC.heap.size (.slice A2 l.length c2) rfl (heap_new _ _ _) rfl (by omega) (by omega) (by simp; omega) ?_
          intro g cap W3 r1 r2 r3
          obtain ⟨m3, f3, p1, p2⟩ := HG.out.push hnb HV1.out HV2.out HX.out Q1.out Q2.out r1 r2
          have HPP := Lib.hid (And.intro p2 p1)
          clear r1 r2 r3 p1 p2
          refine hK _ _ ?_
          clear hK K
          refine wpAnyIn_ready (rs := [5]) (by kernel_rfl) (by simp) ?_
          refine AllReadyIn.cons rfl (fun K hK => ?_) AllReadyIn.nil
          go_simp
          refine hK _ _ ?_
          clear hK K
          refine wpAnyIn_done (by kernel_rfl) ?_ _
          refine NoPanic.normal ?_
          show Pst _ _ _
          have hkf := HPP.out.1
          rw [HWR.out] at hkf
          rw [← HP.out]
          exact ⟨kf_trans (kf_below (Below.refl _ W).drew) hkf, _, HPP.out.2⟩
        · go_simp
          refine hK _ _ ?_
          clear hK K
          refine wpAnyIn_ready (rs := [0]) (by kernel_rfl) (by simp) ?_
          refine AllReadyIn.cons rfl (fun K hK => ?_) AllReadyIn.nil
          have hpc2 := ((HG.out.below Q2.out).below ((Below.refl _ WC).alloc (Nat.le_refl _) (.cells #[.slice A2 l.length c2] 42))).cell
          go_simp
          refine hK _ _ ?_
          clear hK K
          refine wpAnyIn_ready (rs := [4]) (by kernel_rfl) (by simp) ?_
          refine AllReadyIn.cons rfl (fun K hK => ?_) AllReadyIn.nil
          have hwc := Q2.out.size
          refine op_append_in _ rfl (.tmp 8) (.tmp 11) 37 rfl (W1.heap.size + 2) 42 i0 (.slice none 0 0) 24 Try.underlying37 hi hz0 hz1 hz2 rfl v k vs rfl (own_below (own_below HV1.out Q2.out) ((Below.refl _ WC).alloc (Nat.le_refl _) _)) WC.heap.size (.slice A2 l.length c2) rfl (heap_new _ _ _) rfl (by omega) (by omega) (by simp; omega) ?_
          intro g cap W3 r1 r2 r3
          obtain ⟨m3, f3, p1, p2⟩ := HG.out.push hnb HV1.out HV2.out HX.out Q1.out Q2.out r1 r2
          have HPP := Lib.hid (And.intro p2 p1)
          clear r1 r2 r3 p1 p2
          refine hK _ _ ?_
          clear hK K
          refine wpAnyIn_ready (rs := [5]) (by kernel_rfl) (by simp) ?_
          refine AllReadyIn.cons rfl (fun K hK => ?_) AllReadyIn.nil
          go_simp
          refine hK _ _ ?_
          clear hK K
          refine wpAnyIn_done (by kernel_rfl) ?_ _
          refine NoPanic.normal ?_
          show Pst _ _ _
          have hkf := HPP.out.1
          rw [HWR.out] at hkf
          rw [← HP.out]
          exact ⟨kf_trans (kf_below (Below.refl _ W).drew) hkf, _, HPP.out.2⟩
  case done =>
    rintro D W rfl ⟨v, hg⟩ hK
    have HG := Lib.hid hg
    have HKD := Lib.hid hK
    have HB := Lib.hid (show Below w.heap.size w W from B1.out.trans (hg.kp.old B1.out.size fun j hj => by omega))
    clear hg hK
    gi_wp2
    refine ⟨by simp, .inl ⟨_, _, rfl, run_takeDeferred HKD.out, ?_⟩⟩
    exact ⟨_, results_tmp rfl _ _ _, _, _, rfl, enters_of Try.func32 (by kernel_rfl) rfl, leaves1 (HG.out.done (Nat.le_refl _) hnb _) HIN.out (by rw [← HN.out]; exact hlen), HB.out.trans (below_put (by omega) _)⟩
  case stop => intro D c W _ hx; exact hx.elim
end
end Go.Proofs.Ytecdgpacofojeaa
