/-
  Layer 9 (marks): All, by contract: what it hands back holds, in memory of its own, the words and which of them there are, rising.
-/
import Derived.Test.YthjpjeflgnkgpaaDoorNCov
import Derived.Test.YthjpjeflgnkgpaaDoorNShelf
import Derived.Shelf.SlIterI.Nil
namespace Go.Proofs.YthjpjeflgnkgpaaDoor
open Go.RowKit Go.Shelf Go.Maps

theorem keysZ_mem {es : List (Lit × DataW Unit)} (hk : ∀ p ∈ es, ∃ x, p.1 = .int .i64 x) (x : Int) : x ∈ Go.intKeys (.map es) ↔ has (.map es) (.int .i64 x) = true := by
  rw [has_eq, List.any_eq_true]
  show x ∈ es.map (fun p => Go.intOf p.1) ↔ _
  rw [List.mem_map]
  constructor
  · rintro ⟨p, hp, rfl⟩
    obtain ⟨a, ha⟩ := hk p hp
    exact ⟨p, hp, by rw [ha]; simp [Lit.sameKey, Go.intOf]⟩
  · rintro ⟨p, hp, hs⟩
    obtain ⟨a, ha⟩ := hk p hp
    rw [ha] at hs
    exact ⟨p, hp, by rw [ha]; simpa [Lit.sameKey, Go.intOf] using hs⟩
/-- the keys of a map that the program owns: each once; those that the map has -/
theorem own_keys {w : World} {b n : Nat} {D : DataW Unit} (h : w.ownsMap Tryd.prog 3 (plainElem Tryd.prog 53) b n D) : (Go.intKeys D).Nodup ∧ (∀ x, x ∈ Go.intKeys D ↔ has D (.int .i64 x) = true) ∧ (Go.intKeys D).length ≤ n := by
  have hsz := h.size_le
  obtain ⟨es, hD, hpw, _⟩ := h.entries (int_keyed Tryd.underlying3)
  obtain ⟨es', hD', hko⟩ := h.keysOf
  obtain rfl : es = es' := by rw [hD] at hD'; simpa using hD'
  subst hD
  have hk : ∀ p ∈ es, ∃ x, p.1 = .int .i64 x := fun p hp => by obtain ⟨v, hv⟩ := hko p hp; obtain ⟨x, _, hx, _⟩ := Maps.keyOf_i64 Tryd.underlying3 hv; exact ⟨x, hx⟩
  refine ⟨?_, keysZ_mem hk, by simpa [Go.intKeys, Maps.size] using hsz⟩
  show (es.map fun p => Go.intOf p.1).Nodup
  refine List.pairwise_map.2 (hpw.imp_of_mem fun {p q} hp hq hne e => hne ?_)
  obtain ⟨a, ha⟩ := hk p hp
  obtain ⟨b, hb⟩ := hk q hq
  rw [ha, hb] at e ⊢
  exact congrArg _ e
theorem wd_none {D : DataW Unit} (hD : IsMap D) {k : Int} (h : ¬ has D (.int .i64 k) = true) : wd D k = 0 := by
  obtain ⟨es, rfl⟩ := hD
  have hf : es.find? (fun p => p.1.sameKey (.int .i64 k)) = none := by
    rw [List.find?_eq_none]
    intro p hp hs
    exact h (by rw [has_eq, List.any_eq_true]; exact ⟨p, hp, hs⟩)
  unfold wd DataW.atKey
  simp only [hf]
  rfl

/-- what All hands back, with its two variables in the blocks g1 (which words there are) and g2 (the words): the ids LL are told; all its blocks stand from lo on -/
structure Alc (w : World) (lo g1 g2 : Nat) (LL : List Int) : Prop where
  ex : ∃ (A : Option Addr) (n c : Nat) (ks : List Int) (b nn : Nat) (D : DataW Unit), w.heap[g1]? = some (.cells #[.slice A n c] 22 (0, 0)) ∧ Sl w A n c ks ∧ w.heap[g2]? = some (.cells #[.map (some b)] 50 (0, 0)) ∧
    w.ownsMap Tryd.prog 3 (plainElem Tryd.prog 53) b nn D ∧ (∀ k, wd D k < 18446744073709551616) ∧ LL = Nm.al (wd D) ks ∧ (∀ k ∈ ks, 0 ≤ k ∧ k ≤ 1000000000) ∧ n ≤ 1000000000 ∧ lo ≤ g1 ∧ lo ≤ g2 ∧ lo ≤ b ∧ ∀ x off, A = some ⟨x, off, none⟩ → lo ≤ x
theorem Alc.below {w w' : World} {lo g1 g2 : Nat} {LL : List Int} (h : Alc w lo g1 g2 LL) (hb : Below w.heap.size w w') : Alc w' lo g1 g2 LL := by
  obtain ⟨A, n, c, ks, b, nn, D, h1, h2, h3, h4, h5⟩ := h.ex
  exact ⟨A, n, c, ks, b, nn, D, (hb.block _ (lt_of_block h1)).trans h1, h2.below hb, (hb.block _ (lt_of_block h3)).trans h3, own_keep h4 (hb.block _ h4.lt), h5⟩
theorem Alc.lt {w : World} {lo g1 g2 : Nat} {LL : List Int} (h : Alc w lo g1 g2 LL) : g1 < w.heap.size ∧ g2 < w.heap.size := by
  obtain ⟨A, n, c, ks, b, nn, D, h1, h2, h3, h4, h5⟩ := h.ex
  exact ⟨lt_of_block h1, lt_of_block h3⟩
theorem mk_al {w : World} {b : Nat} {L : List Int} {D : DataW Unit} {n : Nat} {ss : List Int} (hown : w.ownsMap Tryd.prog 3 (plainElem Tryd.prog 53) b n D) (hwd : Nm.Wd (wd D) L) (hp : ss.Perm (Go.intKeys D)) :
    Nm.uq L = Nm.al (wd D) (ss.mergeSort fun x y => decide (x ≤ y)) := by
  obtain ⟨k1, k2, -⟩ := own_keys hown
  have hpm : (ss.mergeSort fun x y => decide (x ≤ y)).Perm (Go.intKeys D) := (List.mergeSort_perm _ _).trans hp
  have hnd : (ss.mergeSort fun x y => decide (x ≤ y)).Nodup := (hpm.nodup_iff).2 k1
  have hs : (ss.mergeSort fun x y => decide (x ≤ y)).Pairwise (fun a b => a ≤ b) := (List.pairwise_mergeSort (fun a b c h1 h2 => by simp at *; omega) (fun a b => by simp; omega) ss).imp (by simp)
  have hri : Nm.Ri (ss.mergeSort fun x y => decide (x ≤ y)) := (hs.and hnd).imp fun h => by have := h.1; have := h.2; omega
  refine (Nm.uq_ri L).ext (Nm.al_ri _ _ hri) fun x => ?_
  rw [Nm.uq_mem, hwd.al fun k hk => wd_none hown.isMap fun hh => hk (hpm.symm.subset ((k2 k).2 hh))]

theorem sortsI (m : Nat) : AnyZI.SortsIn Tryd.prog Tryd.sortedI_ren Fence.wide m :=
  ⟨fun blk off cap ss W hH hblk hsz => callsIn_wide.2 (Any.slices_Sort_int Tryd.sortI blk off cap ss W hH hblk hsz), fun p cap W => callsIn_wide.2 (Any.slices_Sort_int_none Tryd.sortI p cap W)⟩

set_option maxHeartbeats 1600000 in
set_option maxRecDepth 100000 in
theorem allS (s b m : Nat) (L : List Int) (w : World) (h : Mk w s b m L) :
    Calls Tryd.prog 13 #[.pointer (some ⟨s, 0, none⟩)] w fun e w' => ∃ g1 g2, e = .returned (.func (.func 26) #[] #[.pointer (some ⟨g1, 0, none⟩), .pointer (some ⟨g2, 0, none⟩)]) ∧ Alc w' w.heap.size g1 g2 (Nm.uq L) ∧ Below w.heap.size w w' := by
  have c2 := h.c2
  have hids := h.ids
  have hlen := h.len
  have hsm := h.small
  obtain ⟨D, ⟨es, clock, hb, hfit, hsz, hD⟩, hwd, hhas⟩ := h.own
  -- the copy
  obtain ⟨W1, hW1⟩ : ∃ W1, W1 = w.alloc (.map es clock) := ⟨_, rfl⟩
  have hcl : Calls Tryd.prog 23 #[.map (some b)] w fun e w' => e = .returned (.map (some w.heap.size)) ∧ w' = W1 := by rw [hW1]; exact AnyW.maps_Clone Tryd.cloneM b es clock w hb
  obtain ⟨W2, hW2⟩ : ∃ W2, W2 = W1.alloc (.cells #[.map (some w.heap.size)] 50) := ⟨_, rfl⟩
  obtain ⟨W3, hW3⟩ : ∃ W3, W3 = W2.alloc (.cells #[.map (some w.heap.size)] 50) := ⟨_, rfl⟩
  have s1 : W1.heap.size = w.heap.size + 1 := by rw [hW1]; simp
  have s2 : W2.heap.size = w.heap.size + 1 + 1 := by rw [hW2]; simp [s1]
  have s3 : W3.heap.size = w.heap.size + 1 + 1 + 1 := by rw [hW3]; simp [s2]
  have b1 : Below w.heap.size w W1 := by rw [hW1]; exact (Below.refl _ w).alloc (Nat.le_refl _) _
  have b2 : Below W1.heap.size W1 W2 := by rw [hW2]; exact (Below.refl _ W1).alloc (Nat.le_refl _) _
  have b3 : Below W2.heap.size W2 W3 := by rw [hW3]; exact (Below.refl _ W2).alloc (Nat.le_refl _) _
  have o1 : W1.ownsMap Tryd.prog 3 (plainElem Tryd.prog 53) w.heap.size L.length D := ⟨es, clock, by rw [hW1]; exact World.alloc_heap_new _ _, hfit, hsz, hD⟩
  have o2 := own_keep (w' := W2) o1 (b2.block _ o1.lt)
  have o3 := own_keep (w' := W3) o2 (b3.block _ o2.lt)
  have v2 : W2.heap[w.heap.size + 1]? = some (.cells #[.map (some w.heap.size)] 50 (0, 0)) := by rw [hW2, ← s1]; exact heap_new W1 _ _
  have v3 := (b3.block _ (lt_of_block v2)).trans v2
  have x3 : W3.heap[w.heap.size + 1 + 1]? = some (.cells #[.map (some w.heap.size)] 50 (0, 0)) := by rw [hW3, ← s2]; exact heap_new W2 _ _
  have hseq : SeqGives Fence.wide 2 Tryd.prog 38 #[.pointer (some ⟨w.heap.size + 1 + 1, 0, none⟩)] encZ (fun ss => ss.Perm (Go.intKeys D)) (Maps.size D) W3 :=
    AnyZI.keys_gives (ρ := Tryd.keysM_ren) { Tryd.keysM with } Fence.wide _ trivial rfl (by omega) (w.heap.size + 1 + 1) w.heap.size L.length D W3 (lt_of_block x3) (by rw [cell_of_row _ _ _ _ _ _ x3]; rfl) o3
  have cK : ∀ mb W, CallsIn Fence.wide 5 Tryd.prog 25 #[.map mb] W fun e w' => e = .returned (.func (.func 38) #[] #[.pointer (some ⟨W.heap.size, 0, none⟩)]) ∧ w' = W.alloc (.cells #[.map mb] 50) := fun mb W => AnyZI.keys_in Tryd.keysM Fence.wide 5 trivial rfl mb W
  have hs9 : Maps.size D ≤ 1000000000 := Nat.le_trans o3.size_le hlen
  have cS := AnyZI.sorted_in Tryd.sortedI Fence.wide 5 trivial trivial trivial trivial rfl (by omega) (sortsI _) (enters_of Tryd.func29 (by kernel_rfl) rfl) 38 #[.pointer (some ⟨w.heap.size + 1 + 1, 0, none⟩)] trivial (enters_of Tryd.func38 (by kernel_rfl) rfl) _ _ (by unfold maxLen; omega) (by omega) _ hseq
  change CallsIn _ _ Tryd.prog 24 _ _ _ at cS
  have HCL := Lib.hid hcl
  have HCK := Lib.hid cK
  have HCS := Lib.hid cS
  have HE := Lib.hid (fun (ss : List Int) (hp : ss.Perm (Go.intKeys D)) => mk_al o3 hwd hp)
  have HKB := Lib.hid (show ∀ (ss : List Int), ss.Perm (Go.intKeys D) → ∀ k ∈ ss.mergeSort (fun x y => decide (x ≤ y)), 0 ≤ k ∧ k ≤ 1000000000 from fun ss hp k hk => by
    have := hhas k (((own_keys o3).2.1 k).1 (hp.subset ((List.mergeSort_perm _ _).subset hk)))
    omega)
  have HKL := Lib.hid (show ∀ (ss : List Int), ss.Perm (Go.intKeys D) → ss.length ≤ 1000000000 from fun ss hp => by rw [hp.length_eq]; exact Nat.le_trans (own_keys o3).2.2 hlen)
  have HLT := Lib.hid hwd.lt
  have HO3 := Lib.hid o3
  have HV3 := Lib.hid v3
  have HB3 := Lib.hid (show Below w.heap.size w W3 from (b1.trans (b2.mono (by omega))).trans (b3.mono (by omega)))
  have hc2 : W2.cell? ⟨w.heap.size + 1, 0, none⟩ = some (.map (some w.heap.size)) := by rw [cell_of_row _ _ _ _ _ _ v2]; rfl
  have HW2 := Lib.hid hW2
  have HW3 := Lib.hid hW3
  have HS1 := Lib.hid s1
  have HS2 := Lib.hid s2
  clear h hids hb hfit hsz hD hwd hhas hW1 hW2 hW3 s3 b1 b2 b3 o1 o2 o3 v2 v3 x3 hseq cK cS hcl s1 s2
  refine (callsIn_wide (n := 6)).1 ?_
  refine callsIn_of_wp Tryd.func13 rfl trivial ?_ rfl
  simp only [Tryd.ntmps13, List.size_toArray, List.length_cons, List.length_nil, Nat.reduceAdd, Nat.reduceSub, Array.replicate_succ, Array.replicate_zero, List.push_toArray, List.append_toArray, List.nil_append, List.cons_append]
  gi_wp2_with fail
  refine ⟨trivial, ?_⟩
  refine (callsIn_wide.2 HCL.out).mono ?_
  rintro _ V1 ⟨rfl, hv1⟩
  rw [hv1]
  clear hv1
  gi_wp2_with fail
  rw [← HW2.out, HS1.out]
  refine ⟨trivial, ?_⟩
  refine (HCK.out _ _).mono ?_
  rintro _ V2 ⟨rfl, hv2⟩
  rw [hv2, ← HW3.out, HS2.out]
  clear hv2
  gi_wp2_with fail
  refine ⟨trivial, ?_⟩
  refine HCS.out.mono ?_
  rintro _ W4 ⟨v, ss, rfl, hp, hrow, hnil, hb4⟩
  obtain ⟨A, c, rfl, hA, hcp⟩ := own_form hrow
  obtain ⟨ks, hks⟩ : ∃ ks, ks = ss.mergeSort (fun x y => decide (x ≤ y)) := ⟨_, rfl⟩
  rw [← hks] at hrow
  have hsl : Sl W4 A ss.length c ks := Sl.of_own hrow
  have hal : Nm.uq L = Nm.al (wd D) ks := by rw [hks]; exact HE.out ss hp
  have hkb : ∀ k ∈ ks, 0 ≤ k ∧ k ≤ 1000000000 := by rw [hks]; exact HKB.out ss hp
  have hkl := HKL.out ss hp
  have hg2 : W4.heap[w.heap.size + 1]? = some (.cells #[.map (some w.heap.size)] 50 (0, 0)) := (hb4.block _ (lt_of_block HV3.out)).trans HV3.out
  have hown := own_keep (w' := W4) HO3.out (hb4.block _ HO3.out.lt)
  have hb5 : Below W4.heap.size W4 (W4.alloc (.cells #[.slice A ss.length c] 22)) := (Below.refl _ W4).alloc (Nat.le_refl _) _
  have HA := Lib.hid (show Alc (W4.alloc (.cells #[.slice A ss.length c] 22)) w.heap.size W4.heap.size (w.heap.size + 1) (Nm.uq L) from
    ⟨A, ss.length, c, ks, w.heap.size, L.length, D, heap_new W4 _ _, hsl.below hb5, (hb5.block _ (lt_of_block hg2)).trans hg2, own_keep hown (hb5.block _ hown.lt), HLT.out, hal, hkb, hkl, Nat.le_trans HB3.out.size hb4.size, by omega, Nat.le_refl _, fun x off e => by have := own_block hrow x (by rw [e]; rfl); have := HB3.out.size; omega⟩)
  have HB := Lib.hid (show Below w.heap.size w (W4.alloc (.cells #[.slice A ss.length c] 22)) from (HB3.out.trans (hb4.mono HB3.out.size)).trans (hb5.mono (Nat.le_trans HB3.out.size hb4.size)))
  clear hrow hnil hb4 hA hcp hks hsl hal hkb hkl hg2 hown hb5 hp
  gi_wp2
  go_ret
  exact ⟨_, _, rfl, HA.out, HB.out⟩
end Go.Proofs.YthjpjeflgnkgpaaDoor
