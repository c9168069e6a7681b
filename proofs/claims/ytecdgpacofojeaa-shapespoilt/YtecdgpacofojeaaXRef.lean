/-
  Layer 14 (shape): the document's own Few and Leaves, by contracts.
-/
import Derived.Test.YtecdgpacofojeaaXVis
import Derived.Test.YtecdgpacofojeaaNRefC
namespace Go.Proofs.Ytecdgpacofojeaa
open Go.RowKit

theorem Try.infoSl : (Try.prog.info? 42).map (fun i => (i.zero, i.size, i.bytes)) = some (some (.slice none 0 0), 1, 24) := by kernel_rfl
namespace Xm
/-- how many ids and coordinates all nodes hold -/
def tot (T : List Nd) : Nat := (T.map fun x => x.ids.length + x.pn.length).sum
theorem tot_snoc (T : List Nd) (x : Nd) : tot (T ++ [x]) = tot T + (x.ids.length + x.pn.length) := by unfold tot; simp
theorem take_snoc {T : List Nd} {k : Nat} {x : Nd} (h : T[k]? = some x) : T.take (k + 1) = T.take k ++ [x] := by rw [List.take_add_one, h]; rfl
theorem tot_in {T : List Nd} {x : Nd} (h : x ∈ T) : x.ids.length + x.pn.length ≤ tot T := by
  induction T with
  | nil => cases h
  | cons t T ih =>
    unfold tot at ih ⊢
    rw [List.map_cons, List.sum_cons]
    rcases List.mem_cons.1 h with rfl | h
    · omega
    · have := ih h; omega
theorem lists_tot (T : List Nd) : (lists T).flatten.length ≤ tot T := by
  induction T with
  | nil => simp [lists, tot]
  | cons t T ih =>
    unfold lists tot at ih ⊢
    rw [List.map_cons, List.sum_cons, List.filter_cons]
    split
    · simp at ih ⊢; omega
    · omega
theorem lists_in {T : List Nd} {l : List Int} (h : l ∈ lists T) : l.length ≤ tot T := by
  unfold lists at h
  obtain ⟨x, hx, rfl⟩ := List.mem_map.1 h
  have := tot_in (List.mem_filter.1 hx).1
  omega
end Xm
section
variable {w : World} {A : Option Addr} {n c : Nat} {T : List Xm.Nd}
set_option maxRecDepth 100000 in
theorem refFewX (h : Xds w A n c T) (hn : n ≤ 2000000000000) : Calls Try.prog 9 #[.slice A n c] w fun e w' => (e = .returned (.bool false) ∧ Below w.heap.size w w') ∨ (e = .returned (.bool true) ∧ n ≤ 401 ∧ Xm.tot T ≤ 5000 ∧ Below w.heap.size w w') := by
  have HX := Lib.hid h
  clear h
  go_enter Try.func9, Try.ntmps9
  go_wp2
  go_loopw [3, 4] (fun s i wr => ∃ k z : Nat, s = .int .i64 (z : Int) ∧ i = .int .i64 k ∧ k ≤ n ∧ k ≤ 401 ∧ z = Xm.tot (T.take k) ∧ z ≤ 5000 ∧ Below w.heap.size w wr) (fun _ i _ => n - (intOf i).toNat)
  case atStart => exact ⟨0, 0, rfl, rfl, by omega, by omega, rfl, by omega, Below.refl _ _⟩
  case round =>
    obtain ⟨k, z, rfl, rfl, hk, hk1, hz, hz5, hb⟩ := hrel
    have HB := Lib.hid hb
    have HZ := Lib.hid hz
    clear hz hb
    by_cases hlt : k < n
    · obtain ⟨x, hx⟩ := HX.out.get hlt
      obtain ⟨b, off, rfl, hbk, A1, n1, c1, A2, n2, c2, ha, -, g1, g2, -⟩ := HX.out.at_ k x hx
      have d1 : wr.cell? ⟨b, off + k * 6 + 1, none⟩ = some (.slice A1 n1 c1) := (HB.out.cell (p := ⟨b, off + k * 6 + 1, none⟩) hbk).trans g1
      have d2 : wr.cell? ⟨b, off + k * 6 + 2, none⟩ = some (.slice A2 n2 c2) := (HB.out.cell (p := ⟨b, off + k * 6 + 2, none⟩) hbk).trans g2
      have hl1 := ha.l1
      have hl2 := ha.l2
      have HZ2 : Hid (z + n1 + n2 = Xm.tot (T.take (k + 1))) := Lib.hid (by rw [Xm.take_snoc hx, Xm.tot_snoc, ← HZ.out, ha.ids.length, show x.pn.length = n2 from ha.pn.length]; omega)
      clear hx ha g1 g2 hbk
      by_cases q1 : 5000 < z + n1 + n2
      · go_wp2
        go_quiet (fail)
        go_wp2
        go_ret
        exact .inl ⟨rfl, bdrew HB.out _⟩
      · by_cases q2 : 400 < k
        · go_wp2
          go_quiet (fail)
          go_wp2
          go_ret
          exact .inl ⟨rfl, bdrew HB.out _⟩
        · go_wp2
          go_quiet (fail)
          go_wp2
          go_roundw
          case rel => exact ⟨k + 1, z + n1 + n2, rfl, by go_num, by omega, by omega, HZ2.out, by omega, bdrew HB.out _⟩
          case measure => simp [intOf]; omega
    · obtain rfl : k = n := by omega
      go_wp2
      go_ret
      refine .inr ⟨rfl, by omega, ?_, HB.out⟩
      have := HZ.out
      rw [List.take_of_length_le (by rw [HX.out.len]; exact Nat.le_refl _)] at this
      omega
set_option maxRecDepth 100000 in
theorem refLeavesX (h : Xds w A n c T) (hn : n ≤ 100000) : Calls Try.prog 14 #[.slice A n c] w fun e w' => ∃ A' c', e = .returned (.slice A' (Xm.leaves T) c') ∧ Ls w' A' (Xm.leaves T) c' (Xm.lists T) ∧ Below w.heap.size w w' := by
  obtain ⟨i0, hi, hz0, hz1, hz2⟩ := info_parts Try.infoSl
  have HX := Lib.hid h
  clear h
  go_enter Try.func14, Try.ntmps14
  go_wp2
  go_loopw [3, 4] (fun v i wr => ∃ k : Nat, i = .int .i64 k ∧ k ≤ n ∧ (∃ vs, wr.ownsRow w.heap.size 42 1 v (Xm.leaves (T.take k)) vs ∧ SlV w vs (Xm.lists (T.take k))) ∧ Below w.heap.size w wr) (fun _ i _ => n - (intOf i).toNat)
  case atStart => exact ⟨0, rfl, by omega, ⟨[], World.ownsRow_nil _ _ _ _, SlV.nil _⟩, Below.refl _ _⟩
  case round =>
    obtain ⟨k, rfl, hk, ⟨vs, hown, hvs⟩, hb⟩ := hrel
    have HB := Lib.hid hb
    have HO := Lib.hid hown
    have HV := Lib.hid hvs
    have hle : Xm.leaves (T.take k) ≤ k := Nat.le_trans (Xm.leaves_le _) (List.length_take_le _ _)
    obtain ⟨z, hz⟩ : ∃ z, Xm.leaves (T.take k) = z := ⟨_, rfl⟩
    rw [hz] at hle HO
    have HZ := Lib.hid hz
    clear hb hown hvs hz
    by_cases hlt : k < n
    · obtain ⟨x, hx⟩ := HX.out.get hlt
      obtain ⟨b, off, rfl, hbk, A1, n1, c1, A2, n2, c2, ha, g0, g1, -⟩ := HX.out.at_ k x hx
      have d0 : wr.cell? ⟨b, off + k * 6, none⟩ = some (.bool x.leaf) := (HB.out.cell (p := ⟨b, off + k * 6, none⟩) hbk).trans g0
      have d1 : wr.cell? ⟨b, off + k * 6 + 1, none⟩ = some (.slice A1 n1 c1) := (HB.out.cell (p := ⟨b, off + k * 6 + 1, none⟩) hbk).trans g1
      have HS := Lib.hid ha.ids
      have HT := Lib.hid (Xm.take_snoc hx)
      obtain ⟨lf, hlf⟩ : ∃ lf, lf = x.leaf := ⟨_, rfl⟩
      rw [← hlf] at d0
      have HLF := Lib.hid hlf
      clear hx ha g0 g1 hbk hlf
      have hsz := HB.out.size
      cases lf with
      | true =>
        go_wp2_with (at_builtin; refine wpList_append_own _ rfl (.tmp 16) (.tmp 22) 37 rfl w.heap.size 42 i0 (.slice none 0 0) 1 24 Try.underlying37 hi hz0 hz1 hz2 rfl (by decide) u3 z vs rfl (HO.out.alloc _) ⟨wr.heap.size, 0, none⟩ 1 1 [.slice A1 n1 c1] rfl rfl (World.news_of_block (heap_alloc_new wr _)) (by intro u hu; simp at hu; subst hu; rfl) (by unfold maxLen; omega) (by omega) (by simp; omega) ?_; intro v' w1 hown' hgr _; have HO' := Lib.hid hown'; have HB1 := Lib.hid ((HB.out.alloc (by omega) (.cells #[.slice A1 n1 c1] 42)).grown hgr (by simp; omega) (own_block HO.out)); have HV1 := Lib.hid (HV.out.snoc (c := c1) HS.out); clear hown' hgr)
        refine ⟨⟨k + 1, by go_num, by omega, ⟨_, by rw [HT.out, Xm.leaves_snoc, ← HLF.out, HZ.out]; exact HO'.out, by rw [HT.out, Xm.lists_snoc, ← HLF.out]; exact HV1.out⟩, HB1.out⟩, by simp [intOf]; omega⟩
      | false =>
        go_wp2
        go_roundw
        case rel => exact ⟨k + 1, by go_num, by omega, ⟨vs, by rw [HT.out, Xm.leaves_snoc, ← HLF.out, HZ.out]; exact HO.out, by rw [HT.out, Xm.lists_snoc, ← HLF.out]; exact HV.out⟩, HB.out⟩
        case measure => simp [intOf]; omega
    · obtain rfl : k = n := by omega
      have e : T.take k = T := List.take_of_length_le (by rw [HX.out.len]; exact Nat.le_refl _)
      have hz2 := HZ.out
      rw [e] at hz2
      have HV2 := HV.out
      rw [e] at HV2
      obtain ⟨A', c', rfl, -, -⟩ := own_form HO.out
      have HF := Lib.hid (show Ls wr A' z c' (Xm.lists T) from Ls.of_own HO.out (HV2.below HB.out))
      have HZ2 := Lib.hid hz2
      clear hz2 HV2 e
      go_wp2
      go_ret
      rw [HZ2.out]
      exact ⟨A', c', rfl, HF.out, HB.out⟩
end
end Go.Proofs.Ytecdgpacofojeaa
