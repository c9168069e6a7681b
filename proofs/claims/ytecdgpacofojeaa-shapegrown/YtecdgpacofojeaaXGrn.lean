/-
  Layer 14 (shape): plain facts of a tree that is grown: it is a tree by the document's words, of so many leaves, no deeper than told.
-/
import Derived.Test.YtecdgpacofojeaaXVis
import Derived.Test.YtecdgpacofojeaaWTre
namespace Go.Proofs.Ytecdgpacofojeaa
open Go.RowKit

namespace Xm
theorem tot_le {b : Nat} : ∀ {T : List Nd}, (∀ x ∈ T, x.pn.length ≤ b) → (∀ x ∈ T, x.leaf = false → x.ids = []) → (T.map fun x => x.ids.length + x.pn.length).sum ≤ (lists T).flatten.length + T.length * b := by
  intro T
  induction T with
  | nil => intro _ _; simp
  | cons t T ih =>
    intro h1 h2
    have h3 := ih (fun x hx => h1 x (.tail _ hx)) (fun x hx => h2 x (.tail _ hx))
    have h4 := h1 t (.head _)
    unfold lists at h3 ⊢
    rw [List.map_cons, List.sum_cons, List.length_cons, Nat.add_mul, Nat.one_mul, List.filter_cons]
    cases hl : t.leaf with
    | true => rw [if_pos rfl]; simp at h3 ⊢; omega
    | false => rw [if_neg (by simp), h2 t (.head _) hl]; simp at h3 ⊢; omega
/-- what a tree that is grown is -/
theorem grown {L : List (List Int)} {d lim r n : Nat} {f : Nat → Int} (hlim : 1 ≤ lim) (h1 : 1 ≤ d) (h2 : d ≤ 1024) (hL : Zm.All L d) (hn : L.length = n) (hn1 : 1 ≤ n) (hn2 : n ≤ 301) (hr : r ≤ 64)
    {G : List Wm.Nd} (hG : G = (Wm.grow L d lim r (Wm.upto n) 0 f).1) :
    ∃ v, Is (G.map conv) (d : Int) 65 0 v (G.map conv).length ∧ most v ≤ r ∧ G.length + 1 = 2 * leaves (G.map conv) ∧ chk (G.map conv) (n : Int) (d : Int) = 0 ∧
      ((G.map conv).map fun x => x.ids.length + x.pn.length).sum ≤ 1000000 ∧ G.length ≤ 601 ∧ ∀ t ∈ G, t.ids.length ≤ 1000000 := by
  obtain ⟨dp, htr⟩ := Wm.grow_tr (L := L) (d := d) hlim r (Wm.upto n) 0 f
  rw [← hG] at htr
  have hin : ∀ x ∈ Wm.upto n, Zm.In L x := fun x hx => by have := Wm.upto_in hx; exact ⟨this.1, by rw [hn]; exact this.2⟩
  obtain ⟨v, hv, hvb⟩ := grow_is h1 h2 hL r 65 (Wm.upto n) 0 f (G.map conv) (by omega) hin (fun i _ => by rw [Nat.zero_add, hG, List.getElem?_map])
  rw [← hG, Nat.zero_add] at hv
  have hml : (G.map conv).length = G.length := List.length_map ..
  have hfew := htr.few (by rw [Wm.upto_length]; exact hn1)
  have htw := htr.twice
  rw [Wm.upto_length] at hfew
  rw [← hml] at hv
  have h3 := hv.twice
  rw [seg_all] at h3
  have hlen := hv.len
  have hflat := tr_none htr
  have hpl := htr.perm.length_eq
  rw [Wm.upto_length] at hpl
  have hpn : ∀ x ∈ G.map conv, x.pn.length ≤ 1024 ∧ (x.leaf = false → x.ids = []) := by
    intro x hx
    obtain ⟨i, hi, hxi⟩ := List.mem_iff_getElem.1 hx
    obtain ⟨y, hy, y1, y2⟩ := hv.loc i (Nat.zero_le _) hi
    rw [List.getElem?_eq_getElem hi, hxi] at hy
    injection hy with hy
    subst hy
    cases hl : x.leaf with
    | true => have := (of_decide_eq_true (y1 hl)).2.2.2; rw [this]; simp
    | false =>
      have u := of_decide_eq_true (y2 hl)
      have := (Pm.chk_ok u.2.1).2.2.1
      exact ⟨by omega, fun _ => u.1⟩
  refine ⟨v, hv, most_le fun y hy => by have := hvb y hy; omega, by omega, ?_, ?_, by omega, ?_⟩
  · unfold chk
    rw [if_neg (by omega), if_pos]
    refine ⟨isT_iff.2 ⟨v, hv⟩, ?_⟩
    rw [hflat]
    exact cov_upto htr.perm
  · have := tot_le (b := 1024) (fun x hx => (hpn x hx).1) (fun x hx => (hpn x hx).2)
    rw [hflat, hml] at this
    omega
  · intro t ht
    have := Wm.held_le ht
    omega
end Xm
end Go.Proofs.Ytecdgpacofojeaa
