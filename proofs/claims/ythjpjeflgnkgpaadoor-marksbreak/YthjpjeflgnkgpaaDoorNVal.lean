/-
  Layer 9 (marks): slices of slices, slices.Values ranged over, by contracts; and when ids are covered.
-/
import Derived.Test.YthjpjeflgnkgpaaDoorNAdd
import Derived.Test.YthjpjeflgnkgpaaDoorMRange
import Derived.Deep.Matrix
namespace Go.Proofs.YthjpjeflgnkgpaaDoor
open Go.RowKit Go.Shelf
attribute [local go_sem] Oper.semAt_some

/-- a slice of slices of integers that reads as L -/
structure Ls (w : World) (A : Option Addr) (n c : Nat) (L : List (List Int)) : Prop where
  len : L.length = n
  cap : n ≤ c
  nil : A = none → c = 0
  at_ : ∀ (k : Nat) (l : List Int), L[k]? = some l → ∃ b off, A = some ⟨b, off, none⟩ ∧ b < w.heap.size ∧ ∃ A' n' c', w.cell? ⟨b, off + k, none⟩ = some (.slice A' n' c') ∧ Sl w A' n' c' l
section
variable {w w' : World} {A : Option Addr} {n c : Nat} {L : List (List Int)}
theorem Ls.below (h : Ls w A n c L) (hb : Below w.heap.size w w') : Ls w' A n c L := by
  refine ⟨h.len, h.cap, h.nil, fun k l hl => ?_⟩
  obtain ⟨b, off, e, h1, A', n', c', h2, h3⟩ := h.at_ k l hl
  exact ⟨b, off, e, Nat.lt_of_lt_of_le h1 hb.size, A', n', c', (hb.cell (p := ⟨b, off + k, none⟩) h1).trans h2, h3.below hb⟩
theorem Ls.get (h : Ls w A n c L) {k : Nat} (hk : k < n) : ∃ l, L[k]? = some l := ⟨_, List.getElem?_eq_getElem (by rw [h.len]; exact hk)⟩
end

theorem valsL (A : Option Addr) (n c : Nat) (w : World) :
    Calls Tryd.prog 21 #[.slice A n c] w fun e w' => e = .returned (.func (.func 36) #[] #[.pointer (some ⟨w.heap.size, 0, none⟩)]) ∧ w' = w.alloc (.cells #[.slice A n c] 48) := by
  go_enter Tryd.func21, Tryd.ntmps21
  go_wp2
  go_ret
  exact ⟨rfl, rfl⟩

/-- what Values hands back, ranged over: each of L is told, in order -/
theorem iterL {m y q n c : Nat} {A : Option Addr} {L : List (List Int)} {w0 : World} (hn : n ≤ 1000000) (hq : w0.cell? ⟨q, 0, none⟩ = some (.slice A n c)) (hql : q < w0.heap.size) (hl : Ls w0 A n c L)
    (I : Nat → World → Prop) (K Y : World → Prop) (hI : ∀ k W, I k W → Below w0.heap.size w0 W)
    (hY : ∀ k l A' n' c' W, L[k]? = some l → Sl w0 A' n' c' l → I k W → K W → YieldAt Fence.wide (m - 1) Tryd.prog y #[.slice A' n' c'] W fun e W' => (e = .returned (.bool true) ∧ I (k + 1) W' ∧ K W') ∨ (e = .returned (.bool false) ∧ Y W'))
    (W : World) (h0 : I 0 W) (hK0 : K W) :
    CallsIn Fence.wide m Tryd.prog 36 #[.func (.yield y) #[] #[], .pointer (some ⟨q, 0, none⟩)] W fun e W' => (∃ v, e = .returned v) ∧ ((I n W' ∧ K W') ∨ Y W') := by
  have cq := ((hI 0 W h0).cell (p := ⟨q, 0, none⟩) hql).trans hq
  have H0 := Lib.hid h0
  have HK0 := Lib.hid hK0
  have HL := Lib.hid hl
  clear h0 hK0 hl hq
  refine callsIn_of_wp Tryd.func36 rfl trivial ?_ rfl
  simp only [Tryd.ntmps36, List.size_toArray, List.length_cons, List.length_nil, Nat.reduceAdd, Nat.reduceSub, Array.replicate_succ, Array.replicate_zero, List.push_toArray, List.append_toArray, List.nil_append, List.cons_append]
  gi_wp2
  gi_loopw [7] (fun p wr => ∃ k : Nat, p = .int .i64 (k : Int) ∧ k ≤ n ∧ I k wr ∧ K wr) (fun p _ => n - (intOf p).toNat)
  case atStart => exact ⟨0, rfl, by omega, H0.out, HK0.out⟩
  case round =>
    clear H0 HK0 cq
    obtain ⟨k, rfl, hkn, hIk0, hKr⟩ := hrel
    by_cases hk : k < n
    · obtain ⟨l, hx⟩ := HL.out.get hk
      obtain ⟨b, off, rfl, hb, A', n', c', c0, hs⟩ := HL.out.at_ k l hx
      have c1 := ((hI k wr hIk0).cell (p := ⟨b, off + k, none⟩) hb).trans c0
      obtain ⟨fn, tmps, assign, body, hy, hR⟩ := hY k l A' n' c' _ hx hs hIk0 hKr
      have HR := Lib.hid hR
      clear hR hIk0 hKr hx hb hs c0
      gi_wp2
      refine ⟨(fun h => by cases h), ?_⟩
      refine HR.out.mono ?_
      rintro e W3 (⟨rfl, hI3, hK3⟩ | ⟨rfl, hY3⟩)
      · have HI3 := Lib.hid hI3
        have HK3 := Lib.hid hK3
        clear hI3 hK3 HR hy c1
        gi_wp2
        go_roundw
        case rel => exact ⟨k + 1, congrArg (Value.int .i64) (by omega), by omega, HI3.out, HK3.out⟩
        case measure => simp [intOf]; omega
      · have HY3 := Lib.hid hY3
        clear hY3 HR hy c1
        gi_wp2
        refine bodyPost_ret (results_none rfl _ _ _) rfl ?_
        exact ⟨⟨_, rfl⟩, .inr HY3.out⟩
    · obtain rfl : k = n := by omega
      have HI := Lib.hid hIk0
      have HKr := Lib.hid hKr
      clear hIk0 hKr
      gi_wp2
      go_end0
      exact ⟨⟨_, rfl⟩, .inl ⟨HI.out, HKr.out⟩⟩

/-! ### when ids are covered -/
theorem cov_stop {n : Int} {a b : List Int} {x : Int} (h : ¬ (0 ≤ x ∧ x < ((n.toNat : Nat) : Int) ∧ x ∉ a)) : Nm.cov n (a ++ x :: b) = false := by
  unfold Nm.cov
  rw [decide_eq_false_iff_not]
  rintro ⟨h1, h2, _⟩
  have := h2 x (by simp)
  refine h ⟨this.1, by omega, fun hx => ?_⟩
  have := (List.nodup_append.1 h1).2.2 x hx x (by simp)
  exact this rfl
theorem cov_all {n : Int} {a : List Int} (h : Nm.Ids ((n.toNat : Nat) : Int) a) : Nm.cov n a = decide (a.length = n.toNat) := by
  unfold Nm.cov
  rw [decide_eq_decide]
  constructor
  · rintro ⟨_, _, h3⟩; omega
  · intro h3
    exact ⟨h.nd, fun x hx => by have := h.in_ x hx; omega, by omega⟩
theorem kf_kept {S : Nat → Prop} {D : Nat} {W W' : World} (h : Kept S W W') (hS : ∀ k, S k → k < D) : KeepsFrom D W W' :=
  ⟨h.size, fun j o hj ho _ => (h.block j (Array.getElem?_eq_some_iff.1 ho).1 (fun q => by have := hS j q; omega)).trans ho⟩
theorem kf_cell {D b : Nat} {W : World} {cs : Array Value} {t : TypeId} {u : Value} {o : Nat} (hb : W.heap[b]? = some (.cells cs t (0, 0))) : KeepsFrom D W (W.setCell ⟨b, o, none⟩ u) :=
  ⟨by simp [World.setCell], fun k obj _ ho hc => (Below.heap_setCell _ _ _ _ (fun e => by
    subst e
    have e2 : some obj = some _ := ho.symm.trans hb
    injection e2 with e2
    subst e2
    cases hc)).trans ho⟩
theorem kf_trans {D : Nat} {a b c : World} (h : KeepsFrom D a b) (k : KeepsFrom D b c) : KeepsFrom D a c := ⟨Nat.le_trans h.1 k.1, fun i o hi ho hc => k.2 i o hi (h.2 i o hi ho hc) hc⟩
theorem one_set {w : World} {b : Nat} {t : TypeId} {v u : Value} (h : w.heap[b]? = some (.cells #[v] t (0, 0))) : (w.setCell ⟨b, 0, none⟩ u).heap[b]? = some (.cells #[u] t (0, 0)) := by rw [heap_setCell_same _ _ _ _ _ _ h]; simp
theorem result_bool {fn : Func} {p : Tmp} (h : fn.results = #[.cell p 4]) (tmps : Array Value) (w : World) (g : Nat) (x : Bool) (hp : tmps[p]?.getD undef = .pointer (some ⟨g, 0, none⟩)) (hg : w.cell? ⟨g, 0, none⟩ = some (.bool x)) :
    (results fn tmps).run Tryd.prog w = .ok (.bool x) w := by
  simp [results, h, hp, asAddr, loadVar, hg]
theorem below_put {B : Nat} {W : World} {l : Nat} (h : B ≤ l) (o : Obj) : Below B W (W.putObj l o) := ⟨rfl, rfl, rfl, by simp, fun k hk => World.putObj_heap_other (by omega)⟩
end Go.Proofs.YthjpjeflgnkgpaaDoor
