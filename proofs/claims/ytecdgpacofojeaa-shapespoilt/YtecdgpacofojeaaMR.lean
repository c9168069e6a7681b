/-
  Layer 5 (rng): the numbers of a mixer (SplitMix64), and what Below and Pair make of two draws: plain arithmetic.
  Layer 5 (rng): own words for memory: a source as a world holds it (a script, a mixer, a counter of one), all of it within some blocks, and a world of which all but these is as it was.
  Layer 5 (rng): a draw of a script, of a mixer, of a counter, by contracts.
  Layer 5 (rng): sources made: slices.Clone, Script, Mix, Count, and 'of' of the statements, by contracts.
  Layer 5 (rng): the document's own source, by contracts.
-/
import Derived.IntWalk
import Derived.WalkArith
import Derived.OpenShut
import Derived.Test.YtecdgpacofojeaaGRet
import Derived.Test.YtecdgpacofojeaaRows
import Derived.Test.YtecdgpacofojeaaFLst
import Derived.WalkKit
import Derived.WalkSpells
import Derived.WalkLawsBesides
import Derived.Outline
import Derived.Below
import Derived.Lib.Hide
import Derived.BigQuiet
import Derived.Deep.QuietTactic
import Derived.Shelf.Abstract
import Derived.Lib.SliceRun
namespace Go.Proofs.Ytecdgpacofojeaa
open Go.RowKit
namespace Rm

def m1 (z : Int) : Int := IntKind.u64.wrap (bits .xor .u64 z (z / 1073741824) * 13787848793156543929)
def m2 (z : Int) : Int := IntKind.u64.wrap (bits .xor .u64 z (z / 134217728) * 10723151780598845931)
def m3 (z : Int) : Int := bits .xor .u64 z (z / 2147483648)
/-- what a mixer's new state tells -/
def out (z : Int) : Int := m3 (m2 (m1 z))
/-- the state behind one draw -/
def nxt (s : Int) : Int := IntKind.u64.wrap (s + 11400714819323198485)
/-- the state behind k + 1 draws, at once -/
def zAt (s : Int) (k : Nat) : Int := IntKind.u64.wrap (s + ((k : Int) + 1) * 11400714819323198485)
/-- a mixer's draw of number k -/
def mixAt (s : Int) (k : Nat) : Int := out (zAt s k)

theorem wrap_u64 (n : Int) : IntKind.u64.wrap n = n % 18446744073709551616 := by
  simp [IntKind.wrap, IntKind.bits, IntKind.signed]
theorem wrap_in (n : Int) : 0 ≤ IntKind.u64.wrap n ∧ IntKind.u64.wrap n < 18446744073709551616 := by rw [wrap_u64]; omega
theorem nxt_in (s : Int) : 0 ≤ nxt s ∧ nxt s < 18446744073709551616 := wrap_in _
theorem m1_in (z : Int) : 0 ≤ m1 z ∧ m1 z < 18446744073709551616 := wrap_in _
theorem m2_in (z : Int) : 0 ≤ m2 z ∧ m2 z < 18446744073709551616 := wrap_in _
theorem bits_in (x y : Int) : 0 ≤ bits .xor .u64 x y ∧ bits .xor .u64 x y < 18446744073709551616 := by
  have h : bits .xor .u64 x y = IntKind.u64.wrap ((BitVec.ofInt 64 x ^^^ BitVec.ofInt 64 y).toNat : Int) := rfl
  rw [h]; exact wrap_in _
theorem mixAt_in (s : Int) (k : Nat) : 0 ≤ mixAt s k ∧ mixAt s k < 18446744073709551616 := bits_in _ _
theorem mix_zero (s : Int) : mixAt s 0 = out (nxt s) := by unfold mixAt zAt nxt; simp
theorem mix_succ (s : Int) (k : Nat) : mixAt (nxt s) k = mixAt s (k + 1) := by
  unfold mixAt zAt nxt
  congr 1
  rw [wrap_u64, wrap_u64, wrap_u64]
  rw [Int.emod_add_emod]
  congr 1
  push_cast
  rw [Int.add_mul]; rw [Int.add_mul, Int.add_mul]
  omega
/-- the document's own way to the same number -/
theorem quo_in (z c : Int) (h : 0 ≤ z ∧ z < 18446744073709551616) (hc : 1 ≤ c) : IntKind.u64.wrap (z.tdiv c) = z / c := IntWalk.u64_quo z c ⟨h.1, by omega, hc⟩
def n1 (z : Int) : Int := IntKind.u64.wrap (bits .xor .u64 z (IntKind.u64.wrap (z.tdiv 1073741824)) * 13787848793156543929)
def n2 (z : Int) : Int := IntKind.u64.wrap (bits .xor .u64 z (IntKind.u64.wrap (z.tdiv 134217728)) * 10723151780598845931)
def n3 (z : Int) : Int := bits .xor .u64 z (IntKind.u64.wrap (z.tdiv 2147483648))
theorem n1_eq (z : Int) (h : 0 ≤ z ∧ z < 18446744073709551616) : n1 z = m1 z := by unfold n1 m1; rw [quo_in z _ h (by decide)]
theorem n2_eq (z : Int) (h : 0 ≤ z ∧ z < 18446744073709551616) : n2 z = m2 z := by unfold n2 m2; rw [quo_in z _ h (by decide)]
theorem n3_eq (z : Int) (h : 0 ≤ z ∧ z < 18446744073709551616) : n3 z = m3 z := by unfold n3 m3; rw [quo_in z _ h (by decide)]
theorem ref_eq (s : Int) (k : Nat) : n3 (n2 (n1 (IntKind.u64.wrap (s + IntKind.u64.wrap (((k : Int) + 1) * 11400714819323198485))))) = mixAt s k := by
  rw [n1_eq _ (wrap_in _), n2_eq _ (m1_in _), n3_eq _ (m2_in _)]
  unfold mixAt zAt out
  congr 3
  rw [wrap_u64, wrap_u64, wrap_u64, Int.add_emod_emod]

/-- a draw below n -/
def below (x n : Int) : Int := if n < 1 then 0 else x % n
theorem below_in (x n : Int) (h : 1 ≤ n) : 0 ≤ below x n ∧ below x n < n := by
  unfold below; rw [if_neg (by omega)]
  exact ⟨Int.emod_nonneg _ (by omega), Int.emod_lt_of_pos _ (by omega)⟩
/-- the second one of a pair -/
def second (a b : Int) : Int := if b < a then b else b + 1
/-- how many draws Below, and Pair, make -/
def nb (n : Int) : Nat := if n < 1 then 0 else 1
def np (n : Int) : Nat := if n < 2 then 0 else 2
/-- a stream behind j draws -/
def dr (f : Nat → Int) (j : Nat) : Nat → Int := fun k => f (k + j)
def fst (f : Nat → Int) (n : Int) : Int := if n < 2 then 0 else below (f 0) n
def snd (f : Nat → Int) (n : Int) : Int := if n < 2 then 0 else second (below (f 0) n) (below (f 1) (n - 1))
theorem dr_zero (f : Nat → Int) : dr f 0 = f := rfl
theorem dr_dr (f : Nat → Int) (i j : Nat) : dr (dr f i) j = dr f (i + j) := by
  funext k; unfold dr; rw [Nat.add_assoc, Nat.add_comm j i]
theorem dr_at (f : Nat → Int) (j k : Nat) : dr f j k = f (k + j) := rfl
theorem pair_ok (f : Nat → Int) (n : Int) (h : 2 ≤ n) : 0 ≤ fst f n ∧ fst f n < n ∧ 0 ≤ snd f n ∧ snd f n < n ∧ fst f n ≠ snd f n := by
  unfold fst snd
  rw [if_neg (by omega), if_neg (by omega)]
  have h1 := below_in (f 0) n (by omega)
  have h2 := below_in (f 1) (n - 1) (by omega)
  generalize below (f 0) n = a at *
  generalize below (f 1) (n - 1) = b at *
  unfold second
  split <;> omega
end Rm
end Go.Proofs.Ytecdgpacofojeaa
namespace Go.Proofs.Ytecdgpacofojeaa
open Go.RowKit Go.Shelf


/-- all but the blocks from lo on below hi is as it was -/
structure Btw (lo hi : Nat) (w w' : World) : Prop where
  os : w'.os = w.os
  tape : w'.tape = w.tape
  output : w'.output = w.output
  size : w.heap.size ≤ w'.heap.size
  block : ∀ k, k < w.heap.size → (k < lo ∨ hi ≤ k) → w'.heap[k]? = w.heap[k]?
section
variable {lo hi lo' hi' : Nat} {w w' a b c : World}
theorem Btw.refl (lo hi : Nat) (w : World) : Btw lo hi w w := ⟨rfl, rfl, rfl, Nat.le_refl _, fun _ _ _ => rfl⟩
theorem Btw.trans (h : Btw lo hi a b) (k : Btw lo hi b c) : Btw lo hi a c :=
  ⟨k.os.trans h.os, k.tape.trans h.tape, k.output.trans h.output, Nat.le_trans h.size k.size, fun i hi hg => (k.block i (Nat.lt_of_lt_of_le hi h.size) hg).trans (h.block i hi hg)⟩
theorem Btw.mono (h : Btw lo hi w w') (h1 : lo' ≤ lo) (h2 : hi ≤ hi') : Btw lo' hi' w w' := ⟨h.os, h.tape, h.output, h.size, fun k hk hg => h.block k hk (by omega)⟩
theorem Btw.of_below (h : Below w.heap.size w w') : Btw lo hi w w' := ⟨h.os, h.tape, h.output, h.size, fun k hk _ => h.block k hk⟩
theorem Btw.drew (h : Btw lo hi a w) : Btw lo hi a w.drew := ⟨h.os, h.tape, h.output, h.size, h.block⟩
theorem Btw.setCell (h : Btw lo hi a w) {g : Nat} (o : Nat) (h1 : lo ≤ g) (h2 : g < hi) (u : Value) : Btw lo hi a (w.setCell ⟨g, o, none⟩ u) :=
  h.trans ⟨rfl, rfl, rfl, by simp [World.setCell], fun k _ hg => Below.heap_setCell _ _ _ _ (by show k ≠ g; omega)⟩
theorem Btw.cell (h : Btw lo hi a w) {p : Addr} (hp : p.block < a.heap.size) (hg : p.block < lo ∨ hi ≤ p.block) : w.cell? p = a.cell? p := World.cell?_of_block (w := a) (h.block p.block hp hg)
/-- what is new is none of the old -/
theorem Btw.old {B : Nat} (h : Btw lo hi a w) (hB : B ≤ a.heap.size) (hg : B ≤ lo) : Below B a w := ⟨h.os, h.tape, h.output, h.size, fun k hk => h.block k (by omega) (by omega)⟩
end

/-- the method Draw of the type T is the function K -/
structure Meth (T K : Nat) : Prop where
  nil : ∀ a w, (nilAhead 228 T (.pointer (some a)) "Draw").run Try.prog w = .ok (some false) w
  meth : ∀ a w, (method 228 T (.pointer (some a)) "Draw").run Try.prog w = .ok (K, .pointer (some a)) w
  enter : ∀ args w, (callFunc K args).run Try.prog w = .ok (.enter K args) w
/-- a slice that reads as a list of numbers, in blocks from lo on below B -/
def Lsr (w : World) (lo B : Nat) (A : Option Addr) (n : Nat) (xs : List Int) : Prop :=
  xs.length = n ∧ (0 < n → ∃ g off, A = some ⟨g, off, none⟩ ∧ lo ≤ g ∧ g < B ∧ ∀ j u, xs[j]? = some u → w.cell? ⟨g, off + j, none⟩ = some (.int .u64 u))
section
variable {T lo hi b d lo' hi' : Nat} {w w' : World} {f : Nat → Int}
theorem Lsr.keep {B n : Nat} {A : Option Addr} {xs : List Int} (h : Lsr w lo B A n xs) (hk : ∀ p : Addr, lo ≤ p.block → p.block < B → w'.cell? p = w.cell? p) : Lsr w' lo B A n xs :=
  ⟨h.1, fun hn => by
    obtain ⟨g, off, e, h1, h2, hc⟩ := h.2 hn
    exact ⟨g, off, e, h1, h2, fun j u hu => (hk ⟨g, off + j, none⟩ h1 h2).trans (hc j u hu)⟩⟩
end
end Go.Proofs.Ytecdgpacofojeaa
namespace Go.Proofs.Ytecdgpacofojeaa
open Go.RowKit

theorem heap_set_one {w : World} {b : Nat} {v u : Value} {t : TypeId} (hb : w.heap[b]? = some (.cells #[v] t (0, 0))) : (w.setCell ⟨b, 0, none⟩ u).heap[b]? = some (.cells #[u] t (0, 0)) := by
  rw [heap_setCell_same _ _ _ _ _ _ hb]; rfl
theorem size_set (w : World) (a : Addr) (u : Value) : (w.setCell a u).heap.size = w.heap.size := by simp [World.setCell]

end Go.Proofs.Ytecdgpacofojeaa
namespace Go.Proofs.Ytecdgpacofojeaa
open Go.RowKit

theorem Try.infoU64 : (Try.prog.info? 49).map (fun i => (i.zero, i.size, i.bytes)) = some (some (.int .u64 0), 1, 8) := by kernel_rfl
theorem rown_form {w : World} {base : Nat} {e : TypeId} {v : Value} {n : Nat} {xs : List Value} (h : w.ownsRow base e 1 v n xs) : ∃ A c, v = .slice A n c ∧ n ≤ c := by
  rcases h.2 with ⟨rfl, rfl⟩ | ⟨g, cap, cur, rfl, _, _, hc, _⟩
  · exact ⟨none, 0, rfl, Nat.le_refl _⟩
  · exact ⟨_, cap, rfl, hc⟩
theorem own_nil {w : World} {base n c : Nat} {A : Option Addr} {e : TypeId} {xs : List Value} (h : w.ownsRow base e 1 (.slice A n c) n xs) : A = none → c = 0 := by
  rintro rfl
  rcases h.2 with ⟨h1, _⟩ | ⟨g, cap, cur, h1, _⟩
  · injection h1
  · injection h1 with h1; cases h1
theorem built_ge {B b : Nat} (h : B ≤ b) : ∀ k, (Value.slice (some ⟨b, 0, none⟩) 0 0).ownBlock = some k → B ≤ k := by
  intro k hk
  simp [Value.ownBlock] at hk
  omega
theorem Lsr.of_own {w : World} {base n c : Nat} {A : Option Addr} {xs : List Int} (h : w.ownsRow base 49 1 (.slice A n c) n (xs.map (Value.int .u64))) : Lsr w base w.heap.size A n xs := by
  have hl := Lst.of_own h
  refine ⟨by have := hl.1; simpa using this, fun hn => ?_⟩
  obtain ⟨b, off, e, hb, hc⟩ := hl.2 hn
  refine ⟨b, off, e, ?_, hb, fun j u hu => hc j _ (by rw [List.getElem?_map, hu]; rfl)⟩
  rcases h.2 with ⟨_, h0⟩ | ⟨g, cap, cur, hv, hg, _⟩
  · omega
  · have : A = some ⟨g, 0, none⟩ := by injection hv
    rw [e] at this
    injection this with this
    injection this with this
    omega

theorem dr_bound {xs : List Int} (h : ∀ x ∈ xs, 0 ≤ x ∧ x < 18446744073709551616) (k : Nat) : 0 ≤ xs[k]?.getD 0 ∧ xs[k]?.getD 0 < 18446744073709551616 := by
  cases e : xs[k]? with
  | none => simp
  | some x => simpa using h x (List.mem_of_getElem? e)
/-- a script of a list: its draws -/
def lstF (xs : List Int) : Nat → Int := fun k => xs[k]?.getD 0
theorem rheap_new (w : World) (cs : Array Value) (t : TypeId) : (w.alloc (.cells cs t)).heap[w.heap.size]? = some (.cells cs t (0, 0)) := heap_alloc_new w _

/-- the draws of 'of' -/
def ofF (mixed : Bool) (s : Int) (xs : List Int) : Nat → Int := if mixed then Rm.mixAt s else lstF xs
end Go.Proofs.Ytecdgpacofojeaa
namespace Go.Proofs.Ytecdgpacofojeaa
open Go.RowKit

/-- the document's source in block m, behind N draws: its list lies below block B -/
def Rfs (w : World) (B m : Nat) (f : Nat → Int) (N : Nat) : Prop :=
  ∃ (mixed : Bool) (s : Int) (A : Option Addr) (n c : Nat) (xs : List Int), 0 ≤ s ∧ s < 18446744073709551616 ∧ (∀ x ∈ xs, 0 ≤ x ∧ x < 18446744073709551616) ∧ B ≤ m ∧
    w.heap[m]? = some (.cells #[.bool mixed, .int .u64 s, .slice A n c, .int .i64 (N : Int)] 61 (0, 0)) ∧ Lst w B A n (xs.map (Value.int .u64)) ∧ n ≤ 1000 ∧ f = Rm.dr (ofF mixed s xs) N
section
variable {w w' : World} {B m N lo hi : Nat} {f : Nat → Int}
theorem Rfs.lt (h : Rfs w B m f N) : m < w.heap.size := by
  obtain ⟨_, _, _, _, _, _, _, _, _, _, h, _⟩ := h; exact lt_of_block h
theorem Rfs.keep (h : Rfs w B m f N) (hk : ∀ k, k < B ∨ k = m → w'.heap[k]? = w.heap[k]?) : Rfs w' B m f N := by
  obtain ⟨mixed, s, A, n, c, xs, h0, h1, hx, hB, hb, hl, hn, hf⟩ := h
  exact ⟨mixed, s, A, n, c, xs, h0, h1, hx, hB, (hk m (.inr rfl)).trans hb, hl.keep fun p hp => World.cell?_of_block (hk p.block (.inl hp)), hn, hf⟩
theorem Rfs.other (h : Rfs w B m f N) (hb : Btw lo hi w w') (h1 : B ≤ lo) (h2 : hi ≤ m) : Rfs w' B m f N :=
  h.keep fun k hk => hb.block k (by
    have := h.lt
    obtain ⟨_, _, _, _, _, _, _, _, _, hB, _⟩ := h
    omega) (by omega)
theorem Rfs.in_ (h : Rfs w B m f N) : ∀ k, 0 ≤ f k ∧ f k < 18446744073709551616 := by
  obtain ⟨mixed, s, A, n, c, xs, h0, h1, hx, hB, hb, hl, hn, rfl⟩ := h
  intro k
  rw [Rm.dr_at]
  cases mixed with
  | true => exact Rm.mixAt_in _ _
  | false => exact dr_bound hx _
end

theorem nth_any (s : Int) (n : Nat) (w : World) (n1 : n < 2000000) :
    Calls Try.prog 62 #[.int .u64 s, .int .i64 (n : Int)] w fun e w' => e = .returned (.int .u64 (Rm.mixAt s n)) ∧ w = w' := by
  have e := Lib.hid (Rm.ref_eq s n)
  go_enter Try.func62, Try.ntmps62
  go_wp2
  go_ret
  exact ⟨ret_int e.out, rfl⟩

theorem set_three {w : World} {m : Nat} {a b c d u : Value} {t : TypeId} (hb : w.heap[m]? = some (.cells #[a, b, c, d] t (0, 0))) : (w.setCell ⟨m, 3, none⟩ u).heap[m]? = some (.cells #[a, b, c, u] t (0, 0)) := by
  rw [heap_setCell_same _ _ _ _ _ _ hb]; rfl

theorem refDraw_any {w : World} {B m N : Nat} {f : Nat → Int} (h : Rfs w B m f N) (hN : N < 1000000) :
    Calls Try.prog 61 #[.pointer (some ⟨m, 0, none⟩)] w fun e w' => e = .returned (.int .u64 (f 0)) ∧ Rfs w' B m (Rm.dr f 1) (N + 1) ∧ Btw m (m + 1) w w' := by
  obtain ⟨mixed, s, A, n, c, xs, h0, h1, hx, hB, hb, hl, hn, rfl⟩ := h
  have R : Hid (Rfs (w.setCell ⟨m, 3, none⟩ (.int .i64 ((N : Int) + 1))) B m (Rm.dr (Rm.dr (ofF mixed s xs) N) 1) (N + 1) ∧ Btw m (m + 1) w (w.setCell ⟨m, 3, none⟩ (.int .i64 ((N : Int) + 1)))) :=
    ⟨⟨mixed, s, A, n, c, xs, h0, h1, hx, hB, set_three hb, hl.keep fun p hp => World.cell?_of_block (heap_setCell_other _ _ _ _ (by show p.block ≠ m; omega)), hn, Rm.dr_dr _ _ _⟩, (Btw.refl _ _ _).setCell 3 (Nat.le_refl _) (Nat.lt_succ_self _) _⟩
  have c0 : w.cell? ⟨m, 0, none⟩ = some (.bool mixed) := by rw [cell_of_row _ _ _ _ _ _ hb]; rfl
  have c1 : w.cell? ⟨m, 1, none⟩ = some (.int .u64 s) := by rw [cell_of_row _ _ _ _ _ _ hb]; rfl
  have c2 : w.cell? ⟨m, 2, none⟩ = some (.slice A n c) := by rw [cell_of_row _ _ _ _ _ _ hb]; rfl
  have c3 : w.cell? ⟨m, 3, none⟩ = some (.int .i64 (N : Int)) := by rw [cell_of_row _ _ _ _ _ _ hb]; rfl
  have f3 := frozen_of_row w m 3 _ _ hb
  cases mixed with
  | true =>
    have hK := Lib.hid (fun w => nth_any s N w (by omega))
    have e := Lib.hid (show Rm.mixAt s N = Rm.dr (ofF true s xs) N 0 from by rw [Rm.dr_at, Nat.zero_add]; rfl)
    clear hb hl hx hB h0 h1
    go_enter Try.func61, Try.ntmps61
    go_wp2_with fail
    refine (hK.out _).mono ?_
    rintro _ _ ⟨rfl, rfl⟩
    go_wp2
    go_ret
    exact ⟨ret_int e.out, R.out⟩
  | false =>
    by_cases hlt : N < n
    · obtain ⟨b, off, rfl, hbB, hcell⟩ := hl.at_ hlt
      have hxl : N < xs.length := by have := hl.1; simp at this; omega
      rw [List.getElem?_map, List.getElem?_eq_getElem hxl] at hcell
      have hcell' : w.cell? ⟨b, off + N, none⟩ = some (.int .u64 xs[N]) := hcell
      have e := Lib.hid (show xs[N] = Rm.dr (ofF false s xs) N 0 from by rw [Rm.dr_at, Nat.zero_add]; show _ = lstF xs N; unfold lstF; rw [List.getElem?_eq_getElem hxl]; rfl)
      obtain ⟨x, hxx⟩ : ∃ x, x = xs[N] := ⟨_, rfl⟩
      rw [← hxx] at hcell' e
      have hne : b ≠ m := by omega
      clear hb hl hx hcell hxx hxl
      go_enter Try.func61, Try.ntmps61
      go_wp2
      go_ret
      exact ⟨ret_int e.out, R.out⟩
    · have e := Lib.hid (show 0 = Rm.dr (ofF false s xs) N 0 from by
        rw [Rm.dr_at, Nat.zero_add]; show _ = lstF xs N; unfold lstF; rw [List.getElem?_eq_none (by have := hl.1; simp at this; omega)]; rfl)
      clear hb hl hx hB
      go_enter Try.func61, Try.ntmps61
      go_wp2
      go_ret
      exact ⟨ret_int e.out, R.out⟩

theorem refBelow_any {w : World} {B m N : Nat} {f : Nat → Int} (h : Rfs w B m f N) (n : Int) (hN : N < 1000000) (hn : n ≤ 9223372036854775807) :
    Calls Try.prog 56 #[.pointer (some ⟨m, 0, none⟩), .int .i64 n] w fun e w' => e = .returned (.int .i64 (Rm.below (f 0) n)) ∧ Rfs w' B m (Rm.dr f (Rm.nb n)) (N + Rm.nb n) ∧ Btw m (m + 1) w w' := by
  by_cases c : n < 1
  · have e := Lib.hid (show (0 : Int) = Rm.below (f 0) n from by unfold Rm.below; rw [if_pos c])
    have e2 : Rm.nb n = 0 := by unfold Rm.nb; rw [if_pos c]
    rw [e2]
    have H := Lib.hid h
    clear h e2
    go_enter Try.func56, Try.ntmps56
    go_wp2
    go_ret
    exact ⟨ret_int e.out, H.out, Btw.refl _ _ _⟩
  · have e2 : Rm.nb n = 1 := by unfold Rm.nb; rw [if_neg c]
    rw [e2]
    have hx := h.in_ 0
    have n1 : 1 ≤ n := by omega
    have hK := refDraw_any h hN
    obtain ⟨x, hxx⟩ : ∃ x, x = f 0 := ⟨_, rfl⟩
    have e := Lib.hid (show x % n = Rm.below (f 0) n from by unfold Rm.below; rw [if_neg c, hxx])
    rw [← hxx] at hx hK
    have hK' := Lib.hid hK
    have hr : 0 ≤ x % n ∧ x % n < n := ⟨Int.emod_nonneg _ (by omega), Int.emod_lt_of_pos _ (by omega)⟩
    clear h hK c e2 hxx
    go_enter Try.func56, Try.ntmps56
    go_wp2_with fail
    refine hK'.out.mono ?_
    rintro _ w1 ⟨rfl, hR⟩
    have R := Lib.hid hR
    clear hR
    go_wp2
    go_ret
    exact ⟨ret_int e.out, R.out⟩

theorem refPair_any {w : World} {B m N : Nat} {f : Nat → Int} (h : Rfs w B m f N) (n : Int) (hN : N < 999999) (hn : n ≤ 9223372036854775807) :
    Calls Try.prog 49 #[.pointer (some ⟨m, 0, none⟩), .int .i64 n] w fun e w' => e = .returned (.tuple #[.int .i64 (Rm.fst f n), .int .i64 (Rm.snd f n)]) ∧ Rfs w' B m (Rm.dr f (Rm.np n)) (N + Rm.np n) ∧ Btw m (m + 1) w w' := by
  by_cases c : n < 2
  · have e2 : Rm.np n = 0 := by unfold Rm.np; rw [if_pos c]
    have e3 : Rm.fst f n = 0 := by unfold Rm.fst; rw [if_pos c]
    have e4 : Rm.snd f n = 0 := by unfold Rm.snd; rw [if_pos c]
    rw [e2, e3, e4]
    have H := Lib.hid h
    clear h e2 e3 e4
    go_enter Try.func49, Try.ntmps49
    go_wp2
    go_ret2
    exact ⟨rfl, H.out, Btw.refl _ _ _⟩
  · have e2 : Rm.np n = 2 := by unfold Rm.np; rw [if_neg c]
    have e3 : Rm.fst f n = Rm.below (f 0) n := by unfold Rm.fst; rw [if_neg c]
    have e4 : Rm.snd f n = Rm.second (Rm.below (f 0) n) (Rm.below (f 1) (n - 1)) := by unfold Rm.snd; rw [if_neg c]
    have e5 : Rm.nb n = 1 := by unfold Rm.nb; rw [if_neg (by omega)]
    have e6 : Rm.nb (n - 1) = 1 := by unfold Rm.nb; rw [if_neg (by omega)]
    rw [e2, e3, e4]
    have n2 : 2 ≤ n := by omega
    have hK := refBelow_any h n (by omega) hn
    have hK2 : ∀ w1, Rfs w1 B m (Rm.dr f 1) (N + 1) → _ := fun w1 h1 => refBelow_any h1 (n - 1) (by omega) (by omega)
    rw [e5] at hK
    rw [e6] at hK2
    simp only [Rm.dr_at, Rm.dr_dr] at hK2
    have r1 := Rm.below_in (f 0) n (by omega)
    have r2 := Rm.below_in (f 1) (n - 1) (by omega)
    obtain ⟨x, hx⟩ : ∃ x, x = Rm.below (f 0) n := ⟨_, rfl⟩
    obtain ⟨y, hy⟩ : ∃ y, y = Rm.below (f 1) (n - 1) := ⟨_, rfl⟩
    have hy' : Rm.below (f (0 + 1)) (n - 1) = y := hy.symm
    rw [← hx] at hK r1 ⊢
    rw [← hy] at r2 ⊢
    rw [hy'] at hK2
    have HK := Lib.hid hK
    have HK2 := Lib.hid hK2
    clear h hK hK2 c e2 e3 e4 e5 e6 hx hy hy'
    by_cases q : y < x
    · have e := Lib.hid (show Rm.second x y = y from by unfold Rm.second; rw [if_pos q])
      go_enter Try.func49, Try.ntmps49
      go_wp2_with fail
      refine HK.out.mono ?_
      rintro _ w1 ⟨rfl, h1, b1⟩
      have H1 := Lib.hid h1
      have B1 := Lib.hid b1
      clear h1 b1
      go_wp2_with fail
      refine (HK2.out _ H1.out).mono ?_
      rintro _ w2 ⟨rfl, h2, b2⟩
      have H2 := Lib.hid h2
      have B2 := Lib.hid (B1.out.trans b2)
      clear h2 b2
      go_wp2
      go_ret2
      exact ⟨by rw [e.out]; rfl, H2.out, B2.out⟩
    · have e := Lib.hid (show Rm.second x y = y + 1 from by unfold Rm.second; rw [if_neg q])
      go_enter Try.func49, Try.ntmps49
      go_wp2_with fail
      refine HK.out.mono ?_
      rintro _ w1 ⟨rfl, h1, b1⟩
      have H1 := Lib.hid h1
      have B1 := Lib.hid b1
      clear h1 b1
      go_wp2_with fail
      refine (HK2.out _ H1.out).mono ?_
      rintro _ w2 ⟨rfl, h2, b2⟩
      have H2 := Lib.hid h2
      have B2 := Lib.hid (B1.out.trans b2)
      clear h2 b2
      go_wp2
      go_ret2
      exact ⟨by rw [e.out]; rfl, H2.out, B2.out⟩
end Go.Proofs.Ytecdgpacofojeaa
