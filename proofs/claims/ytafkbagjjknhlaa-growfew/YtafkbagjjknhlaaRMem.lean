/-
  Layer 5 (rng): own words for memory: a source as a world holds it (a script, a mixer, a counter of one), all of it within some blocks, and a world of which all but these is as it was.
-/
import Derived.Test.YtafkbagjjknhlaaGRet
import Derived.Test.YtafkbagjjknhlaaRows
import Derived.Test.YtafkbagjjknhlaaRMath
import Derived.Test.YtafkbagjjknhlaaFLst
import Derived.WalkKit
import Derived.WalkSpells
import Derived.WalkLawsBesides
import Derived.Outline
import Derived.Below
import Derived.Lib.Hide
import Derived.BigQuiet
import Derived.Deep.QuietTactic
import Derived.Shelf.Abstract
namespace Go.Proofs.Ytafkbagjjknhlaa
open Go.RowKit Go.Shelf


/-- all but the blocks from lo on below hi is as it was -/
structure Btw (lo hi : Nat) (w w' : World) : Prop where
  os : w'.os = w.os
  tape : w'.tape = w.tape
  output : w'.output = w.output
  size : w.heap.size ≤ w'.heap.size
  block : ∀ k, k < w.heap.size → (k < lo ∨ hi ≤ k) → w'.heap[k]? = w.heap[k]?
section
variable {lo hi lo' hi' : Nat} {w w' a b c : World}
theorem Btw.refl (lo hi : Nat) (w : World) : Btw lo hi w w := ⟨rfl, rfl, rfl, Nat.le_refl _, fun _ _ _ => rfl⟩
theorem Btw.trans (h : Btw lo hi a b) (k : Btw lo hi b c) : Btw lo hi a c :=
  ⟨k.os.trans h.os, k.tape.trans h.tape, k.output.trans h.output, Nat.le_trans h.size k.size, fun i hi hg => (k.block i (Nat.lt_of_lt_of_le hi h.size) hg).trans (h.block i hi hg)⟩
theorem Btw.mono (h : Btw lo hi w w') (h1 : lo' ≤ lo) (h2 : hi ≤ hi') : Btw lo' hi' w w' := ⟨h.os, h.tape, h.output, h.size, fun k hk hg => h.block k hk (by omega)⟩
theorem Btw.of_below (h : Below w.heap.size w w') : Btw lo hi w w' := ⟨h.os, h.tape, h.output, h.size, fun k hk _ => h.block k hk⟩
theorem Btw.drew (h : Btw lo hi a w) : Btw lo hi a w.drew := ⟨h.os, h.tape, h.output, h.size, h.block⟩
theorem Btw.setCell (h : Btw lo hi a w) {g : Nat} (o : Nat) (h1 : lo ≤ g) (h2 : g < hi) (u : Value) : Btw lo hi a (w.setCell ⟨g, o, none⟩ u) :=
  h.trans ⟨rfl, rfl, rfl, by simp [World.setCell], fun k _ hg => Below.heap_setCell _ _ _ _ (by show k ≠ g; omega)⟩
theorem Btw.cell (h : Btw lo hi a w) {p : Addr} (hp : p.block < a.heap.size) (hg : p.block < lo ∨ hi ≤ p.block) : w.cell? p = a.cell? p := World.cell?_of_block (w := a) (h.block p.block hp hg)
/-- what is new is none of the old -/
theorem Btw.old {B : Nat} (h : Btw lo hi a w) (hB : B ≤ a.heap.size) (hg : B ≤ lo) : Below B a w := ⟨h.os, h.tape, h.output, h.size, fun k hk => h.block k (by omega) (by omega)⟩
end

/-- the method Draw of the type T is the function K -/
structure Meth (T K : Nat) : Prop where
  nil : ∀ a w, (nilAhead 244 T (.pointer (some a)) "Draw").run Try.prog w = .ok (some false) w
  meth : ∀ a w, (method 244 T (.pointer (some a)) "Draw").run Try.prog w = .ok (K, .pointer (some a)) w
  enter : ∀ args w, (callFunc K args).run Try.prog w = .ok (.enter K args) w
theorem meth_script : Meth 72 89 := ⟨fun _ _ => by kernel_rfl, fun _ _ => by kernel_rfl, enters_of Try.func89 (by kernel_rfl) rfl⟩
theorem meth_mixer : Meth 80 90 := ⟨fun _ _ => by kernel_rfl, fun _ _ => by kernel_rfl, enters_of Try.func90 (by kernel_rfl) rfl⟩
theorem meth_counter : Meth 32 88 := ⟨fun _ _ => by kernel_rfl, fun _ _ => by kernel_rfl, enters_of Try.func88 (by kernel_rfl) rfl⟩

/-- the method Draw of a source's type, under a name that no simplifier opens -/
def mOf (T : Nat) : Nat := if T = 72 then 89 else if T = 80 then 90 else 88
/-- a slice that reads as a list of numbers, in blocks from lo on below B -/
def Lsr (w : World) (lo B : Nat) (A : Option Addr) (n : Nat) (xs : List Int) : Prop :=
  xs.length = n ∧ (0 < n → ∃ g off, A = some ⟨g, off, none⟩ ∧ lo ≤ g ∧ g < B ∧ ∀ j u, xs[j]? = some u → w.cell? ⟨g, off + j, none⟩ = some (.int .u64 u))
/-- a script, or a mixer, whose next draws are f: in blocks from lo on below hi, itself in block b -/
def Bas (T : Nat) (w : World) (lo hi b : Nat) (f : Nat → Int) : Prop :=
  lo ≤ b ∧ b < hi ∧ hi ≤ w.heap.size ∧ (∀ k, 0 ≤ f k ∧ f k < 18446744073709551616) ∧
  ((T = 72 ∧ ∃ (A : Option Addr) (n c : Nat) (xs : List Int), w.heap[b]? = some (.cells #[.slice A n c] 75 (0, 0)) ∧ Lsr w lo b A n xs ∧ n ≤ c ∧ ∀ k, f k = xs[k]?.getD 0) ∨
   (T = 80 ∧ ∃ s : Int, w.heap[b]? = some (.cells #[.int .u64 s] 82 (0, 0)) ∧ 0 ≤ s ∧ s < 18446744073709551616 ∧ ∀ k, f k = Rm.mixAt s k))
/-- a counter of one, that counted d draws -/
def Ctr (w : World) (lo hi b : Nat) (f : Nat → Int) (d : Nat) : Prop :=
  ∃ T' b', Bas T' w lo b b' f ∧ b < hi ∧ hi ≤ w.heap.size ∧ w.heap[b]? = some (.cells #[.iface T' (.pointer (some ⟨b', 0, none⟩)), .int .i64 (d : Int)] 71 (0, 0))
/-- a source: of a counter d is how many draws it counted -/
def Src (T : Nat) (w : World) (lo hi b : Nat) (f : Nat → Int) (d : Nat) : Prop := Bas T w lo hi b f ∨ (T = 32 ∧ Ctr w lo hi b f d)

section
variable {T lo hi b d lo' hi' : Nat} {w w' : World} {f : Nat → Int}
theorem Lsr.keep {B n : Nat} {A : Option Addr} {xs : List Int} (h : Lsr w lo B A n xs) (hk : ∀ p : Addr, lo ≤ p.block → p.block < B → w'.cell? p = w.cell? p) : Lsr w' lo B A n xs :=
  ⟨h.1, fun hn => by
    obtain ⟨g, off, e, h1, h2, hc⟩ := h.2 hn
    exact ⟨g, off, e, h1, h2, fun j u hu => (hk ⟨g, off + j, none⟩ h1 h2).trans (hc j u hu)⟩⟩
theorem Bas.in_ (h : Bas T w lo hi b f) : ∀ k, 0 ≤ f k ∧ f k < 18446744073709551616 := h.2.2.2.1
theorem Bas.keep (h : Bas T w lo hi b f) (hs : w.heap.size ≤ w'.heap.size) (hk : ∀ k, lo ≤ k → k < hi → w'.heap[k]? = w.heap[k]?) : Bas T w' lo hi b f := by
  obtain ⟨h1, h2, h3, h4, h5⟩ := h
  refine ⟨h1, h2, by omega, h4, ?_⟩
  rcases h5 with ⟨rfl, A, n, c, xs, hb, hl, hc, hf⟩ | ⟨rfl, s, hb, hs0, hs1, hf⟩
  · exact .inl ⟨rfl, A, n, c, xs, (hk b h1 h2).trans hb, hl.keep fun p q1 q2 => World.cell?_of_block (hk p.block q1 (by omega)), hc, hf⟩
  · exact .inr ⟨rfl, s, (hk b h1 h2).trans hb, hs0, hs1, hf⟩
theorem Ctr.keep (h : Ctr w lo hi b f d) (hs : w.heap.size ≤ w'.heap.size) (hk : ∀ k, lo ≤ k → k < hi → w'.heap[k]? = w.heap[k]?) : Ctr w' lo hi b f d := by
  obtain ⟨T', b', h1, h2, h3, h4⟩ := h
  have := h1.1
  have := h1.2.1
  exact ⟨T', b', h1.keep hs (fun k q1 q2 => hk k q1 (by omega)), h2, by omega, (hk b (by omega) h2).trans h4⟩
theorem Src.keep (h : Src T w lo hi b f d) (hs : w.heap.size ≤ w'.heap.size) (hk : ∀ k, lo ≤ k → k < hi → w'.heap[k]? = w.heap[k]?) : Src T w' lo hi b f d := by
  rcases h with h | ⟨e, h⟩
  · exact .inl (h.keep hs hk)
  · exact .inr ⟨e, h.keep hs hk⟩
theorem Bas.size (h : Bas T w lo hi b f) : hi ≤ w.heap.size := h.2.2.1
theorem Ctr.size (h : Ctr w lo hi b f d) : hi ≤ w.heap.size := by obtain ⟨_, _, _, _, h, _⟩ := h; exact h
theorem Src.size (h : Src T w lo hi b f d) : hi ≤ w.heap.size := by
  rcases h with h | ⟨_, h⟩
  · exact h.size
  · exact h.size
theorem Src.in_ (h : Src T w lo hi b f d) : ∀ k, 0 ≤ f k ∧ f k < 18446744073709551616 := by
  rcases h with h | ⟨_, _, _, h, _⟩
  · exact h.in_
  · exact h.in_
theorem Src.below (h : Src T w lo hi b f d) (hb : Below w.heap.size w w') : Src T w' lo hi b f d := h.keep hb.size fun k _ h2 => hb.block k (by have := h.size; omega)
theorem Bas.below (h : Bas T w lo hi b f) (hb : Below w.heap.size w w') : Bas T w' lo hi b f := h.keep hb.size fun k _ h2 => hb.block k (by have := h.size; omega)
theorem Ctr.below (h : Ctr w lo hi b f d) (hb : Below w.heap.size w w') : Ctr w' lo hi b f d := h.keep hb.size fun k _ h2 => hb.block k (by have := h.size; omega)
/-- what is done within other blocks leaves a source as it was -/
theorem Src.other (h : Src T w lo hi b f d) (hb : Btw lo' hi' w w') (ho : hi ≤ lo' ∨ hi' ≤ lo) : Src T w' lo hi b f d := h.keep hb.size fun k h1 h2 => hb.block k (by have := h.size; omega) (by omega)
theorem Ctr.other (h : Ctr w lo hi b f d) (hb : Btw lo' hi' w w') (ho : hi ≤ lo' ∨ hi' ≤ lo) : Ctr w' lo hi b f d := h.keep hb.size fun k h1 h2 => hb.block k (by have := h.size; omega) (by omega)
theorem Src.drew (h : Src T w lo hi b f d) : Src T w.drew lo hi b f d := h
theorem Ctr.drew (h : Ctr w lo hi b f d) : Ctr w.drew lo hi b f d := h
theorem Ctr.src (h : Ctr w lo hi b f d) : Src 32 w lo hi b f d := .inr ⟨rfl, h⟩
theorem Src.ctr (h : Src 32 w lo hi b f d) : Ctr w lo hi b f d := by
  rcases h with ⟨_, _, _, _, ⟨e, _⟩ | ⟨e, _⟩⟩ | ⟨_, h⟩
  · exact absurd e (by decide)
  · exact absurd e (by decide)
  · exact h
theorem Bas.meth (h : Bas T w lo hi b f) : Meth T (mOf T) := by
  rcases h with ⟨_, _, _, _, ⟨rfl, _⟩ | ⟨rfl, _⟩⟩
  · exact meth_script
  · exact meth_mixer
theorem Src.meth (h : Src T w lo hi b f d) : Meth T (mOf T) := by
  rcases h with h | ⟨rfl, _⟩
  · exact h.meth
  · exact meth_counter
end
end Go.Proofs.Ytafkbagjjknhlaa
