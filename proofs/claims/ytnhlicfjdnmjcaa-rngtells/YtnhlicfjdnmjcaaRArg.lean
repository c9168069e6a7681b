/-
  Layer 5 (rng): what a law was given, as the calls want it.
-/
import Derived.Test.YtnhlicfjdnmjcaaRAwk
import Derived.OpenShut
namespace Go.Proofs.Ytnhlicfjdnmjcaa
open Go.RowKit

/-- the numbers of a law's source, as a world that grew out of the law's first one holds them -/
structure Arg (w : World) (B : Nat) (s : Int) (A : Option Addr) (n c : Nat) (xs : List Int) : Prop where
  s0 : 0 ≤ s
  s1 : s < 18446744073709551616
  l : Lst w B A n (xs.map (Value.int .u64))
  nil : A = none → c = 0
  x : ∀ x ∈ xs, 0 ≤ x ∧ x < 18446744073709551616
theorem Arg.of_row {w : World} {s : Int} {A : Option Addr} {n c : Nat} {zs : List Int} (hs : (Lit.int .u64 s).wf = true) (h : IsRow .u64 w A n c zs) : Arg w w.heap.size s A n c (zs.take n) := by
  obtain ⟨h1, _, _, h2, h3⟩ := h.lst
  have := bounds_u64 hs
  exact ⟨by omega, by omega, h1, h3, fun x hx => by have := bounds_u64 (h2 x hx); omega⟩
theorem Arg.below {w w' : World} {B : Nat} {s : Int} {A : Option Addr} {n c : Nat} {xs : List Int} (h : Arg w B s A n c xs) (hb : Below B w w') : Arg w' B s A n c xs := ⟨h.s0, h.s1, h.l.below hb, h.nil, h.x⟩
theorem Arg.of_ {w : World} {B : Nat} {s : Int} {A : Option Addr} {n c : Nat} {xs : List Int} (mixed : Bool) (h : Arg w B s A n c xs) (hB : B ≤ w.heap.size) (hn : n ≤ 1000) :
    Calls Try.prog 10 #[.bool mixed, .int .u64 s, .slice A n c] w fun e w' => ∃ b, e = .returned (.iface (ofT mixed) (.pointer (some ⟨b, 0, none⟩))) ∧ Bas (ofT mixed) w' w.heap.size w'.heap.size b (ofF mixed s xs) ∧ Below w.heap.size w w' :=
  of_new mixed s A n c xs w h.s0 h.s1 (h.l.more hB) h.nil hn h.x
end Go.Proofs.Ytnhlicfjdnmjcaa
