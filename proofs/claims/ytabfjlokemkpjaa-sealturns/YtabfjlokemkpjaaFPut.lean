/-
  Layer 1 (field): Put of the program (a closure gathers the bytes in a slice of the call's own) and Put of the document's own answer, by their contracts.
-/
import Derived.Test.YtabfjlokemkpjaaFGet
import Derived.OwnWalk
import Derived.OneCell
namespace Go.Proofs.Ytabfjlokemkpjaa
open Go.RowKit

theorem Try.infoByte : (Try.prog.info? 5).map (fun i => (i.zero, i.size, i.bytes)) = some (some (.int .u8 0), 1, 1) := by kernel_rfl

/-- bytes as the cells of a slice -/
def cellsOf (l : List UInt8) : List Value := l.map fun b => Value.int .u8 (b.toNat : Int)
theorem cellsOf_length (l : List UInt8) : (cellsOf l).length = l.length := by simp [cellsOf]

/-- what a byte's closure leans on: block B is the captured variable, a slice that holds the bytes l in a row of the call's own, from block B0 on -/
def Gathers (B0 B : Nat) (l : List UInt8) (w : World) : Prop :=
  B0 ≤ B ∧ ∃ v, w.heap[B]? = some (.cells #[v] 35 (0, 0)) ∧ w.ownsRow B0 5 1 v l.length (cellsOf l)

theorem ownBlock_ne {w : World} {B0 B : Nat} {v u : Value} {n : Nat} {xs : List Value} (hv : w.heap[B]? = some (.cells #[u] 35 (0, 0)))
    (hown : w.ownsRow B0 5 1 v n xs) : v.ownBlock ≠ some B := by
  rcases hown.2 with ⟨rfl, _⟩ | ⟨g, cap, cur, rfl, _, hh, _⟩
  · simp [Value.ownBlock]
  · intro he
    have e : g = B := by simpa [Value.ownBlock] using he
    subst e
    rw [hv] at hh
    simp at hh
theorem ownBlock_ge {w : World} {B0 : Nat} {e : TypeId} {v : Value} {n : Nat} {xs : List Value} (hown : w.ownsRow B0 e 1 v n xs) : ∀ k, v.ownBlock = some k → B0 ≤ k := by
  rcases hown.2 with ⟨rfl, _⟩ | ⟨g, cap, cur, rfl, hg, _⟩
  · simp [Value.ownBlock]
  · intro k hk
    have e : g = k := by simpa [Value.ownBlock] using hk
    omega

/-- behind the append: the captured variable holds the longer row -/
theorem gathers_step {B0 B : Nat} {l : List UInt8} {b : UInt8} {w w1 : World} {v v' : Value} {o : Obj} (hB : B0 ≤ B)
    (hv : w.heap[B]? = some (.cells #[v] 35 (0, 0))) (hown : w.ownsRow B0 5 1 v l.length (cellsOf l))
    (hown' : w1.ownsRow B0 5 1 v' (l.length + 1) (cellsOf l ++ [Value.int .u8 (b.toNat : Int)]))
    (hg : (w.alloc o).grownBy w1 v.ownBlock) :
    w1.heap[B]? = some (.cells #[v] 35 (0, 0)) ∧ Gathers B0 B (l ++ [b]) (w1.setCell ⟨B, 0, none⟩ v') ∧ Below B0 w (w1.setCell ⟨B, 0, none⟩ v') := by
  have hlt := lt_of_block hv
  have h1 : w1.heap[B]? = some (.cells #[v] 35 (0, 0)) :=
    (hg.block B (by simp; omega) (fun e => ownBlock_ne hv hown e.symm)).trans ((Below.heap_alloc w o B hlt).trans hv)
  refine ⟨h1, ⟨hB, v', one_setCell h1, ?_⟩, ?_⟩
  · have e : cellsOf (l ++ [b]) = cellsOf l ++ [Value.int .u8 (b.toNat : Int)] := by simp [cellsOf]
    rw [e, List.length_append]
    exact ownsRow_setCell_other hown' (ownBlock_ne h1 hown') _
  · exact (((Below.refl B0 w).alloc (by omega) o).grown hg (by simp; omega) (ownBlock_ge hown)).setCell hB _

theorem slice_of {w : World} {B0 : Nat} {e : TypeId} {v : Value} {n : Nat} {xs : List Value} (h : w.ownsRow B0 e 1 v n xs) (hn : 0 < n) :
    ∃ g cap, v = .slice (some ⟨g, 0, none⟩) n cap := by
  rcases h.2 with ⟨rfl, h0⟩ | ⟨g, cap, cur, rfl, _⟩
  · omega
  · exact ⟨g, cap, rfl⟩

set_option maxRecDepth 100000 in
theorem put1_any (B0 B : Nat) (l : List UInt8) (b : Int) (w : World) (b0 : 0 ≤ b) (b1 : b < 256) (h : Gathers B0 B l w) (hl : l.length ≤ 100000000) :
    Calls Try.prog 31 #[.int .u8 b, .pointer (some ⟨B, 0, none⟩)] w fun e w' => e = .returned (.tuple #[]) ∧ Gathers B0 B (l ++ [UInt8.ofNat b.toNat]) w' ∧ Below B0 w w' := by
  obtain ⟨c, rfl⟩ : ∃ c : UInt8, b = (c.toNat : Int) := ⟨UInt8.ofNat b.toNat, by simp; omega⟩
  have ec : UInt8.ofNat ((c.toNat : Int)).toNat = c := by simp
  rw [ec]
  clear ec
  obtain ⟨hB, v, hv, hown⟩ := h
  obtain ⟨i0, hi, hz0, hz1, hz2⟩ := info_parts Try.infoByte
  have cV := cell_of_one hv
  have fV := free_of_one hv
  have hsz := lt_of_block hv
  go_enter Try.func31, Try.ntmps31
  go_wp2_with (at_builtin; refine wpList_append_own _ rfl _ _ 35 rfl B0 5 i0 (.int .u8 0) 1 1 Try.underlying35 hi hz0 hz1 hz2 rfl (by decide) _ _ _ rfl (hown.alloc _) ⟨w.heap.size, 0, none⟩ 1 1 [.int .u8 (c.toNat : Int)] rfl rfl ?c1 ?c2 ?c3 ?c4 ?c5 ?_)
  case c1 => exact cell_one_new _ _ _
  case c2 => intro u hu; simp at hu; subst hu; rfl
  case c3 => unfold maxLen; omega
  case c4 => omega
  case c5 => simp; omega
  intro v' w1 hown' hgrow _
  obtain ⟨h1, hG, hbel⟩ := gathers_step hB hv hown hown' hgrow
  obtain ⟨g, cap, rfl⟩ := slice_of hown' (by omega)
  have cV1 := cell_of_one h1
  have fV1 := free_of_one h1
  have HG := Lib.hid hG
  have HB := Lib.hid hbel
  clear hG hbel hown hown' hgrow cV fV h1 hv
  go_wp2
  go_end0
  exact ⟨rfl, HG.out, HB.out⟩

theorem byte_of (n k : Nat) : UInt8.ofNat (((n : Int) / 2 ^ (8 * k) % 256).toNat) = UInt8.ofNat (n / Fm.pw k) := by
  have e : ((n : Int) / 2 ^ (8 * k) % 256).toNat = n / Fm.pw k % 256 := by
    rw [Fm.pw_two]
    have : (n : Int) / 2 ^ (8 * k) = ((n / 2 ^ (8 * k) : Nat) : Int) := by simp
    rw [this]; omega
  rw [e]
  apply UInt8.toNat_inj.1
  simp
theorem byte_lo (n k : Nat) : 0 ≤ (n : Int) / 2 ^ (8 * k) % 256 ∧ (n : Int) / 2 ^ (8 * k) % 256 < 256 := by omega

/-- the program's own loop over the bytes of a field, with Put's closure -/
theorem putField_any (B0 B : Nat) (n z : Nat) (w : World) (hn : n < 18446744073709551616) (hz : z ≤ 8) (l : List UInt8) (h : Gathers B0 B l w) (hl : l.length ≤ 1000000) :
    Calls Try.prog 30 #[.int .u64 n, .int .i64 z, .func (.func 31) #[] #[.pointer (some ⟨B, 0, none⟩)]] w fun e w' =>
      e = .returned (.tuple #[]) ∧ Gathers B0 B (l ++ Fm.fld n z) w' ∧ Below B0 w w' := by
  go_enter Try.func30, Try.ntmps30
  go_wp2
  go_loopw [8] (fun i wr => ∃ k : Nat, k ≤ z ∧ i = .int .i64 k ∧ Gathers B0 B (l ++ Fm.fld n k) wr ∧ Below B0 w wr) (fun i _ => z - (intOf i).toNat)
  case atStart => exact ⟨0, Nat.zero_le _, rfl, by simpa [Fm.fld] using h, Below.refl _ _⟩
  case round =>
    obtain ⟨k, hk, rfl, hG, hbel⟩ := hrel
    have HG := Lib.hid hG
    have HB := Lib.hid hbel
    clear hG hbel
    by_cases hlt : k < z
    · go_wp2_with fail
      refine (put1_any B0 B (l ++ Fm.fld n k) _ _ (byte_lo n k).1 (byte_lo n k).2 HG.out (by rw [List.length_append, Fm.fld_length]; omega)).mono ?_
      rintro e w' ⟨rfl, hG', hbel'⟩
      have HG' := Lib.hid hG'
      have HB' := Lib.hid hbel'
      clear hG' hbel'
      go_wp2
      go_roundw
      case rel => exact ⟨k + 1, by omega, by go_num, by have := HG'.out; rw [byte_of, List.append_assoc] at this; exact this, HB.out.trans HB'.out⟩
      case measure => simp [intOf]; omega
    · go_wp2
      go_end0
      exact ⟨rfl, by rw [← show k = z from by omega]; exact HG.out, HB.out⟩

theorem gathers_start {w w0 : World} {v : Value} (hown : w0.ownsRow w.heap.size 5 1 v 0 []) (hg : w.grownBy w0 none) :
    Gathers w.heap.size w0.heap.size [] (w0.alloc (.cells #[v] 35)) ∧ Below w.heap.size w (w0.alloc (.cells #[v] 35)) :=
  ⟨⟨hg.size, v, heap_alloc_new w0 _, hown.alloc _⟩, ((Below.refl _ w).grown hg (Nat.le_refl _) (fun k h => by cases h)).alloc hg.size _⟩

/-- what was gathered, as a text -/
theorem gathers_text {B0 B : Nat} {l : List UInt8} {w : World} (h : Gathers B0 B l w) (hl : 0 < l.length) :
    ∃ g cap, w.cell? ⟨B, 0, none⟩ = some (.slice (some ⟨g, 0, none⟩) l.length cap) ∧
      (convert 35 9 (.slice (some ⟨g, 0, none⟩) l.length cap)).run Try.prog w = .ok (.string ⟨l.toArray⟩) w := by
  obtain ⟨_, v, hv, hown⟩ := h
  obtain ⟨g, cap, rfl⟩ := slice_of hown hl
  refine ⟨g, cap, cell_of_one hv, run_convert_bytes_back (P := Try.prog) w 35 9 5 ⟨g, 0, none⟩ cap l Try.underlying35 Try.underlying5 Try.underlying9 ?_⟩
  intro j hj
  rw [Addr.add_lit, Nat.zero_add, hown.cellAt j (by omega)]
  simp [cellsOf, hj]

theorem put_yes (n z : Nat) (w : World) (hn : n < 18446744073709551616) (z1 : 1 ≤ z) (z2 : z ≤ 8) :
    Calls Try.prog 24 #[.int .u64 n, .int .i64 z] w fun e w' => e = .returned (.string ⟨(Fm.fld n z).toArray⟩) ∧ Below w.heap.size w w' := by
  obtain ⟨i0, hi, hz0, hz1, hz2⟩ := info_parts Try.infoByte
  go_enter Try.func24, Try.ntmps24
  go_wp2_with (first
    | (go_at_call 26; refine (isSize_yes _ _ (by omega) (by omega)).mono ?_; rintro e w' ⟨rfl, rfl⟩)
    | (at_make; refine wpList_make_own _ rfl _ _ 35 rfl w.heap.size 5 i0 (.int .u8 0) 1 Try.underlying35 hi hz0 hz1 .i64 .i64 _ z rfl rfl rfl (by rw [hz2]; omega) (by unfold maxLen; omega) (Nat.le_refl _) ?_; intro w0 hown0 hgrow0))
  obtain ⟨hG0, hb0⟩ := gathers_start hown0 hgrow0
  refine (putField_any w.heap.size w0.heap.size n z _ hn z2 [] hG0 (by simp)).mono ?_
  rintro e w1 ⟨rfl, hG, hbel⟩
  rw [List.nil_append] at hG
  obtain ⟨g, cap, hcell, hcv⟩ := gathers_text hG (by rw [Fm.fld_length]; omega)
  have HB := Lib.hid (hb0.trans hbel)
  clear hG hbel hb0 hG0 hown0 hgrow0
  go_wp2
  go_ret
  exact ⟨rfl, HB.out⟩
theorem put_no (n : Int) (size : Int) (w : World) (h : size < 1 ∨ 8 < size) :
    Calls Try.prog 24 #[.int .u64 n, .int .i64 size] w fun e w' => e = .returned (.string ⟨#[]⟩) ∧ w = w' := by
  go_enter Try.func24, Try.ntmps24
  go_wp2_with (go_at_call 26; refine (isSize_no _ _ h).mono ?_; rintro e w' ⟨rfl, rfl⟩)
  go_ret
  exact ⟨rfl, rfl⟩

/-- the field of a number, or no byte -/
def putL (n size : Int) : List UInt8 := if 1 ≤ size ∧ size ≤ 8 then Fm.fld n.toNat size.toNat else []
theorem put_any (n size : Int) (w : World) (h0 : 0 ≤ n) (h1 : n ≤ 18446744073709551615) :
    Calls Try.prog 24 #[.int .u64 n, .int .i64 size] w fun e w' => e = .returned (.string ⟨(putL n size).toArray⟩) ∧ Below w.heap.size w w' := by
  unfold putL
  by_cases h : 1 ≤ size ∧ size ≤ 8
  · obtain ⟨m, rfl⟩ := Int.eq_ofNat_of_zero_le h0
    obtain ⟨z, rfl⟩ := Int.eq_ofNat_of_zero_le (show 0 ≤ size by omega)
    rw [if_pos h]
    exact put_yes m z w (by omega) (by omega) (by omega)
  · rw [if_neg h]
    exact (put_no n size w (by omega)).mono fun _ _ x => ⟨x.1, x.2 ▸ Below.refl _ _⟩

theorem refByte (n k : Nat) : (n : Int) / (Fm.pw k : Nat) % 256 = ((UInt8.ofNat (n / Fm.pw k)).toNat : Int) := by simp
theorem refPut_no (n : Int) (size : Int) (w : World) (h : size < 1 ∨ 8 < size) :
    Calls Try.prog 25 #[.int .u64 n, .int .i64 size] w fun e w' => e = .returned (.string ⟨#[]⟩) ∧ w = w' := by
  rcases h with h | h
  · go_enter Try.func25, Try.ntmps25
    go_wp2
    go_ret
    exact ⟨rfl, rfl⟩
  · have h' : ¬ size < 1 := by omega
    go_enter Try.func25, Try.ntmps25
    go_wp2
    go_ret
    exact ⟨rfl, rfl⟩
theorem one_text (n k : Nat) (w : World) :
    (convert 35 9 (.slice (some ⟨w.heap.size, 0, none⟩) 1 1)).run Try.prog (w.alloc (.cells #[.int .u8 ((n : Int) / (Fm.pw k : Nat) % 256)] 5)) =
      .ok (.string ⟨#[UInt8.ofNat (n / Fm.pw k)]⟩) (w.alloc (.cells #[.int .u8 ((n : Int) / (Fm.pw k : Nat) % 256)] 5)) := by
  have := run_convert_bytes_back (P := Try.prog) (w.alloc (.cells #[.int .u8 ((n : Int) / (Fm.pw k : Nat) % 256)] 5)) 35 9 5 ⟨w.heap.size, 0, none⟩ 1 [UInt8.ofNat (n / Fm.pw k)] Try.underlying35 Try.underlying5 Try.underlying9 ?_
  · simpa using this
  · intro j hj
    refine cell_one_new _ _ _ j _ ?_
    rw [refByte]
    simp at hj
    subst hj
    rfl
theorem add_text (n k : Nat) (hk : k ≤ 8) (w : World) : (Op.stringOp .add ⟨(Fm.fld n k).toArray⟩ ⟨#[UInt8.ofNat (n / Fm.pw k)]⟩).run Try.prog w = .ok (.string ⟨(Fm.fld n (k + 1)).toArray⟩) w :=
  run_string_add_lists (P := Try.prog) w (Fm.fld n k) [UInt8.ofNat (n / Fm.pw k)] (by rw [Fm.fld_length]; omega) (by simp)
theorem refPut_yes (n z : Nat) (w : World) (hn : n < 18446744073709551616) (z1 : 1 ≤ z) (z2 : z ≤ 8) :
    Calls Try.prog 25 #[.int .u64 n, .int .i64 z] w fun e w' => e = .returned (.string ⟨(Fm.fld n z).toArray⟩) ∧ Below w.heap.size w w' := by
  go_enter Try.func25, Try.ntmps25
  go_wp2
  go_loopw [5, 6] (fun s i wr => ∃ k : Nat, k ≤ z ∧ i = .int .i64 k ∧ s = .string ⟨(Fm.fld n k).toArray⟩ ∧ Below w.heap.size w wr) (fun _ i _ => z - (intOf i).toNat)
  case atStart => exact ⟨0, Nat.zero_le _, rfl, rfl, Below.refl _ _⟩
  case round =>
    obtain ⟨k, hk, rfl, rfl, hbel⟩ := hrel
    have hbs := hbel.size
    have HB := Lib.hid hbel
    clear hbel
    by_cases hlt : k < z
    · have hp := Fm.pw_pos k
      have hq0 : 0 ≤ (n : Int) / (Fm.pw k : Nat) := Int.ediv_nonneg (by omega) (by omega)
      have hq1 : (n : Int) / (Fm.pw k : Nat) ≤ 18446744073709551615 := by
        rw [← Int.natCast_ediv]; have := Nat.div_le_self n (Fm.pw k); omega
      have hcv := one_text n k wr
      have hadd := add_text n k (by omega)
      go_wp2_with (go_at_call 28; refine (power_any _ _ (by omega) (by omega)).mono ?_; rintro e w' ⟨rfl, rfl⟩)
      go_roundw
      case rel => exact ⟨k + 1, by omega, by go_num, rfl, HB.out.alloc hbs _⟩
      case measure => simp [intOf]; omega
    · go_wp2
      go_ret
      exact ⟨by rw [show k = z from by omega]; rfl, HB.out⟩
theorem refPut_any (n size : Int) (w : World) (h0 : 0 ≤ n) (h1 : n ≤ 18446744073709551615) :
    Calls Try.prog 25 #[.int .u64 n, .int .i64 size] w fun e w' => e = .returned (.string ⟨(putL n size).toArray⟩) ∧ Below w.heap.size w w' := by
  unfold putL
  by_cases h : 1 ≤ size ∧ size ≤ 8
  · obtain ⟨m, rfl⟩ := Int.eq_ofNat_of_zero_le h0
    obtain ⟨z, rfl⟩ := Int.eq_ofNat_of_zero_le (show 0 ≤ size by omega)
    rw [if_pos h]
    exact refPut_yes m z w (by omega) (by omega) (by omega)
  · rw [if_neg h]
    exact (refPut_no n size w (by omega)).mono fun _ _ x => ⟨x.1, x.2 ▸ Below.refl _ _⟩
end Go.Proofs.Ytabfjlokemkpjaa
