/-
  Layer 9 (marks): rising lists, bits of words, and which ids are covered, in lists. Nothing of the program stands here.
-/
import Derived.Lib.SlicesCompact
import Derived.Lib.TrailingZeros
namespace Go.Proofs.Ytecdgpacofojeaa.Nm

/-- rising -/
def Ri (l : List Int) : Prop := l.Pairwise (· < ·)
theorem Ri.nil : Ri [] := List.Pairwise.nil
theorem pw_ext {α : Type} {lt : α → α → Prop} (irr : ∀ a, ¬ lt a a) (tr : ∀ a b c, lt a b → lt b c → lt a c) : ∀ {a b : List α}, a.Pairwise lt → b.Pairwise lt → (∀ x, x ∈ a ↔ x ∈ b) → a = b
  | [], [], _, _, _ => rfl
  | [], y :: b, _, _, h => by simpa using h y
  | x :: a, [], _, _, h => by simpa using h x
  | x :: a, y :: b, ha, hb, h => by
    rw [List.pairwise_cons] at ha hb
    have e : x = y := by
      rcases List.mem_cons.1 ((h x).1 (by simp)) with e | hx
      · exact e
      rcases List.mem_cons.1 ((h y).2 (by simp)) with e | hy
      · exact e.symm
      exact absurd (tr _ _ _ (ha.1 y hy) (hb.1 x hx)) (irr _)
    subst e
    rw [pw_ext irr tr ha.2 hb.2 fun z => ?_]
    constructor
    · intro hz
      rcases List.mem_cons.1 ((h z).1 (List.mem_cons_of_mem _ hz)) with e | h2
      · subst e; exact absurd (ha.1 _ hz) (irr _)
      · exact h2
    · intro hz
      rcases List.mem_cons.1 ((h z).2 (List.mem_cons_of_mem _ hz)) with e | h2
      · subst e; exact absurd (hb.1 _ hz) (irr _)
      · exact h2
theorem Ri.ext {a b : List Int} (ha : Ri a) (hb : Ri b) (h : ∀ x, x ∈ a ↔ x ∈ b) : a = b := pw_ext (fun a => by omega) (fun a b c => by omega) ha hb h
theorem Ri.nodup {a : List Int} (h : Ri a) : a.Nodup := List.Pairwise.imp (fun hab => by omega) h

/-! ### what Compact leaves of a sorted list -/
section
variable {α : Type} [Inhabited α] [DecidableEq α]
omit [DecidableEq α] in
theorem take_get (d : Array α) {m : Nat} (hm : m < d.size) : d.toList.take (m + 1) = d.toList.take m ++ [d[m]!] := by
  rw [List.take_add_one]
  simp [hm]
theorem compact_upTo (d : Array α) : ∀ m, m ≤ d.size → ∀ x, x ∈ Lib.compactUpTo d m ↔ x ∈ d.toList.take m
  | 0, _, x => by simp [Lib.compactUpTo]
  | m + 1, hm, x => by
    rw [Lib.compactUpTo_succ, take_get d (by omega), List.mem_append, List.mem_append, compact_upTo d m (by omega) x]
    by_cases hk : Lib.keeps d m = true
    · rw [if_pos hk]
    · rw [if_neg hk]
      have hk2 : ¬ (m = 0 ∨ d[m]! ≠ d[m - 1]!) := by simpa [Lib.keeps] using hk
      have hm0 : m ≠ 0 := fun e => hk2 (.inl e)
      have he : d[m]! = d[m - 1]! := Classical.not_not.1 fun e => hk2 (.inr e)
      simp only [List.not_mem_nil, or_false, List.mem_singleton]
      refine ⟨.inl, fun h => ?_⟩
      rcases h with h | rfl
      · exact h
      · rw [he]
        obtain ⟨q, rfl⟩ : ∃ q, m = q + 1 := ⟨m - 1, by omega⟩
        rw [take_get d (by omega)]
        simp
theorem compact_mem (zs : List α) (x : α) : x ∈ Lib.compact zs ↔ x ∈ zs := by
  have := compact_upTo zs.toArray zs.length (by simp) x
  simpa [Lib.compact] using this
theorem compact_pwUpTo {le : α → α → Prop} (anti : ∀ a b, le a b → le b a → a = b) (rfl' : ∀ a, le a a) (d : Array α) (hs : d.toList.Pairwise le) : ∀ m, m ≤ d.size → (Lib.compactUpTo d m).Pairwise (fun a b => le a b ∧ a ≠ b)
  | 0, _ => by simp [Lib.compactUpTo]
  | m + 1, hm => by
    rw [Lib.compactUpTo_succ]
    by_cases hk : Lib.keeps d m = true
    · rw [if_pos hk, List.pairwise_append]
      refine ⟨compact_pwUpTo anti rfl' d hs m (by omega), by simp, fun y hy z hz => ?_⟩
      obtain rfl : z = d[m]! := by simpa using hz
      have hy2 := (compact_upTo d m (by omega) y).1 hy
      obtain ⟨i, hi, rfl⟩ := List.mem_iff_getElem.1 hy2
      have hi2 : i < m := by simp at hi; omega
      have him : i < d.size := by omega
      have hlt := fun (p q : Nat) (hp : p < q) (hq : q < d.size) => (List.pairwise_iff_getElem.1 hs) p q (by simp; omega) (by simpa using hq) hp
      have h1 : le d[i] d[m] := by simpa using hlt i m hi2 (by omega)
      have e1 : (d.toList.take m)[i] = d[i] := by simp
      have e2 : d[m]! = d[m] := by simp [show m < d.size by omega]
      rw [e1, e2]
      refine ⟨h1, fun e => ?_⟩
      have hk2 : m = 0 ∨ d[m]! ≠ d[m - 1]! := by simpa [Lib.keeps] using hk
      rcases hk2 with h0 | h0
      · omega
      · apply h0
        have e3 : d[m - 1]! = d[m - 1] := by simp [show m - 1 < d.size by omega]
        rw [e2, e3]
        have h2 : le d[i] d[m - 1] := by
          by_cases hc : i = m - 1
          · subst hc; exact rfl' _
          · simpa using hlt i (m - 1) (by omega) (by omega)
        have h3 : le d[m - 1] d[m] := by simpa using hlt (m - 1) m (by omega) (by omega)
        rw [← e] at h3 ⊢
        exact anti _ _ h2 h3
    · rw [if_neg hk, List.append_nil]
      exact compact_pwUpTo anti rfl' d hs m (by omega)
theorem compact_pw {le : α → α → Prop} (anti : ∀ a b, le a b → le b a → a = b) (rfl' : ∀ a, le a a) (zs : List α) (hs : zs.Pairwise le) : (Lib.compact zs).Pairwise (fun a b => le a b ∧ a ≠ b) :=
  compact_pwUpTo anti rfl' zs.toArray (by simpa using hs) zs.length (by simp)
end
/-- all of l, rising, each once: sorted, then compacted -/
def uniq (l : List Int) : List Int := Lib.compact (l.mergeSort fun x y => decide (x ≤ y))
theorem uniq_ri (l : List Int) : Ri (uniq l) := by
  have hs : (l.mergeSort fun x y => decide (x ≤ y)).Pairwise (fun a b => a ≤ b) := (List.pairwise_mergeSort (fun a b c h1 h2 => by simp at *; omega) (fun a b => by simp; omega) l).imp (by simp)
  exact (compact_pw (fun a b h1 h2 => by omega) (fun a => Int.le_refl a) _ hs).imp fun h => by omega
theorem uniq_mem (l : List Int) (x : Int) : x ∈ uniq l ↔ x ∈ l := by
  unfold uniq
  rw [compact_mem, List.mem_mergeSort]
theorem uniq_le (l : List Int) : (uniq l).length ≤ l.length := by
  unfold uniq Lib.compact Lib.compactUpTo
  rw [List.length_map]
  refine Nat.le_trans (List.length_filter_le _ _) ?_
  simp

/-! ### the document's own way: one by one into a rising list -/
def ins : List Int → Int → List Int
  | [], x => [x]
  | y :: r, x => if y < x then y :: ins r x else if y = x then y :: r else x :: y :: r
theorem ins_mem : ∀ (l : List Int) (x z : Int), z ∈ ins l x ↔ z = x ∨ z ∈ l
  | [], x, z => by simp [ins]
  | y :: r, x, z => by
    unfold ins
    split
    · simp [ins_mem r x z]; exact ⟨fun h => by rcases h with h | h | h <;> simp [h], fun h => by rcases h with h | h | h <;> simp [h]⟩
    · split
      · rename_i e; subst e; simp
      · simp
theorem ins_ri : ∀ (l : List Int) (x : Int), Ri l → Ri (ins l x)
  | [], x, _ => List.pairwise_singleton _ _
  | y :: r, x, h => by
    have h' := List.pairwise_cons.1 h
    unfold ins
    split
    · rename_i hlt
      refine List.pairwise_cons.2 ⟨fun z hz => ?_, ins_ri r x h'.2⟩
      rcases (ins_mem r x z).1 hz with rfl | hz
      · exact hlt
      · exact h'.1 z hz
    · split
      · exact h
      · refine List.pairwise_cons.2 ⟨fun z hz => ?_, h⟩
        rcases List.mem_cons.1 hz with rfl | hz
        · omega
        · have := h'.1 z hz; omega
theorem ins_len : ∀ (l : List Int) (x : Int), (ins l x).length ≤ l.length + 1
  | [], _ => by simp [ins]
  | y :: r, x => by
    unfold ins
    split
    · simp [ins_len r x]
    · split <;> simp
theorem ins_len_eq : ∀ (l : List Int) (x : Int), (ins l x).length = l.length + 1 → Ri l → x ∉ l
  | [], _, _, _ => by simp
  | y :: r, x, h, hr => by
    have hr' := List.pairwise_cons.1 hr
    unfold ins at h
    split at h
    · rename_i hlt
      have := ins_len_eq r x (by simpa using h) hr'.2
      simp [this]; omega
    · split at h
      · simp at h
      · rename_i h1 h2
        intro hm
        rcases List.mem_cons.1 hm with e | hm
        · exact h2 e.symm
        · have := hr'.1 x hm; omega
/-- where it is put -/
theorem ins_at : ∀ (l : List Int) (x : Int) (k : Nat), k ≤ l.length → (∀ i, i < k → l.getD i 0 < x) → (k < l.length → ¬ l.getD k 0 < x) →
    ins l x = if k < l.length ∧ l.getD k 0 = x then l else l.take k ++ x :: l.drop k
  | [], x, k, hk, _, _ => by simp [ins]
  | y :: r, x, 0, _, _, h2 => by
    have := h2 (by simp)
    simp at this
    unfold ins
    rw [if_neg (by omega)]
    simp
  | y :: r, x, k + 1, hk, h1, h2 => by
    have h0 := h1 0 (by omega)
    simp at h0
    unfold ins
    rw [if_pos h0, ins_at r x k (by simpa using hk) (fun i hi => by simpa using h1 (i + 1) (by omega)) (fun h => by simpa using h2 (by simpa using h))]
    by_cases hc : k < r.length ∧ r.getD k 0 = x
    · rw [if_pos hc, if_pos (by simpa using hc)]
    · rw [if_neg hc, if_neg (by simpa using hc)]
      simp
def uq (l : List Int) : List Int := l.foldl ins []
theorem fold_ri : ∀ (l out : List Int), Ri out → Ri (l.foldl ins out)
  | [], _, h => h
  | x :: r, out, h => fold_ri r _ (ins_ri out x h)
theorem fold_mem : ∀ (l out : List Int) (z : Int), z ∈ l.foldl ins out ↔ z ∈ out ∨ z ∈ l
  | [], out, z => by simp
  | x :: r, out, z => by
    rw [List.foldl_cons, fold_mem r _ z, ins_mem, List.mem_cons]
    exact ⟨fun h => by rcases h with (h | h) | h <;> simp [h], fun h => by rcases h with h | h | h <;> simp [h]⟩
theorem fold_len : ∀ (l out : List Int), (l.foldl ins out).length ≤ out.length + l.length
  | [], out => by simp
  | x :: r, out => by
    have h1 := fold_len r (ins out x)
    have h2 := ins_len out x
    rw [List.foldl_cons, List.length_cons]; omega
theorem fold_nodup : ∀ (l out : List Int), Ri out → (l.foldl ins out).length = out.length + l.length → l.Nodup ∧ ∀ x ∈ l, x ∉ out
  | [], out, _, _ => by simp
  | x :: r, out, ho, h => by
    have h1 := fold_len r (ins out x)
    have h2 := ins_len out x
    rw [List.foldl_cons, List.length_cons] at h
    have e := ins_len_eq out x (by omega) ho
    obtain ⟨i1, i2⟩ := fold_nodup r _ (ins_ri out x ho) (by omega)
    refine ⟨List.nodup_cons.2 ⟨fun hx => i2 x hx ((ins_mem out x x).2 (.inl rfl)), i1⟩, fun z hz => ?_⟩
    rcases List.mem_cons.1 hz with rfl | hz
    · exact e
    · exact fun ho => i2 z hz ((ins_mem out x z).2 (.inr ho))
theorem uq_ri (l : List Int) : Ri (uq l) := fold_ri l [] Ri.nil
theorem uq_mem (l : List Int) (x : Int) : x ∈ uq l ↔ x ∈ l := by rw [uq, fold_mem]; simp
theorem uq_len (l : List Int) : (uq l).length ≤ l.length := by have := fold_len l []; simpa [uq] using this
theorem uniq_uq (l : List Int) : uniq l = uq l := (uniq_ri l).ext (uq_ri l) fun x => by rw [uniq_mem, uq_mem]
theorem uq_self {l : List Int} (h : Ri l) : uq l = l := (uq_ri l).ext h fun x => uq_mem l x
theorem uq_snoc (l : List Int) (x : Int) : uq (l ++ [x]) = ins (uq l) x := by simp [uq, List.foldl_append]

/-! ### how many there can be -/
theorem card : ∀ (n : Nat) (l : List Int), l.Nodup → (∀ x ∈ l, 0 ≤ x ∧ x < n) → l.length ≤ n
  | 0, l, _, h => by
    cases l with
    | nil => simp
    | cons x r => have := h x (by simp); omega
  | n + 1, l, hn, h => by
    have hi := card n (l.erase n) (hn.erase _) (fun x hx => by
      have hx2 := (hn.mem_erase_iff).1 hx
      have := h x hx2.2
      have h3 := hx2.1
      have h4 : x < (n : Int) + 1 := by have := this.2; push_cast at this; exact this
      omega)
    have := List.length_le_length_erase_add_one' l n
    omega
where
  List.length_le_length_erase_add_one' (l : List Int) (n : Int) : l.length ≤ (l.erase n).length + 1 := by
    rw [List.length_erase]; split <;> omega
theorem full {n : Nat} {l : List Int} (hn : l.Nodup) (h : ∀ x ∈ l, 0 ≤ x ∧ x < n) (hl : n ≤ l.length) {x : Int} (hx : 0 ≤ x ∧ x < n) : x ∈ l := by
  by_cases hm : x ∈ l
  · exact hm
  · have := card n (x :: l) (List.nodup_cons.2 ⟨hm, hn⟩) (fun z hz => by rcases List.mem_cons.1 hz with rfl | hz; exact hx; exact h z hz)
    simp at this
    omega
/-- 0 to n - 1 -/
def rg (n : Nat) : List Int := (List.range n).map Int.ofNat
theorem rg_ri (n : Nat) : Ri (rg n) := List.pairwise_map.2 (List.pairwise_lt_range.imp fun h => by simp; exact h)
theorem rg_mem (n : Nat) (x : Int) : x ∈ rg n ↔ 0 ≤ x ∧ x < n := by
  unfold rg
  rw [List.mem_map]
  constructor
  · rintro ⟨a, ha, rfl⟩
    simp at ha ⊢
    exact ha
  · rintro ⟨h1, h2⟩
    exact ⟨x.toNat, by simp; omega, by simp; omega⟩
/-- is each id from 0 on below n there just once, and nothing else? -/
def cov (n : Int) (l : List Int) : Bool := decide (l.Nodup ∧ (∀ x ∈ l, 0 ≤ x ∧ x < n) ∧ (l.length : Int) = max n 0)
theorem cov_ref (n : Int) (l : List Int) (m : Nat) (hm : (m : Int) = max n 0) :
    cov n l = decide ((uq l).length = l.length ∧ (uq l).length = m ∧ (m = 0 ∨ ((uq l).getD 0 0 = 0 ∧ (uq l).getD (m - 1) 0 = (m : Int) - 1))) := by
  unfold cov
  rw [decide_eq_decide]
  have hb : ∀ x : Int, (0 ≤ x ∧ x < n) ↔ (0 ≤ x ∧ x < (m : Int)) := fun x => by omega
  constructor
  · rintro ⟨h1, h2, h3⟩
    have h2' : ∀ x ∈ l, 0 ≤ x ∧ x < (m : Int) := fun x hx => (hb x).1 (h2 x hx)
    have e : uq l = rg m := (uq_ri l).ext (rg_ri m) fun x => by
      rw [uq_mem, rg_mem]
      exact ⟨h2' x, fun hx => full h1 h2' (by omega) hx⟩
    rw [e]
    have hl : (rg m).length = m := by simp [rg]
    refine ⟨by omega, hl, ?_⟩
    rcases Nat.eq_zero_or_pos m with h0 | h0
    · exact .inl h0
    · refine .inr ⟨?_, ?_⟩
      · simp [rg, List.getD_eq_getElem?_getD, h0]
      · simp [rg, List.getD_eq_getElem?_getD, show m - 1 < m by omega]; omega
  · rintro ⟨h1, h2, h3⟩
    have hnd := (fold_nodup l [] Ri.nil (by simpa [uq] using h1)).1
    refine ⟨hnd, fun x hx => (hb x).2 ?_, by omega⟩
    have hx2 := (uq_mem l x).2 hx
    obtain ⟨i, hi, rfl⟩ := List.mem_iff_getElem.1 hx2
    rcases h3 with h3 | ⟨h3, h4⟩
    · omega
    · have hr := List.pairwise_iff_getElem.1 (uq_ri l)
      rw [List.getD_eq_getElem?_getD, List.getElem?_eq_getElem (by omega)] at h3 h4
      simp only [Option.getD_some] at h3 h4
      constructor
      · rcases Nat.eq_zero_or_pos i with e | e
        · subst e; omega
        · have := hr 0 i (by omega) hi e; omega
      · rcases Nat.lt_or_ge i (m - 1) with e | e
        · have := hr i (m - 1) hi (by omega) e; omega
        · have e2 : i = m - 1 := by omega
          subst e2; omega
/-! ### bits of words -/
/-- which bits of a word are set, rising -/
def bl (x : Nat) : List Nat := (List.range 64).filter fun j => x.testBit j
theorem bl_mem (x j : Nat) : j ∈ bl x ↔ j < 64 ∧ x.testBit j = true := by simp [bl]
theorem bl_pw (x : Nat) : (bl x).Pairwise (· < ·) := List.pairwise_lt_range.filter _
theorem bl_zero : bl 0 = [] := by simp [bl]
theorem ctz_spec {x : Nat} (h0 : x ≠ 0) (hx : x < 18446744073709551616) : ∃ m, x = 2 ^ Lib.ctz 64 x * (2 * m + 1) ∧ Lib.ctz 64 x < 64 ∧ x &&& (x - 1) = 2 ^ (Lib.ctz 64 x + 1) * m := by
  obtain ⟨m, hm, hk⟩ := Lib.ctzFrom_spec 64 x (by omega) (by omega)
  have e : Lib.ctz 64 x = Lib.ctzFrom 64 x := by simp [Lib.ctz, h0]
  rw [e]
  refine ⟨m, hm, hk, ?_⟩
  generalize Lib.ctzFrom 64 x = c at hm hk
  have hp : 0 < 2 ^ c := Nat.two_pow_pos c
  have e1 : x - 1 = 2 ^ (c + 1) * m + (2 ^ c - 1) := by rw [hm, Nat.pow_succ, Nat.mul_add, Nat.mul_assoc]; omega
  have e2 : x = 2 ^ (c + 1) * m + 2 ^ c := by rw [hm, Nat.pow_succ, Nat.mul_add, Nat.mul_assoc]; omega
  apply Nat.eq_of_testBit_eq
  intro j
  have hlt : 2 ^ c < 2 ^ (c + 1) := by rw [Nat.pow_succ]; omega
  rw [Nat.testBit_and, e1]
  conv => lhs; arg 1; rw [e2]
  rw [Nat.testBit_two_pow_mul_add _ hlt, Nat.testBit_two_pow_mul_add _ (by omega), Nat.testBit_two_pow_mul]
  by_cases hj : j < c + 1
  · rw [if_pos hj, if_pos hj]
    have : ¬ (j ≥ c + 1) := by omega
    simp [this, Nat.testBit_two_pow, Nat.testBit_two_pow_sub_one]
    omega
  · rw [if_neg hj, if_neg hj]
    have : j ≥ c + 1 := by omega
    simp [this]
theorem bl_next {x : Nat} (h0 : x ≠ 0) (hx : x < 18446744073709551616) : bl x = Lib.ctz 64 x :: bl (x &&& (x - 1)) := by
  obtain ⟨m, hm, hk, ha⟩ := ctz_spec h0 hx
  have hb : ∀ j, (x &&& (x - 1)).testBit j = (decide (Lib.ctz 64 x + 1 ≤ j) && m.testBit (j - (Lib.ctz 64 x + 1))) := fun j => by rw [ha, Nat.testBit_two_pow_mul]
  have hc : ∀ j, x.testBit j = (decide (Lib.ctz 64 x ≤ j) && (2 * m + 1).testBit (j - Lib.ctz 64 x)) := fun j => by
    conv => lhs; rw [hm]
    rw [Nat.testBit_two_pow_mul]
  refine pw_ext (fun a => by omega) (fun a b c => by omega) (bl_pw x) (List.pairwise_cons.2 ⟨fun j hj => ?_, bl_pw _⟩) fun j => ?_
  · have := ((bl_mem _ _).1 hj).2
    rw [hb] at this
    simp at this
    omega
  · rw [bl_mem, List.mem_cons, bl_mem, hb, hc]
    generalize Lib.ctz 64 x = c at hk
    by_cases h1 : j = c
    · subst h1; simp [hk]
    · by_cases h2 : c + 1 ≤ j
      · have e : (2 * m + 1).testBit (j - c) = m.testBit (j - (c + 1)) := by
          rw [show j - c = (j - (c + 1)) + 1 by omega, Nat.testBit_succ]
          congr 1; omega
        rw [e]
        simp [h1, h2, show c ≤ j by omega]
      · have h3 : ¬ c ≤ j := by omega
        simp [h1, h2, h3]
theorem and_lt (x : Nat) (hx : x < 18446744073709551616) : x &&& (x - 1) < 18446744073709551616 := Nat.lt_of_le_of_lt Nat.and_le_left hx
/-- fewer bits each time -/
theorem bl_len {x : Nat} (h0 : x ≠ 0) (hx : x < 18446744073709551616) : (bl (x &&& (x - 1))).length + 1 = (bl x).length := by rw [bl_next h0 hx]; simp

/-! ### ids as bits of words: f k is the word k -/
/-- the ids that stand in these words, in order -/
def al (f : Int → Nat) (ks : List Int) : List Int := ks.flatMap fun k => (bl (f k)).map fun j : Nat => k * 64 + (j : Int)
theorem al_mem (f : Int → Nat) (ks : List Int) (x : Int) : x ∈ al f ks ↔ ∃ k ∈ ks, ∃ j < 64, (f k).testBit j = true ∧ x = k * 64 + (j : Int) := by
  unfold al
  rw [List.mem_flatMap]
  constructor
  · rintro ⟨k, hk, h⟩
    obtain ⟨j, hj, rfl⟩ := List.mem_map.1 h
    obtain ⟨h1, h2⟩ := (bl_mem _ _).1 hj
    exact ⟨k, hk, j, h1, h2, rfl⟩
  · rintro ⟨k, hk, j, h1, h2, rfl⟩
    exact ⟨k, hk, List.mem_map.2 ⟨j, (bl_mem _ _).2 ⟨h1, h2⟩, rfl⟩⟩
theorem al_ri (f : Int → Nat) : ∀ ks : List Int, Ri ks → Ri (al f ks)
  | [], _ => Ri.nil
  | k :: r, h => by
    have h' := List.pairwise_cons.1 h
    show Ri ((bl (f k)).map (fun j : Nat => k * 64 + (j : Int)) ++ al f r)
    refine List.pairwise_append.2 ⟨List.pairwise_map.2 ((bl_pw (f k)).imp fun h => by omega), al_ri f r h'.2, fun x hx y hy => ?_⟩
    obtain ⟨j, hj, rfl⟩ := List.mem_map.1 hx
    have hj2 := ((bl_mem _ _).1 hj).1
    obtain ⟨k2, hk2, j2, hj3, -, rfl⟩ := (al_mem f r y).1 hy
    have := h'.1 k2 hk2
    omega
/-- the words f are those of the ids L -/
structure Wd (f : Int → Nat) (L : List Int) : Prop where
  bit : ∀ (k : Int) (j : Nat), j < 64 → ((f k).testBit j = true ↔ k * 64 + (j : Int) ∈ L)
  lt : ∀ k, f k < 18446744073709551616
theorem Wd.nil : Wd (fun _ => 0) [] := ⟨fun k j _ => by simp, fun k => by simp⟩
theorem Wd.mem {f : Int → Nat} {L : List Int} (h : Wd f L) (x : Nat) : (f ((x / 64 : Nat) : Int)).testBit (x % 64) = true ↔ (x : Int) ∈ L := by
  rw [h.bit _ _ (Nat.mod_lt _ (by decide))]
  have e : ((x / 64 : Nat) : Int) * 64 + ((x % 64 : Nat) : Int) = x := by omega
  rw [e]
theorem Wd.add {f : Int → Nat} {L : List Int} (h : Wd f L) (x : Nat) : Wd (fun k => if k = ((x / 64 : Nat) : Int) then f k ||| 2 ^ (x % 64) else f k) (L ++ [(x : Int)]) := by
  refine ⟨fun k j hj => ?_, fun k => ?_⟩
  · show (if k = ((x / 64 : Nat) : Int) then f k ||| 2 ^ (x % 64) else f k).testBit j = true ↔ _
    rw [List.mem_append, List.mem_singleton, ← h.bit k j hj]
    by_cases hk : k = ((x / 64 : Nat) : Int)
    · rw [if_pos hk, Nat.testBit_or, Nat.testBit_two_pow, Bool.or_eq_true]
      have : (k * 64 + (j : Int) = (x : Int)) ↔ (x % 64 = j) := by omega
      rw [this]
      simp
    · rw [if_neg hk]
      have : ¬ (k * 64 + (j : Int) = (x : Int)) := by omega
      simp [this]
  · show (if k = ((x / 64 : Nat) : Int) then f k ||| 2 ^ (x % 64) else f k) < _
    split
    · have h1 : (2 : Nat) ^ (x % 64) < 2 ^ 64 := Nat.pow_lt_pow_right (by decide) (Nat.mod_lt _ (by decide))
      exact Nat.or_lt_two_pow (n := 64) (by have := h.lt k; omega) h1
    · exact h.lt k
theorem Wd.al {f : Int → Nat} {L ks : List Int} (h : Wd f L) (hks : ∀ k, k ∉ ks → f k = 0) (x : Int) : x ∈ al f ks ↔ x ∈ L := by
  rw [al_mem]
  constructor
  · rintro ⟨k, -, j, hj, ht, rfl⟩
    exact (h.bit k j hj).1 ht
  · intro hx
    have e : x = (x / 64) * 64 + ((x % 64).toNat : Int) := by omega
    have ht := (h.bit (x / 64) (x % 64).toNat (by omega)).2 (by rw [← e]; exact hx)
    refine ⟨x / 64, ?_, (x % 64).toNat, by omega, ht, e⟩
    by_cases hk : x / 64 ∈ ks
    · exact hk
    · rw [hks _ hk] at ht
      simp at ht
/-- what is kept behind an id that is met -/
def add (n : Int) (L : List Int) (x : Int) : List Int := if 0 ≤ x ∧ x < n ∧ x ∉ L then L ++ [x] else L
/-- ids of a set of n, each once -/
structure Ids (n : Int) (L : List Int) : Prop where
  nd : L.Nodup
  in_ : ∀ x ∈ L, 0 ≤ x ∧ x < n
theorem Ids.nil (n : Int) : Ids n [] := ⟨List.nodup_nil, by simp⟩
theorem Ids.snoc {n : Int} {L : List Int} (h : Ids n L) {x : Int} (hx : 0 ≤ x ∧ x < n) (hm : x ∉ L) : Ids n (L ++ [x]) := by
  refine ⟨List.nodup_append.2 ⟨h.nd, by simp, fun a ha b hb => ?_⟩, fun z hz => ?_⟩
  · rw [List.mem_singleton] at hb; subst hb; exact fun e => hm (e ▸ ha)
  · rcases List.mem_append.1 hz with hz | hz
    · exact h.in_ z hz
    · rw [List.mem_singleton] at hz; subst hz; exact hx
theorem Ids.add {n : Int} {L : List Int} (h : Ids n L) (x : Int) : Ids n (add n L x) := by
  unfold Nm.add
  split
  · rename_i hc; exact h.snoc ⟨hc.1, hc.2.1⟩ hc.2.2
  · exact h
theorem Ids.len {n : Int} {L : List Int} (h : Ids n L) : L.length ≤ n.toNat := card n.toNat L h.nd fun x hx => by have := h.in_ x hx; omega
theorem Ids.some {n : Int} {L : List Int} (h : Ids n L) (hp : L ≠ []) : 0 < n := by
  cases L with
  | nil => exact absurd rfl hp
  | cons x r => have := h.in_ x (by simp); omega
end Go.Proofs.Ytecdgpacofojeaa.Nm
