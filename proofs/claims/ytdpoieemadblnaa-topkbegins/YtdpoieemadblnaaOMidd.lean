/-
  Layer 4 (order): plain mathematics, more: one that wanders among others.
-/
import Derived.Test.YtdpoieemadblnaaOMath
namespace Go.Proofs.Ytdpoieemadblnaa.Om
section
variable {P Sd R : List E} {q a : Nat} {x y : E}
theorem mid_at (hP : P.length = a) (hq : q ≤ Sd.length) : (P ++ (ins Sd q x ++ R))[a + q]? = some x := by
  subst hP
  rw [← ins_mid _ _ _ _ _ hq, ins_at _ _ _ (by simp; omega)]
theorem mid_prev (hP : P.length = a) (hq : q ≤ Sd.length) (h0 : 0 < q) : (P ++ (ins Sd q x ++ R))[a + q - 1]? = Sd[q - 1]? := by
  subst hP
  rw [← ins_mid _ _ _ _ _ hq, ins_lt _ _ _ _ (by omega) (by simp; omega), List.getElem?_append_right (by omega), List.getElem?_append_left (by omega)]
  congr 1; omega
theorem mid_next (hP : P.length = a) (hq : q < Sd.length) : (P ++ (ins Sd q x ++ R))[a + q + 1]? = Sd[q]? := by
  subst hP
  rw [← ins_mid _ _ _ _ _ (by omega), ins_gt _ _ _ _ (by omega) (by simp; omega), Nat.add_sub_cancel, List.getElem?_append_right (by omega), List.getElem?_append_left (by omega)]
  congr 1; omega
theorem mid_down (hP : P.length = a) (hq : q ≤ Sd.length) (h0 : 0 < q) (hy : Sd[q - 1]? = some y) : ((P ++ (ins Sd q x ++ R)).set (a + q) y).set (a + q - 1) x = P ++ (ins Sd (q - 1) x ++ R) := by
  subst hP
  have h := mid_prev (P := P) (R := R) (x := x) rfl hq h0
  rw [← ins_mid _ _ _ _ _ hq, ← ins_mid _ _ _ _ _ (by omega), ins_down _ _ _ _ (by omega) (by simp; omega) ?_, show P.length + q - 1 = P.length + (q - 1) from by omega]
  rw [List.getElem?_append_right (by omega), List.getElem?_append_left (by omega), ← hy]
  congr 1; omega
theorem mid_up (hP : P.length = a) (hq : q < Sd.length) (hy : Sd[q]? = some y) : ((P ++ (ins Sd q x ++ R)).set (a + q) y).set (a + q + 1) x = P ++ (ins Sd (q + 1) x ++ R) := by
  subst hP
  rw [← ins_mid _ _ _ _ _ (by omega), ← ins_mid _ _ _ _ _ (by omega), ins_up _ _ _ _ (by simp; omega) ?_, show P.length + q + 1 = P.length + (q + 1) from by omega]
  rw [List.getElem?_append_right (by omega), List.getElem?_append_left (by omega), ← hy]
  congr 1; omega
theorem seg_at {X : List E} {t k : Nat} (hP : P.length = a) (hk : k = a + t) (ht : t < X.length) : (P ++ (X ++ R))[k]? = X[t]? := by
  subst hk; subst hP
  rw [List.getElem?_append_right (by omega), List.getElem?_append_left (by omega)]
  congr 1; omega
theorem seg_at2 {X Y : List E} {t k : Nat} (hP : P.length = a) (hk : k = a + X.length + t) (ht : t < Y.length) : (P ++ (X ++ (Y ++ R)))[k]? = Y[t]? := by
  subst hk; subst hP
  rw [List.getElem?_append_right (by omega), List.getElem?_append_right (by omega), List.getElem?_append_left (by omega)]
  congr 1; omega
theorem mid_length (hP : P.length = a) : (P ++ (ins Sd q x ++ R)).length = a + Sd.length + 1 + R.length := by
  subst hP; simp [ins_length]; omega
end
/-- behind the turning, behind the first merging, behind the second -/
def T1 (P X Y S : List E) (u v : Nat) : List E := P ++ (X.take u ++ (Y.take v ++ (X.drop u ++ (Y.drop v ++ S))))
def T2 (f : E → E → Bool) (P X Y S : List E) (u v : Nat) : List E := P ++ (merge f (X.take u) (Y.take v) ++ (X.drop u ++ (Y.drop v ++ S)))
def T3 (f : E → E → Bool) (P X Y S : List E) (u v : Nat) : List E := P ++ (merge f (X.take u) (Y.take v) ++ (merge f (X.drop u) (Y.drop v) ++ S))
section
variable {f : E → E → Bool} {P X Y S : List E} {u v : Nat}
theorem t1_rot {s i j k : Nat} (hs : s = P.length + u) (hi : i = X.length - u) (hj : j = v) (hk : k = Y.length - v + S.length) (hu : u ≤ X.length) (hv : v ≤ Y.length) : Rot (P ++ (X ++ (Y ++ S))) (T1 P X Y S u v) s i j k := by
  refine ⟨P ++ X.take u, X.drop u, Y.take v, Y.drop v ++ S, by simp; omega, by simp; omega, by simp; omega, by simp; omega, ?_, by simp [T1]⟩
  rw [List.append_assoc P, ← List.append_assoc (Y.take v), List.take_append_drop, ← List.append_assoc (X.take u), List.take_append_drop]
theorem t1_x (hu : u = X.length) : P ++ (X ++ (Y ++ S)) = T1 P X Y S u v := by
  subst hu
  unfold T1
  rw [List.take_length, List.drop_length, List.nil_append, ← List.append_assoc (Y.take v), List.take_append_drop]
theorem t1_v (hv : v = 0) : P ++ (X ++ (Y ++ S)) = T1 P X Y S u v := by
  subst hv
  unfold T1
  rw [List.take_zero, List.drop_zero, List.nil_append, ← List.append_assoc (X.take u), List.take_append_drop]
theorem t2_u (hu : u = 0) : T1 P X Y S u v = T2 f P X Y S u v := by subst hu; simp [T1, T2, nil_merge]
theorem t2_v (hv : v = 0) : T1 P X Y S u v = T2 f P X Y S u v := by subst hv; simp [T1, T2, merge_nil]
theorem t3_u (hu : u = X.length) : T2 f P X Y S u v = T3 f P X Y S u v := by subst hu; simp [T2, T3, nil_merge]
theorem t3_v (hv : v = Y.length) : T2 f P X Y S u v = T3 f P X Y S u v := by subst hv; simp [T2, T3, merge_nil]
theorem t2_as : T2 f P X Y S u v = (P ++ merge f (X.take u) (Y.take v)) ++ (X.drop u ++ (Y.drop v ++ S)) := by simp [T2]
theorem t3_as : T3 f P X Y S u v = (P ++ merge f (X.take u) (Y.take v)) ++ (merge f (X.drop u) (Y.drop v) ++ S) := by simp [T3]
theorem t3_all (h : merge f (X.take u) (Y.take v) ++ merge f (X.drop u) (Y.drop v) = merge f X Y) : T3 f P X Y S u v = P ++ (merge f X Y ++ S) := by rw [← h]; simp [T3]
end
end Go.Proofs.Ytdpoieemadblnaa.Om
