/- Contract of (Nat).Cmp. -/
import Derived.Test.YtkggglhnhlclmaaDoorBack
import Derived.Test.YtkggglhnhlclmaaDoorAdd
namespace Go.Proofs.YtkggglhnhlclmaaDoor
open Go.RowKit Go.Shelf
set_option linter.unusedVariables false
attribute [local go_sem] Oper.semAt_some

/-- -1, 0, 1: below, alike, above. -/
def cmpI (x y : Int) : Int := if x < y then -1 else if y < x then 1 else 0
/-! ### Of one length -/
theorem same_val {l1 l2 : List Int} {len : Nat} (h1 : len ≤ l1.length) (h2 : len ≤ l2.length) (h : ∀ j, j < len → l1.getD j 0 = l2.getD j 0) : val (l1.take len) = val (l2.take len) := by
  rw [← seg_all, ← seg_all]
  exact seg_congr (by omega) (by omega) (fun j _ hj => h j (by omega))
theorem cmpI_scale {P A B x y r : Int} (hP : 0 < P) (hA : 0 ≤ A ∧ A < P) (hB : 0 ≤ B ∧ B < P) (hne : x ≠ y) : cmpI (A + P * x + r) (B + P * y + r) = cmpI x y := by
  unfold cmpI
  by_cases h : x < y
  · have : P * (x + 1) ≤ P * y := Int.mul_le_mul_of_nonneg_left (by omega) (by omega)
    rw [Int.mul_add, Int.mul_one] at this
    rw [if_pos h, if_pos (by omega)]
  · have : P * (y + 1) ≤ P * x := Int.mul_le_mul_of_nonneg_left (by omega) (by omega)
    rw [Int.mul_add, Int.mul_one] at this
    rw [if_neg h, if_neg (by omega), if_pos (by omega), if_pos (by omega)]
theorem cmp_val {l1 l2 : List Int} {len j : Nat} (h1 : len ≤ l1.length) (h2 : len ≤ l2.length) (hw1 : Words l1) (hw2 : Words l2) (hj : j < len) (he : ∀ i, j < i → i < len → l1.getD i 0 = l2.getD i 0) (hne : l1.getD j 0 ≠ l2.getD j 0) :
    cmpI (val (l1.take len)) (val (l2.take len)) = cmpI (l1.getD j 0) (l2.getD j 0) := by
  obtain ⟨m, rfl⟩ : ∃ m, len = j + 1 + m := ⟨len - (j + 1), by omega⟩
  have b1 := seg_bd hw1 0 j (by omega)
  have b2 := seg_bd hw2 0 j (by omega)
  rw [← seg_all, ← seg_all, seg_add (l := l1) (o := 0) (k := j + 1) (m := m) (by omega), seg_add (l := l2) (o := 0) (k := j + 1) (m := m) (by omega), seg_succ (l := l1) (o := 0) (k := j) (by omega), seg_succ (l := l2) (o := 0) (k := j) (by omega),
    seg_congr (l := l1) (l' := l2) (o := 0 + (j + 1)) (k := m) (by omega) (by omega) (fun i hi1 hi2 => he i (by omega) (by omega)), Nat.zero_add]
  exact cmpI_scale (pw_pos j) b1 b2 hne
theorem mem_down {l : List Int} {len : Nat} : ∀ {k h} {x : At l len}, len - 1 - k < x.1.1 ∨ (len = k ∧ True) → x ∈ down l len k h
  | 0, h, x, hx => by have := x.2.1; omega
  | k + 1, h, x, hx => by
    by_cases he : x.1.1 = len - 1 - k
    · rw [down_next l len k h x he]; simp
    · have h1 := x.2.1
      show x ∈ down l len k _ ++ [_]
      exact List.mem_append.2 (.inl (mem_down (by omega)))

theorem cmpI_lt {x y : Int} (h : x < y) : cmpI x y = -1 := by unfold cmpI; rw [if_pos h]
theorem cmpI_gt {x y : Int} (h : y < x) : cmpI x y = 1 := by unfold cmpI; rw [if_neg (by omega), if_pos h]
theorem cmpI_eq {x y : Int} (h : x = y) : cmpI x y = 0 := by unfold cmpI; rw [if_neg (by omega), if_neg (by omega)]
end Go.Proofs.YtkggglhnhlclmaaDoor
