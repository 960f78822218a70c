/- What NatRing's walk wants beside the contracts. -/
import Derived.Test.YtogildikglomkaaGreatDoorTwoN
import Derived.Test.YtogildikglomkaaGreatDoorMulAny
import Derived.Test.YtogildikglomkaaGreatDoorSub
namespace Go.Proofs.YtogildikglomkaaGreatDoor
open Go.RowKit
set_option linter.unusedVariables false

theorem IsNat.drew {w : World} {v : Value} {n : Int} (h : IsNat w v n) : IsNat w.drew v n := h
theorem below_undrew {w w' : World} (k : Below w.drew.heap.size w.drew w') : Below w.heap.size w w' := ⟨k.os,k.tape,k.output,k.size,k.block⟩
theorem cmp_alike (v1 v2 : Value) (n m : Int) (w : World) (h1 : IsNat w v1 n) (h2 : IsNat w v2 m) (he : n = m) :
    Calls Tryz.prog 37 #[v1,v2] w fun e w' => e = .returned (.int .i64 0) ∧ Below w.heap.size w w' := by
  have h := cmp_any v1 v2 n m w h1 h2
  rw [cmpI_eq he] at h
  exact h
theorem pw_sum {i : Nat} {a b : Int} (h1 : a < pw i) (h2 : b < pw i) : a + b < pw (i + 1) := by
  have := pw_pos i
  simp only [pw]; omega
theorem pw_prod {i j : Nat} {a b : Int} (h0 : 0 ≤ a) (h1 : a < pw i) (g0 : 0 ≤ b) (g1 : b < pw j) : a * b < pw (i + j) := by
  rw [pw_add]
  have hp := pw_pos i
  have hq := pw_pos j
  by_cases hb : b = 0
  · subst hb
    rw [Int.mul_zero]
    exact Int.mul_pos hp hq
  · have : a * b < pw i * b := Int.mul_lt_mul_of_pos_right h1 (by omega)
    have : pw i * b ≤ pw i * pw j := Int.mul_le_mul_of_nonneg_left (by omega) (by omega)
    omega
theorem pw_up {i : Nat} {a : Int} (h : a < pw i) (hi : i ≤ 20) : a < pw 20 := Int.lt_of_lt_of_le h (pw_mono hi)
theorem ref_pw {w : World} {s : Value} {n : Int} (h : IsRef w s n) : 0 ≤ n ∧ n < pw 6 := by
  have := h.bd
  rw [pw_two 6]
  exact this
end Go.Proofs.YtogildikglomkaaGreatDoor
