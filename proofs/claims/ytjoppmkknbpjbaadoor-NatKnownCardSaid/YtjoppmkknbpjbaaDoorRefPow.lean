/- Contracts of the document's NatPow and NatRoot. -/
import Derived.Test.YtjoppmkknbpjbaaDoorRefShift
import Derived.Test.YtjoppmkknbpjbaaDoorCloneAt
import Derived.Deep.LoopGhost
namespace Go.Proofs.YtjoppmkknbpjbaaDoor
open Go.RowKit
set_option linter.unusedVariables false

theorem pow_le_lpw {X : Int} {K : Nat} (h0 : 0 ≤ X) (h : X < lpw K) : ∀ a : Nat, 0 ≤ X ^ a ∧ X ^ a ≤ lpw (K * a)
  | 0 => by simp [lpw]
  | a + 1 => by
    obtain ⟨g0, g1⟩ := pow_le_lpw h0 h a
    rw [Int.pow_succ, Nat.mul_succ, lpw_add]
    exact ⟨Int.mul_nonneg g0 h0, Int.mul_le_mul g1 (Int.le_of_lt h) h0 (Int.le_of_lt (lpw_pos _))⟩
theorem pow_lt_lpw {X : Int} {K M a : Nat} (h0 : 0 ≤ X) (h : X < lpw K) (hM : K * a < M) : X ^ a < lpw M := by
  have h1 := (pow_le_lpw h0 h a).2
  have h2 := lpw_mono (a := K * a + 1) (b := M) (by omega)
  have h3 := lpw_pos (K * a)
  simp only [lpw] at h2
  omega

theorem cmpI_le {a b : Int} : cmpI a b ≤ 0 ↔ a ≤ b := by
  unfold cmpI
  split
  · constructor <;> intro <;> omega
  · split <;> constructor <;> intro <;> omega
end Go.Proofs.YtjoppmkknbpjbaaDoor
