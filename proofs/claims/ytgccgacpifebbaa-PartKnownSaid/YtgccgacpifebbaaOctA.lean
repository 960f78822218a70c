/- Contracts of the leaves of package octet: what only reads bytes: isLast, Sum, word, cut. -/
import Derived.Test.YtgccgacpifebbaaFewBs
import Derived.Deep.LoopGhost
namespace Go.Proofs.Ytgccgacpifebbaa
open Go.RowKit
set_option linter.unusedVariables false

theorem octet_u64 {x : Int} (h : 0 ≤ x ∧ x < 256) : IntKind.u64.wrap x = x := by rw [IntKind.wrap_u64]; omega
/-- A word moved up by a byte, and a byte. -/
theorem or_up {n c : Int} (hn : 0 ≤ n ∧ n < 2 ^ 56) (hc : 0 ≤ c ∧ c < 256) : bits .or .u64 (IntKind.u64.wrap (n * 256)) c = n * 256 + c := by
  obtain ⟨N, rfl⟩ := Int.eq_ofNat_of_zero_le hn.1
  obtain ⟨C, rfl⟩ := Int.eq_ofNat_of_zero_le hc.1
  have e1 : IntKind.u64.wrap ((N : Int) * 256) = ((N * 256 : Nat) : Int) := by rw [IntKind.wrap_u64]; omega
  rw [e1]
  show IntKind.u64.wrap ((BitVec.ofInt 64 ((N * 256 : Nat) : Int) ||| BitVec.ofInt 64 (C : Int)).toNat : Int) = _
  rw [BitVec.toNat_or, BitVec.ofInt_natCast, BitVec.ofInt_natCast, BitVec.toNat_ofNat, BitVec.toNat_ofNat, Nat.mod_eq_of_lt (by omega), Nat.mod_eq_of_lt (by omega), show N * 256 = 2 ^ 8 * N by omega, ← Nat.two_pow_add_eq_or_of_lt (by omega), IntKind.wrap_u64]
  omega
theorem deb_bd : ∀ {l : List Int} {k : Nat}, Octs l → k ≤ l.length → 0 ≤ deb (l.take k) ∧ deb (l.take k) < 256 ^ k
  | l, 0, _, _ => by simp [deb]
  | l, k + 1, ho, hk => by
    obtain ⟨h1, h2⟩ := deb_bd (l := l) (k := k) ho (by omega)
    have hx := ho.getD k
    have e : deb (l.take (k + 1)) = deb (l.take k) * 256 + l.getD k 0 := by
      unfold deb
      rw [take_snoc l k 0 (by omega), List.foldl_append]
      rfl
    rw [e, Int.pow_succ]
    constructor <;> omega
end Go.Proofs.Ytgccgacpifebbaa
