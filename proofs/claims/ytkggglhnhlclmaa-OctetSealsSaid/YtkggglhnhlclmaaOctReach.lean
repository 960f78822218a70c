/- A slice of bytes that comes in, at a row without a card: what its datum tells of its capacity. -/
import Derived.Test.YtkggglhnhlclmaaOctArg
namespace Go.Proofs.Ytkggglhnhlclmaa
open Go.ChangeShapes Go.WideShapes Go.ChangeAt Go.RowKit
set_option linter.unusedVariables false
section
variable {H : Type} {enc : TypeId × Value → H}
set_option maxRecDepth 100000 in
/-- A slice of bytes that came in: what its datum tells of its capacity. -/
theorem octs_reach {W : World} {base : Nat} {v : Value} {d : DataW H} {ps : List MemPlace} (hval : Value.okWide Try.prog W .any base 22 v) (h1 : DataW.Trod enc Try.prog W 0 (fun _ => true) true 22 v d ps) :
    ∃ a len cap, v = .slice a len cap ∧ len ≤ cap ∧ (a = none → len = 0 ∧ cap = 0) ∧ (cap = 0 ∨ ∃ E S, d = .slice E S ∧ cap = E.length + S.length) := by
  obtain ⟨a1, len, cap, rfl⟩ := okWide_slice Try.underlying22 hval
  obtain ⟨fuel, hf⟩ := h1
  rcases open_ints Try.underlying22 Try.underlying5 cells8o hf with ⟨hcs, hx⟩ | ⟨a, len', cap', zs, hcs, _, hl, hm, hz, hx, hcell, hwz⟩
  · simp [Value.cells] at hcs
    obtain ⟨rfl, rfl, rfl⟩ := hcs
    exact ⟨_, _, _, rfl, Nat.le_refl _, fun _ => ⟨rfl, rfl⟩, .inl rfl⟩
  · simp [Value.cells] at hcs
    obtain ⟨rfl, rfl, rfl⟩ := hcs
    simp only [Prod.mk.injEq] at hx
    obtain ⟨rfl, rfl⟩ := hx
    simp only [if_true] at hz
    refine ⟨_, _, _, rfl, hl, (fun h => by cases h), .inr ⟨_, _, rfl, ?_⟩⟩
    simp only [lits, List.length_map, List.length_take, List.length_drop]
    omega
end
theorem bytes8o : Try.prog.bytesOf 5 = 1 := by kernel_rfl
end Go.Proofs.Ytkggglhnhlclmaa
