/- A slice of bytes that comes in, as Bs: opened, and shut again; a row without a card. -/
import Derived.Test.YtkggglhnhlclmaaBs
import Derived.ProofKit
import Derived.OpenShut
import Derived.LaidMore
import Derived.Lay
import Derived.SevenTiedAt
import Derived.Stop.Joined
import Derived.ShutString
import Derived.ChangeOld
import Derived.Below
import Derived.WideKeyArgs
import Derived.SizedLaws
namespace Go.Proofs.Ytkggglhnhlclmaa
open Go.ChangeShapes Go.WideShapes Go.ChangeAt Go.RowKit
set_option linter.unusedVariables false
theorem own4 : ownKnob Try.prog.godebug = none := by kernel_rfl
theorem laidOut4 : laidOutB Try.prog = true := by kernel_rfl
theorem cells8o : Try.prog.cellsOf 5 = 1 := by kernel_rfl
section
variable {H : Type} {enc : TypeId × Value → H}
set_option maxRecDepth 100000 in
theorem octs_arg {W : World} {base : Nat} {v : Value} {d : DataW H} {ps : List MemPlace} (hval : Value.okWide Try.prog W .any base 22 v) (h1 : DataW.Trod enc Try.prog W 0 (fun _ => true) true 22 v d ps) :
    (∃ l, Bs W v l) ∧ ∀ x ∈ ps, ∃ xb xo, x = .cell xb xo := by
  obtain ⟨a1, len, cap, rfl⟩ := okWide_slice Try.underlying22 hval
  obtain ⟨fuel, hf⟩ := h1
  rcases open_ints Try.underlying22 Try.underlying5 cells8o hf with ⟨hcs, hx⟩ | ⟨a, len', cap', zs, hcs, _, hl, hm, hz, hx, hcell, hwz⟩
  · simp [Value.cells] at hcs
    obtain ⟨rfl, rfl, rfl⟩ := hcs
    simp only [Prod.mk.injEq] at hx
    obtain ⟨rfl, rfl⟩ := hx
    exact ⟨⟨_, Bs.nil W⟩, fun _ h => by cases h⟩
  · simp [Value.cells] at hcs
    obtain ⟨rfl, rfl, rfl⟩ := hcs
    simp only [Prod.mk.injEq] at hx
    obtain ⟨rfl, rfl⟩ := hx
    simp only [if_true] at hz
    have hmax : cap ≤ 9223372036854775807 := by simp only [maxLen] at hm; omega
    refine ⟨?_, fun x hx => ?_⟩
    · by_cases h0 : len = 0
      · subst h0
        exact ⟨[], some a, cap, rfl, Nat.zero_le _, by simp, (fun _ h => by cases h), fun h => absurd h (Nat.lt_irrefl 0)⟩
      · obtain ⟨ab, ao, spot⟩ := a
        have hspot : spot = none := by simpa [Addr.add] using World.cell?_spot (hcell 0 (by omega))
        subst hspot
        have el : (zs.take len).length = len := by rw [List.length_take]; omega
        refine ⟨zs.take len, some ⟨ab, ao, none⟩, cap, by rw [el], by omega, by omega, ?_, fun _ => ⟨ab, ao, rfl, fun j hj => ?_⟩⟩
        · intro x hx
          obtain ⟨i, hi, rfl⟩ := List.getElem_of_mem (List.mem_of_mem_take hx)
          have := range_u8 hwz i
          rw [List.getElem?_eq_getElem hi] at this
          simp at this
          omega
        · rw [el] at hj
          have := hcell j (by omega)
          rw [Addr.add_lit] at this
          rw [this, List.getD_eq_getElem?_getD, List.getD_eq_getElem?_getD, List.getElem?_take_of_lt hj]
    · simp only [MemPlace.row, List.mem_map] at hx
      obtain ⟨i, _, rfl⟩ := hx
      exact ⟨_, _, rfl⟩
set_option maxRecDepth 100000 in
theorem octs_shut {W W' : World} {v : Value} {d : DataW H} {ps : List MemPlace} (h1 : DataW.Trod enc Try.prog W 0 (fun _ => true) true 22 v d ps) (hp : ∀ x ∈ ps, ∃ xb xo, x = .cell xb xo) (hlt : ∀ x ∈ ps, x.block < W.heap.size) (bel : Below W.heap.size W W') :
    DataW.Trod enc Try.prog W' 0 (fun x => decide (x < W.heap.size)) true 22 v d ps :=
  WideElems.Trod_stays (P := Try.prog) laidOut4 (by kernel_rfl) (of_decide_eq_true (by kernel_rfl)) h1
    (fun x hx => by
      obtain ⟨xb, xo, rfl⟩ := hp x hx
      exact bel.cell (p := ⟨xb, xo, none⟩) (hlt _ hx))
    (fun x hx => by simpa using hlt x hx)
end
end Go.Proofs.Ytkggglhnhlclmaa
