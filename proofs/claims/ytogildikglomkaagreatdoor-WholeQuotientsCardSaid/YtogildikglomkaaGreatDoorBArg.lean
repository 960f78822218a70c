/- A slice of bytes that comes in: opened, and shut again. -/
import Derived.Test.YtogildikglomkaaGreatDoorRowKit
import Derived.Test.YtogildikglomkaaGreatDoorTwoN
import Derived.WideKeyArgs
import Derived.SizedLaws
namespace Go.Proofs.YtogildikglomkaaGreatDoor
open Go.ChangeShapes Go.WideShapes Go.ChangeAt Go.RowKit
set_option linter.unusedVariables false

theorem cells8 : Tryz.prog.cellsOf 5 = 1 := by kernel_rfl
section
variable {H : Type} {enc : TypeId × Value → H}
set_option maxRecDepth 100000 in
theorem bytes_arg {W : World} {base : Nat} {v : Value} {d : DataW H} {ps : List MemPlace} (hval : Value.okWide Tryz.prog W .any base 45 v) (h1 : DataW.Trod enc Tryz.prog W 0 (fun _ => true) true 45 v d ps) :
    BArg W v ∧ ∀ x ∈ ps, ∃ xb xo, x = .cell xb xo := by
  obtain ⟨a1, len, cap, rfl⟩ := okWide_slice Tryz.underlying45 hval
  obtain ⟨fuel, hf⟩ := h1
  rcases open_ints Tryz.underlying45 Tryz.underlying5 cells8 hf with ⟨hcs, hx⟩ | ⟨a, len', cap', zs, hcs, _, hl, hm, hz, hx, hcell, hwz⟩
  · simp [Value.cells] at hcs
    obtain ⟨rfl, rfl, rfl⟩ := hcs
    simp only [Prod.mk.injEq] at hx
    obtain ⟨rfl, rfl⟩ := hx
    exact ⟨.inl rfl, fun _ h => by cases h⟩
  · simp [Value.cells] at hcs
    obtain ⟨rfl, rfl, rfl⟩ := hcs
    simp only [Prod.mk.injEq] at hx
    obtain ⟨rfl, rfl⟩ := hx
    simp only [if_true] at hz
    have hmax : cap ≤ 9223372036854775807 := by simp only [maxLen] at hm; omega
    refine ⟨?_, fun x hx => ?_⟩
    · by_cases h0 : len = 0
      · subst h0
        exact .inr (.inl ⟨a, cap, rfl, hmax⟩)
      · obtain ⟨ab, ao, spot⟩ := a
        have hspot : spot = none := by simpa [Addr.add] using World.cell?_spot (hcell 0 (by omega))
        subst hspot
        refine .inr (.inr ⟨ab, ao, len, cap, zs, rfl, by omega, hl, by omega, by omega, hmax, ?_, fun j hj => ?_⟩)
        · intro x hx
          obtain ⟨i, hi, rfl⟩ := List.getElem_of_mem hx
          have := range_u8 hwz i
          rw [List.getElem?_eq_getElem hi] at this
          simp at this
          omega
        · have := hcell j hj
          rwa [Addr.add_lit] at this
    · simp only [MemPlace.row, List.mem_map] at hx
      obtain ⟨i, _, rfl⟩ := hx
      exact ⟨_, _, rfl⟩
set_option maxRecDepth 100000 in
theorem bytes_shut {W W' : World} {v : Value} {d : DataW H} {ps : List MemPlace} (h1 : DataW.Trod enc Tryz.prog W 0 (fun _ => true) true 45 v d ps) (hp : ∀ x ∈ ps, ∃ xb xo, x = .cell xb xo) (hlt : ∀ x ∈ ps, x.block < W.heap.size) (bel : Below W.heap.size W W') :
    DataW.Trod enc Tryz.prog W' 0 (fun x => decide (x < W.heap.size)) true 45 v d ps :=
  WideElems.Trod_stays (P := Tryz.prog) laidOut (by kernel_rfl) (of_decide_eq_true (by kernel_rfl)) h1
    (fun x hx => by
      obtain ⟨xb, xo, rfl⟩ := hp x hx
      exact bel.cell (p := ⟨xb, xo, none⟩) (hlt _ hx))
    (fun x hx => by simpa using hlt x hx)
set_option maxRecDepth 100000 in
/-- A slice of bytes that came in: what its datum tells of its capacity. -/
theorem bytes_reach {W : World} {base : Nat} {v : Value} {d : DataW H} {ps : List MemPlace} (hval : Value.okWide Tryz.prog W .any base 45 v) (h1 : DataW.Trod enc Tryz.prog W 0 (fun _ => true) true 45 v d ps) :
    ∃ a len cap, v = .slice a len cap ∧ len ≤ cap ∧ (a = none → len = 0 ∧ cap = 0) ∧ (cap = 0 ∨ ∃ E S, d = .slice E S ∧ cap = E.length + S.length) := by
  obtain ⟨a1, len, cap, rfl⟩ := okWide_slice Tryz.underlying45 hval
  obtain ⟨fuel, hf⟩ := h1
  rcases open_ints Tryz.underlying45 Tryz.underlying5 cells8 hf with ⟨hcs, hx⟩ | ⟨a, len', cap', zs, hcs, _, hl, hm, hz, hx, hcell, hwz⟩
  · simp [Value.cells] at hcs
    obtain ⟨rfl, rfl, rfl⟩ := hcs
    exact ⟨_, _, _, rfl, Nat.le_refl _, fun _ => ⟨rfl, rfl⟩, .inl rfl⟩
  · simp [Value.cells] at hcs
    obtain ⟨rfl, rfl, rfl⟩ := hcs
    simp only [Prod.mk.injEq] at hx
    obtain ⟨rfl, rfl⟩ := hx
    simp only [if_true] at hz
    refine ⟨_, _, _, rfl, hl, (fun h => by cases h), .inr ⟨_, _, rfl, ?_⟩⟩
    simp only [lits, List.length_map, List.length_take, List.length_drop]
    omega
end
theorem bytes8 : Tryz.prog.bytesOf 5 = 1 := by kernel_rfl
end Go.Proofs.YtogildikglomkaaGreatDoor
