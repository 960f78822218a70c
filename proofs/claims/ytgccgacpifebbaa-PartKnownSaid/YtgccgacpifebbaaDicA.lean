/- dice: New, State, Next. -/
import Derived.Test.YtgccgacpifebbaaOctA
import Derived.Laws.IdiomStrings
namespace Go.Proofs.Ytgccgacpifebbaa
open Go.RowKit
set_option linter.unusedVariables false

/-- A dice of state s is block b. -/
def DBox (w : World) (b : Nat) (s : Int) : Prop := w.heap[b]? = some (.cells #[.int .u64 s] 55 (0, 0))
section
variable {w w' : World} {b : Nat} {s : Int}
theorem DBox.lt (h : DBox w b s) : b < w.heap.size := (Array.getElem?_eq_some_iff.1 h).1
theorem DBox.cell (h : DBox w b s) : w.cell? ⟨b, 0, none⟩ = some (.int .u64 s) := by rw [cell_of_row w b 0 _ _ (0, 0) h]; rfl
theorem DBox.grown {row : Option Nat} (h : DBox w b s) (hg : w.grownBy w' row) (hne : row ≠ some b) : DBox w' b s := (hg.block b h.lt (fun e => hne e.symm)).trans h
theorem DBox.below {B : Nat} (h : DBox w b s) (hg : Below B w w') (hb : b < B) : DBox w' b s := (hg.block b hb).trans h
end
theorem below_grown {w w' : World} (h : Below w.heap.size w w') (row : Option Nat) : w.grownBy w' row := ⟨h.os, h.tape, h.output, h.size, fun k hk _ => h.block k hk⟩
theorem grown_set (w : World) (b : Nat) (v : Value) : w.grownBy (w.setCell ⟨b, 0, none⟩ v) (some b) :=
  ⟨rfl, rfl, rfl, by simp [World.setCell], fun k hk hne => Below.heap_setCell _ _ _ _ (fun e => hne (by rw [e]))⟩
/-- What the state grows to, and the word that is told of it. -/
def dgrow (s : Int) : Int := IntKind.u64.wrap (s + 11400714819323198485)
set_option maxRecDepth 100000 in
theorem new_dice (s : Int) (w : World) : Calls Try.prog 7 #[.int .u64 s] w fun e w' => e = .returned (.pointer (some ⟨w.heap.size, 0, none⟩)) ∧ DBox w' w.heap.size s ∧ Below w.heap.size w w' := by
  go_enter Try.func7, Try.ntmps7
  go_wp2_with fail
  go_ret
  exact ⟨rfl, heap_new _ _ _ rfl, by go_grown⟩
set_option maxRecDepth 100000 in
theorem state_dice (b : Nat) (s : Int) (w : World) (h : DBox w b s) : Calls Try.prog 9 #[.pointer (some ⟨b, 0, none⟩)] w fun e w' => e = .returned (.int .u64 s) ∧ w = w' := by
  have hc := h.cell
  go_enter Try.func9, Try.ntmps9
  go_wp2_with fail
  go_ret
  exact ⟨rfl, rfl⟩
def dmix1 (g : Int) : Int := IntKind.u64.wrap (bits .xor .u64 g (g / 1073741824) * 13787848793156543929)
def dmix2 (z : Int) : Int := IntKind.u64.wrap (bits .xor .u64 z (z / 134217728) * 10723151780598845931)
def dmix3 (z : Int) : Int := bits .xor .u64 z (z / 2147483648)
/-- The word that a state tells, grown. -/
def dtell (g : Int) : Int := dmix3 (dmix2 (dmix1 g))
set_option maxRecDepth 100000 in
theorem next_dice (b : Nat) (s : Int) (w : World) (h : DBox w b s) : Calls Try.prog 48 #[.pointer (some ⟨b, 0, none⟩)] w fun e w' => e = .returned (.int .u64 (dtell (dgrow s))) ∧ DBox w' b (dgrow s) ∧ w.grownBy w' (some b) := by
  have hc := h.cell
  have hf := frozen_of_row w b 0 _ _ h
  go_enter Try.func48, Try.ntmps48
  go_wp2_with fail
  go_ret
  exact ⟨rfl, heap_setCell_same w b 0 _ _ _ h, grown_set w b _⟩
/-- A text's bytes. -/
def lets (t : ByteArray) : List Int := t.data.toList.map fun c => (c.toNat : Int)
theorem lets_length (t : ByteArray) : (lets t).length = t.size := by
  unfold lets
  rw [List.length_map, Array.length_toList]
  rfl
/-- A text's bytes as a slice of its own. -/
theorem bytesRow_lets (s : ByteArray) (cap : Nat) : bytesRow s cap = ((lets s ++ List.replicate (cap - s.size) 0).map (Value.int .u8)).toArray := by
  unfold bytesRow lets
  apply Array.ext'
  simp [Function.comp_def]
theorem lets_octs (s : ByteArray) : Octs (lets s) := by
  intro x hx
  unfold lets at hx
  obtain ⟨c, _, rfl⟩ := List.mem_map.1 hx
  have := c.toNat_lt
  omega
end Go.Proofs.Ytgccgacpifebbaa
