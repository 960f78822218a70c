/- dice: New, State, Next. -/
import Derived.Test.YtikoaihbpdcofaaOctA
import Derived.Laws.IdiomStrings
namespace Go.Proofs.Ytikoaihbpdcofaa
open Go.RowKit
set_option linter.unusedVariables false

/-- A dice of state s is block b. -/
def DBox (w : World) (b : Nat) (s : Int) : Prop := w.heap[b]? = some (.cells #[.int .u64 s] 38 (0, 0))
section
variable {w w' : World} {b : Nat} {s : Int}
theorem DBox.lt (h : DBox w b s) : b < w.heap.size := (Array.getElem?_eq_some_iff.1 h).1
theorem DBox.cell (h : DBox w b s) : w.cell? ⟨b, 0, none⟩ = some (.int .u64 s) := by rw [cell_of_row w b 0 _ _ (0, 0) h]; rfl
theorem DBox.grown {row : Option Nat} (h : DBox w b s) (hg : w.grownBy w' row) (hne : row ≠ some b) : DBox w' b s := (hg.block b h.lt (fun e => hne e.symm)).trans h
theorem DBox.below {B : Nat} (h : DBox w b s) (hg : Below B w w') (hb : b < B) : DBox w' b s := (hg.block b hb).trans h
end
theorem below_grown {w w' : World} (h : Below w.heap.size w w') (row : Option Nat) : w.grownBy w' row := ⟨h.os, h.tape, h.output, h.size, fun k hk _ => h.block k hk⟩
theorem grown_set (w : World) (b : Nat) (v : Value) : w.grownBy (w.setCell ⟨b, 0, none⟩ v) (some b) :=
  ⟨rfl, rfl, rfl, by simp [World.setCell], fun k hk hne => Below.heap_setCell _ _ _ _ (fun e => hne (by rw [e]))⟩
/-- What the state grows to, and the word that is told of it. -/
def dgrow (s : Int) : Int := IntKind.u64.wrap (s + 11400714819323198485)
set_option maxRecDepth 100000 in
theorem new_dice (s : Int) (w : World) : Calls Try.prog 5 #[.int .u64 s] w fun e w' => e = .returned (.pointer (some ⟨w.heap.size, 0, none⟩)) ∧ DBox w' w.heap.size s ∧ Below w.heap.size w w' := by
  go_enter Try.func5, Try.ntmps5
  go_wp2_with fail
  go_ret
  exact ⟨rfl, heap_new _ _ _ rfl, by go_grown⟩
set_option maxRecDepth 100000 in
theorem state_dice (b : Nat) (s : Int) (w : World) (h : DBox w b s) : Calls Try.prog 10 #[.pointer (some ⟨b, 0, none⟩)] w fun e w' => e = .returned (.int .u64 s) ∧ w = w' := by
  have hc := h.cell
  go_enter Try.func10, Try.ntmps10
  go_wp2_with fail
  go_ret
  exact ⟨rfl, rfl⟩
def dmix1 (g : Int) : Int := IntKind.u64.wrap (bits .xor .u64 g (g / 1073741824) * 13787848793156543929)
def dmix2 (z : Int) : Int := IntKind.u64.wrap (bits .xor .u64 z (z / 134217728) * 10723151780598845931)
def dmix3 (z : Int) : Int := bits .xor .u64 z (z / 2147483648)
/-- The word that a state tells, grown. -/
def dtell (g : Int) : Int := dmix3 (dmix2 (dmix1 g))
set_option maxRecDepth 100000 in
theorem next_dice (b : Nat) (s : Int) (w : World) (h : DBox w b s) : Calls Try.prog 12 #[.pointer (some ⟨b, 0, none⟩)] w fun e w' => e = .returned (.int .u64 (dtell (dgrow s))) ∧ DBox w' b (dgrow s) ∧ w.grownBy w' (some b) := by
  have hc := h.cell
  have hf := frozen_of_row w b 0 _ _ h
  go_enter Try.func12, Try.ntmps12
  go_wp2_with fail
  go_ret
  exact ⟨rfl, heap_setCell_same w b 0 _ _ _ h, grown_set w b _⟩
set_option maxRecDepth 100000 in
theorem known5_true (w : World) : Calls Try.prog 6 #[] w fun e w' => e = .returned (.bool true) ∧ Below w.heap.size w w' := by
  go_enter Try.func6, Try.ntmps6
  go_wp2_with fail
  refine (new_dice 0 w).mono ?_
  rintro e w1 ⟨rfl, hd, b1⟩
  go_wp2_with fail
  refine (next_dice _ _ _ hd).mono ?_
  rintro e w2 ⟨rfl, hd2, g2⟩
  have et : dtell (dgrow 0) = 16294208416658607535 := by decide +kernel
  have eg : dgrow 0 = 11400714819323198485 := by decide +kernel
  rw [et, eg] at *
  have b2 := b1.grown g2 b1.size (fun k e => by cases e; exact Nat.le_refl _)
  go_wp2_with fail
  refine (state_dice _ _ _ hd2).mono ?_
  rintro e w3 ⟨rfl, rfl⟩
  go_wp2_with fail
  go_ret
  exact ⟨rfl, b2⟩
/-- A text's bytes. -/
def lets (t : ByteArray) : List Int := t.data.toList.map fun c => (c.toNat : Int)
theorem lets_length (t : ByteArray) : (lets t).length = t.size := by
  unfold lets
  rw [List.length_map, Array.length_toList]
  rfl
/-- A text's bytes as a slice of its own. -/
theorem bytesRow_lets (s : ByteArray) (cap : Nat) : bytesRow s cap = ((lets s ++ List.replicate (cap - s.size) 0).map (Value.int .u8)).toArray := by
  unfold bytesRow lets
  apply Array.ext'
  simp [Function.comp_def]
theorem lets_octs (s : ByteArray) : Octs (lets s) := by
  intro x hx
  unfold lets at hx
  obtain ⟨c, _, rfl⟩ := List.mem_map.1 hx
  have := c.toNat_lt
  omega
theorem bs_of_string (w : World) (s : ByteArray) (hs : s.size ≤ 9223372036854775807) : ∃ v w', (convert 9 35 (.string s)).run Try.prog w = .ok v w' ∧ Bs w' v (lets s) ∧ Below w.heap.size w w' := by
  have hl := lets_length s
  refine ⟨_, _, run_bytes_of_string w 9 35 5 s Try.underlying9 Try.underlying35 Try.underlying5, ?_, ?_⟩
  · refine ⟨_, grownCap w s.size 0 5, by rw [hl], ?_, by omega, lets_octs s, fun _ => ⟨w.heap.size, 0, rfl, fun j hj => ?_⟩⟩
    · rw [hl]; exact grownCap_ge _ _ _ _
    · have h1 := World.cell?_alloc_mark w.drew (bytesRow s (grownCap w s.size 0 5)) 5 ((bytesRow s (grownCap w s.size 0 5)).size, (bytesRow s (grownCap w s.size 0 5)).size + 1) j
      have h2 : w.drew.heap.size = w.heap.size := rfl
      rw [h2] at h1
      rw [Nat.zero_add, h1, bytesRow_lets]
      rw [hl] at hj
      simp [List.getElem?_append_left, hl, hj]
  · exact ((Below.refl _ w).drew).alloc (Nat.le_refl _) _
set_option maxRecDepth 100000 in
theorem fork_dice (b : Nat) (s : Int) (t : ByteArray) (ht : t.size ≤ 9223372036854775807) (w : World) (h : DBox w b s) : Calls Try.prog 13 #[.pointer (some ⟨b, 0, none⟩), .string t] w fun e w' => ∃ q, e = .returned (.pointer (some ⟨q, 0, none⟩)) ∧ DBox w' q (bits .xor .u64 (dtell (dgrow s)) (fnv f0 (lets t))) ∧ DBox w' b (dgrow s) ∧ w.heap.size ≤ q ∧ w.grownBy w' (some b) := by
  go_enter Try.func13, Try.ntmps13
  go_wp2_with fail
  refine (next_dice _ _ _ h).mono ?_
  rintro e w1 ⟨rfl, h1, g1⟩
  obtain ⟨v, w2, hrun, hb, b2⟩ := bs_of_string w1 t ht
  replace h1 := h1.below b2 h1.lt
  go_wp2_with fail
  refine (sum_bs _ _ _ hb).mono ?_
  rintro e w3 ⟨rfl, rfl⟩
  go_wp2_with fail
  refine (new_dice _ w2).mono ?_
  rintro e w3 ⟨rfl, h3, b3⟩
  go_wp2_with fail
  go_ret
  have hs := g1.size
  have hs2 := b2.size
  exact ⟨_, rfl, h3, h1.below b3 h1.lt, by omega, grownBy_trans (grownBy_trans g1 (below_grown b2 _)) (below_grown b3 _)⟩
end Go.Proofs.Ytikoaihbpdcofaa
