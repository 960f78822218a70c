/- Contract of the document's one: a number divided by one limb. -/
import Derived.Test.YtjoppmkknbpjbaaDoorLDiv
import Derived.Test.YtjoppmkknbpjbaaDoorRefShift
import Derived.Deep.LoopGhost
namespace Go.Proofs.YtjoppmkknbpjbaaDoor
open Go.RowKit
set_option linter.unusedVariables false

/-- Above limb k: the quotient's limbs, and what is left. -/
def OneAt (A : List Int) (d : Int) (lk : List Int) (k : Nat) (r : Int) : Prop := (0 ≤ r ∧ r < d) ∧ lk.length = A.length ∧ Limbs lk ∧ lseg lk k (A.length - k) * d + r = lseg A k (A.length - k)
theorem OneAt.step {A : List Int} {d : Int} {lk : List Int} {j : Nat} {r : Int} (h : OneAt A d lk (j + 1) r) (hj : j < A.length) (hA : Limbs A) (hd : Limb d) :
    OneAt A d (lk.set j ((r * 4294967296 + A.getD j 0) / d)) j ((r * 4294967296 + A.getD j 0) % d) ∧ Limb ((r * 4294967296 + A.getD j 0) / d) := by
  obtain ⟨⟨r0, r1⟩, hl, hw, hv⟩ := h
  have hx := hA.getD j
  unfold Limb at hd hx
  have e1 := Int.mul_ediv_add_emod (r * 4294967296 + A.getD j 0) d
  have e2 := Int.emod_nonneg (r * 4294967296 + A.getD j 0) (show d ≠ 0 by omega)
  have e3 := Int.emod_lt_of_pos (r * 4294967296 + A.getD j 0) (show 0 < d by omega)
  have e4 : 0 ≤ (r * 4294967296 + A.getD j 0) / d := Int.ediv_nonneg (by omega) (by omega)
  have e5 : (r * 4294967296 + A.getD j 0) / d < 4294967296 := (Int.ediv_lt_iff_lt_mul (by omega)).2 (by omega)
  refine ⟨⟨⟨e2, e3⟩, by simp [hl], hw.set _ ⟨e4, e5⟩, ?_⟩, e4, e5⟩
  have hk : A.length - j = (A.length - (j + 1)) + 1 := by omega
  rw [hk, lseg_cons (l := A) (by omega), lseg_cons (l := lk.set j _) (by simp; omega), getD_set _ _ _ _ (by omega), if_pos rfl,
    lseg_congr (l := lk.set j _) (l' := lk) (by simp; omega) (by omega) (fun i h1 h2 => by rw [getD_set _ _ _ _ (by omega), if_neg (by omega)]), ← hv]
  rw [Int.add_mul, Int.mul_assoc 4294967296, Int.mul_comm _ d]
  omega
theorem OneAt.done {A : List Int} {d : Int} {lk : List Int} {r : Int} (h : OneAt A d lk 0 r) (hd : 0 < d) : lval lk = lval A / d ∧ r = lval A % d := by
  obtain ⟨⟨r0, r1⟩, hl, hw, hv⟩ := h
  rw [Nat.sub_zero, lseg_all, lseg_all, List.take_of_length_le (by omega), List.take_of_length_le (by omega)] at hv
  have := half_div (U := lval A) (Y := d) (q := lval lk) (by omega) (by omega)
  exact ⟨this.1.symm, by omega⟩
theorem or_high {r x : Int} (h0 : 0 ≤ r) (h1 : r < 4294967296) (hx : Limb x) : bits .or .u64 (r * 4294967296) x = r * 4294967296 + x := by
  have e : (2 : Int) ^ 32 = 4294967296 := by decide
  unfold Limb at hx
  have := or_shift (a := r) (c := x) (S := 32) h0 (by omega) (by rw [e]; omega) hx.1 (by rw [e]; omega)
  rw [e] at this
  exact this

/-- What one answers. -/
def RetOneLimb (n d : Int) (w : World) (e : Ending) (w' : World) : Prop := ∃ s, e = .returned (.tuple #[s, .int .u32 (n % d)]) ∧ IsNum w' s (n / d) ∧ Below w.heap.size w w'
end Go.Proofs.YtjoppmkknbpjbaaDoor
