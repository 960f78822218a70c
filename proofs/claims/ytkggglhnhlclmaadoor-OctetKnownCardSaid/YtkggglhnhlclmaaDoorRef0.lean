/- Contracts of the document's numbers: trim, NatOf, NatBits, NatBytes. -/
import Derived.Test.YtkggglhnhlclmaaDoorLimb
import Derived.Test.YtkggglhnhlclmaaDoorKnown
namespace Go.Proofs.YtkggglhnhlclmaaDoor
open Go.RowKit
set_option linter.unusedVariables false

/-- The bytes of n are answered, in new memory. -/
def RetBytes (n : Int) (w : World) (e : Ending) (w' : World) : Prop := ∃ (b : Nat) (k m : Nat), e = .returned (.slice (some ⟨b, 0, none⟩) m m) ∧ IsBits n k ∧ m = (k + 7) / 8 ∧ Arr w' b 5 .u8 (be n m) ∧ w.heap.size ≤ b ∧ Below w.heap.size w w'

theorem info8 : (Tryd.prog.info? 5).map (fun i => (i.zero, i.size, i.bytes)) = some (some (.int .u8 0), 1, 1) := by kernel_rfl
theorem make8 (n : Nat) (i : Int) (hi : i = n) (hn : n ≤ 281474976710656) (w : World) :
    (Instr.makeSlice 22 (.int .i64 i) (.int .i64 i)).run Tryd.prog w = .ok (.slice (some ⟨w.heap.size, 0, none⟩) n n) (w.alloc (.cells (zeros .u8 n) 5)) := by
  subst hi
  obtain ⟨i0, hi, hz0, hz1, hz2⟩ := info_parts info8
  have hr := run_make (P := Tryd.prog) w 22 5 i0 _ Tryd.underlying22 hi hz0 .i64 .i64 n n (by omega) (Int.le_refl _) (by rw [hz2]; omega) (by omega)
  rw [hr, Int.toNat_natCast, hz1, Nat.mul_one]
  show Result.ok _ (w.alloc (.cells (madeCells #[.int .u8 0] n) 5)) = _
  rw [madeCells_zeros]

/-- What lies in the row behind k rounds: the lowest k bytes, at its end. -/
def BytesAt (n : Int) (m k : Nat) (lk : List Int) : Prop := lk.length = m ∧ ∀ j, j < m → m - k ≤ j → lk.getD j 0 = byteAt n (m - 1 - j)
theorem BytesAt.step {n : Int} {m k : Nat} {lk : List Int} (h : BytesAt n m k lk) (hk : k < m) {x : Int} (hx : x = byteAt n k) : BytesAt n m (k + 1) (lk.set (m - 1 - k) x) := by
  refine ⟨by rw [List.length_set]; exact h.1, fun j hj hj2 => ?_⟩
  rw [getD_set _ _ _ _ (by rw [h.1]; omega)]
  by_cases e : j = m - 1 - k
  · rw [if_pos e, hx]; congr 1; omega
  · rw [if_neg e]; exact h.2 j hj (by omega)

theorem two_256 (k : Nat) : (2 : Int) ^ (8 * k) = 256 ^ k := by rw [Int.pow_mul]; rfl

end Go.Proofs.YtkggglhnhlclmaaDoor
