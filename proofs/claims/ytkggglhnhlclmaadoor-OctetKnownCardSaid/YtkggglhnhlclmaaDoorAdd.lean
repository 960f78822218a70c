/- Contract of (Nat).Add. -/
import Derived.Test.YtkggglhnhlclmaaDoorAddTo
import Derived.Test.YtkggglhnhlclmaaDoorNat0
namespace Go.Proofs.YtkggglhnhlclmaaDoor
open Go.RowKit
set_option linter.unusedVariables false

theorem gcell {W w1 : World} {r : Nat} (hg : W.grownBy w1 (some r)) : (∀ b o, b < W.heap.size → b ≠ r → w1.cell? ⟨b, o, none⟩ = W.cell? ⟨b, o, none⟩) ∧ (∀ b o, b < W.heap.size → b ≠ r → w1.frozen? ⟨b, o, none⟩ = W.frozen? ⟨b, o, none⟩) :=
  ⟨fun b o h hr => World.cell?_of_block (hg.block b h (by simpa using hr)), fun b o h hr => World.frozen?_of_block (hg.block b h (by simpa using hr))⟩

theorem splice_zero (l : List Int) (n : Nat) (h : n ≤ l.length) : splice (List.replicate (n + 1) (0 : Int)) 0 ((l.drop 0).take n) = l.take n ++ [0] := by
  have hl : (l.take n).length = n := by simp; omega
  unfold splice
  rw [List.take_zero, List.nil_append, List.drop_zero, hl, Nat.zero_add, List.replicate_succ', List.drop_append_of_le_length (by simp)]
  simp
theorem seg_top (l : List Int) (n : Nat) (h : n ≤ l.length) : seg (l.take n ++ [0]) 0 (n + 1) = val (l.take n) := by
  have hl : (l.take n).length = n := by simp; omega
  rw [seg_all, List.take_of_length_le (by simp; omega), val_append]
  simp [val]
/-- No carry is left where there is a word more than the sum wants. -/
theorem AddAt.sum {w wr : World} {zb : Nat} {tz : TypeId} {l1 : List Int} {n1 : Nat} {X c : Int} (h : AddAt w wr zb tz (l1.take n1 ++ [0]) 0 (n1 + 1) X c) (h1 : n1 ≤ l1.length) (hw : Words l1) (hX0 : 0 ≤ X) (hX : X < pw n1) :
    ∃ lk, Arr wr zb tz .u64 lk ∧ lk.length = n1 + 1 ∧ Words lk ∧ val (lk.take (n1 + 1)) = val (l1.take n1) + X ∧ w.grownBy wr (some zb) := by
  obtain ⟨hc, lk, ha, hlen, hwk, hrest, hval, hg⟩ := h
  have hl : lk.length = n1 + 1 := by rw [hlen]; simp; omega
  refine ⟨lk, ha, hl, hwk, ?_, hg⟩
  have hb := seg_bd hwk 0 (n1 + 1) (by omega)
  have hb1 := seg_bd hw 0 n1 (by omega)
  rw [seg_top _ _ h1] at hval
  rw [seg_all] at hval hb hb1
  have hp := pw_pos n1
  rcases hc with rfl | rfl
  · omega
  · simp only [pw] at hval hb
    omega


theorem pw_big {n : Nat} (h : 2 ≤ n) : 18446744073709551616 ≤ pw n := by
  obtain ⟨k, rfl⟩ : ∃ k, n = k + 1 := ⟨n - 1, by omega⟩
  have := pw_pos k
  simp only [pw]; omega

theorem pw_mono {a b : Nat} (h : a ≤ b) : pw a ≤ pw b := by
  obtain ⟨k, rfl⟩ : ∃ k, b = a + k := ⟨b - a, by omega⟩
  rw [pw_add]
  have h1 := pw_pos a
  have h2 := pw_pos k
  have : pw a * 1 ≤ pw a * pw k := Int.mul_le_mul_of_nonneg_left (by omega) (by omega)
  omega
/-- A number of len words whose last is not 0 is not below 2^64 to the len - 1. -/
theorem val_low {l : List Int} {len : Nat} (hw : Words l) (hp : 1 ≤ len) (hl : len ≤ l.length) (h : l.getD (len - 1) 0 ≠ 0) : pw (len - 1) ≤ val (l.take len) := by
  obtain ⟨k, rfl⟩ : ∃ k, len = k + 1 := ⟨len - 1, by omega⟩
  rw [Nat.add_sub_cancel] at h ⊢
  rw [val_take_succ (by omega)]
  have h1 := (val_bd (hw.take k)).1
  have h2 := hw.getD k
  have h3 := pw_pos k
  generalize l.getD k 0 = x at h h2
  have : pw k * 1 ≤ pw k * x := Int.mul_le_mul_of_nonneg_left (by unfold Word at h2; omega) (by omega)
  omega
theorem len_le {l : List Int} {len K : Nat} (hw : Words l) (hp : 1 ≤ len) (hl : len ≤ l.length) (h : l.getD (len - 1) 0 ≠ 0) (hK : val (l.take len) < pw K) : len ≤ K := by
  have h1 := val_low hw hp hl h
  by_cases hc : len ≤ K
  · exact hc
  · have := pw_mono (a := K) (b := len - 1) (by omega)
    omega

end Go.Proofs.YtkggglhnhlclmaaDoor
