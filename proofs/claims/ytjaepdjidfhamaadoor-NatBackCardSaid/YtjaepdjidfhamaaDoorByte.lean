/- Plain arithmetic: bits, bytes and limbs of a number. -/
import Derived.Test.YtjaepdjidfhamaaDoorArr
import Derived.Lib.ItoaNum
import Derived.Lib.BitFns
namespace Go.Proofs.YtjaepdjidfhamaaDoor
open Go.RowKit
set_option linter.unusedVariables false

/-- k is how many bits n has. -/
def IsBits (n : Int) (k : Nat) : Prop := n < 2 ^ k ∧ (k ≠ 0 → 2 ^ (k - 1) ≤ n)
theorem two_pow_mono {a b : Nat} (h : a ≤ b) : (2 : Int) ^ a ≤ 2 ^ b := by
  have := Nat.pow_le_pow_right (n := 2) (by decide) h
  have e : ∀ k : Nat, (2 : Int) ^ k = ((2 ^ k : Nat) : Int) := fun k => by simp
  rw [e, e]; omega
theorem IsBits.unique {n : Int} {k m : Nat} (h : IsBits n k) (g : IsBits n m) : k = m := by
  rcases Nat.lt_trichotomy k m with hlt | he | hlt
  · have := two_pow_mono (a := k) (b := m - 1) (by omega)
    have := g.2 (by omega)
    have := h.1
    omega
  · exact he
  · have := two_pow_mono (a := m) (b := k - 1) (by omega)
    have := h.2 (by omega)
    have := g.1
    omega
theorem isBits_zero : IsBits 0 0 := ⟨by decide, fun h => absurd rfl h⟩
theorem isBits_word {x : Int} (h : Word x) : IsBits x (Lib.bitLen x.toNat) := by
  obtain ⟨h0, h1⟩ := h
  obtain ⟨X, rfl⟩ := Int.eq_ofNat_of_zero_le h0
  rw [Int.toNat_natCast]
  have e : ∀ k : Nat, (2 : Int) ^ k = ((2 ^ k : Nat) : Int) := fun k => by simp
  by_cases hX : X = 0
  · subst hX
    have : Lib.bitLen 0 = 0 := Lib.bitLenAux_zero 64
    simp only [Int.ofNat_zero, this]
    exact isBits_zero
  · have hb := Lib.bitLenAux_bounds 64 X (by omega) hX
    unfold IsBits Lib.bitLen
    rw [e, e]
    generalize Lib.bitLenAux 64 X = k at hb
    obtain ⟨b1, b2, b3⟩ := hb
    exact ⟨by omega, fun _ => by omega⟩
/-- A number of a lower part and a highest digit. -/
theorem isBits_top {lo x P : Int} {s k : Nat} (hP : P = 2 ^ s) (h0 : 0 ≤ lo) (hlo : lo < P) (hx : x ≠ 0) (h : IsBits x k) (hx0 : 0 ≤ x) : IsBits (lo + P * x) (s + k) := by
  have hPpos : 0 < P := by omega
  have hk : k ≠ 0 := by
    rintro rfl
    have := h.1
    simp at this
    omega
  obtain ⟨j, rfl⟩ : ∃ j, k = j + 1 := ⟨k - 1, by omega⟩
  have h1 := h.1
  have h2 := h.2 hk
  rw [Nat.add_sub_cancel] at h2
  subst hP
  constructor
  · have : (2 : Int) ^ s * (x + 1) ≤ 2 ^ s * 2 ^ (j + 1) := Int.mul_le_mul_of_nonneg_left (by omega) (by omega)
    rw [Int.pow_add, ]
    rw [Int.mul_add, Int.mul_one] at this
    omega
  · intro _
    have : (2 : Int) ^ s * 2 ^ j ≤ 2 ^ s * x := Int.mul_le_mul_of_nonneg_left h2 (by omega)
    have e : s + (j + 1) - 1 = s + j := by omega
    rw [e, Int.pow_add]
    omega
theorem pw_two (n : Nat) : pw n = 2 ^ (64 * n) := by
  induction n with
  | zero => rfl
  | succ n ih => simp only [pw, ih]; rw [Nat.mul_succ, Int.pow_add, Int.mul_comm]; rfl

/-- The i-th byte of n, the lowest first. -/
def byteAt (n : Int) (i : Nat) : Int := n / 256 ^ i % 256
/-- The bytes of n, the highest first. -/
def be (n : Int) (m : Nat) : List Int := (List.range m).map fun i => byteAt n (m - 1 - i)
theorem be_length (n : Int) (m : Nat) : (be n m).length = m := by simp [be]
theorem be_getD (n : Int) (m j : Nat) (h : j < m) : (be n m).getD j 0 = byteAt n (m - 1 - j) := by
  simp [be, List.getD_eq_getElem?_getD, h]
theorem eq_be {l : List Int} {n : Int} {m : Nat} (hl : l.length = m) (h : ∀ j, j < m → l.getD j 0 = byteAt n (m - 1 - j)) : l = be n m := by
  apply List.ext_getElem
  · rw [be_length, hl]
  · intro i h1 h2
    have := h i (by omega)
    rw [← be_getD n m i (by omega)] at this
    simpa [List.getD_eq_getElem?_getD, h1, h2] using this
theorem byteAt_bd (n : Int) (i : Nat) : 0 ≤ byteAt n i ∧ byteAt n i < 256 := by unfold byteAt; omega

theorem ediv_low {lo P y : Int} (hP : 0 < P) (h0 : 0 ≤ lo) (h : lo < P) : (lo + P * y) / P = y := by
  rw [Int.add_mul_ediv_left _ _ (by omega), Int.ediv_eq_zero_of_lt h0 h, Int.zero_add]
theorem byte_word {x r : Int} {k : Nat} (hk : k < 8) : (x + 18446744073709551616 * r) / 256 ^ k % 256 = x / 256 ^ k % 256 := by
  match k, hk with
  | 0, _ => simp only [Int.pow_zero]; omega
  | 1, _ => simp only [Int.pow_succ, Int.pow_zero]; omega
  | 2, _ => simp only [Int.pow_succ, Int.pow_zero]; omega
  | 3, _ => simp only [Int.pow_succ, Int.pow_zero]; omega
  | 4, _ => simp only [Int.pow_succ, Int.pow_zero]; omega
  | 5, _ => simp only [Int.pow_succ, Int.pow_zero]; omega
  | 6, _ => simp only [Int.pow_succ, Int.pow_zero]; omega
  | 7, _ => simp only [Int.pow_succ, Int.pow_zero]; omega
theorem pw_256 (n : Nat) : pw n = 256 ^ (8 * n) := by
  induction n with
  | zero => rfl
  | succ n ih => simp only [pw, ih]; rw [Nat.mul_succ, Int.pow_add, Int.mul_comm]; rfl
/-- A byte of a number is one of its word. -/
theorem byteAt_val {l : List Int} (hw : Words l) {len i : Nat} (hl : len ≤ l.length) (hi : i / 8 < len) : byteAt (val (l.take len)) i = l.getD (i / 8) 0 / 256 ^ (i % 8) % 256 := by
  obtain ⟨m, rfl⟩ : ∃ m, len = i / 8 + 1 + m := ⟨len - (i / 8 + 1), by omega⟩
  have b := seg_bd hw 0 (i / 8) (by omega)
  have hp := pw_pos (i / 8)
  rw [← seg_all, seg_add (l := l) (o := 0) (k := i / 8 + 1) (m := m) (by omega), seg_succ (by omega), Nat.zero_add]
  generalize seg l 0 (i / 8) = lo at *
  generalize seg l (0 + (i / 8 + 1)) m = r at *
  generalize l.getD (i / 8) 0 = x at *
  have e : lo + pw (i / 8) * x + pw (i / 8 + 1) * r = lo + pw (i / 8) * (x + 18446744073709551616 * r) := by
    simp only [pw, Int.mul_add]
    rw [Int.mul_left_comm, Int.mul_assoc]
    omega
  have e2 : (256 : Int) ^ i = pw (i / 8) * 256 ^ (i % 8) := by rw [pw_256, ← Int.pow_add]; congr 1; omega
  unfold byteAt
  rw [e, e2, ← Int.ediv_ediv_of_nonneg (by omega), ediv_low hp b.1 b.2]
  exact byte_word (by omega)
end Go.Proofs.YtjaepdjidfhamaaDoor
