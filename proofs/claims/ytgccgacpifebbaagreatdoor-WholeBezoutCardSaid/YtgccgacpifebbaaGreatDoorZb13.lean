/- Half -/
import Derived.Test.YtgccgacpifebbaaGreatDoorZb12
import Derived.Test.YtgccgacpifebbaaGreatDoorZb01
namespace Go.Proofs.YtgccgacpifebbaaGreatDoor
open Go.RowKit
set_option linter.unusedVariables false
/-- The guess q,and what is left of the upper ones,r. -/
def HalfAt (A E1 Y1 Y0 q r : Int) : Prop := 0 ≤ q ∧ q ≤ 4294967297 ∧ 0 ≤ r ∧ A = q * Y1 + r ∧ A * 4294967296 + E1 < q * Y1 * 4294967296 + Y1 * 4294967296 + q * Y0 + Y0
theorem half_start {A E1 Y1 Y0 : Int} (hA : 0 ≤ A) (hE : 0 ≤ E1 ∧ E1 < 4294967296) (h1 : 2147483648 ≤ Y1 ∧ Y1 < 4294967296) (h0 : 0 ≤ Y0 ∧ Y0 < 4294967296) (hlt : A < Y1 * 4294967296 + Y0) :
    HalfAt A E1 Y1 Y0 (A / Y1) (A % Y1) ∧ A % Y1 < 4294967296 := by
  have e1 := Int.mul_ediv_add_emod A Y1
  have e2 := Int.emod_nonneg A (show Y1 ≠ 0 by omega)
  have e3 := Int.emod_lt_of_pos A (show 0 < Y1 by omega)
  have e4 : 0 ≤ A / Y1 := Int.ediv_nonneg hA (by omega)
  rw [Int.mul_comm] at e1
  generalize A / Y1 = q at *
  generalize A % Y1 = r at *
  have h5 : 0 ≤ q * Y0 := Int.mul_nonneg e4 h0.1
  have h6 : q ≤ 4294967297 := by
    by_cases h : q ≤ 4294967297
    · exact h
    · have : 4294967298 * Y1 ≤ q * Y1 := Int.mul_le_mul_of_nonneg_right (by omega) (by omega)
      omega
  exact ⟨⟨e4,h6,e2,e1.symm,by omega⟩,by omega⟩
theorem HalfAt.step {A E1 Y1 Y0 q r : Int} (h : HalfAt A E1 Y1 Y0 q r) (hE : 0 ≤ E1 ∧ E1 < 4294967296) (h1 : 0 ≤ Y1) (h0 : 0 ≤ Y0) (hr : r < 4294967296) (hlt : A < Y1 * 4294967296 + Y0) (hc : 4294967296 ≤ q ∨ 4294967296 * r + E1 < q * Y0) :
    HalfAt A E1 Y1 Y0 (q - 1) (r + Y1) ∧ 1 ≤ q := by
  obtain ⟨q0,q1,r0,hA,hU⟩ := h
  have hq : 1 ≤ q := by
    by_cases h : 1 ≤ q
    · exact h
    · obtain rfl : q = 0 := by omega
      rw [Int.zero_mul] at hc
      omega
  have e1 : (q - 1) * Y1 = q * Y1 - Y1 := by rw [Int.sub_mul,Int.one_mul]
  have e0 : (q - 1) * Y0 = q * Y0 - Y0 := by rw [Int.sub_mul,Int.one_mul]
  refine ⟨⟨by omega,by omega,by omega,by omega,?_⟩,hq⟩
  rw [e1,e0]
  rcases hc with hc | hc
  · have k1 : 4294967296 * Y1 ≤ q * Y1 := Int.mul_le_mul_of_nonneg_right hc h1
    have k0 : 4294967296 * Y0 ≤ q * Y0 := Int.mul_le_mul_of_nonneg_right hc h0
    omega
  · omega
theorem HalfAt.done {A E1 Y1 Y0 q r : Int} (h : HalfAt A E1 Y1 Y0 q r) (hE : 0 ≤ E1 ∧ E1 < 4294967296) (h1 : 0 ≤ Y1) (h0 : 0 ≤ Y0 ∧ Y0 < 4294967296) (hlt : A < Y1 * 4294967296 + Y0)
    (hc : (q < 4294967296 ∧ q * Y0 ≤ 4294967296 * r + E1) ∨ (q ≤ 4294967296 ∧ 4294967296 ≤ r)) : q < 4294967296 ∧ q * (Y1 * 4294967296 + Y0) ≤ A * 4294967296 + E1 ∧ A * 4294967296 + E1 < q * (Y1 * 4294967296 + Y0) + (Y1 * 4294967296 + Y0) := by
  obtain ⟨q0,q1,r0,hA,hU⟩ := h
  have e : q * (Y1 * 4294967296 + Y0) = q * Y1 * 4294967296 + q * Y0 := by rw [Int.mul_add,Int.mul_assoc]
  have hle : q * Y0 ≤ 4294967296 * r + E1 := by
    rcases hc with hc | hc
    · exact hc.2
    · have : q * Y0 ≤ 4294967296 * Y0 := Int.mul_le_mul_of_nonneg_right hc.1 h0.1
      omega
  rw [e]
  refine ⟨?_,by omega,by omega⟩
  by_cases h : q < 4294967296
  · exact h
  · have k1 : 4294967296 * Y1 ≤ q * Y1 := Int.mul_le_mul_of_nonneg_right (by omega) h1
    have k0 : 4294967296 * Y0 ≤ q * Y0 := Int.mul_le_mul_of_nonneg_right (by omega) h0.1
    omega
theorem half_div {U Y q : Int} (h1 : q * Y ≤ U) (h2 : U < q * Y + Y) : U / Y = q ∧ U % Y = U - q * Y := by
  have hY : 0 < Y := by omega
  have e : U / Y = q := by
    have k1 : q ≤ U / Y := (Int.le_ediv_iff_mul_le hY).2 h1
    have k2 : U / Y < q + 1 := (Int.ediv_lt_iff_lt_mul hY).2 (by rw [Int.add_mul,Int.one_mul]; omega)
    omega
  refine ⟨e,?_⟩
  have := Int.mul_ediv_add_emod U Y
  rw [e,Int.mul_comm] at this
  omega
/-- What the shifted words are: the number times 2^S. -/
theorem shift_parts {n : Int} {S : Nat} (h : Word n) (hS : S ≤ 63) :
    n * 2 ^ S = n / 2 ^ (64 - S) * 18446744073709551616 + IntKind.u64.wrap (n * 2 ^ S) ∧ 0 ≤ n / 2 ^ (64 - S) ∧ n / 2 ^ (64 - S) < 2 ^ S := by
  have e : (2 : Int) ^ (64 - S) * 2 ^ S = 18446744073709551616 := by
    rw [← Int.pow_add,Nat.sub_add_cancel (by omega)]; decide
  have p1 : (0 : Int) < 2 ^ (64 - S) := Int.pow_pos (by decide)
  have p2 : (0 : Int) < 2 ^ S := Int.pow_pos (by decide)
  have d1 := Int.mul_ediv_add_emod n (2 ^ (64 - S))
  have d2 := Int.emod_nonneg n (show (2 : Int) ^ (64 - S) ≠ 0 by omega)
  have d3 := Int.emod_lt_of_pos n p1
  have hq : n / 2 ^ (64 - S) < 2 ^ S := by
    rw [Int.ediv_lt_iff_lt_mul p1,Int.mul_comm,e]
    exact h.2
  refine ⟨?_,Int.ediv_nonneg h.1 (by omega),hq⟩
  generalize n / 2 ^ (64 - S) = q at *
  generalize n % 2 ^ (64 - S) = r at *
  have k1 : n * 2 ^ S = q * 18446744073709551616 + r * 2 ^ S := by
    rw [← d1,Int.add_mul,Int.mul_comm _ q,Int.mul_assoc,e]
  have k2 : 0 ≤ r * 2 ^ S := Int.mul_nonneg d2 (by omega)
  have k3 : r * 2 ^ S < 18446744073709551616 := by
    rw [← e]; exact Int.mul_lt_mul_of_pos_right d3 p2
  rw [IntKind.wrap_u64,k1]
  omega
/-- A word shifted up,and what comes in below. -/
theorem or_shift {a c : Int} {S : Nat} (ha : 0 ≤ a) (hS : S ≤ 64) (h1 : a * 2 ^ S < 18446744073709551616) (h0 : 0 ≤ c) (hc : c < 2 ^ S) : bits .or .u64 (a * 2 ^ S) c = a * 2 ^ S + c := by
  obtain ⟨X,rfl⟩ := Int.eq_ofNat_of_zero_le ha
  obtain ⟨C,rfl⟩ := Int.eq_ofNat_of_zero_le h0
  have e2 : (X : Int) * 2 ^ S = ((X * 2 ^ S : Nat) : Int) := by rw [Int.natCast_mul,Int.natCast_pow]; rfl
  have e3 : (2 : Int) ^ S = ((2 ^ S : Nat) : Int) := by rw [Int.natCast_pow]; rfl
  rw [e2] at h1 ⊢
  rw [e3] at hc
  have hC : C < 2 ^ S := by omega
  have hC2 : C < 18446744073709551616 := Nat.lt_of_lt_of_le hC (Nat.le_trans (Nat.pow_le_pow_right (by decide) hS) (by decide))
  have hor : X * 2 ^ S ||| C = X * 2 ^ S + C := by
    rw [Nat.mul_comm]
    exact (Nat.two_pow_add_eq_or_of_lt hC X).symm
  rw [u64_or_nat (X * 2 ^ S) C (by omega) hC2,hor,Int.natCast_add]
theorem and_low {n : Int} (h : Word n) : bits .and .u64 n 4294967295 = n % 4294967296 := by
  obtain ⟨X,rfl⟩ := Int.eq_ofNat_of_zero_le h.1
  have hx := h.2
  have e : (4294967295 : Int) = ((4294967295 : Nat) : Int) := rfl
  rw [e,u64_and_nat X 4294967295 (by omega) (by decide)]
  have : X &&& 4294967295 = X % 4294967296 := Nat.and_two_pow_sub_one_eq_mod X 32
  rw [this]
  omega
theorem half_bd {q y : Int} (h0 : 0 ≤ q) (h1 : q < 4294967296) (y0 : 0 ≤ y) (y1 : y < 4294967296) : 0 ≤ q * y ∧ q * y < 18446744073709551616 := by
  refine ⟨Int.mul_nonneg h0 y0,?_⟩
  have : q * y ≤ 4294967295 * y := Int.mul_le_mul_of_nonneg_right (by omega) y0
  omega
theorem half_next {A E1 Y G : Int} (h : G * Y ≤ A * 4294967296 + E1 ∧ A * 4294967296 + E1 < G * Y + Y) (hY : Y < 18446744073709551616) :
    IntKind.u64.wrap (IntKind.u64.wrap (IntKind.u64.wrap (A * 4294967296) + E1) - IntKind.u64.wrap (G * Y)) = A * 4294967296 + E1 - G * Y := by
  simp only [IntKind.wrap_u64]
  generalize G * Y = P at *
  omega
theorem half_rest {A E1 Y1 Y0 Q R : Int} (h : HalfAt A E1 Y1 Y0 Q R ∧ R < 4294967296) (hA : A < 18446744073709551616) : IntKind.u64.wrap Q = Q ∧ IntKind.u64.wrap (A - IntKind.u64.wrap (Q * Y1)) = R := by
  obtain ⟨⟨k1,k2,k3,k4,_⟩,k5⟩ := h
  simp only [IntKind.wrap_u64]
  generalize Q * Y1 = P at *
  omega
theorem half_final {N S2 A E E1 E0 y Y G G2 B2 R3 : Int} (hS : 0 < S2) (hU : N * S2 = A * 18446744073709551616 + E) (hY : y * S2 = Y) (hE : E = E1 * 4294967296 + E0) (hB : A * 4294967296 + E1 - G * Y = B2) (hR : B2 * 4294967296 + E0 - G2 * Y = R3) (h0 : 0 ≤ R3) (h1 : R3 < Y) :
    N / y = G * 4294967296 + G2 ∧ R3 / S2 = N % y := by
  have e1 : (N - (G * 4294967296 + G2) * y) * S2 = R3 := by
    rw [Int.sub_mul,Int.mul_assoc,hY,hU,hE,← hR,← hB,Int.add_mul,Int.mul_right_comm]
    omega
  obtain ⟨r,hr⟩ : ∃ r,N - (G * 4294967296 + G2) * y = r := ⟨_,rfl⟩
  rw [hr] at e1
  have r0 : 0 ≤ r := by
    by_cases h : 0 ≤ r
    · exact h
    · have : r * S2 ≤ (-1) * S2 := Int.mul_le_mul_of_nonneg_right (by omega) (by omega)
      omega
  have r1 : r < y := by
    by_cases h : r < y
    · exact h
    · have : y * S2 ≤ r * S2 := Int.mul_le_mul_of_nonneg_right (by omega) (by omega)
      omega
  have hd := half_div (U := N) (Y := y) (q := G * 4294967296 + G2) (by omega) (by omega)
  refine ⟨hd.1,?_⟩
  rw [← e1,Int.mul_ediv_cancel _ (by omega),hd.2,hr]
end Go.Proofs.YtgccgacpifebbaaGreatDoor
