/- Contracts of the document's NatShift: a number moved by bits, limb by limb. -/
import Derived.Test.YtjoppmkknbpjbaaDoorRefNum
import Derived.Test.YtjoppmkknbpjbaaDoorApp
import Derived.Test.YtjoppmkknbpjbaaDoorHalf
import Derived.LoopTactic
namespace Go.Proofs.YtjoppmkknbpjbaaDoor
open Go.RowKit
set_option linter.unusedVariables false

theorem own_limbed {w : World} {B : Nat} {e : TypeId} {v : Value} {xs : List Int} (h : Own w B .u32 e v xs) (hw : Limbs xs) (hm : xs.length ≤ 4294967296) : Limbed w v xs := by
  rcases h with h | ⟨b, z, rfl, ha, hb⟩
  · exact .inl h
  · exact .inr ⟨b, e, xs.length, _, _, rfl, ha, by simp, hm, hw.append (Limbs.replicate z), List.take_left.symm⟩
theorem pow_add_mulL (a b : Nat) (x : Int) : x * 2 ^ (a + b) = x * 2 ^ b * 2 ^ a := by
  rw [Int.pow_add, Int.mul_comm (2 ^ a), Int.mul_assoc]
/-- What has come of a shift up behind k limbs, c goes beyond. -/
def UpL (A ys : List Int) (r k : Nat) (c : Int) : Prop := (0 ≤ c ∧ c < 2 ^ r) ∧ ys.length = k ∧ Limbs ys ∧ lval ys + c * lpw k = lval (A.take k) * 2 ^ r
theorem two32 {r : Nat} (hr : r ≤ 31) : (2 : Int) ^ r ≤ 2147483648 := by
  have := two_pow_mono hr
  have h : (2 : Int) ^ 31 = 2147483648 := by decide
  omega
theorem limb_shift {x : Int} {r : Nat} (h : Limb x) (hr : r ≤ 31) : 0 ≤ x * 2 ^ r ∧ x * 2 ^ r + 2 ^ r ≤ 4294967296 * 2 ^ r ∧ x * 2 ^ r < 9223372036854775808 ∧ IntKind.u64.wrap (x * 2 ^ r) = x * 2 ^ r := by
  have p := two32 hr
  have p0 : (0 : Int) < 2 ^ r := Int.pow_pos (by decide)
  have h1 : (x + 1) * 2 ^ r ≤ 4294967296 * 2 ^ r := Int.mul_le_mul_of_nonneg_right (by have := h.2; omega) (by omega)
  have h2 : 0 ≤ x * 2 ^ r := Int.mul_nonneg h.1 (by omega)
  rw [Int.add_mul, Int.one_mul] at h1
  exact ⟨h2, h1, by omega, by rw [IntKind.wrap_u64]; omega⟩
theorem or_comm_u64 {a b : Int} (ha : 0 ≤ a) (ha2 : a < 18446744073709551616) (hb : 0 ≤ b) (hb2 : b < 18446744073709551616) : bits .or .u64 a b = bits .or .u64 b a := by
  obtain ⟨X, rfl⟩ := Int.eq_ofNat_of_zero_le ha
  obtain ⟨Y, rfl⟩ := Int.eq_ofNat_of_zero_le hb
  rw [u64_or_nat X Y (by omega) (by omega), u64_or_nat Y X (by omega) (by omega), Nat.or_comm]
theorem limb_or {x c : Int} {r : Nat} (h : Limb x) (hr : r ≤ 31) (h0 : 0 ≤ c) (hc : c < 2 ^ r) : bits .or .u64 c (x * 2 ^ r) = x * 2 ^ r + c := by
  obtain ⟨h1, h2, h3, h4⟩ := limb_shift h hr
  have p := two32 hr
  rw [or_comm_u64 h0 (by omega) h1 (by omega), or_shift h.1 (by omega) (by omega) h0 hc]
theorem lin_upl {P B T lo hi x c s : Int} (h1 : T = lo + B * hi) (h2 : T = x + c) : s + P * lo + hi * (B * P) = s + c * P + P * x := by
  have e1 : P * T = P * lo + P * (B * hi) := by rw [h1, Int.mul_add]
  have e2 : P * T = P * x + P * c := by rw [h2, Int.mul_add]
  have e3 : hi * (B * P) = P * (B * hi) := by rw [Int.mul_left_comm, Int.mul_comm hi P, Int.mul_left_comm]
  have e4 : c * P = P * c := Int.mul_comm _ _
  omega
theorem UpL.step {A ys : List Int} {r k : Nat} {c : Int} (h : UpL A ys r k c) (hA : Limbs A) (hr : r ≤ 31) : UpL A (ys ++ [(A.getD k 0 * 2 ^ r + c) % 4294967296]) r (k + 1) ((A.getD k 0 * 2 ^ r + c) / 4294967296) := by
  obtain ⟨⟨c0, c1⟩, hl, hw, hv⟩ := h
  obtain ⟨h1, h2, h3, h4⟩ := limb_shift (hA.getD k) hr
  have p := two32 hr
  have p0 : (0 : Int) < 2 ^ r := Int.pow_pos (by decide)
  refine ⟨⟨Int.ediv_nonneg (by omega) (by decide), ?_⟩, by simp [hl], hw.append (Limbs.cons ⟨by omega, by omega⟩ Limbs.nil), ?_⟩
  · refine Int.ediv_lt_of_lt_mul (by decide) ?_
    omega
  · rw [lval_append, hl, lval_take_next A, Int.add_mul, ← hv]
    simp only [lval, Int.mul_zero, Int.add_zero, lpw]
    rw [Int.mul_assoc (lpw k)]
    exact lin_upl (T := A.getD k 0 * 2 ^ r + c) (by omega) rfl
theorem lval_pos_end {A ys : List Int} {r n : Nat} {c : Int} (h : UpL A ys r (n + 1) c) (hA : Limbs A) (hr : r ≤ 31) (hn : A.length = n) : lval ys = lval A * 2 ^ r := by
  obtain ⟨⟨c0, c1⟩, hl, hw, hv⟩ := h
  rw [List.take_of_length_le (by omega)] at hv
  have h1 := lval_bd hA
  have h2 := lval_bd hw
  have p := two32 hr
  have p0 : (0 : Int) < 2 ^ r := Int.pow_pos (by decide)
  have q := lpw_pos n
  rw [hn] at h1
  have h3 : lval A * 2 ^ r < lpw n * 2 ^ r := Int.mul_lt_mul_of_pos_right h1.2 p0
  have h4 : lpw n * 2 ^ r ≤ lpw n * 4294967296 := Int.mul_le_mul_of_nonneg_left (by omega) (by omega)
  have h5 : c = 0 := by
    apply Int.le_antisymm _ c0
    apply Int.le_of_not_gt
    intro g
    have h6 : 1 * lpw (n + 1) ≤ c * lpw (n + 1) := Int.mul_le_mul_of_nonneg_right (by omega) (Int.le_of_lt (lpw_pos _))
    simp only [lpw] at h6 hv
    omega
  subst h5
  omega

theorem or_two_limbs {x y : Int} (hx : Limb x) (hy : Limb y) : bits .or .u64 x (y * 4294967296) = x + y * 4294967296 := by
  have e : (2 : Int) ^ 32 = 4294967296 := by decide
  unfold Limb at hx hy
  have := or_shift (a := y) (c := x) (S := 32) hy.1 (by omega) (by rw [e]; omega) hx.1 (by rw [e]; omega)
  rw [e] at this
  rw [or_comm_u64 hx.1 (by omega) (by omega) (by omega), this, Int.add_comm]
/-- What has come of a shift down behind k limbs. -/
def DownL (A ys : List Int) (q r k : Nat) : Prop := ys.length = k ∧ Limbs ys ∧ lval ys * 2 ^ r + A.getD q 0 % 2 ^ r = lval ((A.drop q).take k) + A.getD (q + k) 0 % 2 ^ r * lpw k
theorem limb_down {x z : Int} {r : Nat} (hx : Limb x) (hz : Limb z) (hr : r ≤ 31) : Limb ((x + z * 4294967296) / 2 ^ r % 4294967296) ∧ (x + z * 4294967296) / 2 ^ r % 4294967296 * 2 ^ r = x - x % 2 ^ r + z % 2 ^ r * 4294967296 := by
  have p0 : (0 : Int) < 2 ^ r := Int.pow_pos (by decide)
  have q0 : (0 : Int) < 2 ^ (32 - r) := Int.pow_pos (by decide)
  have e : (2 : Int) ^ (32 - r) * 2 ^ r = 4294967296 := by rw [← Int.pow_add, Nat.sub_add_cancel (by omega)]; decide
  have h1 : (x + z * 4294967296) / 2 ^ r = x / 2 ^ r + z * 2 ^ (32 - r) := by
    rw [← e, ← Int.mul_assoc, Int.add_mul_ediv_right _ _ (by omega)]
  have h2 := Int.mul_ediv_add_emod z (2 ^ r)
  have h3 := Int.mul_ediv_add_emod x (2 ^ r)
  have h4 := Int.emod_nonneg z (show (2 : Int) ^ r ≠ 0 by omega)
  have h5 := Int.emod_lt_of_pos z p0
  have h6 := Int.emod_nonneg x (show (2 : Int) ^ r ≠ 0 by omega)
  have h7 := Int.emod_lt_of_pos x p0
  have h8 : 0 ≤ x / 2 ^ r := Int.ediv_nonneg hx.1 (by omega)
  have h9 : x / 2 ^ r < 2 ^ (32 - r) := Int.ediv_lt_of_lt_mul p0 (by rw [e]; exact hx.2)
  generalize x / 2 ^ r = xq at *
  generalize x % 2 ^ r = xr at *
  generalize z / 2 ^ r = zq at *
  generalize z % 2 ^ r = zr at *
  generalize (2 : Int) ^ (32 - r) = U at *
  generalize (2 : Int) ^ r = T at *
  have h10 : z * U = zq * 4294967296 + zr * U := by rw [← h2, Int.add_mul, ← e, Int.mul_comm T zq, Int.mul_assoc, Int.mul_comm T U]
  have h11 : 0 ≤ zr * U := Int.mul_nonneg h4 (by omega)
  have h12 : zr * U + U ≤ 4294967296 := by
    have : (zr + 1) * U ≤ T * U := Int.mul_le_mul_of_nonneg_right (by omega) (by omega)
    rw [Int.add_mul, Int.one_mul, Int.mul_comm T, e] at this
    exact this
  have h13 : (x + z * 4294967296) / T % 4294967296 = xq + zr * U := by rw [h1, h10]; omega
  rw [h13]
  refine ⟨⟨by omega, by omega⟩, ?_⟩
  rw [Int.add_mul, Int.mul_assoc, e]
  have : T * xq = xq * T := Int.mul_comm _ _
  omega
theorem DownL.step {A ys : List Int} {q r k : Nat} (h : DownL A ys q r k) (hA : Limbs A) (hr : r ≤ 31) (hk : q + k < A.length) : DownL A (ys ++ [(A.getD (q + k) 0 + A.getD (q + k + 1) 0 * 4294967296) / 2 ^ r % 4294967296]) q r (k + 1) := by
  obtain ⟨hl, hw, hv⟩ := h
  obtain ⟨h1, h2⟩ := limb_down (hA.getD (q + k)) (hA.getD (q + k + 1)) hr
  refine ⟨by simp [hl], hw.append (Limbs.cons h1 Limbs.nil), ?_⟩
  have e0 : (A.drop q).getD k 0 = A.getD (q + k) 0 := getD_drop A q k
  rw [lval_append, hl, lval_take_next (A.drop q), e0, Int.add_mul, ← Nat.add_assoc]
  generalize (A.getD (q + k) 0 + A.getD (q + k + 1) 0 * 4294967296) / 2 ^ r % 4294967296 = y at *
  simp only [lval, Int.mul_zero, Int.add_zero, lpw]
  have e1 : lpw k * y * 2 ^ r = lpw k * A.getD (q + k) 0 - lpw k * (A.getD (q + k) 0 % 2 ^ r) + lpw k * (A.getD (q + k + 1) 0 % 2 ^ r * 4294967296) := by rw [Int.mul_assoc, h2, Int.mul_add, Int.mul_sub]
  have e2 : A.getD (q + k) 0 % 2 ^ r * lpw k = lpw k * (A.getD (q + k) 0 % 2 ^ r) := Int.mul_comm _ _
  have e3 : A.getD (q + k + 1) 0 % 2 ^ r * (4294967296 * lpw k) = lpw k * (A.getD (q + k + 1) 0 % 2 ^ r * 4294967296) := by rw [← Int.mul_assoc, Int.mul_comm]
  omega
theorem DownL.done {A ys : List Int} {q r k : Nat} (h : DownL A ys q r k) (hk : A.length ≤ q + k) : lval ys = lval (A.drop q) / 2 ^ r := by
  obtain ⟨hl, hw, hv⟩ := h
  have p0 : (0 : Int) < 2 ^ r := Int.pow_pos (by decide)
  rw [getD_out (l := A) (i := q + k) hk, List.take_of_length_le (by rw [List.length_drop]; omega)] at hv
  have h6 := Int.emod_nonneg (A.getD q 0) (show (2 : Int) ^ r ≠ 0 by omega)
  have h7 := Int.emod_lt_of_pos (A.getD q 0) p0
  simp only [Int.zero_emod, Int.zero_mul, Int.add_zero] at hv
  rw [← hv, Int.add_comm, Int.add_mul_ediv_right _ _ (by omega), Int.ediv_eq_zero_of_lt h6 h7, Int.zero_add]
theorem lval_drop {l : List Int} {j : Nat} (h : Limbs l) : lval (l.drop j) = lval l / 2 ^ (32 * j) := by
  have h3 := lpw_pos j
  by_cases hj : j ≤ l.length
  · have h1 := lval_append (l.take j) (l.drop j)
    rw [List.take_append_drop, List.length_take, Nat.min_eq_left hj] at h1
    have h2 := lval_bd (h.take j)
    rw [List.length_take, Nat.min_eq_left hj] at h2
    rw [h1, ← lpw_two, Int.add_mul_ediv_left _ _ (by omega), Int.ediv_eq_zero_of_lt h2.1 h2.2, Int.zero_add]
  · have h2 := lval_bd h
    have h4 := lpw_mono (a := l.length) (b := j) (by omega)
    rw [List.drop_of_length_le (by omega), ← lpw_two, Int.ediv_eq_zero_of_lt h2.1 (by omega)]
    rfl

theorem num_limbs {w : World} {s : Value} {n : Int} {K : Nat} (h : IsNum w s n) (hn : n < lpw K) : ∃ A, Limbed w s A ∧ lval A = n ∧ A.length ≤ K := by
  obtain ⟨L, h1, h2, rfl⟩ := h
  exact ⟨L, h1, rfl, num_len h1 h2 hn⟩
end Go.Proofs.YtjoppmkknbpjbaaDoor
