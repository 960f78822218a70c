/- Contract of nat.FromBytes over the bytes of a number. Plain arithmetic: a number put together out of its bytes, the highest first. Contract of nat.FromBytes over the bytes of a number. Contract of nat.FromBytes over what NatBytes answers. Contract of abaculushand.Nat: a number of the document's as the program's. -/
import Derived.Test.YtjoppmkknbpjbaaDoorRef0
import Derived.Test.YtjoppmkknbpjbaaDoorAdd
import Derived.Test.YtjoppmkknbpjbaaDoorKnown
namespace Go.Proofs.YtjoppmkknbpjbaaDoor
open Go.RowKit
set_option linter.unusedVariables false

end Go.Proofs.YtjoppmkknbpjbaaDoor

namespace Go.Proofs.YtjoppmkknbpjbaaDoor
open Go.RowKit
set_option linter.unusedVariables false

theorem val_set : ∀ {l : List Int} {q : Nat}, q < l.length → ∀ x : Int, val (l.set q x) = val l + pw q * (x - l.getD q 0)
  | [], _, h, _ => by simp at h
  | y :: l, 0, _, x => by simp [val, pw]; omega
  | y :: l, q + 1, h, x => by
    have ih := val_set (l := l) (q := q) (by simpa using h) x
    simp only [List.set_cons_succ, val, ih, List.getD_cons_succ, pw, Int.mul_add, Int.mul_assoc]
    omega
/-- Behind i bytes, the highest, of m. -/
def FromAt (n : Int) (m i L : Nat) (lk : List Int) : Prop := lk.length = L ∧ Words lk ∧ val lk = n / 256 ^ (m - i) * 256 ^ (m - i)

theorem mod_r {x r A : Int} {k : Nat} (hk : k < 8) (h : x + 18446744073709551616 * r = A * 256 ^ (k + 1)) : x % 256 ^ (k + 1) = 0 := by
  have hk8 : k = 0 ∨ k = 1 ∨ k = 2 ∨ k = 3 ∨ k = 4 ∨ k = 5 ∨ k = 6 ∨ k = 7 := by omega
  rcases hk8 with rfl | rfl | rfl | rfl | rfl | rfl | rfl | rfl <;> simp only [Int.pow_succ, Int.pow_zero, Nat.reduceAdd] at * <;> omega
theorem word_r {x c : Int} {k : Nat} (hk : k < 8) (hx : Word x) (h : x % 256 ^ (k + 1) = 0) (h0 : 0 ≤ c) (h1 : c < 256) : Word (x + c * 256 ^ k) ∧ 0 ≤ c * 256 ^ k ∧ c * 256 ^ k < 18446744073709551616 := by
  unfold Word at *
  have hk8 : k = 0 ∨ k = 1 ∨ k = 2 ∨ k = 3 ∨ k = 4 ∨ k = 5 ∨ k = 6 ∨ k = 7 := by omega
  rcases hk8 with rfl | rfl | rfl | rfl | rfl | rfl | rfl | rfl <;> simp only [Int.pow_succ, Int.pow_zero, Nat.reduceAdd] at * <;> omega
theorem or_byte {x c : Int} {k : Nat} (hk : k < 8) (hx : Word x) (h : x % 256 ^ (k + 1) = 0) (h0 : 0 ≤ c) (h1 : c < 256) :
    bits .or .u64 x (IntKind.u64.wrap (c * 2 ^ (k * 8))) = x + c * 256 ^ k := by
  have hw := word_r hk hx h h0 h1
  rw [Nat.mul_comm k 8, two_256]
  have e : IntKind.u64.wrap (c * 256 ^ k) = c * 256 ^ k := by rw [IntKind.wrap_u64]; omega
  rw [e]
  obtain ⟨X, rfl⟩ := Int.eq_ofNat_of_zero_le hx.1
  obtain ⟨C, rfl⟩ := Int.eq_ofNat_of_zero_le h0
  have e2 : (C : Int) * 256 ^ k = ((C * 256 ^ k : Nat) : Int) := by rw [Int.natCast_mul, Int.natCast_pow]; rfl
  have e3 : ((X : Int) % 256 ^ (k + 1) : Int) = ((X % 256 ^ (k + 1) : Nat) : Int) := by rw [Int.natCast_emod, Int.natCast_pow]; rfl
  rw [e2] at hw ⊢
  rw [e3] at h
  have hX : X = 2 ^ (8 * (k + 1)) * (X / 256 ^ (k + 1)) := by
    have := Nat.div_add_mod X (256 ^ (k + 1))
    have e4 : (2 : Nat) ^ (8 * (k + 1)) = 256 ^ (k + 1) := by rw [Nat.pow_mul]
    rw [e4]; omega
  have hC : C * 256 ^ k < 2 ^ (8 * (k + 1)) := by
    have e4 : (2 : Nat) ^ (8 * (k + 1)) = 256 * 256 ^ k := by rw [Nat.pow_mul, Nat.pow_succ, Nat.mul_comm]
    rw [e4]
    exact Nat.mul_lt_mul_of_pos_right (by omega) (Nat.pos_of_ne_zero (by simp))
  have hor : X ||| C * 256 ^ k = X + C * 256 ^ k := by
    have := Nat.two_pow_add_eq_or_of_lt hC (X / 256 ^ (k + 1))
    rw [← hX] at this
    exact this.symm
  have hxw := hx.2
  rw [u64_or_nat X (C * 256 ^ k) (by omega) (by have := hw.2.2; omega), hor, Int.natCast_add]

theorem FromAt.step {n : Int} {m i L : Nat} {lk : List Int} (h : FromAt n m i L lk) (hn : 0 ≤ n) (hi : i < m) (hL : (m + 7) / 8 = L) :
    lk.getD ((m - 1 - i) / 8) 0 % 256 ^ ((m - 1 - i) % 8 + 1) = 0 ∧
    FromAt n m (i + 1) L (lk.set ((m - 1 - i) / 8) (lk.getD ((m - 1 - i) / 8) 0 + byteAt n (m - 1 - i) * 256 ^ ((m - 1 - i) % 8))) := by
  obtain ⟨hlen, hw, hv⟩ := h
  obtain ⟨p, hp⟩ : ∃ p, m - 1 - i = p := ⟨_, rfl⟩
  have hp1 : m - i = p + 1 := by omega
  have hp2 : m - (i + 1) = p := by omega
  rw [hp1] at hv
  rw [hp]
  have hq : p / 8 < lk.length := by omega
  have hr : p % 8 < 8 := Nat.mod_lt _ (by decide)
  have hb := byteAt_bd n p
  have wx := hw.getD (p / 8)
  have hP : (256 : Int) ^ p = pw (p / 8) * 256 ^ (p % 8) := by rw [pw_256, ← Int.pow_add]; congr 1; omega
  have hP1 : (256 : Int) ^ (p + 1) = pw (p / 8) * 256 ^ (p % 8 + 1) := by rw [pw_256, ← Int.pow_add]; congr 1; omega
  have hmod : lk.getD (p / 8) 0 % 256 ^ (p % 8 + 1) = 0 := by
    have hs := seg_bd hw 0 (p / 8) (by omega)
    have e1 : val lk = seg lk 0 (p / 8 + 1 + (lk.length - (p / 8 + 1))) := by
      rw [show p / 8 + 1 + (lk.length - (p / 8 + 1)) = lk.length by omega, seg_all, List.take_length]
    rw [seg_add (by omega), seg_succ (by omega), Nat.zero_add] at e1
    rw [hv, hP1] at e1
    have hpp := pw_pos (p / 8)
    refine mod_r (r := seg lk (0 + (p / 8 + 1)) (lk.length - (p / 8 + 1))) (A := n / (pw (p / 8) * 256 ^ (p % 8 + 1))) hr ?_
    have e2 := congrArg (· / pw (p / 8)) e1
    rw [show n / (pw (p / 8) * 256 ^ (p % 8 + 1)) * (pw (p / 8) * 256 ^ (p % 8 + 1)) = pw (p / 8) * (n / (pw (p / 8) * 256 ^ (p % 8 + 1)) * 256 ^ (p % 8 + 1)) by rw [Int.mul_left_comm], Int.mul_ediv_cancel_left _ (by omega)] at e2
    rw [e2, show seg lk 0 (p / 8) + pw (p / 8) * lk.getD (p / 8) 0 + pw (p / 8 + 1) * seg lk (0 + (p / 8 + 1)) (lk.length - (p / 8 + 1)) = seg lk 0 (p / 8) + pw (p / 8) * (lk.getD (p / 8) 0 + 18446744073709551616 * seg lk (0 + (p / 8 + 1)) (lk.length - (p / 8 + 1))) by simp only [pw]; rw [Int.mul_add, Int.mul_left_comm, Int.mul_assoc]; omega, ediv_low hpp hs.1 hs.2]
  refine ⟨hmod, by simp [hlen], hw.set _ (word_r hr wx hmod hb.1 hb.2).1, ?_⟩
  rw [val_set hq, hv, hp2]
  have e3 : n / 256 ^ (p + 1) = n / 256 ^ p / 256 := by
    rw [Int.pow_succ, Int.ediv_ediv_of_nonneg (Int.le_of_lt (Int.pow_pos (by decide)))]
  have e4 : n / 256 ^ p = n / 256 ^ p / 256 * 256 + byteAt n p := by unfold byteAt; omega
  have e5 : pw (p / 8) * (lk.getD (p / 8) 0 + byteAt n p * 256 ^ (p % 8) - lk.getD (p / 8) 0) = byteAt n p * 256 ^ p := by
    rw [hP, show lk.getD (p / 8) 0 + byteAt n p * 256 ^ (p % 8) - lk.getD (p / 8) 0 = byteAt n p * 256 ^ (p % 8) by omega, Int.mul_left_comm]
  rw [e5, e3, Int.pow_succ, ← Int.mul_assoc]
  generalize (256 : Int) ^ p = P at *
  generalize byteAt n p = c at *
  generalize n / P = a at *
  generalize a / 256 = d at *
  rw [e4, Int.add_mul, Int.mul_right_comm]
theorem fromAt_zero {n : Int} {m L : Nat} (hn : 0 ≤ n) (h : n < 256 ^ m) : FromAt n m 0 L (List.replicate L 0) := by
  refine ⟨by simp, Words.replicate L, ?_⟩
  rw [val_replicate, Nat.sub_zero, Int.ediv_eq_zero_of_lt hn h, Int.zero_mul]
theorem FromAt.done {n : Int} {m L : Nat} {lk : List Int} (h : FromAt n m m L lk) : val lk = n := by
  have := h.2.2
  rw [Nat.sub_self] at this
  simpa using this
end Go.Proofs.YtjoppmkknbpjbaaDoor

namespace Go.Proofs.YtjoppmkknbpjbaaDoor
open Go.RowKit
set_option linter.unusedVariables false

end Go.Proofs.YtjoppmkknbpjbaaDoor

namespace Go.Proofs.YtjoppmkknbpjbaaDoor
open Go.RowKit
set_option linter.unusedVariables false

/-- A number's highest byte is not 0. -/
theorem top_byte {n : Int} {k : Nat} (h : IsBits n (k + 1)) (hn : 0 ≤ n) : n < 256 ^ (k / 8 + 1) ∧ byteAt n (k / 8) ≠ 0 := by
  have h1 := h.1
  have h2 := h.2 (by omega)
  rw [Nat.add_sub_cancel] at h2
  have e1 : (256 : Int) ^ (k / 8) = 2 ^ (8 * (k / 8)) := by rw [two_256]
  have e2 : (256 : Int) ^ (k / 8 + 1) = 2 ^ (8 * (k / 8 + 1)) := by rw [two_256]
  have m1 := two_pow_mono (a := 8 * (k / 8)) (b := k) (by omega)
  have m2 := two_pow_mono (a := k + 1) (b := 8 * (k / 8 + 1)) (by omega)
  refine ⟨by omega, ?_⟩
  have hp : (0 : Int) < 256 ^ (k / 8) := Int.pow_pos (by decide)
  have b1 : 1 ≤ n / 256 ^ (k / 8) := by
    rw [Int.le_ediv_iff_mul_le hp]; omega
  have b2 : n / 256 ^ (k / 8) < 256 := by
    rw [Int.ediv_lt_iff_lt_mul hp]
    rw [Int.pow_succ] at e2
    omega
  unfold byteAt
  omega
end Go.Proofs.YtjoppmkknbpjbaaDoor

namespace Go.Proofs.YtjoppmkknbpjbaaDoor
open Go.RowKit
set_option linter.unusedVariables false

theorem bits_few {n : Int} {k m : Nat} (h : IsBits n k) (hn : n < 2 ^ m) : k ≤ m := by
  by_cases hk : k = 0
  · omega
  · have h2 := h.2 hk
    by_cases hc : m ≤ k - 1
    · have := two_pow_mono hc
      omega
    · omega
end Go.Proofs.YtjoppmkknbpjbaaDoor
