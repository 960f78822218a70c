/- What the document's long division wants beside: its beginning, its inner loops. -/
import Derived.Test.YtogpephnkkofjaaGreatDoorRefOne
import Derived.Test.YtogpephnkkofjaaGreatDoorRefPow
namespace Go.Proofs.YtogpephnkkofjaaGreatDoor
open Go.RowKit
set_option linter.unusedVariables false

theorem lnorm {b : Int} {k n S : Nat} (h : IsBits b k) (hk : k ≠ 0) (hn : 1 ≤ n) (hS : k + S = 32 * n) : 2147483648 * lpw (n - 1) ≤ b * 2 ^ S ∧ b * 2 ^ S < lpw n := by
  have p : (0 : Int) < 2 ^ S := Int.pow_pos (by decide)
  constructor
  · have h1 : 2 ^ (k - 1) * 2 ^ S ≤ b * 2 ^ S := Int.mul_le_mul_of_nonneg_right (h.2 hk) (by omega)
    rw [← Int.pow_add] at h1
    have e : (2147483648 : Int) = 2 ^ 31 := by decide
    rw [lpw_two, e, ← Int.pow_add, show 31 + 32 * (n - 1) = k - 1 + S by omega]
    exact h1
  · rw [lpw_two, ← hS, Int.pow_add]
    exact Int.mul_lt_mul_of_pos_right h.1 p
theorem bits_len {L : List Int} {k : Nat} (h : IsBits (lval L) k) (hw : Limbs L) (hz : L ≠ [] → L.getD (L.length - 1) 0 ≠ 0) (hn : 1 ≤ L.length) : 32 * (L.length - 1) < k ∧ k ≤ 32 * L.length := by
  have hne : L ≠ [] := by rintro rfl; simp at hn
  have h1 := lval_low hw hn (Nat.le_refl _) (hz hne)
  rw [List.take_length, lpw_two] at h1
  have h2 := (lval_bd hw).2
  rw [lpw_two] at h2
  constructor
  · apply Nat.lt_of_not_le
    intro hc
    have := two_pow_mono hc
    have := h.1
    omega
  · apply Nat.le_of_not_lt
    intro hc
    have h3 := h.2 (by omega)
    have := two_pow_mono (a := 32 * L.length) (b := k - 1) (by omega)
    omega
/-- A shifted divisor's limbs. -/
theorem norm_limbs {Y : List Int} {n : Nat} (hw : Limbs Y) (hlen : Y.length ≤ n) (hn : 2 ≤ n) (h1 : 2147483648 * lpw (n - 1) ≤ lval Y) (h2 : lval Y < lpw n) : Y.length = n ∧ 2147483648 ≤ Y.getD (n - 1) 0 := by
  have hl : Y.length = n := by
    apply Nat.le_antisymm hlen
    apply Nat.le_of_not_lt
    intro hc
    have := (lval_bd hw).2
    have := lpw_mono (a := Y.length) (b := n - 1) (by omega)
    have := lpw_pos (n - 1)
    omega
  refine ⟨hl, ?_⟩
  obtain ⟨m, rfl⟩ : ∃ m, n = m + 1 := ⟨n - 1, by omega⟩
  rw [Nat.add_sub_cancel] at h1 ⊢
  have e := lval_take_succ (l := Y) (k := m) (by omega)
  rw [List.take_of_length_le (by omega)] at e
  have b := lval_bd (hw.take m)
  rw [List.length_take, Nat.min_eq_left (by omega)] at b
  have p := lpw_pos m
  apply Int.le_of_not_gt
  intro hc
  have : lpw m * (Y.getD m 0 + 1) ≤ lpw m * 2147483648 := Int.mul_le_mul_of_nonneg_left (by omega) (by omega)
  rw [Int.mul_add, Int.mul_one] at this
  omega
/-- The division's beginning. -/
theorem ldivs_start {X V : Int} {A : List Int} {n M : Nat} (hA : Limbs A) (hX : lval A = X) (hM : M + n = A.length + 2) (hn : 2 ≤ n) (hV : lpw (n - 1) ≤ V) :
    LDivsAt X V n (A.length + 2) M 0 (A ++ [0, 0]) (List.replicate M 0) := by
  have hw : Limbs (A ++ [0, 0]) := hA.append (Limbs.cons ⟨by decide, by decide⟩ (Limbs.cons ⟨by decide, by decide⟩ Limbs.nil))
  have hv : lval (A ++ [0, 0]) = X := by rw [lval_append, hX]; simp [lval]
  refine ⟨by simp, hw, by simp, Limbs.replicate _, fun j _ => ?_, fun j hj => getD_none (by simp; omega), ?_, ?_⟩
  · simp only [List.getD_eq_getElem?_getD, List.getElem?_replicate]; split <;> rfl
  · rw [Nat.sub_zero]
    have e := lseg_add (l := A ++ [0, 0]) (o := 0) (k := M) (m := n) (by simp; omega)
    rw [lseg_all, hM, List.take_of_length_le (by simp), hv, Nat.zero_add] at e
    have b1 := (lseg_bd hw 0 M (by simp; omega)).1
    have b2 := (lval_bd hA).2
    rw [hX] at b2
    have k2 : lpw A.length = lpw M * lpw (n - 2) := by rw [← lpw_add]; congr 1; omega
    have hp := lpw_pos M
    have k3 := lpw_mono (a := n - 2) (b := n - 1) (by omega)
    apply Int.lt_of_not_ge
    intro hc
    have : lpw M * lpw (n - 2) ≤ lpw M * lseg (A ++ [0, 0]) M n := Int.mul_le_mul_of_nonneg_left (by omega) (by omega)
    omega
  · rw [lseg_zero, Int.mul_zero, Int.mul_zero, Int.add_zero, lseg_all, List.take_of_length_le (by simp), hv]
/-- What is known of the highest limbs at a round of the division. -/
theorem ldivs_lead {X V : Int} {n L M k : Nat} {lu lq ly : List Int} (h : LDivsAt X V n L M k lu lq) (hk : k < M) (hL : M + n = L) (hn : 2 ≤ n) (hy : Limbs ly) (hly : n ≤ ly.length) (hV : lseg ly 0 n = V) (hnorm : 2147483648 ≤ ly.getD (n - 1) 0) :
    Lead (lseg lu (M - 1 - k) (n + 1)) V (lpw (n - 2)) (lseg lu (M - 1 - k) (n - 2)) (lseg ly 0 (n - 2)) (lu.getD (M - 1 - k + n) 0) (lu.getD (M - 1 - k + (n - 1)) 0) (lu.getD (M - 1 - k + (n - 2)) 0) (ly.getD (n - 1) 0) (ly.getD (n - 2) 0) := by
  obtain ⟨a1, a2, a3, a4, a5, a6, a7, a8⟩ := h
  have b1 := lseg_bd a2 (M - 1 - k) (n - 2) (by omega)
  have b2 := lseg_bd hy 0 (n - 2) (by omega)
  have e := lseg_cons (l := lu) (o := M - 1 - k) (k := n) (by omega)
  rw [show M - 1 - k + 1 = M - k by omega] at e
  have l0 := a2.getD (M - 1 - k)
  unfold Limb at l0
  exact ⟨lpw_pos _, b1.1, b1.2, b2.1, b2.2, a2.getD _, a2.getD _, a2.getD _, hy.getD _, hy.getD _, hnorm, part_limbs hn (by omega), by rw [← hV]; exact two_limbs hn hly, by omega⟩

/-- What has become of lu behind k limbs: g times ly is taken away, c and the borrow w are still to be taken. -/
def TakeL (lu ly lk : List Int) (i k : Nat) (g c w : Int) : Prop :=
  (0 ≤ c ∧ c < 4294967296) ∧ (w = 0 ∨ w = 1) ∧ lk.length = lu.length ∧ Limbs lk ∧ (∀ j, j < i ∨ i + k ≤ j → lk.getD j 0 = lu.getD j 0) ∧ lseg lk i k + g * lseg ly 0 k = lseg lu i k + (c + w) * lpw k
theorem lin_takeL {P B lo hi g y c w x c' S U Y : Int} (h1 : lo + w + (c + g * y - B * c') = x + B * hi) (hv : S + g * Y = U + (c + w) * P) : S + P * lo + g * (Y + P * y) = U + P * x + (c' + hi) * (B * P) := by
  have e1 : P * lo + P * w + (P * c + P * (g * y) - P * (B * c')) = P * x + P * (B * hi) := by
    rw [← Int.mul_add, ← Int.mul_add, ← Int.mul_sub, ← Int.mul_add, h1, Int.mul_add]
  have e2 : (c' + hi) * (B * P) = P * (B * c') + P * (B * hi) := by
    rw [← Int.mul_add, ← Int.mul_add, Int.mul_left_comm, Int.mul_comm (c' + hi) P, Int.mul_left_comm]
  have e3 : (c + w) * P = P * c + P * w := by rw [Int.mul_comm, Int.mul_add]
  have e4 : g * (Y + P * y) = g * Y + P * (g * y) := by rw [Int.mul_add, Int.mul_left_comm]
  omega
theorem mul_limb {g y c : Int} (hg : Limb g) (hy : Limb y) (h0 : 0 ≤ c) (hc : c < 4294967296) : 0 ≤ g * y ∧ g * y ≤ 18446744065119617025 := by
  have h1 : 0 ≤ g * y := Int.mul_nonneg hg.1 hy.1
  have h2 : g * y ≤ 4294967295 * y := Int.mul_le_mul_of_nonneg_right (by have := hg.2; omega) hy.1
  unfold Limb at hy
  omega
theorem TakeL.step {lu ly lk : List Int} {i k : Nat} {g c w : Int} (h : TakeL lu ly lk i k g c w) (hu : Limbs lu) (hy : Limbs ly) (hg : Limb g) (hi : i + k < lu.length) (hk : k < ly.length) :
    TakeL lu ly (lk.set (i + k) ((lu.getD (i + k) 0 - (c + g * ly.getD k 0) % 4294967296 - w) % 18446744073709551616 % 4294967296)) i (k + 1) g ((c + g * ly.getD k 0) / 4294967296) ((lu.getD (i + k) 0 - (c + g * ly.getD k 0) % 4294967296 - w) % 18446744073709551616 / 9223372036854775808) := by
  obtain ⟨⟨c0, c1⟩, hw, hl, hlk, hrest, hv⟩ := h
  have hx := hu.getD (i + k)
  have hm := mul_limb hg (hy.getD k) c0 c1
  have hlow : Limb ((c + g * ly.getD k 0) % 4294967296) := ⟨by omega, by omega⟩
  have lb := less_bit hx hlow hw
  have ll := less_low hx hlow hw
  refine ⟨⟨by omega, by omega⟩, lb, by simp [hl], hlk.set _ ⟨by omega, by omega⟩, ?_, ?_⟩
  · intro j hj
    rw [getD_set _ _ _ _ (by omega), if_neg (by omega)]
    exact hrest j (by omega)
  · have e1 := lseg_succ (l := ly) (o := 0) (k := k) (by omega)
    rw [Nat.zero_add] at e1
    rw [lseg_succ (l := lk.set _ _) (by simp; omega), lseg_succ (l := lu) hi, getD_set _ _ _ _ (by omega), if_pos rfl, e1,
      lseg_congr (l := lk.set (i + k) _) (l' := lk) (by simp; omega) (by omega) (fun j h1 h2 => by rw [getD_set _ _ _ _ (by omega), if_neg (by omega)])]
    exact lin_takeL (by omega) hv
/-- What has become of lk behind k limbs: ly is added, the carry c. -/
def AddL (lk ly lm : List Int) (i k : Nat) (c : Int) : Prop :=
  (c = 0 ∨ c = 1) ∧ lm.length = lk.length ∧ Limbs lm ∧ (∀ j, j < i ∨ i + k ≤ j → lm.getD j 0 = lk.getD j 0) ∧ lseg lm i k + c * lpw k = lseg lk i k + lseg ly 0 k
theorem AddL.step {lk ly lm : List Int} {i k : Nat} {c : Int} (h : AddL lk ly lm i k c) (hu : Limbs lk) (hy : Limbs ly) (hi : i + k < lk.length) (hk : k < ly.length) :
    AddL lk ly (lm.set (i + k) ((c + lk.getD (i + k) 0 + ly.getD k 0) % 4294967296)) i (k + 1) ((c + lk.getD (i + k) 0 + ly.getD k 0) / 4294967296) := by
  obtain ⟨hc, hl, hlm, hrest, hv⟩ := h
  have hx := hu.getD (i + k)
  have hz := hy.getD k
  unfold Limb at hx hz
  refine ⟨by omega, by simp [hl], hlm.set _ ⟨by omega, by omega⟩, ?_, ?_⟩
  · intro j hj
    rw [getD_set _ _ _ _ (by omega), if_neg (by omega)]
    exact hrest j (by omega)
  · have e1 := lseg_succ (l := ly) (o := 0) (k := k) (by omega)
    rw [Nat.zero_add] at e1
    rw [lseg_succ (l := lm.set _ _) (by simp; omega), lseg_succ (l := lk) hi, getD_set _ _ _ _ (by omega), if_pos rfl, e1,
      lseg_congr (l := lm.set (i + k) _) (l' := lm) (by simp; omega) (by omega) (fun j h1 h2 => by rw [getD_set _ _ _ _ (by omega), if_neg (by omega)])]
    exact lin_sum (by omega) hv

/-- What a round leaves: q times V is taken away. -/
def RoundOut (lu lk : List Int) (i n : Nat) (q V : Int) : Prop := lk.length = lu.length ∧ Limbs lk ∧ (∀ j, j < i ∨ i + (n + 1) ≤ j → lk.getD j 0 = lu.getD j 0) ∧ lseg lk i (n + 1) = lseg lu i (n + 1) - q * V ∧ lseg lk i (n + 1) < V ∧ Limb q
/-- Too much was taken: S is what is left in the lower limbs, the highest has gone below 0. -/
def RoundBack (lu lk : List Int) (i n : Nat) (g V : Int) : Prop := 1 ≤ g ∧ lk.length = lu.length ∧ Limbs lk ∧ (∀ j, j < i ∨ i + (n + 1) ≤ j → lk.getD j 0 = lu.getD j 0) ∧ lk.getD (i + n) 0 = 4294967295 ∧ lseg lk i n = lseg lu i (n + 1) - g * V + lpw n ∧ 0 ≤ lseg lu i (n + 1) - g * V + V
theorem TakeL.top {lu ly lk : List Int} {i n : Nat} {g c w V : Int} (h : TakeL lu ly lk i n g c w) (hu : Limbs lu) (hy : Limbs ly) (hg : Limb g) (hi : i + n < lu.length) (hn : n ≤ ly.length) (hV : lseg ly 0 n = V) (h1 : g * V ≤ lseg lu i (n + 1) + V) (h2 : lseg lu i (n + 1) < g * V + V) :
    lk.getD (i + n) 0 = lu.getD (i + n) 0 ∧
    (((lu.getD (i + n) 0 - c - w) % 18446744073709551616 / 9223372036854775808 = 0 ∧ RoundOut lu (lk.set (i + n) ((lu.getD (i + n) 0 - c - w) % 18446744073709551616 % 4294967296)) i n g V) ∨
     ((lu.getD (i + n) 0 - c - w) % 18446744073709551616 / 9223372036854775808 = 1 ∧ RoundBack lu (lk.set (i + n) ((lu.getD (i + n) 0 - c - w) % 18446744073709551616 % 4294967296)) i n g V)) := by
  obtain ⟨⟨c0, c1⟩, hw, hl, hlk, hrest, hv⟩ := h
  have hx := hu.getD (i + n)
  have hVb := lseg_bd hy 0 n (by omega)
  have hSb := lseg_bd hlk i n (by omega)
  have hUs := lseg_succ (l := lu) (o := i) (k := n) hi
  have hUb := lseg_bd hu i (n + 1) (by omega)
  rw [hV] at hv hVb
  have hp := lpw_pos n
  unfold Limb at hx
  obtain ⟨x, hxd⟩ : ∃ x, lu.getD (i + n) 0 = x := ⟨_, rfl⟩
  rw [hxd] at hx hUs
  obtain ⟨e, he⟩ : ∃ e, x - c - w = e := ⟨_, rfl⟩
  -- what is left of all: S + P e
  have key : lseg lu i (n + 1) - g * V = lseg lk i n + lpw n * e := by
    have e1 : lpw n * e = lpw n * x - lpw n * c - lpw n * w := by rw [← he, Int.mul_sub, Int.mul_sub]
    have e2 : (c + w) * lpw n = lpw n * c + lpw n * w := by rw [Int.mul_comm, Int.mul_add]
    omega
  have hlen2 : ∀ z, (lk.set (i + n) z).length = lu.length := fun z => by simp [hl]
  have hrest2 : ∀ z j, j < i ∨ i + (n + 1) ≤ j → (lk.set (i + n) z).getD j 0 = lu.getD j 0 := fun z j hj => by
    rw [getD_set _ _ _ _ (by omega), if_neg (by omega)]; exact hrest j (by omega)
  have hlow : ∀ z, lseg (lk.set (i + n) z) i n = lseg lk i n := fun z =>
    lseg_congr (by rw [hlen2]; omega) (by omega) (fun j h1 h2 => by rw [getD_set _ _ _ _ (by omega), if_neg (by omega)])
  have hhigh : ∀ z, lseg (lk.set (i + n) z) i (n + 1) = lseg lk i n + lpw n * z := fun z => by
    rw [lseg_succ (by rw [hlen2]; omega), hlow, getD_set _ _ _ _ (by omega), if_pos rfl]
  refine ⟨by rw [hrest _ (by omega)], ?_⟩
  rw [hxd, he]
  by_cases hneg : 0 ≤ e
  · left
    have e0 : e % 18446744073709551616 = e := by omega
    have e1 : e % 4294967296 = e := by omega
    rw [e0, e1]
    refine ⟨by omega, hlen2 _, hlk.set _ ⟨by omega, by omega⟩, hrest2 _, ?_, ?_, hg⟩
    · rw [hhigh]; omega
    · rw [hhigh]; omega
  · right
    have he1 : e = -1 := by
      apply Int.le_antisymm (by omega)
      apply Int.le_of_not_gt
      intro hc
      have : lpw n * e ≤ lpw n * (-2) := Int.mul_le_mul_of_nonneg_left (by omega) (by omega)
      omega
    subst he1
    have hg1 : 1 ≤ g := by
      apply Int.le_of_not_gt
      intro hc
      obtain rfl : g = 0 := by have := hg.1; omega
      rw [Int.zero_mul] at key
      omega
    have e0 : (-1 : Int) % 18446744073709551616 = 18446744073709551615 := by decide
    have e1 : (18446744073709551615 : Int) % 4294967296 = 4294967295 := by decide
    rw [e0, e1]
    refine ⟨by decide, hg1, hlen2 _, hlk.set _ ⟨by decide, by decide⟩, hrest2 _, ?_, ?_, by omega⟩
    · rw [getD_set _ _ _ _ (by omega), if_pos rfl]
    · rw [hlow]; omega
/-- Behind the sum that puts it right. -/
theorem AddL.top {lu lk ly lm : List Int} {i n : Nat} {g c V : Int} (h : AddL lk ly lm i n c) (hb : RoundBack lu lk i n g V) (hy : Limbs ly) (hg : Limb g) (hi : i + n < lu.length) (hn : n ≤ ly.length) (hV : lseg ly 0 n = V) :
    lm.getD (i + n) 0 = 4294967295 ∧ (0 ≤ c ∧ c ≤ 1) ∧ RoundOut lu (lm.set (i + n) ((4294967295 + c) % 4294967296)) i n (g - 1) V := by
  obtain ⟨hc, hl, hlm, hrest, hv⟩ := h
  obtain ⟨hg1, hl2, hlk, hrest2, htop, hS, hpos⟩ := hb
  have hVb := lseg_bd hy 0 n (by omega)
  have hSb := lseg_bd hlm i n (by omega)
  have hKb := lseg_bd hlk i n (by omega)
  rw [hV] at hv hVb
  have hp := lpw_pos n
  have hc1 : c = 1 := by
    rcases hc with rfl | rfl
    · simp only [Int.zero_mul] at hv
      omega
    · rfl
  subst hc1
  have hlen2 : (lm.set (i + n) 0).length = lu.length := by simp [hl, hl2]
  refine ⟨by rw [hrest _ (by omega), htop], ⟨by decide, by decide⟩, ?_⟩
  rw [show ((4294967295 : Int) + 1) % 4294967296 = 0 by decide]
  have hv2 : lseg (lm.set (i + n) 0) i (n + 1) = lseg lm i n := by
    rw [lseg_succ (by rw [hlen2]; omega), getD_set _ _ _ _ (by omega), if_pos rfl, Int.mul_zero, Int.add_zero]
    exact lseg_congr (by rw [hlen2]; omega) (by omega) (fun j h1 h2 => by rw [getD_set _ _ _ _ (by omega), if_neg (by omega)])
  refine ⟨hlen2, hlm.set _ ⟨by decide, by decide⟩, ?_, ?_, ?_, ⟨by omega, by have := hg.2; omega⟩⟩
  · intro j hj
    rw [getD_set _ _ _ _ (by omega), if_neg (by omega), hrest j (by omega), hrest2 j hj]
  · rw [hv2, Int.sub_mul, Int.one_mul]; omega
  · rw [hv2]; omega

theorem and_mask32 {p : Int} (h0 : 0 ≤ p) (h1 : p < 18446744073709551616) : bits .and .u64 p 4294967295 = p % 4294967296 := by
  obtain ⟨P, rfl⟩ := Int.eq_ofNat_of_zero_le h0
  have h := u64_and_nat P 4294967295 (by omega) (by decide)
  rw [show (4294967295 : Nat) = 2 ^ 32 - 1 by decide, Nat.and_two_pow_sub_one_eq_mod] at h
  have e : ((2 ^ 32 - 1 : Nat) : Int) = 4294967295 := by decide
  rw [e] at h
  rw [h]
  omega
theorem ldivs_rest {X V : Int} {n L M : Nat} {lu lq : List Int} (h : LDivsAt X V n L M M lu lq) (hL : M + n = L) : lval lu = lseg lu 0 n := by
  obtain ⟨a1, a2, a3, a4, a5, a6, a7, a8⟩ := h
  rw [Nat.sub_self] at a6
  have ez : ∀ k, n + k ≤ L → lseg lu n k = 0 := by
    intro k
    induction k with
    | zero => intro _; exact lseg_zero _ _
    | succ k ih => intro hk; rw [lseg_succ (by omega), ih (by omega), a6 (n + k) (by omega), Int.mul_zero]; rfl
  have e := lseg_add (l := lu) (o := 0) (k := n) (m := M) (by omega)
  rw [Nat.zero_add, ez M (by omega), Int.mul_zero, Int.add_zero, lseg_all, List.take_of_length_le (by omega)] at e
  exact e
end Go.Proofs.YtogpephnkkofjaaGreatDoor
