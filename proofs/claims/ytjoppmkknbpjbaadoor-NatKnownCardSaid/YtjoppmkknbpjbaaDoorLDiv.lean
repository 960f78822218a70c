/- The long division's arithmetic, said of limbs; a guessed digit of the document's. Written by tools/gen_ldiv.py. -/
import Derived.Test.YtjoppmkknbpjbaaDoorRefNum
import Derived.Test.YtjoppmkknbpjbaaDoorDivMath
namespace Go.Proofs.YtjoppmkknbpjbaaDoor
open Go.RowKit
set_option linter.unusedVariables false

theorem lseg_cons {l : List Int} {o k : Nat} (h : o + 1 + k ≤ l.length) : lseg l o (k + 1) = l.getD o 0 + 4294967296 * lseg l (o + 1) k := by
  rw [Nat.add_comm k 1, lseg_add (by omega), lseg_succ (by omega), lseg_zero]
  simp [lpw]
/-- Behind k rounds: the quotient's words from place M - k on, what is left below V B^(M-k). -/
def LDivsAt (X V : Int) (n L M k : Nat) (lu lq : List Int) : Prop :=
  lu.length = L ∧ Limbs lu ∧ lq.length = M ∧ Limbs lq ∧ (∀ j, j < M - k → lq.getD j 0 = 0) ∧ (∀ j, M - k + n ≤ j → lu.getD j 0 = 0) ∧ lseg lu (M - k) n < V ∧ lseg lu 0 L + V * (lpw (M - k) * lseg lq (M - k) k) = X
theorem lseg_three {l : List Int} {i m k L : Nat} (h : i + m + k = L) (hl : l.length = L) : lseg l 0 L = lseg l 0 i + lpw i * lseg l i m + lpw (i + m) * lseg l (i + m) k := by
  have e1 := lseg_add (l := l) (o := 0) (k := i + m) (m := k) (by omega)
  have e2 := lseg_add (l := l) (o := 0) (k := i) (m := m) (by omega)
  rw [Nat.zero_add] at e1 e2
  rw [h] at e1
  omega
theorem LDivsAt.step {X V q : Int} {n L M k : Nat} {lu lq lu' : List Int} (h : LDivsAt X V n L M k lu lq) (hk : k < M) (hL : M + n = L) (hlen : lu'.length = L) (hw : Limbs lu') (hout : ∀ j, j < M - 1 - k ∨ M - 1 - k + (n + 1) ≤ j → lu'.getD j 0 = lu.getD j 0)
    (hv : lseg lu' (M - 1 - k) (n + 1) = lseg lu (M - 1 - k) (n + 1) - q * V) (hlt : lseg lu' (M - 1 - k) (n + 1) < V) (hq : Limb q) (hV : V < lpw n) : LDivsAt X V n L M (k + 1) lu' (lq.set (M - 1 - k) q) := by
  obtain ⟨a1, a2, a3, a4, a5, a6, a7, a8⟩ := h
  obtain ⟨i, hi⟩ : ∃ i, M - 1 - k = i := ⟨_, rfl⟩
  rw [hi] at hout hv hlt ⊢
  have hi1 : M - k = i + 1 := by omega
  have hi2 : M - (k + 1) = i := by omega
  rw [hi1] at a5 a6 a7 a8
  rw [show LDivsAt X V n L M (k + 1) lu' (lq.set i q) = (lu'.length = L ∧ Limbs lu' ∧ (lq.set i q).length = M ∧ Limbs (lq.set i q) ∧ (∀ j, j < M - (k + 1) → (lq.set i q).getD j 0 = 0) ∧ (∀ j, M - (k + 1) + n ≤ j → lu'.getD j 0 = 0) ∧ lseg lu' (M - (k + 1)) n < V ∧ lseg lu' 0 L + V * (lpw (M - (k + 1)) * lseg (lq.set i q) (M - (k + 1)) (k + 1)) = X) from rfl, hi2]
  have hs := lseg_succ (l := lu') (o := i) (k := n) (by omega)
  have hb := lseg_bd hw i n (by omega)
  have wt := hw.getD (i + n)
  have hp := lpw_pos n
  have htop : lu'.getD (i + n) 0 = 0 := by
    by_cases h : lu'.getD (i + n) 0 = 0
    · exact h
    · have : lpw n * 1 ≤ lpw n * lu'.getD (i + n) 0 := Int.mul_le_mul_of_nonneg_left (by unfold Limb at wt; omega) (by omega)
      omega
  rw [htop, Int.mul_zero, Int.add_zero] at hs
  refine ⟨hlen, hw, by simp [a3], a4.set _ hq, ?_, ?_, by omega, ?_⟩
  · intro j hj
    rw [getD_set _ _ _ _ (by omega), if_neg (by omega)]
    exact a5 j (by omega)
  · intro j hj
    by_cases e : j = i + n
    · rw [e]; exact htop
    · rw [hout j (by omega)]
      exact a6 j (by omega)
  · rw [lseg_three (l := lu) (i := i) (m := n + 1) (k := k) (by omega) a1] at a8
    rw [lseg_three (l := lu') (i := i) (m := n + 1) (k := k) (by omega) hlen,
      lseg_congr (l := lu') (l' := lu) (o := 0) (k := i) (by omega) (by omega) (fun j _ h2 => hout j (by omega)),
      lseg_congr (l := lu') (l' := lu) (o := i + (n + 1)) (k := k) (by omega) (by omega) (fun j h1 _ => hout j (by omega)),
      lseg_cons (l := lq.set i q) (by simp; omega), getD_set _ _ _ _ (by omega), if_pos rfl,
      lseg_congr (l := lq.set i q) (l' := lq) (o := i + 1) (k := k) (by simp; omega) (by omega) (fun j h1 h2 => by rw [getD_set _ _ _ _ (by omega), if_neg (by omega)])]
    exact lin_divs hv rfl a8
/-- The words of a round's part, as the guess takes them. -/
theorem part_limbs {l : List Int} {i n : Nat} (hn : 2 ≤ n) (h : i + n + 1 ≤ l.length) : lseg l i (n + 1) = lseg l i (n - 2) + lpw (n - 2) * ((l.getD (i + n) 0 * 4294967296 + l.getD (i + (n - 1)) 0) * 4294967296 + l.getD (i + (n - 2)) 0) := by
  obtain ⟨m, rfl⟩ : ∃ m, n = m + 2 := ⟨n - 2, by omega⟩
  rw [Nat.add_sub_cancel, show m + 2 - 1 = m + 1 by omega, show m + 2 + 1 = m + 1 + 1 + 1 by omega, lseg_succ (by omega), lseg_succ (by omega), lseg_succ (by omega)]
  simp only [lpw, Int.mul_add]
  have e1 : 4294967296 * lpw m * l.getD (i + (m + 1)) 0 = lpw m * (l.getD (i + (m + 1)) 0 * 4294967296) := by
    rw [Int.mul_comm 4294967296 (lpw m), Int.mul_assoc, Int.mul_comm 4294967296 (l.getD (i + (m + 1)) 0)]
  have e2 : 4294967296 * (4294967296 * lpw m) * l.getD (i + (m + 1 + 1)) 0 = lpw m * (l.getD (i + (m + 2)) 0 * 4294967296 * 4294967296) := by
    rw [Int.mul_left_comm, Int.mul_comm 4294967296 (4294967296 * lpw m), Int.mul_comm 4294967296 (lpw m)]
    simp only [Int.mul_assoc, Int.mul_comm, Int.mul_left_comm]
  rw [e1]
  have e3 : (l.getD (i + (m + 2)) 0 * 4294967296 + l.getD (i + (m + 1)) 0) * 4294967296 = l.getD (i + (m + 2)) 0 * 4294967296 * 4294967296 + l.getD (i + (m + 1)) 0 * 4294967296 := by rw [Int.add_mul]
  rw [e3, Int.mul_add]
  simp only [Nat.add_assoc, Nat.reduceAdd] at e2 ⊢
  generalize lpw m * (l.getD (i + (m + 2)) 0 * 4294967296 * 4294967296) = a at *
  omega
theorem two_limbs {l : List Int} {n : Nat} (hn : 2 ≤ n) (h : n ≤ l.length) : lseg l 0 n = lseg l 0 (n - 2) + lpw (n - 2) * (l.getD (n - 1) 0 * 4294967296 + l.getD (n - 2) 0) := by
  obtain ⟨m, rfl⟩ : ∃ m, n = m + 2 := ⟨n - 2, by omega⟩
  rw [Nat.add_sub_cancel, show m + 2 - 1 = m + 1 by omega, show m + 2 = m + 1 + 1 by omega, lseg_succ (by omega), lseg_succ (by omega), Nat.zero_add, Nat.zero_add]
  simp only [lpw, Int.mul_add]
  have e1 : 4294967296 * lpw m * l.getD (m + 1) 0 = lpw m * (l.getD (m + 1) 0 * 4294967296) := by
    rw [Int.mul_comm 4294967296 (lpw m), Int.mul_assoc, Int.mul_comm 4294967296 (l.getD (m + 1) 0)]
  rw [e1]; omega
/-- The division's end. -/
theorem ldivs_end {lu lq : List Int} {n xl M S : Nat} {x y : Int} (h : LDivsAt (x * 2 ^ S) (y * 2 ^ S) n (xl + 1) M M lu lq) (hn : n ≤ xl + 1) : x / y = lseg lq 0 M ∧ x % y = lseg lu 0 n / 2 ^ S := by
  obtain ⟨a1, a2, a3, a4, a5, a6, a7, a8⟩ := h
  rw [Nat.sub_self] at a6 a7 a8
  simp only [lpw, Int.one_mul] at a8
  have e := lseg_add (l := lu) (o := 0) (k := n) (m := xl + 1 - n) (by omega)
  rw [show n + (xl + 1 - n) = xl + 1 by omega, Nat.zero_add] at e
  have ez : ∀ k, n + k ≤ xl + 1 → lseg lu n k = 0 := by
    intro k
    induction k with
    | zero => intro _; exact lseg_zero _ _
    | succ k ih => intro hk; rw [lseg_succ (by omega), ih (by omega), a6 (n + k) (by omega), Int.mul_zero]; rfl
  rw [ez _ (by omega), Int.mul_zero, Int.add_zero] at e
  rw [e] at a8
  have b1 := (lseg_bd a2 0 n (by omega)).1
  have p2 : (0 : Int) < 2 ^ S := Int.pow_pos (by decide)
  have e2 : (x - lseg lq 0 M * y) * 2 ^ S = lseg lu 0 n := by
    have e3 : y * 2 ^ S * lseg lq 0 M = lseg lq 0 M * y * 2 ^ S := by rw [Int.mul_right_comm, Int.mul_comm y]
    rw [Int.sub_mul]
    omega
  obtain ⟨r, hr⟩ : ∃ r, x - lseg lq 0 M * y = r := ⟨_, rfl⟩
  rw [hr] at e2
  have r0 : 0 ≤ r := by
    by_cases h : 0 ≤ r
    · exact h
    · have : r * 2 ^ S ≤ (-1) * 2 ^ S := Int.mul_le_mul_of_nonneg_right (by omega) (by omega)
      omega
  have r1 : r < y := by
    by_cases h : r < y
    · exact h
    · have : y * 2 ^ S ≤ r * 2 ^ S := Int.mul_le_mul_of_nonneg_right (by omega) (by omega)
      omega
  have hd := half_div (U := x) (Y := y) (q := lseg lq 0 M) (by omega) (by omega)
  refine ⟨hd.1, ?_⟩
  rw [← e2, Int.mul_ediv_cancel _ (by omega), hd.2, hr]
/-- What is known where a digit is guessed: U by V, of their highest limbs. -/
structure Lead (U V P ul vl u2 u1 u0 v1 v0 : Int) : Prop where
  hP : 0 < P
  ul0 : 0 ≤ ul
  ul1 : ul < P
  vl0 : 0 ≤ vl
  vl1 : vl < P
  l2 : Limb u2
  l1 : Limb u1
  l0 : Limb u0
  m1 : Limb v1
  m0 : Limb v0
  norm : 2147483648 ≤ v1
  hU : U = ul + P * ((u2 * 4294967296 + u1) * 4294967296 + u0)
  hV : V = vl + P * (v1 * 4294967296 + v0)
  hlt : U < 4294967296 * V
/-- Within the loop: the digit g, and what is left of the upper two, r. -/
structure LGuess (U V u2 u1 v1 g r : Int) : Prop where
  g0 : 0 ≤ g
  r0 : 0 ≤ r
  two : u2 * 4294967296 + u1 = g * v1 + r
  up : U < g * V + V
theorem Lead.u2_le {U V P ul vl u2 u1 u0 v1 v0 : Int} (h : Lead U V P ul vl u2 u1 u0 v1 v0) : u2 ≤ v1 := by
  obtain ⟨hP, ul0, ul1, vl0, vl1, ⟨a, b⟩, ⟨c, d⟩, ⟨e, f⟩, ⟨g, i⟩, ⟨j, k⟩, norm, hU, hV, hlt⟩ := h
  apply Int.le_of_not_gt
  intro hc
  have k1 : P * ((v1 + 1) * 4294967296 * 4294967296) ≤ P * ((u2 * 4294967296 + u1) * 4294967296 + u0) := Int.mul_le_mul_of_nonneg_left (by omega) (by omega)
  have k2 : P * (v1 * 4294967296 + v0 + 1) ≤ P * ((v1 + 1) * 4294967296) := Int.mul_le_mul_of_nonneg_left (by omega) (by omega)
  rw [Int.mul_add, Int.mul_one] at k2
  rw [← Int.mul_assoc] at k1
  omega
theorem Lead.V_pos {U V P ul vl u2 u1 u0 v1 v0 : Int} (h : Lead U V P ul vl u2 u1 u0 v1 v0) : 0 < V ∧ P * 4294967296 ≤ V := by
  obtain ⟨hP, ul0, ul1, vl0, vl1, ⟨a, b⟩, ⟨c, d⟩, ⟨e, f⟩, ⟨g, i⟩, ⟨j, k⟩, norm, hU, hV, hlt⟩ := h
  have k1 : P * 4294967296 ≤ P * (v1 * 4294967296 + v0) := Int.mul_le_mul_of_nonneg_left (by omega) (by omega)
  omega
theorem Lead.start {U V P ul vl u2 u1 u0 v1 v0 : Int} (h : Lead U V P ul vl u2 u1 u0 v1 v0) : LGuess U V u2 u1 v1 ((u2 * 4294967296 + u1) / v1) ((u2 * 4294967296 + u1) % v1) ∧ (u2 * 4294967296 + u1) / v1 ≤ 4294967297 ∧ (u2 * 4294967296 + u1) % v1 < 4294967296 := by
  have hu := h.u2_le
  obtain ⟨hP, ul0, ul1, vl0, vl1, ⟨a, b⟩, ⟨c, d⟩, ⟨e, f⟩, ⟨g, i⟩, ⟨j, k⟩, norm, hU, hV, hlt⟩ := h
  have e1 := Int.mul_ediv_add_emod (u2 * 4294967296 + u1) v1
  have e2 := Int.emod_nonneg (u2 * 4294967296 + u1) (show v1 ≠ 0 by omega)
  have e3 := Int.emod_lt_of_pos (u2 * 4294967296 + u1) (show 0 < v1 by omega)
  have e4 : 0 ≤ (u2 * 4294967296 + u1) / v1 := Int.ediv_nonneg (by omega) (by omega)
  have e5 : (u2 * 4294967296 + u1) / v1 < 4294967298 := by
    refine (Int.ediv_lt_iff_lt_mul (by omega)).2 ?_
    omega
  rw [Int.mul_comm] at e1
  generalize (u2 * 4294967296 + u1) / v1 = q at *
  generalize (u2 * 4294967296 + u1) % v1 = r at *
  refine ⟨⟨e4, e2, e1.symm, ?_⟩, by omega, by omega⟩
  have k1 : P * ((u2 * 4294967296 + u1) * 4294967296 + u0 + 1) ≤ P * ((q + 1) * (v1 * 4294967296)) := by
    refine Int.mul_le_mul_of_nonneg_left ?_ (by omega)
    have : (q + 1) * (v1 * 4294967296) = (q * v1 + v1) * 4294967296 := by rw [← Int.mul_assoc, Int.add_mul, Int.one_mul]
    omega
  have k2 : (q + 1) * (P * (v1 * 4294967296)) ≤ (q + 1) * V := by
    refine Int.mul_le_mul_of_nonneg_left ?_ (by omega)
    have : P * (v1 * 4294967296) ≤ P * (v1 * 4294967296 + v0) := Int.mul_le_mul_of_nonneg_left (by omega) (by omega)
    omega
  rw [Int.mul_add, Int.mul_one] at k1
  rw [Int.mul_left_comm] at k1
  have e6 : (q + 1) * V = q * V + V := by rw [Int.add_mul, Int.one_mul]
  omega
/-- One less is still not too little, where the digit is seen to be too great. -/
theorem LGuess.step {U V P ul vl u2 u1 u0 v1 v0 g r : Int} (h : LGuess U V u2 u1 v1 g r) (H : Lead U V P ul vl u2 u1 u0 v1 v0) (hc : 4294967296 ≤ g ∨ r * 4294967296 + u0 < g * v0) : 1 ≤ g ∧ LGuess U V u2 u1 v1 (g - 1) (r + v1) := by
  obtain ⟨g0, r0, two, up⟩ := h
  have hV0 := H.V_pos
  obtain ⟨hP, ul0, ul1, vl0, vl1, ⟨a, b⟩, ⟨c, d⟩, ⟨e, f⟩, ⟨i, j⟩, ⟨k, l⟩, norm, hU, hV, hlt⟩ := H
  have hg : 1 ≤ g := by
    rcases hc with hc | hc
    · omega
    · by_cases hz : 1 ≤ g
      · exact hz
      · obtain rfl : g = 0 := by omega
        rw [Int.zero_mul] at hc
        omega
  have hup : U < g * V := by
    rcases hc with hc | hc
    · have : 4294967296 * V ≤ g * V := Int.mul_le_mul_of_nonneg_right hc (by omega)
      omega
    · have k1 : P * ((u2 * 4294967296 + u1) * 4294967296 + u0 + 1) ≤ P * (g * (v1 * 4294967296 + v0)) := by
        refine Int.mul_le_mul_of_nonneg_left ?_ (by omega)
        rw [Int.mul_add, ← Int.mul_assoc, two, Int.add_mul]
        omega
      have k2 : g * (P * (v1 * 4294967296 + v0)) ≤ g * V := Int.mul_le_mul_of_nonneg_left (by omega) (by omega)
      rw [Int.mul_add, Int.mul_one, Int.mul_left_comm] at k1
      omega
  refine ⟨hg, by omega, by omega, ?_, ?_⟩
  · rw [Int.sub_mul, Int.one_mul]; omega
  · rw [Int.sub_mul, Int.one_mul]; omega
/-- The digit is right, or one too great. -/
theorem LGuess.done {U V P ul vl u2 u1 u0 v1 v0 g r : Int} (h : LGuess U V u2 u1 v1 g r) (H : Lead U V P ul vl u2 u1 u0 v1 v0) (hc : 4294967296 ≤ r ∨ (g < 4294967296 ∧ g * v0 ≤ r * 4294967296 + u0)) : Limb g ∧ g * V ≤ U + V ∧ U < g * V + V := by
  obtain ⟨g0, r0, two, up⟩ := h
  have hu := H.u2_le
  have hV0 := H.V_pos
  obtain ⟨hP, ul0, ul1, vl0, vl1, ⟨a, b⟩, ⟨c, d⟩, ⟨e, f⟩, ⟨i, j⟩, ⟨k, l⟩, norm, hU, hV, hlt⟩ := H
  have hg : g < 4294967296 := by
    rcases hc with hc | hc
    · apply Int.lt_of_not_ge
      intro hz
      have : 4294967296 * v1 ≤ g * v1 := Int.mul_le_mul_of_nonneg_right hz (by omega)
      omega
    · exact hc.1
  have hg0 : g * v0 ≤ r * 4294967296 + u0 := by
    rcases hc with hc | hc
    · have k1 : g * v0 ≤ g * 4294967295 := Int.mul_le_mul_of_nonneg_left (by omega) g0
      omega
    · exact hc.2
  refine ⟨⟨g0, hg⟩, ?_, up⟩
  have k1 : P * (g * (v1 * 4294967296 + v0)) ≤ P * ((u2 * 4294967296 + u1) * 4294967296 + u0) := by
    refine Int.mul_le_mul_of_nonneg_left ?_ (by omega)
    rw [Int.mul_add, ← Int.mul_assoc, two, Int.add_mul]
    omega
  have k2 : g * vl ≤ g * P := Int.mul_le_mul_of_nonneg_left (by omega) g0
  have k3 : P * g ≤ P * 4294967296 := Int.mul_le_mul_of_nonneg_left (by omega) (by omega)
  have e1 : g * V = g * vl + P * (g * (v1 * 4294967296 + v0)) := by rw [hV, Int.mul_add, Int.mul_left_comm]
  rw [Int.mul_comm g P] at k2
  omega
end Go.Proofs.YtjoppmkknbpjbaaDoor
