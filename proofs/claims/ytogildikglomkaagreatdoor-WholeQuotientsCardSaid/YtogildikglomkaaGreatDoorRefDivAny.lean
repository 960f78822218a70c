/- The long division's arithmetic, said of limbs; a guessed digit of the document's. Written by tools/gen_ldiv.py. Contract of the document's one: a number divided by one limb. What the document's long division wants beside: its beginning, its inner loops. Contract of the document's NatDiv: the long division, limb by limb. Contract of the document's NatDiv, whatever the numbers. -/
import Derived.Test.YtogildikglomkaaGreatDoorRefNum
import Derived.Test.YtogildikglomkaaGreatDoorDivMath
import Derived.Test.YtogildikglomkaaGreatDoorRefPow
import Derived.Deep.LoopGhost
import Derived.BigQuiet
import Derived.Deep.CutBlock
import Derived.Deep.DeepCutAuto
namespace Go.Proofs.YtogildikglomkaaGreatDoor
open Go.RowKit
set_option linter.unusedVariables false

theorem lseg_cons {l : List Int} {o k : Nat} (h : o + 1 + k ≤ l.length) : lseg l o (k + 1) = l.getD o 0 + 4294967296 * lseg l (o + 1) k := by
  rw [Nat.add_comm k 1, lseg_add (by omega), lseg_succ (by omega), lseg_zero]
  simp [lpw]
/-- Behind k rounds: the quotient's words from place M - k on, what is left below V B^(M-k). -/
def LDivsAt (X V : Int) (n L M k : Nat) (lu lq : List Int) : Prop :=
  lu.length = L ∧ Limbs lu ∧ lq.length = M ∧ Limbs lq ∧ (∀ j, j < M - k → lq.getD j 0 = 0) ∧ (∀ j, M - k + n ≤ j → lu.getD j 0 = 0) ∧ lseg lu (M - k) n < V ∧ lseg lu 0 L + V * (lpw (M - k) * lseg lq (M - k) k) = X
theorem lseg_three {l : List Int} {i m k L : Nat} (h : i + m + k = L) (hl : l.length = L) : lseg l 0 L = lseg l 0 i + lpw i * lseg l i m + lpw (i + m) * lseg l (i + m) k := by
  have e1 := lseg_add (l := l) (o := 0) (k := i + m) (m := k) (by omega)
  have e2 := lseg_add (l := l) (o := 0) (k := i) (m := m) (by omega)
  rw [Nat.zero_add] at e1 e2
  rw [h] at e1
  omega
theorem LDivsAt.step {X V q : Int} {n L M k : Nat} {lu lq lu' : List Int} (h : LDivsAt X V n L M k lu lq) (hk : k < M) (hL : M + n = L) (hlen : lu'.length = L) (hw : Limbs lu') (hout : ∀ j, j < M - 1 - k ∨ M - 1 - k + (n + 1) ≤ j → lu'.getD j 0 = lu.getD j 0)
    (hv : lseg lu' (M - 1 - k) (n + 1) = lseg lu (M - 1 - k) (n + 1) - q * V) (hlt : lseg lu' (M - 1 - k) (n + 1) < V) (hq : Limb q) (hV : V < lpw n) : LDivsAt X V n L M (k + 1) lu' (lq.set (M - 1 - k) q) := by
  obtain ⟨a1, a2, a3, a4, a5, a6, a7, a8⟩ := h
  obtain ⟨i, hi⟩ : ∃ i, M - 1 - k = i := ⟨_, rfl⟩
  rw [hi] at hout hv hlt ⊢
  have hi1 : M - k = i + 1 := by omega
  have hi2 : M - (k + 1) = i := by omega
  rw [hi1] at a5 a6 a7 a8
  rw [show LDivsAt X V n L M (k + 1) lu' (lq.set i q) = (lu'.length = L ∧ Limbs lu' ∧ (lq.set i q).length = M ∧ Limbs (lq.set i q) ∧ (∀ j, j < M - (k + 1) → (lq.set i q).getD j 0 = 0) ∧ (∀ j, M - (k + 1) + n ≤ j → lu'.getD j 0 = 0) ∧ lseg lu' (M - (k + 1)) n < V ∧ lseg lu' 0 L + V * (lpw (M - (k + 1)) * lseg (lq.set i q) (M - (k + 1)) (k + 1)) = X) from rfl, hi2]
  have hs := lseg_succ (l := lu') (o := i) (k := n) (by omega)
  have hb := lseg_bd hw i n (by omega)
  have wt := hw.getD (i + n)
  have hp := lpw_pos n
  have htop : lu'.getD (i + n) 0 = 0 := by
    by_cases h : lu'.getD (i + n) 0 = 0
    · exact h
    · have : lpw n * 1 ≤ lpw n * lu'.getD (i + n) 0 := Int.mul_le_mul_of_nonneg_left (by unfold Limb at wt; omega) (by omega)
      omega
  rw [htop, Int.mul_zero, Int.add_zero] at hs
  refine ⟨hlen, hw, by simp [a3], a4.set _ hq, ?_, ?_, by omega, ?_⟩
  · intro j hj
    rw [getD_set _ _ _ _ (by omega), if_neg (by omega)]
    exact a5 j (by omega)
  · intro j hj
    by_cases e : j = i + n
    · rw [e]; exact htop
    · rw [hout j (by omega)]
      exact a6 j (by omega)
  · rw [lseg_three (l := lu) (i := i) (m := n + 1) (k := k) (by omega) a1] at a8
    rw [lseg_three (l := lu') (i := i) (m := n + 1) (k := k) (by omega) hlen,
      lseg_congr (l := lu') (l' := lu) (o := 0) (k := i) (by omega) (by omega) (fun j _ h2 => hout j (by omega)),
      lseg_congr (l := lu') (l' := lu) (o := i + (n + 1)) (k := k) (by omega) (by omega) (fun j h1 _ => hout j (by omega)),
      lseg_cons (l := lq.set i q) (by simp; omega), getD_set _ _ _ _ (by omega), if_pos rfl,
      lseg_congr (l := lq.set i q) (l' := lq) (o := i + 1) (k := k) (by simp; omega) (by omega) (fun j h1 h2 => by rw [getD_set _ _ _ _ (by omega), if_neg (by omega)])]
    exact lin_divs hv rfl a8
/-- The words of a round's part, as the guess takes them. -/
theorem part_limbs {l : List Int} {i n : Nat} (hn : 2 ≤ n) (h : i + n + 1 ≤ l.length) : lseg l i (n + 1) = lseg l i (n - 2) + lpw (n - 2) * ((l.getD (i + n) 0 * 4294967296 + l.getD (i + (n - 1)) 0) * 4294967296 + l.getD (i + (n - 2)) 0) := by
  obtain ⟨m, rfl⟩ : ∃ m, n = m + 2 := ⟨n - 2, by omega⟩
  rw [Nat.add_sub_cancel, show m + 2 - 1 = m + 1 by omega, show m + 2 + 1 = m + 1 + 1 + 1 by omega, lseg_succ (by omega), lseg_succ (by omega), lseg_succ (by omega)]
  simp only [lpw, Int.mul_add]
  have e1 : 4294967296 * lpw m * l.getD (i + (m + 1)) 0 = lpw m * (l.getD (i + (m + 1)) 0 * 4294967296) := by
    rw [Int.mul_comm 4294967296 (lpw m), Int.mul_assoc, Int.mul_comm 4294967296 (l.getD (i + (m + 1)) 0)]
  have e2 : 4294967296 * (4294967296 * lpw m) * l.getD (i + (m + 1 + 1)) 0 = lpw m * (l.getD (i + (m + 2)) 0 * 4294967296 * 4294967296) := by
    rw [Int.mul_left_comm, Int.mul_comm 4294967296 (4294967296 * lpw m), Int.mul_comm 4294967296 (lpw m)]
    simp only [Int.mul_assoc, Int.mul_comm, Int.mul_left_comm]
  rw [e1]
  have e3 : (l.getD (i + (m + 2)) 0 * 4294967296 + l.getD (i + (m + 1)) 0) * 4294967296 = l.getD (i + (m + 2)) 0 * 4294967296 * 4294967296 + l.getD (i + (m + 1)) 0 * 4294967296 := by rw [Int.add_mul]
  rw [e3, Int.mul_add]
  simp only [Nat.add_assoc, Nat.reduceAdd] at e2 ⊢
  generalize lpw m * (l.getD (i + (m + 2)) 0 * 4294967296 * 4294967296) = a at *
  omega
theorem two_limbs {l : List Int} {n : Nat} (hn : 2 ≤ n) (h : n ≤ l.length) : lseg l 0 n = lseg l 0 (n - 2) + lpw (n - 2) * (l.getD (n - 1) 0 * 4294967296 + l.getD (n - 2) 0) := by
  obtain ⟨m, rfl⟩ : ∃ m, n = m + 2 := ⟨n - 2, by omega⟩
  rw [Nat.add_sub_cancel, show m + 2 - 1 = m + 1 by omega, show m + 2 = m + 1 + 1 by omega, lseg_succ (by omega), lseg_succ (by omega), Nat.zero_add, Nat.zero_add]
  simp only [lpw, Int.mul_add]
  have e1 : 4294967296 * lpw m * l.getD (m + 1) 0 = lpw m * (l.getD (m + 1) 0 * 4294967296) := by
    rw [Int.mul_comm 4294967296 (lpw m), Int.mul_assoc, Int.mul_comm 4294967296 (l.getD (m + 1) 0)]
  rw [e1]; omega
/-- The division's end. -/
theorem ldivs_end {lu lq : List Int} {n xl M S : Nat} {x y : Int} (h : LDivsAt (x * 2 ^ S) (y * 2 ^ S) n (xl + 1) M M lu lq) (hn : n ≤ xl + 1) : x / y = lseg lq 0 M ∧ x % y = lseg lu 0 n / 2 ^ S := by
  obtain ⟨a1, a2, a3, a4, a5, a6, a7, a8⟩ := h
  rw [Nat.sub_self] at a6 a7 a8
  simp only [lpw, Int.one_mul] at a8
  have e := lseg_add (l := lu) (o := 0) (k := n) (m := xl + 1 - n) (by omega)
  rw [show n + (xl + 1 - n) = xl + 1 by omega, Nat.zero_add] at e
  have ez : ∀ k, n + k ≤ xl + 1 → lseg lu n k = 0 := by
    intro k
    induction k with
    | zero => intro _; exact lseg_zero _ _
    | succ k ih => intro hk; rw [lseg_succ (by omega), ih (by omega), a6 (n + k) (by omega), Int.mul_zero]; rfl
  rw [ez _ (by omega), Int.mul_zero, Int.add_zero] at e
  rw [e] at a8
  have b1 := (lseg_bd a2 0 n (by omega)).1
  have p2 : (0 : Int) < 2 ^ S := Int.pow_pos (by decide)
  have e2 : (x - lseg lq 0 M * y) * 2 ^ S = lseg lu 0 n := by
    have e3 : y * 2 ^ S * lseg lq 0 M = lseg lq 0 M * y * 2 ^ S := by rw [Int.mul_right_comm, Int.mul_comm y]
    rw [Int.sub_mul]
    omega
  obtain ⟨r, hr⟩ : ∃ r, x - lseg lq 0 M * y = r := ⟨_, rfl⟩
  rw [hr] at e2
  have r0 : 0 ≤ r := by
    by_cases h : 0 ≤ r
    · exact h
    · have : r * 2 ^ S ≤ (-1) * 2 ^ S := Int.mul_le_mul_of_nonneg_right (by omega) (by omega)
      omega
  have r1 : r < y := by
    by_cases h : r < y
    · exact h
    · have : y * 2 ^ S ≤ r * 2 ^ S := Int.mul_le_mul_of_nonneg_right (by omega) (by omega)
      omega
  have hd := half_div (U := x) (Y := y) (q := lseg lq 0 M) (by omega) (by omega)
  refine ⟨hd.1, ?_⟩
  rw [← e2, Int.mul_ediv_cancel _ (by omega), hd.2, hr]
/-- What is known where a digit is guessed: U by V, of their highest limbs. -/
structure Lead (U V P ul vl u2 u1 u0 v1 v0 : Int) : Prop where
  hP : 0 < P
  ul0 : 0 ≤ ul
  ul1 : ul < P
  vl0 : 0 ≤ vl
  vl1 : vl < P
  l2 : Limb u2
  l1 : Limb u1
  l0 : Limb u0
  m1 : Limb v1
  m0 : Limb v0
  norm : 2147483648 ≤ v1
  hU : U = ul + P * ((u2 * 4294967296 + u1) * 4294967296 + u0)
  hV : V = vl + P * (v1 * 4294967296 + v0)
  hlt : U < 4294967296 * V
/-- Within the loop: the digit g, and what is left of the upper two, r. -/
structure LGuess (U V u2 u1 v1 g r : Int) : Prop where
  g0 : 0 ≤ g
  r0 : 0 ≤ r
  two : u2 * 4294967296 + u1 = g * v1 + r
  up : U < g * V + V
theorem Lead.u2_le {U V P ul vl u2 u1 u0 v1 v0 : Int} (h : Lead U V P ul vl u2 u1 u0 v1 v0) : u2 ≤ v1 := by
  obtain ⟨hP, ul0, ul1, vl0, vl1, ⟨a, b⟩, ⟨c, d⟩, ⟨e, f⟩, ⟨g, i⟩, ⟨j, k⟩, norm, hU, hV, hlt⟩ := h
  apply Int.le_of_not_gt
  intro hc
  have k1 : P * ((v1 + 1) * 4294967296 * 4294967296) ≤ P * ((u2 * 4294967296 + u1) * 4294967296 + u0) := Int.mul_le_mul_of_nonneg_left (by omega) (by omega)
  have k2 : P * (v1 * 4294967296 + v0 + 1) ≤ P * ((v1 + 1) * 4294967296) := Int.mul_le_mul_of_nonneg_left (by omega) (by omega)
  rw [Int.mul_add, Int.mul_one] at k2
  rw [← Int.mul_assoc] at k1
  omega
theorem Lead.V_pos {U V P ul vl u2 u1 u0 v1 v0 : Int} (h : Lead U V P ul vl u2 u1 u0 v1 v0) : 0 < V ∧ P * 4294967296 ≤ V := by
  obtain ⟨hP, ul0, ul1, vl0, vl1, ⟨a, b⟩, ⟨c, d⟩, ⟨e, f⟩, ⟨g, i⟩, ⟨j, k⟩, norm, hU, hV, hlt⟩ := h
  have k1 : P * 4294967296 ≤ P * (v1 * 4294967296 + v0) := Int.mul_le_mul_of_nonneg_left (by omega) (by omega)
  omega
theorem Lead.start {U V P ul vl u2 u1 u0 v1 v0 : Int} (h : Lead U V P ul vl u2 u1 u0 v1 v0) : LGuess U V u2 u1 v1 ((u2 * 4294967296 + u1) / v1) ((u2 * 4294967296 + u1) % v1) ∧ (u2 * 4294967296 + u1) / v1 ≤ 4294967297 ∧ (u2 * 4294967296 + u1) % v1 < 4294967296 := by
  have hu := h.u2_le
  obtain ⟨hP, ul0, ul1, vl0, vl1, ⟨a, b⟩, ⟨c, d⟩, ⟨e, f⟩, ⟨g, i⟩, ⟨j, k⟩, norm, hU, hV, hlt⟩ := h
  have e1 := Int.mul_ediv_add_emod (u2 * 4294967296 + u1) v1
  have e2 := Int.emod_nonneg (u2 * 4294967296 + u1) (show v1 ≠ 0 by omega)
  have e3 := Int.emod_lt_of_pos (u2 * 4294967296 + u1) (show 0 < v1 by omega)
  have e4 : 0 ≤ (u2 * 4294967296 + u1) / v1 := Int.ediv_nonneg (by omega) (by omega)
  have e5 : (u2 * 4294967296 + u1) / v1 < 4294967298 := by
    refine (Int.ediv_lt_iff_lt_mul (by omega)).2 ?_
    omega
  rw [Int.mul_comm] at e1
  generalize (u2 * 4294967296 + u1) / v1 = q at *
  generalize (u2 * 4294967296 + u1) % v1 = r at *
  refine ⟨⟨e4, e2, e1.symm, ?_⟩, by omega, by omega⟩
  have k1 : P * ((u2 * 4294967296 + u1) * 4294967296 + u0 + 1) ≤ P * ((q + 1) * (v1 * 4294967296)) := by
    refine Int.mul_le_mul_of_nonneg_left ?_ (by omega)
    have : (q + 1) * (v1 * 4294967296) = (q * v1 + v1) * 4294967296 := by rw [← Int.mul_assoc, Int.add_mul, Int.one_mul]
    omega
  have k2 : (q + 1) * (P * (v1 * 4294967296)) ≤ (q + 1) * V := by
    refine Int.mul_le_mul_of_nonneg_left ?_ (by omega)
    have : P * (v1 * 4294967296) ≤ P * (v1 * 4294967296 + v0) := Int.mul_le_mul_of_nonneg_left (by omega) (by omega)
    omega
  rw [Int.mul_add, Int.mul_one] at k1
  rw [Int.mul_left_comm] at k1
  have e6 : (q + 1) * V = q * V + V := by rw [Int.add_mul, Int.one_mul]
  omega
/-- One less is still not too little, where the digit is seen to be too great. -/
theorem LGuess.step {U V P ul vl u2 u1 u0 v1 v0 g r : Int} (h : LGuess U V u2 u1 v1 g r) (H : Lead U V P ul vl u2 u1 u0 v1 v0) (hc : 4294967296 ≤ g ∨ r * 4294967296 + u0 < g * v0) : 1 ≤ g ∧ LGuess U V u2 u1 v1 (g - 1) (r + v1) := by
  obtain ⟨g0, r0, two, up⟩ := h
  have hV0 := H.V_pos
  obtain ⟨hP, ul0, ul1, vl0, vl1, ⟨a, b⟩, ⟨c, d⟩, ⟨e, f⟩, ⟨i, j⟩, ⟨k, l⟩, norm, hU, hV, hlt⟩ := H
  have hg : 1 ≤ g := by
    rcases hc with hc | hc
    · omega
    · by_cases hz : 1 ≤ g
      · exact hz
      · obtain rfl : g = 0 := by omega
        rw [Int.zero_mul] at hc
        omega
  have hup : U < g * V := by
    rcases hc with hc | hc
    · have : 4294967296 * V ≤ g * V := Int.mul_le_mul_of_nonneg_right hc (by omega)
      omega
    · have k1 : P * ((u2 * 4294967296 + u1) * 4294967296 + u0 + 1) ≤ P * (g * (v1 * 4294967296 + v0)) := by
        refine Int.mul_le_mul_of_nonneg_left ?_ (by omega)
        rw [Int.mul_add, ← Int.mul_assoc, two, Int.add_mul]
        omega
      have k2 : g * (P * (v1 * 4294967296 + v0)) ≤ g * V := Int.mul_le_mul_of_nonneg_left (by omega) (by omega)
      rw [Int.mul_add, Int.mul_one, Int.mul_left_comm] at k1
      omega
  refine ⟨hg, by omega, by omega, ?_, ?_⟩
  · rw [Int.sub_mul, Int.one_mul]; omega
  · rw [Int.sub_mul, Int.one_mul]; omega
/-- The digit is right, or one too great. -/
theorem LGuess.done {U V P ul vl u2 u1 u0 v1 v0 g r : Int} (h : LGuess U V u2 u1 v1 g r) (H : Lead U V P ul vl u2 u1 u0 v1 v0) (hc : 4294967296 ≤ r ∨ (g < 4294967296 ∧ g * v0 ≤ r * 4294967296 + u0)) : Limb g ∧ g * V ≤ U + V ∧ U < g * V + V := by
  obtain ⟨g0, r0, two, up⟩ := h
  have hu := H.u2_le
  have hV0 := H.V_pos
  obtain ⟨hP, ul0, ul1, vl0, vl1, ⟨a, b⟩, ⟨c, d⟩, ⟨e, f⟩, ⟨i, j⟩, ⟨k, l⟩, norm, hU, hV, hlt⟩ := H
  have hg : g < 4294967296 := by
    rcases hc with hc | hc
    · apply Int.lt_of_not_ge
      intro hz
      have : 4294967296 * v1 ≤ g * v1 := Int.mul_le_mul_of_nonneg_right hz (by omega)
      omega
    · exact hc.1
  have hg0 : g * v0 ≤ r * 4294967296 + u0 := by
    rcases hc with hc | hc
    · have k1 : g * v0 ≤ g * 4294967295 := Int.mul_le_mul_of_nonneg_left (by omega) g0
      omega
    · exact hc.2
  refine ⟨⟨g0, hg⟩, ?_, up⟩
  have k1 : P * (g * (v1 * 4294967296 + v0)) ≤ P * ((u2 * 4294967296 + u1) * 4294967296 + u0) := by
    refine Int.mul_le_mul_of_nonneg_left ?_ (by omega)
    rw [Int.mul_add, ← Int.mul_assoc, two, Int.add_mul]
    omega
  have k2 : g * vl ≤ g * P := Int.mul_le_mul_of_nonneg_left (by omega) g0
  have k3 : P * g ≤ P * 4294967296 := Int.mul_le_mul_of_nonneg_left (by omega) (by omega)
  have e1 : g * V = g * vl + P * (g * (v1 * 4294967296 + v0)) := by rw [hV, Int.mul_add, Int.mul_left_comm]
  rw [Int.mul_comm g P] at k2
  omega
end Go.Proofs.YtogildikglomkaaGreatDoor

namespace Go.Proofs.YtogildikglomkaaGreatDoor
open Go.RowKit
set_option linter.unusedVariables false

/-- Above limb k: the quotient's limbs, and what is left. -/
def OneAt (A : List Int) (d : Int) (lk : List Int) (k : Nat) (r : Int) : Prop := (0 ≤ r ∧ r < d) ∧ lk.length = A.length ∧ Limbs lk ∧ lseg lk k (A.length - k) * d + r = lseg A k (A.length - k)
theorem OneAt.step {A : List Int} {d : Int} {lk : List Int} {j : Nat} {r : Int} (h : OneAt A d lk (j + 1) r) (hj : j < A.length) (hA : Limbs A) (hd : Limb d) :
    OneAt A d (lk.set j ((r * 4294967296 + A.getD j 0) / d)) j ((r * 4294967296 + A.getD j 0) % d) ∧ Limb ((r * 4294967296 + A.getD j 0) / d) := by
  obtain ⟨⟨r0, r1⟩, hl, hw, hv⟩ := h
  have hx := hA.getD j
  unfold Limb at hd hx
  have e1 := Int.mul_ediv_add_emod (r * 4294967296 + A.getD j 0) d
  have e2 := Int.emod_nonneg (r * 4294967296 + A.getD j 0) (show d ≠ 0 by omega)
  have e3 := Int.emod_lt_of_pos (r * 4294967296 + A.getD j 0) (show 0 < d by omega)
  have e4 : 0 ≤ (r * 4294967296 + A.getD j 0) / d := Int.ediv_nonneg (by omega) (by omega)
  have e5 : (r * 4294967296 + A.getD j 0) / d < 4294967296 := (Int.ediv_lt_iff_lt_mul (by omega)).2 (by omega)
  refine ⟨⟨⟨e2, e3⟩, by simp [hl], hw.set _ ⟨e4, e5⟩, ?_⟩, e4, e5⟩
  have hk : A.length - j = (A.length - (j + 1)) + 1 := by omega
  rw [hk, lseg_cons (l := A) (by omega), lseg_cons (l := lk.set j _) (by simp; omega), getD_set _ _ _ _ (by omega), if_pos rfl,
    lseg_congr (l := lk.set j _) (l' := lk) (by simp; omega) (by omega) (fun i h1 h2 => by rw [getD_set _ _ _ _ (by omega), if_neg (by omega)]), ← hv]
  rw [Int.add_mul, Int.mul_assoc 4294967296, Int.mul_comm _ d]
  omega
theorem OneAt.done {A : List Int} {d : Int} {lk : List Int} {r : Int} (h : OneAt A d lk 0 r) (hd : 0 < d) : lval lk = lval A / d ∧ r = lval A % d := by
  obtain ⟨⟨r0, r1⟩, hl, hw, hv⟩ := h
  rw [Nat.sub_zero, lseg_all, lseg_all, List.take_of_length_le (by omega), List.take_of_length_le (by omega)] at hv
  have := half_div (U := lval A) (Y := d) (q := lval lk) (by omega) (by omega)
  exact ⟨this.1.symm, by omega⟩
theorem or_high {r x : Int} (h0 : 0 ≤ r) (h1 : r < 4294967296) (hx : Limb x) : bits .or .u64 (r * 4294967296) x = r * 4294967296 + x := by
  have e : (2 : Int) ^ 32 = 4294967296 := by decide
  unfold Limb at hx
  have := or_shift (a := r) (c := x) (S := 32) h0 (by omega) (by rw [e]; omega) hx.1 (by rw [e]; omega)
  rw [e] at this
  exact this

/-- What one answers. -/
def RetOneLimb (n d : Int) (w : World) (e : Ending) (w' : World) : Prop := ∃ s, e = .returned (.tuple #[s, .int .u32 (n % d)]) ∧ IsNum w' s (n / d) ∧ Below w.heap.size w w'
set_option maxRecDepth 100000 in
set_option maxHeartbeats 1000000 in
theorem one_any (b t len cap : Nat) (l : List Int) (d : Int) (w : World) (ha : Arr w b t .u32 l) (hl : len ≤ l.length) (hm : len ≤ 4294967296) (hw : Limbs l) (hd : Limb d) (h0 : 0 < d) :
    Calls Tryz.prog 90 #[.slice (some ⟨b, 0, none⟩) len cap, .int .u32 d] w (RetOneLimb (lval (l.take len)) d w) := by
  have hmk := make32 len len rfl (by omega)
  have hAl : (l.take len).length = len := by rw [List.length_take, Nat.min_eq_left hl]
  have wA := hw.take len
  have hz : (d == 0) = false := by simp; omega
  obtain ⟨d0, d1⟩ := hd
  obtain ⟨z0, hz0⟩ : ∃ z0 : Int, (len : Int) - 1 = z0 := ⟨_, rfl⟩
  have Hz0 := Lib.hid hz0
  go_enter Tryz.func90, Tryz.ntmps90
  go_wp2_with fail
  go_loopg [7, 8] len (fun g r i wr => ∃ (k : Nat) (z rv : Int) (lk : List Int), g = k ∧ k ≤ len ∧ z = (k : Int) - 1 ∧ i = .int .i64 z ∧ r = .int .u64 rv ∧ OneAt (l.take len) d lk k rv ∧ Arr wr w.heap.size 101 .u32 lk ∧ Below w.heap.size w wr)
  case atStart => exact ⟨len, z0, 0, List.replicate len 0, rfl, Nat.le_refl _, by omega, rfl, rfl, ⟨⟨Int.le_refl _, h0⟩, by simp [hAl], Limbs.replicate _, by rw [hAl, Nat.sub_self, lseg_zero, lseg_zero]; simp⟩, Arr.zeros w _ _ _ _ rfl, by go_grown⟩
  case round =>
    clear hz0
    obtain ⟨k, z, rv, lk, hg, hk, hz, rfl, rfl, hat, hak, hB⟩ := hrel
    have Hg := Lib.hid hg
    clear hg
    rcases k with _ | j
    · have hzn : z < 0 := by omega
      have hdn := hat.done h0
      have hlk := hat.2.1
      rw [hAl] at hlk
      have tr := ltrim_any w.heap.size 101 len len lk wr hak (Nat.le_refl _) (by omega) (by omega)
      have l1 := trimLen_le lk len
      have l2 := trimLen_last lk len
      have l3 := lval_trim lk len (by omega)
      have e0 : lk.take len = lk := List.take_of_length_le (by omega)
      rw [e0, hdn.1] at l3
      generalize trimLen lk len = m at tr l1 l2 l3
      have hn := isNum_arr hak (len := m) (cap := len) (by omega) (by omega) hat.2.2.1 l2
      rw [l3] at hn
      have Hn := Lib.hid hn
      have Hr := Lib.hid hdn.2
      obtain ⟨r0, r1⟩ := hat.1
      clear hz l2 l3 hn hdn hat hlk hAl e0
      go_wp2_with (go_at_call 59; refine tr.mono ?_; rintro e W1 ⟨rfl, rfl⟩)
      go_ret2
      exact ⟨_, by rw [← Hr.out]; rfl, Hn.out, hB⟩
    · obtain rfl : z = (j : Int) := by omega
      have st := hat.step (by omega) wA ⟨d0, d1⟩
      have hx : (l.take len).getD j 0 = l.getD j 0 := by rw [getD_take, if_pos (by omega)]
      have hcx := (ha.below hB ha.lt).cell j (by omega)
      obtain ⟨x0, x1⟩ := hw.getD j
      rw [hx] at st
      have hco := hak.free j
      have hlk := hat.2.1
      rw [hAl] at hlk
      have hcz := hak.cell j (by omega)
      obtain ⟨r0, r1⟩ := hat.1
      have hor := or_high r0 (by omega) (hw.getD j)
      generalize l.getD j 0 = x at hcx st x0 x1 hor
      generalize lk.getD j 0 = y at hcz
      obtain ⟨T, hT⟩ : ∃ T, rv * 4294967296 + x = T := ⟨_, rfl⟩
      rw [hT] at hor st
      have t0 : 0 ≤ T := by omega
      have t1 : T < 18446744073709551616 := by omega
      obtain ⟨st1, st2, st3⟩ := st
      obtain ⟨Q, hQ⟩ : ∃ Q, T / d = Q := ⟨_, rfl⟩
      rw [hQ] at st1 st2 st3
      have St := Lib.hid st1
      have hjl : (j : Int) < (len : Int) := by omega
      clear hz st1 hat hT hlk hAl hx
      go_wp2_with fail
      go_roundg j
      case measure => have := Hg.out; omega
      case rel => exact ⟨j, _, _, _, rfl, by omega, rfl, rfl, rfl, St.out, hak.set _ _, hB.setCell (p := ⟨w.heap.size, j, none⟩) (Nat.le_refl _) _⟩
theorem one_nil (d : Int) (w : World) (hd : Limb d) (h0 : 0 < d) :
    Calls Tryz.prog 90 #[.slice none 0 0, .int .u32 d] w (RetOneLimb 0 d w) := by
  have hmk := make32 0 0 rfl (by omega)
  go_enter Tryz.func90, Tryz.ntmps90
  go_wp2_with fail
  go_rounds 1
  have ha : Arr (w.alloc (.cells (zeros .u32 0) 101)) w.heap.size 101 .u32 [] := Arr.zeros w _ _ 0 _ rfl
  go_rounds 1
  go_ret2
  have hn := isNum_arr ha (len := 0) (cap := 0) (Nat.le_refl _) (by omega) Limbs.nil (fun h => absurd rfl h)
  exact ⟨_, by simp; rfl, by simpa [lval] using hn, by go_grown⟩
theorem one_num (s : Value) (n d : Int) (w : World) (h : IsNum w s n) (hd : Limb d) (h0 : 0 < d) : Calls Tryz.prog 90 #[s, .int .u32 d] w (RetOneLimb n d w) := by
  obtain ⟨L, h1, h2, rfl⟩ := h
  rcases h1 with ⟨rfl, rfl⟩ | ⟨b, t, len, cap, l, rfl, ha, k1, k2, hw, rfl⟩
  · exact one_nil d w hd h0
  · exact one_any b t len cap l d w ha k1 k2 hw hd h0
end Go.Proofs.YtogildikglomkaaGreatDoor

namespace Go.Proofs.YtogildikglomkaaGreatDoor
open Go.RowKit
set_option linter.unusedVariables false

theorem lnorm {b : Int} {k n S : Nat} (h : IsBits b k) (hk : k ≠ 0) (hn : 1 ≤ n) (hS : k + S = 32 * n) : 2147483648 * lpw (n - 1) ≤ b * 2 ^ S ∧ b * 2 ^ S < lpw n := by
  have p : (0 : Int) < 2 ^ S := Int.pow_pos (by decide)
  constructor
  · have h1 : 2 ^ (k - 1) * 2 ^ S ≤ b * 2 ^ S := Int.mul_le_mul_of_nonneg_right (h.2 hk) (by omega)
    rw [← Int.pow_add] at h1
    have e : (2147483648 : Int) = 2 ^ 31 := by decide
    rw [lpw_two, e, ← Int.pow_add, show 31 + 32 * (n - 1) = k - 1 + S by omega]
    exact h1
  · rw [lpw_two, ← hS, Int.pow_add]
    exact Int.mul_lt_mul_of_pos_right h.1 p
theorem bits_len {L : List Int} {k : Nat} (h : IsBits (lval L) k) (hw : Limbs L) (hz : L ≠ [] → L.getD (L.length - 1) 0 ≠ 0) (hn : 1 ≤ L.length) : 32 * (L.length - 1) < k ∧ k ≤ 32 * L.length := by
  have hne : L ≠ [] := by rintro rfl; simp at hn
  have h1 := lval_low hw hn (Nat.le_refl _) (hz hne)
  rw [List.take_length, lpw_two] at h1
  have h2 := (lval_bd hw).2
  rw [lpw_two] at h2
  constructor
  · apply Nat.lt_of_not_le
    intro hc
    have := two_pow_mono hc
    have := h.1
    omega
  · apply Nat.le_of_not_lt
    intro hc
    have h3 := h.2 (by omega)
    have := two_pow_mono (a := 32 * L.length) (b := k - 1) (by omega)
    omega
/-- A shifted divisor's limbs. -/
theorem norm_limbs {Y : List Int} {n : Nat} (hw : Limbs Y) (hlen : Y.length ≤ n) (hn : 2 ≤ n) (h1 : 2147483648 * lpw (n - 1) ≤ lval Y) (h2 : lval Y < lpw n) : Y.length = n ∧ 2147483648 ≤ Y.getD (n - 1) 0 := by
  have hl : Y.length = n := by
    apply Nat.le_antisymm hlen
    apply Nat.le_of_not_lt
    intro hc
    have := (lval_bd hw).2
    have := lpw_mono (a := Y.length) (b := n - 1) (by omega)
    have := lpw_pos (n - 1)
    omega
  refine ⟨hl, ?_⟩
  obtain ⟨m, rfl⟩ : ∃ m, n = m + 1 := ⟨n - 1, by omega⟩
  rw [Nat.add_sub_cancel] at h1 ⊢
  have e := lval_take_succ (l := Y) (k := m) (by omega)
  rw [List.take_of_length_le (by omega)] at e
  have b := lval_bd (hw.take m)
  rw [List.length_take, Nat.min_eq_left (by omega)] at b
  have p := lpw_pos m
  apply Int.le_of_not_gt
  intro hc
  have : lpw m * (Y.getD m 0 + 1) ≤ lpw m * 2147483648 := Int.mul_le_mul_of_nonneg_left (by omega) (by omega)
  rw [Int.mul_add, Int.mul_one] at this
  omega
/-- The division's beginning. -/
theorem ldivs_start {X V : Int} {A : List Int} {n M : Nat} (hA : Limbs A) (hX : lval A = X) (hM : M + n = A.length + 2) (hn : 2 ≤ n) (hV : lpw (n - 1) ≤ V) :
    LDivsAt X V n (A.length + 2) M 0 (A ++ [0, 0]) (List.replicate M 0) := by
  have hw : Limbs (A ++ [0, 0]) := hA.append (Limbs.cons ⟨by decide, by decide⟩ (Limbs.cons ⟨by decide, by decide⟩ Limbs.nil))
  have hv : lval (A ++ [0, 0]) = X := by rw [lval_append, hX]; simp [lval]
  refine ⟨by simp, hw, by simp, Limbs.replicate _, fun j _ => ?_, fun j hj => getD_none (by simp; omega), ?_, ?_⟩
  · simp only [List.getD_eq_getElem?_getD, List.getElem?_replicate]; split <;> rfl
  · rw [Nat.sub_zero]
    have e := lseg_add (l := A ++ [0, 0]) (o := 0) (k := M) (m := n) (by simp; omega)
    rw [lseg_all, hM, List.take_of_length_le (by simp), hv, Nat.zero_add] at e
    have b1 := (lseg_bd hw 0 M (by simp; omega)).1
    have b2 := (lval_bd hA).2
    rw [hX] at b2
    have k2 : lpw A.length = lpw M * lpw (n - 2) := by rw [← lpw_add]; congr 1; omega
    have hp := lpw_pos M
    have k3 := lpw_mono (a := n - 2) (b := n - 1) (by omega)
    apply Int.lt_of_not_ge
    intro hc
    have : lpw M * lpw (n - 2) ≤ lpw M * lseg (A ++ [0, 0]) M n := Int.mul_le_mul_of_nonneg_left (by omega) (by omega)
    omega
  · rw [lseg_zero, Int.mul_zero, Int.mul_zero, Int.add_zero, lseg_all, List.take_of_length_le (by simp), hv]
/-- What is known of the highest limbs at a round of the division. -/
theorem ldivs_lead {X V : Int} {n L M k : Nat} {lu lq ly : List Int} (h : LDivsAt X V n L M k lu lq) (hk : k < M) (hL : M + n = L) (hn : 2 ≤ n) (hy : Limbs ly) (hly : n ≤ ly.length) (hV : lseg ly 0 n = V) (hnorm : 2147483648 ≤ ly.getD (n - 1) 0) :
    Lead (lseg lu (M - 1 - k) (n + 1)) V (lpw (n - 2)) (lseg lu (M - 1 - k) (n - 2)) (lseg ly 0 (n - 2)) (lu.getD (M - 1 - k + n) 0) (lu.getD (M - 1 - k + (n - 1)) 0) (lu.getD (M - 1 - k + (n - 2)) 0) (ly.getD (n - 1) 0) (ly.getD (n - 2) 0) := by
  obtain ⟨a1, a2, a3, a4, a5, a6, a7, a8⟩ := h
  have b1 := lseg_bd a2 (M - 1 - k) (n - 2) (by omega)
  have b2 := lseg_bd hy 0 (n - 2) (by omega)
  have e := lseg_cons (l := lu) (o := M - 1 - k) (k := n) (by omega)
  rw [show M - 1 - k + 1 = M - k by omega] at e
  have l0 := a2.getD (M - 1 - k)
  unfold Limb at l0
  exact ⟨lpw_pos _, b1.1, b1.2, b2.1, b2.2, a2.getD _, a2.getD _, a2.getD _, hy.getD _, hy.getD _, hnorm, part_limbs hn (by omega), by rw [← hV]; exact two_limbs hn hly, by omega⟩

/-- What has become of lu behind k limbs: g times ly is taken away, c and the borrow w are still to be taken. -/
def TakeL (lu ly lk : List Int) (i k : Nat) (g c w : Int) : Prop :=
  (0 ≤ c ∧ c < 4294967296) ∧ (w = 0 ∨ w = 1) ∧ lk.length = lu.length ∧ Limbs lk ∧ (∀ j, j < i ∨ i + k ≤ j → lk.getD j 0 = lu.getD j 0) ∧ lseg lk i k + g * lseg ly 0 k = lseg lu i k + (c + w) * lpw k
theorem lin_takeL {P B lo hi g y c w x c' S U Y : Int} (h1 : lo + w + (c + g * y - B * c') = x + B * hi) (hv : S + g * Y = U + (c + w) * P) : S + P * lo + g * (Y + P * y) = U + P * x + (c' + hi) * (B * P) := by
  have e1 : P * lo + P * w + (P * c + P * (g * y) - P * (B * c')) = P * x + P * (B * hi) := by
    rw [← Int.mul_add, ← Int.mul_add, ← Int.mul_sub, ← Int.mul_add, h1, Int.mul_add]
  have e2 : (c' + hi) * (B * P) = P * (B * c') + P * (B * hi) := by
    rw [← Int.mul_add, ← Int.mul_add, Int.mul_left_comm, Int.mul_comm (c' + hi) P, Int.mul_left_comm]
  have e3 : (c + w) * P = P * c + P * w := by rw [Int.mul_comm, Int.mul_add]
  have e4 : g * (Y + P * y) = g * Y + P * (g * y) := by rw [Int.mul_add, Int.mul_left_comm]
  omega
theorem mul_limb {g y c : Int} (hg : Limb g) (hy : Limb y) (h0 : 0 ≤ c) (hc : c < 4294967296) : 0 ≤ g * y ∧ g * y ≤ 18446744065119617025 := by
  have h1 : 0 ≤ g * y := Int.mul_nonneg hg.1 hy.1
  have h2 : g * y ≤ 4294967295 * y := Int.mul_le_mul_of_nonneg_right (by have := hg.2; omega) hy.1
  unfold Limb at hy
  omega
theorem TakeL.step {lu ly lk : List Int} {i k : Nat} {g c w : Int} (h : TakeL lu ly lk i k g c w) (hu : Limbs lu) (hy : Limbs ly) (hg : Limb g) (hi : i + k < lu.length) (hk : k < ly.length) :
    TakeL lu ly (lk.set (i + k) ((lu.getD (i + k) 0 - (c + g * ly.getD k 0) % 4294967296 - w) % 18446744073709551616 % 4294967296)) i (k + 1) g ((c + g * ly.getD k 0) / 4294967296) ((lu.getD (i + k) 0 - (c + g * ly.getD k 0) % 4294967296 - w) % 18446744073709551616 / 9223372036854775808) := by
  obtain ⟨⟨c0, c1⟩, hw, hl, hlk, hrest, hv⟩ := h
  have hx := hu.getD (i + k)
  have hm := mul_limb hg (hy.getD k) c0 c1
  have hlow : Limb ((c + g * ly.getD k 0) % 4294967296) := ⟨by omega, by omega⟩
  have lb := less_bit hx hlow hw
  have ll := less_low hx hlow hw
  refine ⟨⟨by omega, by omega⟩, lb, by simp [hl], hlk.set _ ⟨by omega, by omega⟩, ?_, ?_⟩
  · intro j hj
    rw [getD_set _ _ _ _ (by omega), if_neg (by omega)]
    exact hrest j (by omega)
  · have e1 := lseg_succ (l := ly) (o := 0) (k := k) (by omega)
    rw [Nat.zero_add] at e1
    rw [lseg_succ (l := lk.set _ _) (by simp; omega), lseg_succ (l := lu) hi, getD_set _ _ _ _ (by omega), if_pos rfl, e1,
      lseg_congr (l := lk.set (i + k) _) (l' := lk) (by simp; omega) (by omega) (fun j h1 h2 => by rw [getD_set _ _ _ _ (by omega), if_neg (by omega)])]
    exact lin_takeL (by omega) hv
/-- What has become of lk behind k limbs: ly is added, the carry c. -/
def AddL (lk ly lm : List Int) (i k : Nat) (c : Int) : Prop :=
  (c = 0 ∨ c = 1) ∧ lm.length = lk.length ∧ Limbs lm ∧ (∀ j, j < i ∨ i + k ≤ j → lm.getD j 0 = lk.getD j 0) ∧ lseg lm i k + c * lpw k = lseg lk i k + lseg ly 0 k
theorem AddL.step {lk ly lm : List Int} {i k : Nat} {c : Int} (h : AddL lk ly lm i k c) (hu : Limbs lk) (hy : Limbs ly) (hi : i + k < lk.length) (hk : k < ly.length) :
    AddL lk ly (lm.set (i + k) ((c + lk.getD (i + k) 0 + ly.getD k 0) % 4294967296)) i (k + 1) ((c + lk.getD (i + k) 0 + ly.getD k 0) / 4294967296) := by
  obtain ⟨hc, hl, hlm, hrest, hv⟩ := h
  have hx := hu.getD (i + k)
  have hz := hy.getD k
  unfold Limb at hx hz
  refine ⟨by omega, by simp [hl], hlm.set _ ⟨by omega, by omega⟩, ?_, ?_⟩
  · intro j hj
    rw [getD_set _ _ _ _ (by omega), if_neg (by omega)]
    exact hrest j (by omega)
  · have e1 := lseg_succ (l := ly) (o := 0) (k := k) (by omega)
    rw [Nat.zero_add] at e1
    rw [lseg_succ (l := lm.set _ _) (by simp; omega), lseg_succ (l := lk) hi, getD_set _ _ _ _ (by omega), if_pos rfl, e1,
      lseg_congr (l := lm.set (i + k) _) (l' := lm) (by simp; omega) (by omega) (fun j h1 h2 => by rw [getD_set _ _ _ _ (by omega), if_neg (by omega)])]
    exact lin_sum (by omega) hv

/-- What a round leaves: q times V is taken away. -/
def RoundOut (lu lk : List Int) (i n : Nat) (q V : Int) : Prop := lk.length = lu.length ∧ Limbs lk ∧ (∀ j, j < i ∨ i + (n + 1) ≤ j → lk.getD j 0 = lu.getD j 0) ∧ lseg lk i (n + 1) = lseg lu i (n + 1) - q * V ∧ lseg lk i (n + 1) < V ∧ Limb q
/-- Too much was taken: S is what is left in the lower limbs, the highest has gone below 0. -/
def RoundBack (lu lk : List Int) (i n : Nat) (g V : Int) : Prop := 1 ≤ g ∧ lk.length = lu.length ∧ Limbs lk ∧ (∀ j, j < i ∨ i + (n + 1) ≤ j → lk.getD j 0 = lu.getD j 0) ∧ lk.getD (i + n) 0 = 4294967295 ∧ lseg lk i n = lseg lu i (n + 1) - g * V + lpw n ∧ 0 ≤ lseg lu i (n + 1) - g * V + V
theorem TakeL.top {lu ly lk : List Int} {i n : Nat} {g c w V : Int} (h : TakeL lu ly lk i n g c w) (hu : Limbs lu) (hy : Limbs ly) (hg : Limb g) (hi : i + n < lu.length) (hn : n ≤ ly.length) (hV : lseg ly 0 n = V) (h1 : g * V ≤ lseg lu i (n + 1) + V) (h2 : lseg lu i (n + 1) < g * V + V) :
    lk.getD (i + n) 0 = lu.getD (i + n) 0 ∧
    (((lu.getD (i + n) 0 - c - w) % 18446744073709551616 / 9223372036854775808 = 0 ∧ RoundOut lu (lk.set (i + n) ((lu.getD (i + n) 0 - c - w) % 18446744073709551616 % 4294967296)) i n g V) ∨
     ((lu.getD (i + n) 0 - c - w) % 18446744073709551616 / 9223372036854775808 = 1 ∧ RoundBack lu (lk.set (i + n) ((lu.getD (i + n) 0 - c - w) % 18446744073709551616 % 4294967296)) i n g V)) := by
  obtain ⟨⟨c0, c1⟩, hw, hl, hlk, hrest, hv⟩ := h
  have hx := hu.getD (i + n)
  have hVb := lseg_bd hy 0 n (by omega)
  have hSb := lseg_bd hlk i n (by omega)
  have hUs := lseg_succ (l := lu) (o := i) (k := n) hi
  have hUb := lseg_bd hu i (n + 1) (by omega)
  rw [hV] at hv hVb
  have hp := lpw_pos n
  unfold Limb at hx
  obtain ⟨x, hxd⟩ : ∃ x, lu.getD (i + n) 0 = x := ⟨_, rfl⟩
  rw [hxd] at hx hUs
  obtain ⟨e, he⟩ : ∃ e, x - c - w = e := ⟨_, rfl⟩
  -- what is left of all: S + P e
  have key : lseg lu i (n + 1) - g * V = lseg lk i n + lpw n * e := by
    have e1 : lpw n * e = lpw n * x - lpw n * c - lpw n * w := by rw [← he, Int.mul_sub, Int.mul_sub]
    have e2 : (c + w) * lpw n = lpw n * c + lpw n * w := by rw [Int.mul_comm, Int.mul_add]
    omega
  have hlen2 : ∀ z, (lk.set (i + n) z).length = lu.length := fun z => by simp [hl]
  have hrest2 : ∀ z j, j < i ∨ i + (n + 1) ≤ j → (lk.set (i + n) z).getD j 0 = lu.getD j 0 := fun z j hj => by
    rw [getD_set _ _ _ _ (by omega), if_neg (by omega)]; exact hrest j (by omega)
  have hlow : ∀ z, lseg (lk.set (i + n) z) i n = lseg lk i n := fun z =>
    lseg_congr (by rw [hlen2]; omega) (by omega) (fun j h1 h2 => by rw [getD_set _ _ _ _ (by omega), if_neg (by omega)])
  have hhigh : ∀ z, lseg (lk.set (i + n) z) i (n + 1) = lseg lk i n + lpw n * z := fun z => by
    rw [lseg_succ (by rw [hlen2]; omega), hlow, getD_set _ _ _ _ (by omega), if_pos rfl]
  refine ⟨by rw [hrest _ (by omega)], ?_⟩
  rw [hxd, he]
  by_cases hneg : 0 ≤ e
  · left
    have e0 : e % 18446744073709551616 = e := by omega
    have e1 : e % 4294967296 = e := by omega
    rw [e0, e1]
    refine ⟨by omega, hlen2 _, hlk.set _ ⟨by omega, by omega⟩, hrest2 _, ?_, ?_, hg⟩
    · rw [hhigh]; omega
    · rw [hhigh]; omega
  · right
    have he1 : e = -1 := by
      apply Int.le_antisymm (by omega)
      apply Int.le_of_not_gt
      intro hc
      have : lpw n * e ≤ lpw n * (-2) := Int.mul_le_mul_of_nonneg_left (by omega) (by omega)
      omega
    subst he1
    have hg1 : 1 ≤ g := by
      apply Int.le_of_not_gt
      intro hc
      obtain rfl : g = 0 := by have := hg.1; omega
      rw [Int.zero_mul] at key
      omega
    have e0 : (-1 : Int) % 18446744073709551616 = 18446744073709551615 := by decide
    have e1 : (18446744073709551615 : Int) % 4294967296 = 4294967295 := by decide
    rw [e0, e1]
    refine ⟨by decide, hg1, hlen2 _, hlk.set _ ⟨by decide, by decide⟩, hrest2 _, ?_, ?_, by omega⟩
    · rw [getD_set _ _ _ _ (by omega), if_pos rfl]
    · rw [hlow]; omega
/-- Behind the sum that puts it right. -/
theorem AddL.top {lu lk ly lm : List Int} {i n : Nat} {g c V : Int} (h : AddL lk ly lm i n c) (hb : RoundBack lu lk i n g V) (hy : Limbs ly) (hg : Limb g) (hi : i + n < lu.length) (hn : n ≤ ly.length) (hV : lseg ly 0 n = V) :
    lm.getD (i + n) 0 = 4294967295 ∧ (0 ≤ c ∧ c ≤ 1) ∧ RoundOut lu (lm.set (i + n) ((4294967295 + c) % 4294967296)) i n (g - 1) V := by
  obtain ⟨hc, hl, hlm, hrest, hv⟩ := h
  obtain ⟨hg1, hl2, hlk, hrest2, htop, hS, hpos⟩ := hb
  have hVb := lseg_bd hy 0 n (by omega)
  have hSb := lseg_bd hlm i n (by omega)
  have hKb := lseg_bd hlk i n (by omega)
  rw [hV] at hv hVb
  have hp := lpw_pos n
  have hc1 : c = 1 := by
    rcases hc with rfl | rfl
    · simp only [Int.zero_mul] at hv
      omega
    · rfl
  subst hc1
  have hlen2 : (lm.set (i + n) 0).length = lu.length := by simp [hl, hl2]
  refine ⟨by rw [hrest _ (by omega), htop], ⟨by decide, by decide⟩, ?_⟩
  rw [show ((4294967295 : Int) + 1) % 4294967296 = 0 by decide]
  have hv2 : lseg (lm.set (i + n) 0) i (n + 1) = lseg lm i n := by
    rw [lseg_succ (by rw [hlen2]; omega), getD_set _ _ _ _ (by omega), if_pos rfl, Int.mul_zero, Int.add_zero]
    exact lseg_congr (by rw [hlen2]; omega) (by omega) (fun j h1 h2 => by rw [getD_set _ _ _ _ (by omega), if_neg (by omega)])
  refine ⟨hlen2, hlm.set _ ⟨by decide, by decide⟩, ?_, ?_, ?_, ⟨by omega, by have := hg.2; omega⟩⟩
  · intro j hj
    rw [getD_set _ _ _ _ (by omega), if_neg (by omega), hrest j (by omega), hrest2 j hj]
  · rw [hv2, Int.sub_mul, Int.one_mul]; omega
  · rw [hv2]; omega

theorem and_mask32 {p : Int} (h0 : 0 ≤ p) (h1 : p < 18446744073709551616) : bits .and .u64 p 4294967295 = p % 4294967296 := by
  obtain ⟨P, rfl⟩ := Int.eq_ofNat_of_zero_le h0
  have h := u64_and_nat P 4294967295 (by omega) (by decide)
  rw [show (4294967295 : Nat) = 2 ^ 32 - 1 by decide, Nat.and_two_pow_sub_one_eq_mod] at h
  have e : ((2 ^ 32 - 1 : Nat) : Int) = 4294967295 := by decide
  rw [e] at h
  rw [h]
  omega
theorem ldivs_rest {X V : Int} {n L M : Nat} {lu lq : List Int} (h : LDivsAt X V n L M M lu lq) (hL : M + n = L) : lval lu = lseg lu 0 n := by
  obtain ⟨a1, a2, a3, a4, a5, a6, a7, a8⟩ := h
  rw [Nat.sub_self] at a6
  have ez : ∀ k, n + k ≤ L → lseg lu n k = 0 := by
    intro k
    induction k with
    | zero => intro _; exact lseg_zero _ _
    | succ k ih => intro hk; rw [lseg_succ (by omega), ih (by omega), a6 (n + k) (by omega), Int.mul_zero]; rfl
  have e := lseg_add (l := lu) (o := 0) (k := n) (m := M) (by omega)
  rw [Nat.zero_add, ez M (by omega), Int.mul_zero, Int.add_zero, lseg_all, List.take_of_length_le (by omega)] at e
  exact e
end Go.Proofs.YtogildikglomkaaGreatDoor

namespace Go.Proofs.YtogildikglomkaaGreatDoor
open Go.RowKit
set_option linter.unusedVariables false

theorem natShift_back (s : Value) (n : Int) (k : Nat) (z : Int) (hz : z = -(k : Int)) (hk : k ≤ 33554432) (w : World) {K : Nat} (h : IsNum w s n) (hn : n < lpw K) (hK : K ≤ 1048576) :
    Calls Tryz.prog 93 #[s, .int .i64 z] w (RetNum (n / 2 ^ k) w) := by
  subst hz
  by_cases h0 : k = 0
  · subst h0
    have := natShift_pos s n 0 hk w h hn hK
    rw [Int.pow_zero, Int.mul_one] at this
    rw [Int.pow_zero, Int.ediv_one]
    exact this
  · exact natShift_neg s n k (by omega) hk w h hn hK
/-- What NatDiv answers. -/
def RetPair (q r : Int) (w : World) (e : Ending) (w' : World) : Prop := ∃ s t, e = .returned (.tuple #[s, t]) ∧ IsNum w' s q ∧ IsNum w' t r ∧ Below w.heap.size w w'
theorem arr_app_cell {w : World} {b : Nat} {t : TypeId} {l zs : List Int} (h : Arr w b t .u32 (l ++ zs)) {j : Nat} (hj : j < l.length) : w.cell? ⟨b, j, none⟩ = some (.int .u32 (l.getD j 0)) := by
  rw [h.cell j (by simp; omega)]
  simp [List.getD_eq_getElem?_getD, List.getElem?_append_left hj]
theorem arr_app_set {w : World} {b : Nat} {t : TypeId} {l zs : List Int} (h : Arr w b t .u32 (l ++ zs)) {j : Nat} (hj : j < l.length) (x : Int) : Arr (w.setCell ⟨b, j, none⟩ (.int .u32 x)) b t .u32 (l.set j x ++ zs) := by
  have := h.set j x
  rw [List.set_append_left _ _ hj] at this
  exact this

set_option maxRecDepth 100000 in
set_option maxHeartbeats 16000000 in
theorem natDiv_long (K : Nat) (hK : K ≤ 100000) (sa : Value) (a : Int) (bb tb n cb : Nat) (lb : List Int) (w : World) (ha : IsNum w sa a) (hb : Arr w bb tb .u32 lb) (hlb : n ≤ lb.length) (hwb : Limbs lb) (hn : 2 ≤ n) (hn2 : n ≤ 100000) (hzb : lb.getD (n - 1) 0 ≠ 0) (hge : ¬ a < lval (lb.take n)) (haK : a < lpw K) :
    Calls Tryz.prog 55 #[sa, .slice (some ⟨bb, 0, none⟩) n cb] w (RetPair (a / lval (lb.take n)) (a % lval (lb.take n)) w) := by
  have hbL : (lb.take n).length = n := by rw [List.length_take, Nat.min_eq_left hlb]
  have wB := hwb.take n
  have hzB : (lb.take n).getD (n - 1) 0 ≠ 0 := by rw [getD_take, if_pos (by omega)]; exact hzb
  have hbn : IsNum w (.slice (some ⟨bb, 0, none⟩) n cb) (lval (lb.take n)) := isNum_arr hb hlb (by omega) hwb (fun _ => hzb)
  obtain ⟨pa, la, ca, rfl⟩ := ha.shape
  obtain ⟨b, hbd⟩ : ∃ b, lval (lb.take n) = b := ⟨_, rfl⟩
  have hbK : b < lpw n := by rw [← hbd]; have := (lval_bd wB).2; rw [hbL] at this; exact this
  have cm := natCmp_num _ _ a b w ha (by rw [← hbd]; exact hbn)
  rw [hbd] at hge hbn
  have hd : ¬ cmpI a b < 0 := by unfold cmpI; rw [if_neg hge]; split <;> omega
  obtain ⟨d, hdd⟩ : ∃ d, cmpI a b = d := ⟨_, rfl⟩
  rw [hdd] at cm hd
  have hn1 : ((n : Int) == 1) = false := by simp; omega
  rw [hbd]
  have Hbd := Lib.hid hbd
  have Hge := Lib.hid hge
  have HaK := Lib.hid haK
  have HzB := Lib.hid hzB
  have HbK := Lib.hid hbK
  have Hb0 : Hid (Arr w bb tb .u32 lb) := Lib.hid hb
  have HbL := Lib.hid hbL
  clear hbd hdd hzb hlb hge haK hzB hbK hb hbL
  go_enter Tryz.func55, Tryz.ntmps55
  go_wp2_with fail
  refine cm.mono ?_
  rintro e w1 ⟨rfl, hb1⟩
  have nb := natBits_num _ b w1 (hbn.below hb1)
  clear cm
  have n0 : (0 : Int) ≤ (n : Int) := by omega
  have n1 : (n : Int) ≤ 100000 := by omega
  have Hn2 := Lib.hid hn2
  clear hn2
  go_wp2_with fail
  refine nb.mono ?_
  rintro e w2 ⟨⟨k, rfl, hk⟩, rfl⟩
  have hk2 := bits_len (by rw [Hbd.out]; exact hk) wB (fun _ => by rw [HbL.out]; exact HzB.out) (by rw [HbL.out]; omega)
  rw [HbL.out] at hk2
  obtain ⟨S, hS⟩ : ∃ S, 32 * n - k = S := ⟨_, rfl⟩
  have dS : 32 * (n : Int) - (k : Int) = (S : Int) := by omega
  have nrm := lnorm hk (by omega) (show 1 ≤ n by omega) (show k + S = 32 * n by omega)
  have S31 : S ≤ 31 := by omega
  obtain ⟨V, hV⟩ : ∃ V, b * 2 ^ S = V := ⟨_, rfl⟩
  have sy := natShift_pos _ b S (by omega) w1 (hbn.below hb1) HbK.out (by omega)
  rw [hV] at sy nrm
  have HV := Lib.hid hV
  have Hn := Lib.hid nrm
  clear hS hV nb hk hk2 nrm
  go_wp2_with fail
  refine sy.mono ?_
  rintro e w2 ⟨y, rfl, hy, hb2⟩
  obtain ⟨Y, hyY, hyV, hyl⟩ := num_limbs hy Hn.out.2
  have wY := hyY.limbs
  have hnl := norm_limbs wY hyl hn (by rw [hyV]; exact Hn.out.1) (by rw [hyV]; exact Hn.out.2)
  have hyne : Y ≠ [] := by
    rintro rfl
    have := hnl.1
    simp at this
    omega
  rcases hyY with ⟨_, e⟩ | ⟨yb, ty, yn, yc, ly, rfl, hay, hly, hly2, wly, hYd⟩
  · exact absurd e hyne
  obtain rfl : yn = n := by
    have := hnl.1
    rw [hYd, List.length_take, Nat.min_eq_left hly] at this
    exact this
  have hvl : lseg ly 0 yn = V := by rw [lseg_all, ← hYd, hyV]
  have hnorm : 2147483648 ≤ ly.getD (yn - 1) 0 := by
    have := hnl.2
    rw [hYd, getD_take, if_pos (by omega)] at this
    exact this
  have hB2 := hb1.trans (hb2.mono hb1.size)
  have sx := natShift_pos (.slice pa la ca) a S (by omega) (w2.alloc (.cells #[] 101)) ((ha.below hB2).below (by go_grown)) HaK.out (by omega)
  obtain ⟨X, hX⟩ : ∃ X, a * 2 ^ S = X := ⟨_, rfl⟩
  rw [hX] at sx
  have HX := Lib.hid hX
  clear hX sy hy hyne hnl hyl
  go_wp2_with fail
  refine sx.mono ?_
  rintro e w3 ⟨sx', rfl, hx, hb3⟩
  have p2 : (0 : Int) < 2 ^ S := Int.pow_pos (by decide)
  have V0 : 0 < V := by have := Hn.out.1; have := lpw_pos (yn - 1); omega
  have b0 : 0 < b := by
    apply Int.lt_of_not_ge
    intro hc
    have : b * 2 ^ S ≤ 0 * 2 ^ S := Int.mul_le_mul_of_nonneg_right hc (by omega)
    rw [HV.out, Int.zero_mul] at this
    omega
  have X0 : 0 < X := by rw [← HX.out]; exact Int.mul_pos (by have := Hge.out; omega) p2
  have XK : X < lpw (K + 1) := by
    rw [← HX.out]
    have h1 : a * 2 ^ S < lpw K * 2 ^ S := Int.mul_lt_mul_of_pos_right HaK.out p2
    have h2 : lpw K * 2 ^ S ≤ lpw K * 2147483648 := Int.mul_le_mul_of_nonneg_left (two32 S31) (Int.le_of_lt (lpw_pos K))
    have := lpw_pos K
    simp only [lpw]
    omega
  obtain ⟨A, hA, hAv, hAl⟩ := num_limbs hx XK
  have wA := hA.limbs
  have hA1 : 1 ≤ A.length := by
    apply Nat.le_of_not_lt
    intro hc
    have : A = [] := List.eq_nil_of_length_eq_zero (by omega)
    subst this
    simp [lval] at hAv
    omega
  rcases hA with ⟨_, e⟩ | ⟨xb', tx', xn, xc, lx', rfl, hax, hlx', hlx2, wlx, hAd⟩
  · rw [e] at hA1; simp at hA1
  have hxn : A.length = xn := by rw [hAd, List.length_take, Nat.min_eq_left hlx']
  rw [hxn] at hA1 hAl
  have Hxn := Lib.hid hxn
  clear hxn hlx2
  have hz2 := hb3.size
  rw [World.size_alloc] at hz2
  have own0 : Own w3 w2.heap.size .u32 101 (.slice (some ⟨w2.heap.size, 0, none⟩) 0 0) [] := .inr ⟨w2.heap.size, 0, rfl, (Arr.new w2 101 .u32 [] w2.heap.size rfl).below hb3 (by simp), Nat.le_refl _⟩
  have src1 : Src Tryz.prog 1 47 (.slice (some ⟨xb', 0, none⟩) xn xc) A.length (A.map (Value.int .u32)) w3 := by
    rw [Hxn.out]
    refine Src.ofSlice w3 Tryz.underlying47 _ _ _ _ (by rw [List.length_map, Hxn.out, Nat.mul_one]) (fun j u hj => ?_) (fun u hu => ?_)
    · have hjn : j < A.length := by
        have := (List.getElem?_eq_some_iff.1 hj).1
        rwa [List.length_map] at this
      have hadd : (⟨xb', 0, none⟩ : Addr).add j = ⟨xb', j, none⟩ := by unfold Addr.add; split <;> simp_all
      have hx : A.getD j 0 = lx'.getD j 0 := by rw [Hxn.out] at hjn; rw [hAd, getD_take, if_pos hjn]
      rw [hadd, hax.cell j (by rw [Hxn.out] at hjn; omega), ← hj, List.getElem?_map, List.getElem?_eq_getElem hjn, ← hx]
      simp [List.getD_eq_getElem?_getD, List.getElem?_eq_getElem hjn]
    · obtain ⟨x, _, rfl⟩ := List.mem_map.1 hu
      rfl
  obtain ⟨v1, w4, hrun1, own1, bel1⟩ := app_src 47 Tryz.underlying47 info32 (by decide) (by omega) own0 src1 (by rw [Hxn.out]; exact hA1) (by rw [Hxn.out]; show 0 + xn ≤ 4294967296; omega)
  have hc2 : ∀ j u, [Value.int .u32 0, Value.int .u32 0][j]? = some u → (w4.alloc (.cells #[.int .u32 0, .int .u32 0] 101)).cell? ((⟨w4.heap.size, 0, none⟩ : Addr).add j) = some u := by
    intro j u hj
    have hadd : (⟨w4.heap.size, 0, none⟩ : Addr).add j = ⟨w4.heap.size, j, none⟩ := by unfold Addr.add; split <;> simp_all
    rw [hadd, cell_of_row _ _ j _ _ (0, 0) (heap_new w4 _ _ rfl)]
    simpa using hj
  have hz4 := bel1.size
  obtain ⟨v2, w5, hrun2, own2, bel2⟩ := app_src (ys := [0, 0]) 47 Tryz.underlying47 info32 (by decide) (w := w4.alloc (.cells #[.int .u32 0, .int .u32 0] 101)) (B := w2.heap.size) (by simp; omega) (own1.alloc _)
    (Src.ofSlice _ Tryz.underlying47 ⟨w4.heap.size, 0, none⟩ 2 2 [.int .u32 0, .int .u32 0] (by simp) hc2 (fun u hu => by simp at hu; subst hu; rfl)) (by simp) (by rw [List.nil_append, Hxn.out]; show xn + 2 ≤ 4294967296; omega)
  simp only [List.nil_append] at own1 own2
  have hz5 := bel2.size
  rw [World.size_alloc] at hz5
  have hB4 : Below w2.heap.size w2 w4 := ((hb3.mono (by simp)).trans bel1 |> fun h => Below.trans (by go_grown) h)
  have hB5 : Below w2.heap.size w2 w5 := (hB4.alloc (by omega) _).trans bel2
  have hay5 : Arr w5 yb ty .u32 ly := hay.below hB5 hay.lt
  have hBw5 : Below w.heap.size w w5 := hB2.trans (hB5.mono hB2.size)
  obtain ⟨L, hL⟩ : ∃ L, xn + 2 = L := ⟨_, rfl⟩
  rcases own2 with ⟨_, e⟩ | ⟨xb, zx, hv2, haX, hxb⟩
  · simp at e
  have hL2 : (A ++ [0, 0]).length = L := by rw [List.length_append, Hxn.out]; exact hL
  rw [hL2] at hv2
  subst hv2
  have hxy : yb ≠ xb := by have := hay.lt; omega
  have hz25 : w2.heap.size ≤ w5.heap.size := by omega
  have Hrun1 := Lib.hid hrun1
  have Hrun2 := Lib.hid hrun2
  clear hrun1 hrun2 own0 own1 src1 hc2 hax bel1 bel2 hz2 hz4 hz5 hx hb3 p2 b0 hL2
  have hcy1 := hay5.cell (yn - 1) (by omega)
  have hcy2 := hay5.cell (yn - 2) (by omega)
  obtain ⟨t1, ht1⟩ : ∃ t1, ly.getD (yn - 1) 0 = t1 := ⟨_, rfl⟩
  obtain ⟨t2, ht2⟩ : ∃ t2, ly.getD (yn - 2) 0 = t2 := ⟨_, rfl⟩
  rw [ht1] at hcy1 hnorm
  rw [ht2] at hcy2
  have lt1 := wly.getD (yn - 1)
  have lt2 := wly.getD (yn - 2)
  rw [ht1] at lt1
  rw [ht2] at lt2
  obtain ⟨t10, t11⟩ := lt1
  obtain ⟨t20, t21⟩ := lt2
  have hynx : yn ≤ xn := by
    apply Nat.le_of_not_lt
    intro hc
    have h1 := (lval_bd wA).2
    rw [hAv, Hxn.out] at h1
    have h2 := lpw_mono (a := xn) (b := yn - 1) (by omega)
    have h3 : V ≤ X := by
      rw [← HX.out, ← HV.out]
      exact Int.mul_le_mul_of_nonneg_right (by have := Hge.out; omega) (Int.le_of_lt (Int.pow_pos (by decide)))
    have h4 := Hn.out.1
    have h5 := lpw_pos (yn - 1)
    omega
  obtain ⟨M, hM⟩ : ∃ M, L - yn = M := ⟨_, rfl⟩
  have hML : M + yn = L := by omega
  have hMi : (L : Int) - (yn : Int) = (M : Int) := by omega
  have hLb : (L : Int) ≤ 1000000 := by omega
  have hMb : (M : Int) ≤ 1000000 := by omega
  have hmk := make32 M M rfl (by omega)
  have start : LDivsAt X V yn L M 0 (A ++ [0, 0]) (List.replicate M 0) := by
    rw [← hL, ← Hxn.out]
    refine ldivs_start wA hAv (by rw [Hxn.out, hL]; exact hML) hn ?_
    have := Hn.out.1
    have := lpw_pos (yn - 1)
    omega
  have aq : Arr (w5.alloc (.cells (zeros .u32 M) 101)) w5.heap.size 101 .u32 (List.replicate M 0) := Arr.zeros w5 _ _ M _ rfl
  have ax := haX.alloc (.cells (zeros .u32 M) 101)
  have ay := hay5.alloc (.cells (zeros .u32 M) 101)
  have hBw6 : Below w.heap.size w (w5.alloc (.cells (zeros .u32 M) 101)) := hBw5.alloc hBw5.size _
  have hxq : xb ≠ w5.heap.size := Nat.ne_of_lt haX.lt
  have hyq : yb ≠ w5.heap.size := Nat.ne_of_lt hay5.lt
  have hqw : w.heap.size ≤ w5.heap.size := hBw5.size
  have hxw : w.heap.size ≤ xb := by have := hB2.size; omega
  have Ht1 := Lib.hid ht1
  have Ht2 := Lib.hid ht2
  have HM := Lib.hid hM
  have HML := Lib.hid hML
  have HL := Lib.hid hL
  have Hst := Lib.hid start
  clear ht1 ht2 hM hML hL start haX hay5 hBw5 hB4 hB5 hB2 hb1 hb2 hay hAl hxb hz25
  go_wp2_with (first | (at_builtin; refine Lib.wpList_append_run _ rfl _ _ _ _ rfl _ _ rfl rfl _ _ Hrun1.out ?_) | (at_builtin; refine Lib.wpList_append_run _ rfl _ _ _ _ rfl _ _ rfl rfl _ _ Hrun2.out ?_))
  generalize (w5.alloc (.cells (zeros .u32 M) 101)) = w6 at aq ax ay hBw6 ⊢
  generalize w5.heap.size = qb at aq hxq hyq hqw ⊢
  have hz1 : (t1 == 0) = false := by simp; omega
  go_loopg [15] M (fun gh i wr => ∃ (k : Nat) (z : Int) (lu lq : List Int), gh = M - k ∧ k ≤ M ∧ z = (M : Int) - 1 - k ∧ i = .int .i64 z ∧ LDivsAt X V yn L M k lu lq ∧ Arr wr xb 101 .u32 (lu ++ List.replicate zx 0) ∧ Arr wr yb ty .u32 ly ∧ Arr wr qb 101 .u32 lq ∧ Below w.heap.size w wr)
  case atStart => exact ⟨0, (M : Int) - 1, _, _, rfl, Nat.zero_le _, by omega, rfl, Hst.out, ax, ay, aq, hBw6⟩
  case round =>
    clear ax ay aq hBw6
    obtain ⟨k, z, lu, lq, hgh, hk, hz, rfl, hat, ax, ay, aq, hB⟩ := hrel
    have Hgh := Lib.hid hgh
    clear hgh
    by_cases hlt : k < M
    · obtain ⟨i, hi⟩ : ∃ i, M - 1 - k = i := ⟨_, rfl⟩
      obtain rfl : z = (i : Int) := by omega
      have ld := ldivs_lead hat hlt HML.out hn wly hly hvl (by rw [Ht1.out]; exact hnorm)
      rw [hi, Ht1.out, Ht2.out] at ld
      have hlu := hat.1
      have wlu := hat.2.1
      have hiL : i + yn < L := by have := HML.out; omega
      have hcx2 := arr_app_cell ax (j := i + yn) (by omega)
      have hcx1 := arr_app_cell ax (j := i + yn - 1) (by omega)
      have hcx0 := arr_app_cell ax (j := i + yn - 2) (by omega)
      obtain ⟨u2, hu2⟩ : ∃ u2, lu.getD (i + yn) 0 = u2 := ⟨_, rfl⟩
      obtain ⟨u1, hu1⟩ : ∃ u1, lu.getD (i + yn - 1) 0 = u1 := ⟨_, rfl⟩
      obtain ⟨u0, hu0⟩ : ∃ u0, lu.getD (i + yn - 2) 0 = u0 := ⟨_, rfl⟩
      rw [show i + (yn - 1) = i + yn - 1 by omega, show i + (yn - 2) = i + yn - 2 by omega, hu2, hu1, hu0] at ld
      rw [hu2] at hcx2
      rw [hu1] at hcx1
      rw [hu0] at hcx0
      obtain ⟨U, hU⟩ : ∃ U, lseg lu i (yn + 1) = U := ⟨_, rfl⟩
      rw [hU] at ld
      obtain ⟨st, stb, str⟩ := ld.start
      have hor := or_high ld.l2.1 ld.l2.2 ld.l1
      obtain ⟨u20, u21⟩ := ld.l2
      obtain ⟨u10, u11⟩ := ld.l1
      obtain ⟨u00, u01⟩ := ld.l0
      obtain ⟨T, hT⟩ : ∃ T, u2 * 4294967296 + u1 = T := ⟨_, rfl⟩
      have hT0 : 0 ≤ T := by omega
      have hT1 : T < 18446744073709551616 := by omega
      rw [hT] at hor
      have Hat := Lib.hid hat
      have Hld := Lib.hid ld
      have Hu2 := Lib.hid hu2
      have Hu0 := Lib.hid hu0
      have Hlt := Lib.hid hlt
      have HU := Lib.hid hU
      have Hlu := Lib.hid hlu
      have Hi := Lib.hid hi
      have HT := Lib.hid hT
      have s1 : IntKind.i64.wrap ((i : Int) + (yn : Int)) = (i : Int) + (yn : Int) := IntWalk.i64_in _ (by omega)
      have s2 : (0 : Int) ≤ (i : Int) + (yn : Int) := by omega
      have s3 : ((i : Int) + (yn : Int)).toNat = i + yn := by omega
      have s4 : IntKind.i64.wrap ((i : Int) + (yn : Int) - 1) = (i : Int) + (yn : Int) - 1 := IntWalk.i64_in _ (by omega)
      have s5 : (0 : Int) ≤ (i : Int) + (yn : Int) - 1 := by omega
      have s6 : ((i : Int) + (yn : Int) - 1).toNat = i + yn - 1 := by omega
      have s7 : (i : Int) + (yn : Int) < (L : Int) := by omega
      have s8 : (1 : Int) ≤ (i : Int) + (yn : Int) := by omega
      have hw2 : IntKind.u64.wrap (u2 * 4294967296) = u2 * 4294967296 := by rw [IntKind.wrap_u64]; omega
      clear hat ld hu2 hu1 hu0 hU hlu hi hz hT
      go_wp2_with fail
      go_quiet (fail)
      have ax2 := ax.drewN nq
      have ay2 := ay.drewN nq
      have aq2 := aq.drewN nq
      have hB2 : Below w.heap.size w (wr.drewN nq) := below_drewN hB nq
      have hcx0' := arr_app_cell ax2 (j := i + yn - 2) (by rw [Hlu.out]; omega)
      clear hcx2 hcx1 hcx0 hor s1 s2 s3 s4 s5 s6 s7 s8 hw2 ax ay aq hB
      generalize wr.drewN nq = wo at ax2 ay2 aq2 hB2 hcx0' ⊢
      obtain ⟨G, hG⟩ : ∃ G, T / t1 = G := ⟨_, rfl⟩
      obtain ⟨Rm, hRm⟩ : ∃ Rm, T % t1 = Rm := ⟨_, rfl⟩
      rw [HT.out, hG] at stb
      rw [HT.out, hRm] at str
      rw [HT.out, hG, hRm] at st
      rw [Hu0.out] at hcx0'
      go_upto_block 2 with fail
      go_cut [17] (fun s17 wx => wo = wx ∧ ∃ gf : Int, s17 = .int .u64 gf ∧ Hid (Limb gf ∧ gf * V ≤ U + V ∧ U < gf * V + V))
      case first =>
        go_wp2_with fail
        go_loopg [17, 18] G.toNat (fun g2 g r wr2 => ∃ gv rv, g2 = gv.toNat ∧ g = .int .u64 gv ∧ r = .int .u64 rv ∧ LGuess U V u2 u1 t1 gv rv ∧ gv ≤ 4294967297 ∧ rv < 4294967296 ∧ wo = wr2)
        case atStart => exact ⟨G, Rm, rfl, by rw [hG], by rw [hRm], st, stb, str, rfl⟩
        case round =>
          clear st stb str hG hRm
          obtain ⟨gv, rv, hg2, rfl, rfl, hgs, gvb, rvb, rfl⟩ := hrel
          have Hg2 := Lib.hid hg2
          have gv0 := hgs.g0
          have rv0 := hgs.r0
          have hgt : 0 ≤ gv * t2 ∧ gv * t2 ≤ 4294967297 * 4294967295 := ⟨Int.mul_nonneg gv0 t20, Int.mul_le_mul gvb (by omega) t20 (by decide)⟩
          obtain ⟨gt0, gt1⟩ := hgt
          have hor := or_high rv0 rvb (Hld.out).l0
          have Hgs := Lib.hid hgs
          clear hg2 hgs
          by_cases hcnd : 4294967296 ≤ gv ∨ rv * 4294967296 + u0 < gv * t2
          · obtain ⟨gp, hgp⟩ := (Hgs.out).step Hld.out hcnd
            obtain ⟨g', hg'⟩ : ∃ g', gv - 1 = g' := ⟨_, rfl⟩
            obtain ⟨r', hr'⟩ : ∃ r', rv + t1 = r' := ⟨_, rfl⟩
            rw [hg', hr'] at hgp
            have r'0 : 0 ≤ r' := by omega
            have r'1 : r' < 8589934592 := by omega
            have Hgp := Lib.hid hgp
            have Hg' := Lib.hid (show g'.toNat < gv.toNat by omega)
            have g'b : g' ≤ 4294967297 := by omega
            clear hgp
            by_cases hbr : 4294967296 ≤ r'
            · have hdn := Lib.hid ((Hgp.out).done Hld.out (.inl hbr))
              by_cases hge4 : 4294967296 ≤ gv
              · clear hcnd hor
                go_wp2_with fail
                go_meet
                exact ⟨rfl, g', rfl, hdn⟩
              · have hlt4 : rv * 4294967296 + u0 < gv * t2 := by omega
                clear hcnd
                go_wp2_with fail
                go_meet
                exact ⟨rfl, g', rfl, hdn⟩
            · by_cases hge4 : 4294967296 ≤ gv
              · clear hcnd hor
                go_wp2_with fail
                go_roundg g'.toNat
                case measure => have := Hg2.out; have := Hg'.out; omega
                case rel => exact ⟨g', r', rfl, rfl, rfl, Hgp.out, g'b, by omega, rfl⟩
              · have hlt4 : rv * 4294967296 + u0 < gv * t2 := by omega
                clear hcnd
                go_wp2_with fail
                go_roundg g'.toNat
                case measure => have := Hg2.out; have := Hg'.out; omega
                case rel => exact ⟨g', r', rfl, rfl, rfl, Hgp.out, g'b, by omega, rfl⟩
          · have hge4 : gv < 4294967296 := by omega
            have hnl : gv * t2 ≤ rv * 4294967296 + u0 := by omega
            have hdn := Lib.hid ((Hgs.out).done Hld.out (.inr ⟨hge4, hnl⟩))
            clear hcnd
            go_wp2_with fail
            go_meet
            exact ⟨rfl, gv, rfl, hdn⟩
      case rest =>
        clear st stb str hG hRm hcx0'
        obtain ⟨rfl, gf, rfl, hdnH⟩ := hcut
        have hdn := hdnH.out
        clear hdnH
        have Hdn := Lib.hid hdn
        have g0 : 0 ≤ gf := hdn.1.1
        have g1 : gf < 4294967296 := hdn.1.2
        clear hdn
        go_wp2_with fail
        go_loopg [19, 20, 21] yn (fun g3 c bw kk w3 => ∃ (k3 : Nat) (cv bv : Int) (lk : List Int), g3 = yn - k3 ∧ k3 ≤ yn ∧ kk = .int .i64 k3 ∧ c = .int .u64 cv ∧ bw = .int .u64 bv ∧ TakeL lu ly lk i k3 gf cv bv ∧ Arr w3 xb 101 .u32 (lk ++ List.replicate zx 0) ∧ Arr w3 yb ty .u32 ly ∧ Arr w3 qb 101 .u32 lq ∧ Below w.heap.size w w3)
        case atStart => exact ⟨0, 0, 0, lu, rfl, Nat.zero_le _, rfl, rfl, rfl, ⟨⟨by decide, by decide⟩, .inl rfl, rfl, (Hat.out).2.1, fun _ _ => rfl, by simp [lseg_zero]⟩, ax2, ay2, aq2, hB2⟩
        case round =>
          obtain ⟨k3, cv, bv, lk, hg3, hk3, rfl, rfl, rfl, htk, ax3, ay3, aq3, hB3⟩ := hrel
          have Hg3 := Lib.hid hg3
          clear hg3
          have wlu := (Hat.out).2.1
          have hlk := htk.2.2.1
          rw [Hlu.out] at hlk
          have Hwlu := Lib.hid wlu
          obtain ⟨c0, c1⟩ := htk.1
          have hbv := htk.2.1
          have b0 : 0 ≤ bv := by omega
          have b1 : bv ≤ 1 := by omega
          by_cases hlt3 : k3 < yn
          · have st3 := htk.step wlu wly ⟨g0, g1⟩ (by rw [Hlu.out]; omega) (by omega)
            have hrs := htk.2.2.2.2.1 (i + k3) (by omega)
            have hcx := arr_app_cell ax3 (j := i + k3) (by omega)
            have hfx := ax3.free (i + k3)
            have hcy := ay3.cell k3 (by omega)
            have lx := wlu.getD (i + k3)
            have lyk := wly.getD k3
            have hml := mul_limb ⟨g0, g1⟩ lyk c0 c1
            rw [hrs] at hcx
            obtain ⟨x, hx⟩ : ∃ x, lu.getD (i + k3) 0 = x := ⟨_, rfl⟩
            obtain ⟨y, hy⟩ : ∃ y, ly.getD k3 0 = y := ⟨_, rfl⟩
            rw [hx] at hcx lx st3
            rw [hy] at hcy lyk hml st3
            obtain ⟨x0, x1⟩ := lx
            obtain ⟨y0, y1⟩ := lyk
            obtain ⟨P, hP⟩ : ∃ P, cv + gf * y = P := ⟨_, rfl⟩
            rw [hP] at st3
            have hP0 : 0 ≤ P := by omega
            have hP1 : P < 18446744073709551616 := by omega
            have hand := and_mask32 hP0 hP1
            have hm0 : 0 ≤ gf * y := hml.1
            have hm1 : gf * y ≤ 18446744065119617025 := hml.2
            obtain ⟨lo, hlo⟩ : ∃ lo, P % 4294967296 = lo := ⟨_, rfl⟩
            obtain ⟨c2, hc2⟩ : ∃ c2, P / 4294967296 = c2 := ⟨_, rfl⟩
            rw [hlo] at hand
            rw [hlo, hc2] at st3
            have lo0 : 0 ≤ lo := by omega
            have lo1 : lo < 4294967296 := by omega
            obtain ⟨D, hD⟩ : ∃ D, (x - lo - bv) % 18446744073709551616 = D := ⟨_, rfl⟩
            rw [hD] at st3
            have D0 : 0 ≤ D := by omega
            have D1 : D < 18446744073709551616 := by omega
            have hD2 : IntKind.u64.wrap (IntKind.u64.wrap (x - lo) - bv) = D := by rw [IntKind.wrap_u64, IntKind.wrap_u64, ← hD]; omega
            have hD3 : IntKind.u64.wrap (x - lo - bv) = D := by rw [IntKind.wrap_u64, ← hD]
            have St3 := Lib.hid st3
            have Hlk := Lib.hid hlk
            clear st3 htk hbv hrs hx hy hml wlu hlk hlo
            go_wp2_with fail
            go_roundg (yn - (k3 + 1))
            case measure => have := Hg3.out; omega
            case rel => exact ⟨k3 + 1, c2, D / 9223372036854775808, _, rfl, by omega, by go_num, rfl, rfl, St3.out, arr_app_set ax3 (by rw [Hlk.out]; omega) _, ay3.other hxy _, aq3.other (Ne.symm hxq) _, hB3.setCell (p := ⟨xb, i + k3, none⟩) hxw _⟩
          · obtain rfl : k3 = yn := by omega
            have tp := htk.top wlu wly ⟨g0, g1⟩ (by rw [Hlu.out]; omega) hly hvl (by rw [HU.out]; exact Hdn.out.2.1) (by rw [HU.out]; exact Hdn.out.2.2)
            have hcx := arr_app_cell ax3 (j := i + k3) (by omega)
            have hfx := ax3.free (i + k3)
            rw [tp.1, Hu2.out] at hcx
            replace tp := tp.2
            rw [Hu2.out] at tp
            obtain ⟨D, hD⟩ : ∃ D, (u2 - cv - bv) % 18446744073709551616 = D := ⟨_, rfl⟩
            rw [hD] at tp
            have D0 : 0 ≤ D := by omega
            have D1 : D < 18446744073709551616 := by omega
            have hD3 : IntKind.u64.wrap (u2 - cv - bv) = D := by rw [IntKind.wrap_u64, ← hD]
            have hD2 : IntKind.u64.wrap (IntKind.u64.wrap (u2 - cv) - bv) = D := by rw [IntKind.wrap_u64, IntKind.wrap_u64, ← hD]; omega
            have ax5 := arr_app_set ax3 (j := i + k3) (by omega) (D % 4294967296)
            have ay5 : Arr (wr.setCell ⟨xb, i + k3, none⟩ (.int .u32 (D % 4294967296))) yb ty .u32 ly := ay3.other hxy _
            have aq5 : Arr (wr.setCell ⟨xb, i + k3, none⟩ (.int .u32 (D % 4294967296))) qb 101 .u32 lq := aq3.other (Ne.symm hxq) _
            have hB5 : Below w.heap.size w (wr.setCell ⟨xb, i + k3, none⟩ (.int .u32 (D % 4294967296))) := hB3.setCell (p := ⟨xb, i + k3, none⟩) hxw _
            have Hlk := Lib.hid hlk
            clear htk hbv hlk wlu
            rcases tp with ⟨hd0, ro⟩ | ⟨hd1, rb⟩
            · have hDs : D % 4294967296 = D := by omega
              rw [hDs] at ax5 ay5 aq5 hB5 ro
              generalize lk.set (i + k3) D = lk5 at ax5 ro
              have sp := (Hat.out).step Hlt.out HML.out (by rw [ro.1]; exact Hlu.out) ro.2.1 (by rw [Hi.out]; exact ro.2.2.1) (by rw [Hi.out]; exact ro.2.2.2.1) (by rw [Hi.out]; exact ro.2.2.2.2.1) ro.2.2.2.2.2 (by rw [← hvl]; exact (lseg_bd wly 0 k3 (by omega)).2)
              rw [Hi.out] at sp
              have Sp := Lib.hid sp
              have fq := aq3.free i
              have cq3 := aq3.cell i (by have := Hi.out; have := Hlt.out; have := (Hat.out).2.2.1; omega)
              have hlq := (Hat.out).2.2.1
              have cq := aq5.cell i (by have := Hi.out; have := Hlt.out; omega)
              generalize lq.getD i 0 = qold at cq cq3
              have Hlq := Lib.hid hlq
              clear sp ro hlq
              go_wp2_with fail
              go_roundg (M - (k + 1))
              case measure => have := Hgh.out; have := Hlt.out; omega
              case rel => exact ⟨k + 1, _, _, _, rfl, by have := Hlt.out; omega, by have := Hi.out; omega, rfl, Sp.out, ax5.other hxq _, ay5.other hyq _, aq5.set i _, hB5.setCell (p := ⟨qb, i, none⟩) hqw _⟩
            · generalize lk.set (i + k3) (D % 4294967296) = lk5 at ax5 rb
              obtain ⟨h1, hlk5, wlk5, hrest5, htop5, hrb⟩ := rb
              have Rb : Hid (RoundBack lu lk5 i k3 gf V) := Lib.hid ⟨h1, hlk5, wlk5, hrest5, htop5, hrb⟩
              have Hlk5 := Lib.hid hlk5
              have Hwlk5 := Lib.hid wlk5
              obtain ⟨gm, hgm⟩ : ∃ gm, gf - 1 = gm := ⟨_, rfl⟩
              have gm0 : 0 ≤ gm := by omega
              have gm1 : gm < 4294967296 := by omega
              have gw : IntKind.u64.wrap (gf - 1) = gm := by rw [IntKind.wrap_u64]; omega
              clear hlk5 hrest5 htop5 hrb h1
              go_wp2_with fail
              generalize (wr.setCell ⟨xb, i + k3, none⟩ (.int .u32 (D % 4294967296))) = w8 at ax5 ay5 aq5 hB5 ⊢
              clear hcx hfx ax3 ay3 aq3 hB3 hD hD2 hD3
              go_loopg [19, 24] k3 (fun g4 c kk w4 => ∃ (k4 : Nat) (c4 : Int) (lm : List Int), g4 = k3 - k4 ∧ k4 ≤ k3 ∧ kk = .int .i64 k4 ∧ c = .int .u64 c4 ∧ AddL lk5 ly lm i k4 c4 ∧ Arr w4 xb 101 .u32 (lm ++ List.replicate zx 0) ∧ Arr w4 yb ty .u32 ly ∧ Arr w4 qb 101 .u32 lq ∧ Below w.heap.size w w4)
              case atStart => exact ⟨0, 0, lk5, rfl, Nat.zero_le _, rfl, rfl, ⟨.inl rfl, rfl, Hwlk5.out, fun _ _ => rfl, by simp [lseg_zero]⟩, ax5, ay5, aq5, hB5⟩
              case round =>
                obtain ⟨k4, c4, lm, hg4, hk4, rfl, rfl, had, ax4, ay4, aq4, hB4⟩ := hrel
                have Hg4 := Lib.hid hg4
                clear hg4 ax5 ay5 aq5 hB5
                have hlm := had.2.1
                rw [Hlk5.out, Hlu.out] at hlm
                have hc4 := had.1
                have c40 : 0 ≤ c4 := by omega
                have c41 : c4 ≤ 1 := by omega
                by_cases hlt4' : k4 < k3
                · have st4 := had.step wlk5 wly (by rw [Hlk5.out, Hlu.out]; omega) (by omega)
                  have hrs := had.2.2.2.1 (i + k4) (by omega)
                  have hcx := arr_app_cell ax4 (j := i + k4) (by omega)
                  have hfx := ax4.free (i + k4)
                  have hcy := ay4.cell k4 (by omega)
                  obtain ⟨x0, x1⟩ := wlk5.getD (i + k4)
                  obtain ⟨y0, y1⟩ := wly.getD k4
                  rw [hrs] at hcx
                  obtain ⟨x, hx⟩ : ∃ x, lk5.getD (i + k4) 0 = x := ⟨_, rfl⟩
                  obtain ⟨y, hy⟩ : ∃ y, ly.getD k4 0 = y := ⟨_, rfl⟩
                  rw [hx] at hcx x0 x1 st4
                  rw [hy] at hcy y0 y1 st4
                  obtain ⟨T4, hT4⟩ : ∃ T4, c4 + x + y = T4 := ⟨_, rfl⟩
                  rw [hT4] at st4
                  have T40 : 0 ≤ T4 := by omega
                  have T41 : T4 < 18446744073709551616 := by omega
                  have v1 : IntKind.u64.wrap (c4 + x) = c4 + x := by rw [IntKind.wrap_u64]; omega
                  have v2 : IntKind.u64.wrap (c4 + x + y) = T4 := by rw [IntKind.wrap_u64]; omega
                  have s1 : IntKind.i64.wrap ((i : Int) + (k4 : Int)) = (i : Int) + (k4 : Int) := IntWalk.i64_in _ (by omega)
                  have s2 : (0 : Int) ≤ (i : Int) + (k4 : Int) := by omega
                  have s3 : ((i : Int) + (k4 : Int)).toNat = i + k4 := by omega
                  have s7 : (i : Int) + (k4 : Int) < (L : Int) := by omega
                  have s8 : (k4 : Int) < (k3 : Int) := by omega
                  have St4 := Lib.hid st4
                  have Hlm := Lib.hid hlm
                  have hcx' := fun nq => (ax4.drewN nq).free (i + k4)
                  clear st4 had hc4 hrs hx hy hlm
                  go_wp2_with fail
                  go_quiet (fail)
                  have ax6 := ax4.drewN nq
                  have ay6 := ay4.drewN nq
                  have aq6 := aq4.drewN nq
                  have hB6 : Below w.heap.size w (wr.drewN nq) := below_drewN hB4 nq
                  have hfx6 := ax6.free (i + k4)
                  have hcx6 := arr_app_cell ax6 (j := i + k4) (by rw [Hlm.out]; omega)
                  generalize lm.getD (i + k4) 0 = xx at hcx6
                  clear hcx hcx' hfx hcy ax4 ay4 aq4 hB4 s1 s2 s3 s7 s8 v1 v2
                  generalize wr.drewN nq = w9 at ax6 ay6 aq6 hB6 hfx6 hcx6 ⊢
                  go_wp2_with fail
                  go_roundg (k3 - (k4 + 1))
                  case measure => have := Hg4.out; omega
                  case rel => exact ⟨k4 + 1, _, _, rfl, by omega, by go_num, rfl, St4.out, arr_app_set ax6 (by rw [Hlm.out]; omega) _, ay6.other hxy _, aq6.other (Ne.symm hxq) _, hB6.setCell (p := ⟨xb, i + k4, none⟩) hxw _⟩
                · obtain rfl : k4 = k3 := by omega
                  obtain ⟨tp1, tp2, ro⟩ := had.top Rb.out wly ⟨g0, g1⟩ (by rw [Hlu.out]; omega) hly hvl
                  rw [hgm] at ro
                  have hcx := arr_app_cell ax4 (j := i + k4) (by omega)
                  have hfx := ax4.free (i + k4)
                  rw [tp1] at hcx
                  have ax5 := arr_app_set ax4 (j := i + k4) (by omega) ((4294967295 + c4) % 4294967296)
                  have ay5 : Arr (wr.setCell ⟨xb, i + k4, none⟩ (.int .u32 ((4294967295 + c4) % 4294967296))) yb ty .u32 ly := ay4.other hxy _
                  have aq5 : Arr (wr.setCell ⟨xb, i + k4, none⟩ (.int .u32 ((4294967295 + c4) % 4294967296))) qb 101 .u32 lq := aq4.other (Ne.symm hxq) _
                  have hB5 : Below w.heap.size w (wr.setCell ⟨xb, i + k4, none⟩ (.int .u32 ((4294967295 + c4) % 4294967296))) := hB4.setCell (p := ⟨xb, i + k4, none⟩) hxw _
                  generalize lm.set (i + k4) ((4294967295 + c4) % 4294967296) = lm5 at ax5 ro
                  clear had hc4 hlm tp1 tp2
                  have sp := (Hat.out).step Hlt.out HML.out (by rw [ro.1]; exact Hlu.out) ro.2.1 (by rw [Hi.out]; exact ro.2.2.1) (by rw [Hi.out]; exact ro.2.2.2.1) (by rw [Hi.out]; exact ro.2.2.2.2.1) ro.2.2.2.2.2 (by rw [← hvl]; exact (lseg_bd wly 0 k4 (by omega)).2)
                  rw [Hi.out] at sp
                  have Sp := Lib.hid sp
                  have fq := aq5.free i
                  have hlq := (Hat.out).2.2.1
                  have cq := aq5.cell i (by have := Hi.out; have := Hlt.out; omega)
                  generalize lq.getD i 0 = qold at cq
                  have Hlq := Lib.hid hlq
                  clear sp ro hlq
                  go_wp2_with fail
                  go_roundg (M - (k + 1))
                  case measure => have := Hgh.out; have := Hlt.out; omega
                  case rel => exact ⟨k + 1, _, _, _, rfl, by have := Hlt.out; omega, by have := Hi.out; omega, rfl, Sp.out, ax5.other hxq _, ay5.other hyq _, aq5.set i _, hB5.setCell (p := ⟨qb, i, none⟩) hqw _⟩
    · obtain rfl : k = M := by omega
      have hzn : z < 0 := by omega
      have hle := ldivs_end (x := a) (y := b) (n := yn) (xl := L - 1) (M := k) (S := S) (lu := lu) (lq := lq) (by rw [HX.out, HV.out, show L - 1 + 1 = L by have := HML.out; omega]; exact hat) (by have := HML.out; omega)
      have hrest := ldivs_rest hat HML.out
      have hlu := hat.1
      have hlq := hat.2.2.1
      have wlu := hat.2.1
      have wlq := hat.2.2.2.1
      have hRb := lseg_bd wlu 0 yn (by have := HML.out; omega)
      have trq := ltrim_any qb 101 k k lq wr aq (Nat.le_refl _) (by omega) (by omega)
      have q1 := trimLen_le lq k
      have q2 := trimLen_last lq k
      have q3 := lval_trim lq k (by omega)
      rw [← lseg_all lq k, ← hle.1] at q3
      generalize trimLen lq k = mq at trq q1 q2 q3
      have nq1 := isNum_arr aq (len := mq) (cap := k) (by omega) (by omega) wlq q2
      rw [q3] at nq1
      have trx := ltrim_any xb 101 L (L + zx) (lu ++ List.replicate zx 0) wr ax (by omega) (by rw [List.length_append, List.length_replicate]; omega) (by omega)
      have x1 := trimLen_le (lu ++ List.replicate zx 0) L
      have x2 := trimLen_last (lu ++ List.replicate zx 0) L
      have x3 := lval_trim (lu ++ List.replicate zx 0) L (by rw [List.length_append]; omega)
      have e0 : (lu ++ List.replicate zx 0).take L = lu := by rw [← hlu]; exact List.take_left
      rw [e0, hrest] at x3
      generalize trimLen (lu ++ List.replicate zx 0) L = mx at trx x1 x2 x3
      have nx1 := isNum_arr ax (len := mx) (cap := L + zx) (by rw [List.length_append]; omega) (by omega) (wlu.append (Limbs.replicate zx)) x2
      rw [x3] at nx1
      have sh := natShift_back _ _ S (-(S : Int)) rfl (by omega) wr (K := yn) nx1 hRb.2 (by omega)
      rw [← hle.2] at sh
      have Nq := Lib.hid nq1
      clear hat hle hrest hlu hlq wlu wlq hRb q2 q3 x2 x3 e0 nq1 nx1 hz ax ay aq
      go_wp2_with fail
      refine trq.mono ?_
      rintro e W1 ⟨rfl, rfl⟩
      go_wp2_with fail
      refine trx.mono ?_
      rintro e W1 ⟨rfl, rfl⟩
      go_wp2_with fail
      refine sh.mono ?_
      rintro e W1 ⟨rr, rfl, hrr, hbr⟩
      obtain ⟨pr, lr, cr, rfl⟩ := hrr.shape
      go_wp2_with fail
      go_ret2
      exact ⟨_, _, rfl, (Nq.out).below hbr, hrr, hB.trans (hbr.mono hB.size)⟩
end Go.Proofs.YtogildikglomkaaGreatDoor

namespace Go.Proofs.YtogildikglomkaaGreatDoor
open Go.RowKit
set_option linter.unusedVariables false

set_option maxRecDepth 100000 in
theorem natDiv_less (sa sb : Value) (a b : Int) (w : World) (ha : IsNum w sa a) (hb : IsNum w sb b) (hlt : a < b) :
    Calls Tryz.prog 55 #[sa, sb] w (RetPair (a / b) (a % b) w) := by
  have h0 := ha.nonneg
  have cm := natCmp_num sa sb a b w ha hb
  obtain ⟨pa, la, ca, rfl⟩ := ha.shape
  obtain ⟨pb, lb, cb, rfl⟩ := hb.shape
  have e1 : a / b = 0 := Int.ediv_eq_zero_of_lt h0 hlt
  have e2 : a % b = a := Int.emod_eq_of_lt h0 hlt
  rw [e1, e2]
  rw [cmpI_lt hlt] at cm
  clear e1 e2
  go_enter Tryz.func55, Tryz.ntmps55
  go_wp2_with fail
  refine cm.mono ?_
  rintro e w1 ⟨rfl, hb1⟩
  go_wp2_with fail
  go_ret2
  exact ⟨_, _, rfl, ⟨[], .inl ⟨rfl, rfl⟩, fun h => absurd rfl h, rfl⟩, ha.below hb1, hb1⟩
set_option maxRecDepth 100000 in
theorem natDiv_limb (sa : Value) (a : Int) (bb tb cb : Nat) (lb : List Int) (w : World) (ha : IsNum w sa a) (hb : Arr w bb tb .u32 lb) (hlb : 1 ≤ lb.length) (hwb : Limbs lb) (hzb : lb.getD 0 0 ≠ 0) (hge : ¬ a < lb.getD 0 0) :
    Calls Tryz.prog 55 #[sa, .slice (some ⟨bb, 0, none⟩) 1 cb] w (RetPair (a / lb.getD 0 0) (a % lb.getD 0 0) w) := by
  have h0 := ha.nonneg
  have ev : lval (lb.take 1) = lb.getD 0 0 := by
    have := lval_take_succ (l := lb) (k := 0) (by omega)
    simpa [lval, lpw] using this
  have hbn : IsNum w (.slice (some ⟨bb, 0, none⟩) 1 cb) (lval (lb.take 1)) := isNum_arr hb hlb (by decide) hwb (fun _ => hzb)
  rw [ev] at hbn
  have cm := natCmp_num sa _ a _ w ha hbn
  obtain ⟨pa, la, ca, rfl⟩ := ha.shape
  have ld := hwb.getD 0
  have hc0 := fun W (g : Below w.heap.size w W) => (hb.below g hb.lt).cell 0 (by omega)
  generalize lb.getD 0 0 = b at *
  have hd : ¬ cmpI a b < 0 := by unfold cmpI; rw [if_neg hge]; split <;> omega
  obtain ⟨d, hdd⟩ : ∃ d, cmpI a b = d := ⟨_, rfl⟩
  rw [hdd] at cm hd
  obtain ⟨l0, l1⟩ := ld
  have hb0 : 0 < b := by omega
  have rb0 := Int.emod_nonneg a (show b ≠ 0 by omega)
  have rb1 := Int.emod_lt_of_pos a hb0
  have on := fun W (g : Below w.heap.size w W) => one_num _ a b W (ha.below g) ⟨l0, l1⟩ hb0
  have no := fun W => natOf_num (a % b) ⟨rb0, by omega⟩ W
  obtain ⟨r, hr⟩ : ∃ r, a % b = r := ⟨_, rfl⟩
  have Hc0 := Lib.hid hc0
  have On := Lib.hid on
  have No := Lib.hid no
  have Hr := Lib.hid hr
  clear hdd hge hc0 on no ev hbn hr
  go_enter Tryz.func55, Tryz.ntmps55
  go_wp2_with fail
  refine cm.mono ?_
  rintro e w1 ⟨rfl, hb1⟩
  have c0 := Hc0.out w1 hb1
  go_wp2_with fail
  refine (On.out w1 hb1).mono ?_
  rintro e w2 ⟨q, rfl, hq, hb2⟩
  rw [Hr.out]
  have n2 := No.out w2
  rw [Hr.out] at n2 rb0 rb1
  obtain ⟨pq, lq, cq, rfl⟩ := hq.shape
  have r2 : r < 4294967296 := by omega
  clear c0
  go_wp2_with fail
  refine n2.mono ?_
  rintro e w3 ⟨t, rfl, ht, hb3⟩
  go_wp2_with fail
  go_ret2
  exact ⟨_, _, rfl, hq.below hb3, by rw [Hr.out]; exact ht, (hb1.trans (hb2.mono hb1.size)).trans (hb3.mono (Nat.le_trans hb1.size hb2.size))⟩
theorem natDiv_num (K : Nat) (hK : K ≤ 100000) (sa sb : Value) (a b : Int) (w : World) (ha : IsNum w sa a) (hb : IsNum w sb b) (hb0 : b ≠ 0) (haK : a < lpw K) (hbK : b < lpw K) :
    Calls Tryz.prog 55 #[sa, sb] w (RetPair (a / b) (a % b) w) := by
  by_cases hlt : a < b
  · exact natDiv_less sa sb a b w ha hb hlt
  · obtain ⟨L, h1, h2, rfl⟩ := hb
    have hl := num_len h1 h2 hbK
    rcases h1 with ⟨rfl, rfl⟩ | ⟨bb, tb, len, cap, lb, rfl, hab, k1, k2, hwb, rfl⟩
    · exact absurd rfl hb0
    · have hL : (lb.take len).length = len := by rw [List.length_take, Nat.min_eq_left k1]
      rw [hL] at hl h2
      have hlen : len ≠ 0 := by
        rintro rfl
        exact hb0 rfl
      have hz := h2 (fun e => by rw [e] at hL; exact hlen hL.symm)
      rw [getD_take, if_pos (by omega)] at hz
      by_cases h1 : len = 1
      · subst h1
        have ev : lval (lb.take 1) = lb.getD 0 0 := by
          have := lval_take_succ (l := lb) (k := 0) (by omega)
          simpa [lval, lpw] using this
        rw [ev] at hlt ⊢
        exact natDiv_limb sa a bb tb cap lb w ha hab k1 hwb hz hlt
      · exact natDiv_long K hK sa a bb tb len cap lb w ha hab k1 hwb (by omega) (by omega) hz hlt haK
end Go.Proofs.YtogildikglomkaaGreatDoor
