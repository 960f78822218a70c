/- DivMath -/
import Derived.Test.YtgccgacpifebbaaGreatDoorZb19
import Derived.Test.YtgccgacpifebbaaGreatDoorZb15
namespace Go.Proofs.YtgccgacpifebbaaGreatDoor
open Go.RowKit
set_option linter.unusedVariables false
/-- A guessed digit is right,or one too great. -/
theorem digit_val {u2 u1 u0 v1 v0 d P ul vl U V : Int} (h : DigitOk u2 u1 u0 v1 v0 d) (h2 : Word u2) (h1 : Word u1) (h0 : Word u0) (g1 : Word v1) (g0 : Word v0) (hP : 0 < P) (hul : 0 ≤ ul ∧ ul < P) (hvl : 0 ≤ vl ∧ vl < P)
    (hU : U = ul + P * ((u2 * 18446744073709551616 + u1) * 18446744073709551616 + u0)) (hV : V = vl + P * (v1 * 18446744073709551616 + v0)) (hn : 9223372036854775808 ≤ v1) (hlt : U < 18446744073709551616 * V) : d * V ≤ U + V ∧ U < d * V + V := by
  obtain ⟨wd,ha,hb⟩ := h
  unfold Word at h2 h1 h0 g1 g0 wd
  obtain ⟨U3,hU3⟩ : ∃ U3,(u2 * 18446744073709551616 + u1) * 18446744073709551616 + u0 = U3 := ⟨_,rfl⟩
  obtain ⟨V2,hV2⟩ : ∃ V2,v1 * 18446744073709551616 + v0 = V2 := ⟨_,rfl⟩
  have hdV2 : d * v1 * 18446744073709551616 + d * v0 = d * V2 := by rw [← hV2,Int.mul_add,Int.mul_assoc]
  rw [hU3] at hU hb
  rw [hV2] at hV
  have hU0 : 0 ≤ U3 := by omega
  have hPU : 0 ≤ P * U3 := Int.mul_nonneg (by omega) hU0
  have hV0 : 0 ≤ V := by rw [hV]; have := Int.mul_nonneg (Int.le_of_lt hP) (show 0 ≤ V2 by omega); omega
  by_cases hc : u2 < v1
  · obtain ⟨b1,b2⟩ := hb hc
    rw [hdV2] at b1
    have b2' : U3 < d * V2 + V2 := by omega
    have e1 : d * V = d * vl + P * (d * V2) := by rw [hV,Int.mul_add,Int.mul_left_comm]
    have k0 : 0 ≤ d * vl := Int.mul_nonneg wd.1 hvl.1
    constructor
    · have k1 : P * (d * V2) ≤ P * U3 := Int.mul_le_mul_of_nonneg_left b1 (by omega)
      have k2 : d * vl ≤ d * P := Int.mul_le_mul_of_nonneg_left (by omega) wd.1
      have k3 : P * d ≤ P * V2 := Int.mul_le_mul_of_nonneg_left (by omega) (by omega)
      rw [Int.mul_comm P d] at k3
      omega
    · have k1 : P * (U3 + 1) ≤ P * (d * V2 + V2) := Int.mul_le_mul_of_nonneg_left (by omega) (by omega)
      rw [Int.mul_add,Int.mul_one,Int.mul_add] at k1
      omega
  · have hd := ha (by omega)
    subst hd
    have e1 : (18446744073709551615 : Int) * V = 18446744073709551616 * V - V := by omega
    constructor
    · have k1 : P * ((18446744073709551614 : Int) * (V2 + 1)) ≤ P * U3 := Int.mul_le_mul_of_nonneg_left (by omega) (by omega)
      have k2 : P * ((18446744073709551614 : Int) * (V2 + 1)) = 18446744073709551614 * (P * V2) + 18446744073709551614 * P := by
        rw [Int.mul_left_comm,Int.mul_add,Int.mul_one,Int.mul_add]
      generalize P * V2 = a at *
      omega
    · omega
/-- Behind k rounds: the quotient's words from place M - k on,what is left below V B^(M-k). -/
def DivsAt (X V : Int) (n L M k : Nat) (lu lq : List Int) : Prop :=
  lu.length = L ∧ Words lu ∧ lq.length = M ∧ Words lq ∧ (∀ j,j < M - k → lq.getD j 0 = 0) ∧ (∀ j,M - k + n ≤ j → lu.getD j 0 = 0) ∧ seg lu (M - k) n < V ∧ seg lu 0 L + V * (pw (M - k) * seg lq (M - k) k) = X
theorem lin_divs {a P u u' q V r P1 s X B : Int} (hu : u' = u - q * V) (h1 : P1 = B * P) (h : a + P * u + r + V * (P1 * s) = X) : a + P * u' + r + V * (P * (q + B * s)) = X := by
  have e1 : P * u' = P * u - V * (P * q) := by rw [hu,Int.mul_sub,Int.mul_left_comm V P q,Int.mul_comm V q]
  have e2 : V * (P * (q + B * s)) = V * (P * q) + V * (P1 * s) := by
    rw [Int.mul_add P,Int.mul_add V,h1,Int.mul_left_comm P B s,Int.mul_assoc B P s]
  omega
theorem seg_three {l : List Int} {i m k L : Nat} (h : i + m + k = L) (hl : l.length = L) : seg l 0 L = seg l 0 i + pw i * seg l i m + pw (i + m) * seg l (i + m) k := by
  have e1 := seg_add (l := l) (o := 0) (k := i + m) (m := k) (by omega)
  have e2 := seg_add (l := l) (o := 0) (k := i) (m := m) (by omega)
  rw [Nat.zero_add] at e1 e2
  rw [h] at e1
  omega
theorem DivsAt.step {X V q : Int} {n L M k : Nat} {lu lq lu' : List Int} (h : DivsAt X V n L M k lu lq) (hk : k < M) (hL : M + n = L) (hlen : lu'.length = L) (hw : Words lu') (hout : ∀ j,j < M - 1 - k ∨ M - 1 - k + (n + 1) ≤ j → lu'.getD j 0 = lu.getD j 0)
    (hv : seg lu' (M - 1 - k) (n + 1) = seg lu (M - 1 - k) (n + 1) - q * V) (hlt : seg lu' (M - 1 - k) (n + 1) < V) (hq : Word q) (hV : V < pw n) : DivsAt X V n L M (k + 1) lu' (lq.set (M - 1 - k) q) := by
  obtain ⟨a1,a2,a3,a4,a5,a6,a7,a8⟩ := h
  obtain ⟨i,hi⟩ : ∃ i,M - 1 - k = i := ⟨_,rfl⟩
  rw [hi] at hout hv hlt ⊢
  have hi1 : M - k = i + 1 := by omega
  have hi2 : M - (k + 1) = i := by omega
  rw [hi1] at a5 a6 a7 a8
  rw [show DivsAt X V n L M (k + 1) lu' (lq.set i q) = (lu'.length = L ∧ Words lu' ∧ (lq.set i q).length = M ∧ Words (lq.set i q) ∧ (∀ j,j < M - (k + 1) → (lq.set i q).getD j 0 = 0) ∧ (∀ j,M - (k + 1) + n ≤ j → lu'.getD j 0 = 0) ∧ seg lu' (M - (k + 1)) n < V ∧ seg lu' 0 L + V * (pw (M - (k + 1)) * seg (lq.set i q) (M - (k + 1)) (k + 1)) = X) from rfl,hi2]
  have hs := seg_succ (l := lu') (o := i) (k := n) (by omega)
  have hb := seg_bd hw i n (by omega)
  have wt := hw.getD (i + n)
  have hp := pw_pos n
  have htop : lu'.getD (i + n) 0 = 0 := by
    by_cases h : lu'.getD (i + n) 0 = 0
    · exact h
    · have : pw n * 1 ≤ pw n * lu'.getD (i + n) 0 := Int.mul_le_mul_of_nonneg_left (by unfold Word at wt; omega) (by omega)
      omega
  rw [htop,Int.mul_zero,Int.add_zero] at hs
  refine ⟨hlen,hw,by simp [a3],a4.set _ hq,?_,?_,by omega,?_⟩
  · intro j hj
    rw [getD_set _ _ _ _ (by omega),if_neg (by omega)]
    exact a5 j (by omega)
  · intro j hj
    by_cases e : j = i + n
    · rw [e]; exact htop
    · rw [hout j (by omega)]
      exact a6 j (by omega)
  · rw [seg_three (l := lu) (i := i) (m := n + 1) (k := k) (by omega) a1] at a8
    rw [seg_three (l := lu') (i := i) (m := n + 1) (k := k) (by omega) hlen,
      seg_congr (l := lu') (l' := lu) (o := 0) (k := i) (by omega) (by omega) (fun j _ h2 => hout j (by omega)),
      seg_congr (l := lu') (l' := lu) (o := i + (n + 1)) (k := k) (by omega) (by omega) (fun j h1 _ => hout j (by omega)),
      seg_cons (l := lq.set i q) (by simp; omega),getD_set _ _ _ _ (by omega),if_pos rfl,
      seg_congr (l := lq.set i q) (l' := lq) (o := i + 1) (k := k) (by simp; omega) (by omega) (fun j h1 h2 => by rw [getD_set _ _ _ _ (by omega),if_neg (by omega)])]
    exact lin_divs hv rfl a8
/-- The words of a round's part,as the guess takes them. -/
theorem part_words {l : List Int} {i n : Nat} (hn : 2 ≤ n) (h : i + n + 1 ≤ l.length) : seg l i (n + 1) = seg l i (n - 2) + pw (n - 2) * ((l.getD (i + n) 0 * 18446744073709551616 + l.getD (i + (n - 1)) 0) * 18446744073709551616 + l.getD (i + (n - 2)) 0) := by
  obtain ⟨m,rfl⟩ : ∃ m,n = m + 2 := ⟨n - 2,by omega⟩
  rw [Nat.add_sub_cancel,show m + 2 - 1 = m + 1 by omega,show m + 2 + 1 = m + 1 + 1 + 1 by omega,seg_succ (by omega),seg_succ (by omega),seg_succ (by omega)]
  simp only [pw,Int.mul_add]
  have e1 : 18446744073709551616 * pw m * l.getD (i + (m + 1)) 0 = pw m * (l.getD (i + (m + 1)) 0 * 18446744073709551616) := by
    rw [Int.mul_comm 18446744073709551616 (pw m),Int.mul_assoc,Int.mul_comm 18446744073709551616 (l.getD (i + (m + 1)) 0)]
  have e2 : 18446744073709551616 * (18446744073709551616 * pw m) * l.getD (i + (m + 1 + 1)) 0 = pw m * (l.getD (i + (m + 2)) 0 * 18446744073709551616 * 18446744073709551616) := by
    rw [Int.mul_left_comm,Int.mul_comm 18446744073709551616 (18446744073709551616 * pw m),Int.mul_comm 18446744073709551616 (pw m)]
    simp only [Int.mul_assoc,Int.mul_comm,Int.mul_left_comm]
  rw [e1]
  have e3 : (l.getD (i + (m + 2)) 0 * 18446744073709551616 + l.getD (i + (m + 1)) 0) * 18446744073709551616 = l.getD (i + (m + 2)) 0 * 18446744073709551616 * 18446744073709551616 + l.getD (i + (m + 1)) 0 * 18446744073709551616 := by rw [Int.add_mul]
  rw [e3,Int.mul_add]
  simp only [Nat.add_assoc,Nat.reduceAdd] at e2 ⊢
  generalize pw m * (l.getD (i + (m + 2)) 0 * 18446744073709551616 * 18446744073709551616) = a at *
  omega
theorem two_words {l : List Int} {n : Nat} (hn : 2 ≤ n) (h : n ≤ l.length) : seg l 0 n = seg l 0 (n - 2) + pw (n - 2) * (l.getD (n - 1) 0 * 18446744073709551616 + l.getD (n - 2) 0) := by
  obtain ⟨m,rfl⟩ : ∃ m,n = m + 2 := ⟨n - 2,by omega⟩
  rw [Nat.add_sub_cancel,show m + 2 - 1 = m + 1 by omega,show m + 2 = m + 1 + 1 by omega,seg_succ (by omega),seg_succ (by omega),Nat.zero_add,Nat.zero_add]
  simp only [pw,Int.mul_add]
  have e1 : 18446744073709551616 * pw m * l.getD (m + 1) 0 = pw m * (l.getD (m + 1) 0 * 18446744073709551616) := by
    rw [Int.mul_comm 18446744073709551616 (pw m),Int.mul_assoc,Int.mul_comm 18446744073709551616 (l.getD (m + 1) 0)]
  rw [e1]; omega
/-- A number shifted up till its highest bit is set. -/
theorem norm_y {ly lv : List Int} {n S : Nat} {top : Int} (hn : 2 ≤ n) (hwy : Words ly) (hly : n ≤ ly.length) (htop : ly.getD (n - 1) 0 = top) (h0 : top ≠ 0) (hS : S ≤ 63) (h1 : 9223372036854775808 ≤ top * 2 ^ S) (h2 : top * 2 ^ S < 18446744073709551616)
    (hlv : lv.length = n + 1) (wv : Words lv) (hsv : seg lv 0 (n + 1) = seg ly 0 n * 2 ^ S) : seg lv 0 n = seg ly 0 n * 2 ^ S ∧ 9223372036854775808 ≤ lv.getD (n - 1) 0 ∧ pw (n - 1) ≤ seg ly 0 n := by
  obtain ⟨m,rfl⟩ : ∃ m,n = m + 1 := ⟨n - 1,by omega⟩
  rw [Nat.add_sub_cancel] at htop ⊢
  have wt := hwy.getD m
  rw [htop] at wt
  have p2 : (0 : Int) < 2 ^ S := Int.pow_pos (by decide)
  have e : (2 : Int) ^ (64 - S) * 2 ^ S = 18446744073709551616 := by
    rw [← Int.pow_add,Nat.sub_add_cancel (by omega)]; decide
  have ht : top < 2 ^ (64 - S) := by
    by_cases h : top < 2 ^ (64 - S)
    · exact h
    · have : 2 ^ (64 - S) * 2 ^ S ≤ top * 2 ^ S := Int.mul_le_mul_of_nonneg_right (by omega) (by omega)
      omega
  have ht2 : (top + 1) * 2 ^ S ≤ 18446744073709551616 := by
    rw [← e]; exact Int.mul_le_mul_of_nonneg_right (by omega) (by omega)
  have s1 := seg_succ (l := ly) (o := 0) (k := m) (by omega)
  rw [Nat.zero_add,htop] at s1
  have b1 := seg_bd hwy 0 m (by omega)
  have hp := pw_pos m
  have lowy : pw m * top ≤ seg ly 0 (m + 1) := by omega
  have hiy : seg ly 0 (m + 1) ≤ pw m * (top + 1) := by rw [Int.mul_add,Int.mul_one]; omega
  have hi2 : seg ly 0 (m + 1) * 2 ^ S < pw (m + 1) := by
    have k1 : seg ly 0 (m + 1) < pw m * (top + 1) := by rw [Int.mul_add,Int.mul_one]; omega
    have k2 : seg ly 0 (m + 1) * 2 ^ S < pw m * (top + 1) * 2 ^ S := Int.mul_lt_mul_of_pos_right k1 p2
    have k3 : pw m * ((top + 1) * 2 ^ S) ≤ pw m * 18446744073709551616 := Int.mul_le_mul_of_nonneg_left ht2 (by omega)
    rw [← Int.mul_assoc] at k3
    simp only [pw]
    omega
  have s2 := seg_succ (l := lv) (o := 0) (k := m + 1) (by omega)
  rw [Nat.zero_add] at s2
  have b2 := seg_bd wv 0 (m + 1) (by omega)
  have wl := wv.getD (m + 1)
  have z : lv.getD (m + 1) 0 = 0 := by
    by_cases h : lv.getD (m + 1) 0 = 0
    · exact h
    · have : pw (m + 1) * 1 ≤ pw (m + 1) * lv.getD (m + 1) 0 := Int.mul_le_mul_of_nonneg_left (by unfold Word at wl; omega) (by have := pw_pos (m + 1); omega)
      omega
  rw [z,Int.mul_zero,Int.add_zero] at s2
  have hv : seg lv 0 (m + 1) = seg ly 0 (m + 1) * 2 ^ S := by omega
  refine ⟨hv,?_,?_⟩
  · have s3 := seg_succ (l := lv) (o := 0) (k := m) (by omega)
    rw [Nat.zero_add] at s3
    have b3 := seg_bd wv 0 m (by omega)
    by_cases h : 9223372036854775808 ≤ lv.getD m 0
    · exact h
    · have k1 : pw m * (lv.getD m 0 + 1) ≤ pw m * 9223372036854775808 := Int.mul_le_mul_of_nonneg_left (by omega) (by omega)
      rw [Int.mul_add,Int.mul_one] at k1
      have k2 : pw m * top * 2 ^ S ≤ seg ly 0 (m + 1) * 2 ^ S := Int.mul_le_mul_of_nonneg_right lowy (by omega)
      have k3 : pw m * 9223372036854775808 ≤ pw m * (top * 2 ^ S) := Int.mul_le_mul_of_nonneg_left h1 (by omega)
      rw [← Int.mul_assoc] at k3
      omega
  · have : pw m * 1 ≤ pw m * top := Int.mul_le_mul_of_nonneg_left (by unfold Word at wt; omega) (by omega)
    omega
theorem getD_none {l : List Int} {j : Nat} (h : l.length ≤ j) : l.getD j 0 = 0 := by rw [List.getD_eq_getElem?_getD,List.getElem?_eq_none h]; rfl
/-- The division's beginning. -/
theorem divs_start {lx lu : List Int} {n xl S : Nat} {V Y : Int} (hn : 2 ≤ n) (hnx : n ≤ xl) (hwx : Words lx) (hlx : xl ≤ lx.length) (hlu : lu.length = xl + 1) (wu : Words lu) (hsu : seg lu 0 (xl + 1) = seg lx 0 xl * 2 ^ S) (hV : V = Y * 2 ^ S) (hY : pw (n - 1) ≤ Y) :
    DivsAt (seg lx 0 xl * 2 ^ S) V n (xl + 1) (xl - n + 1) 0 lu (List.replicate (xl - n + 1) 0) := by
  refine ⟨hlu,wu,by simp,Words.replicate _,fun j _ => ?_,fun j hj => getD_none (by omega),?_,?_⟩
  · simp only [List.getD_eq_getElem?_getD,List.getElem?_replicate]; split <;> rfl
  · have e := seg_add (l := lu) (o := 0) (k := xl - n + 1) (m := n) (by omega)
    rw [show xl - n + 1 + n = xl + 1 by omega,hsu,Nat.zero_add] at e
    have b1 := (seg_bd wu 0 (xl - n + 1) (by omega)).1
    have b2 := (seg_bd hwx 0 xl (by omega)).2
    have p2 : (0 : Int) < 2 ^ S := Int.pow_pos (by decide)
    have hp := pw_pos (xl - n + 1)
    have k1 : seg lx 0 xl * 2 ^ S < pw xl * 2 ^ S := Int.mul_lt_mul_of_pos_right b2 p2
    have k2 : pw xl = pw (xl - n + 1) * pw (n - 1) := by rw [← pw_add]; congr 1; omega
    rw [k2,Int.mul_assoc] at k1
    have k3 : pw (n - 1) * 2 ^ S ≤ Y * 2 ^ S := Int.mul_le_mul_of_nonneg_right hY (by omega)
    rw [Nat.sub_zero]
    by_cases h : seg lu (xl - n + 1) n < V
    · exact h
    · have k4 : pw (xl - n + 1) * (pw (n - 1) * 2 ^ S) ≤ pw (xl - n + 1) * seg lu (xl - n + 1) n := Int.mul_le_mul_of_nonneg_left (by omega) (by omega)
      omega
  · rw [seg_zero,Int.mul_zero,Int.mul_zero,Int.add_zero,hsu]
/-- The division's end. -/
theorem divs_end {lu lq : List Int} {n xl M S : Nat} {x y : Int} (h : DivsAt (x * 2 ^ S) (y * 2 ^ S) n (xl + 1) M M lu lq) (hn : n ≤ xl + 1) : x / y = seg lq 0 M ∧ x % y = seg lu 0 n / 2 ^ S := by
  obtain ⟨a1,a2,a3,a4,a5,a6,a7,a8⟩ := h
  rw [Nat.sub_self] at a6 a7 a8
  simp only [pw,Int.one_mul] at a8
  have e := seg_add (l := lu) (o := 0) (k := n) (m := xl + 1 - n) (by omega)
  rw [show n + (xl + 1 - n) = xl + 1 by omega,Nat.zero_add] at e
  have ez : ∀ k,n + k ≤ xl + 1 → seg lu n k = 0 := by
    intro k
    induction k with
    | zero => intro _; exact seg_zero _ _
    | succ k ih => intro hk; rw [seg_succ (by omega),ih (by omega),a6 (n + k) (by omega),Int.mul_zero]; rfl
  rw [ez _ (by omega),Int.mul_zero,Int.add_zero] at e
  rw [e] at a8
  have b1 := (seg_bd a2 0 n (by omega)).1
  have p2 : (0 : Int) < 2 ^ S := Int.pow_pos (by decide)
  have e2 : (x - seg lq 0 M * y) * 2 ^ S = seg lu 0 n := by
    have e3 : y * 2 ^ S * seg lq 0 M = seg lq 0 M * y * 2 ^ S := by rw [Int.mul_right_comm,Int.mul_comm y]
    rw [Int.sub_mul]
    omega
  obtain ⟨r,hr⟩ : ∃ r,x - seg lq 0 M * y = r := ⟨_,rfl⟩
  rw [hr] at e2
  have r0 : 0 ≤ r := by
    by_cases h : 0 ≤ r
    · exact h
    · have : r * 2 ^ S ≤ (-1) * 2 ^ S := Int.mul_le_mul_of_nonneg_right (by omega) (by omega)
      omega
  have r1 : r < y := by
    by_cases h : r < y
    · exact h
    · have : y * 2 ^ S ≤ r * 2 ^ S := Int.mul_le_mul_of_nonneg_right (by omega) (by omega)
      omega
  have hd := half_div (U := x) (Y := y) (q := seg lq 0 M) (by omega) (by omega)
  refine ⟨hd.1,?_⟩
  rw [← e2,Int.mul_ediv_cancel _ (by omega),hd.2,hr]
end Go.Proofs.YtgccgacpifebbaaGreatDoor
