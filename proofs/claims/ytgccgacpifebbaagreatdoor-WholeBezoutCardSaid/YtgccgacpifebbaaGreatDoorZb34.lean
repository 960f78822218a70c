/- GcdT -/
import Derived.Test.YtgccgacpifebbaaGreatDoorZb33
import Derived.Test.YtgccgacpifebbaaGreatDoorZb27
namespace Go.Proofs.YtgccgacpifebbaaGreatDoor
open Go.RowKit
set_option linter.unusedVariables false
theorem pos_of {E z : Int} (hE : 0 < E) (h : 0 < E * z) : 0 < z := by
  rcases Int.lt_or_le 0 z with h1 | h1
  · exact h1
  · have := Int.mul_le_mul_of_nonneg_left h1 (show 0 ≤ E by omega)
    rw [Int.mul_zero] at this
    omega
theorem gcd_turn {x y A B a b c d e f g h : Int} (h1 : A = a * x + b * y) (h2 : B = c * x + d * y) (h3 : x = e * A + f * B) (h4 : y = g * A + h * B) : Int.gcd A B = Int.gcd x y := by
  refine Nat.dvd_antisymm ?_ ?_
  · refine Int.natCast_dvd_natCast.1 (Int.dvd_coe_gcd ?_ ?_)
    · rw [h3]; exact Int.dvd_add (Int.dvd_mul_of_dvd_right (Int.gcd_dvd_left _ _)) (Int.dvd_mul_of_dvd_right (Int.gcd_dvd_right _ _))
    · rw [h4]; exact Int.dvd_add (Int.dvd_mul_of_dvd_right (Int.gcd_dvd_left _ _)) (Int.dvd_mul_of_dvd_right (Int.gcd_dvd_right _ _))
  · refine Int.natCast_dvd_natCast.1 (Int.dvd_coe_gcd ?_ ?_)
    · rw [h1]; exact Int.dvd_add (Int.dvd_mul_of_dvd_right (Int.gcd_dvd_left _ _)) (Int.dvd_mul_of_dvd_right (Int.gcd_dvd_right _ _))
    · rw [h2]; exact Int.dvd_add (Int.dvd_mul_of_dvd_right (Int.gcd_dvd_left _ _)) (Int.dvd_mul_of_dvd_right (Int.gcd_dvd_right _ _))
/-- Sure steps make of two numbers two that share as much, both above 0, the second below the first, and the first not above what was the second. -/
theorem Told.good {P Q p q r t x y E D : Int} (h : Told P Q p q r t) (hq : q ≠ 0) (hE : 0 < E) (hD : 0 < D) (hP : P = x * E / D) (hQ : Q = y * E / D) (hP2 : P < 9223372036854775808) :
    0 < r * x + t * y ∧ r * x + t * y < p * x + q * y ∧ p * x + q * y ≤ y ∧ Int.gcd (p * x + q * y) (r * x + t * y) = Int.gcd x y ∧ y ≤ x ∧
    (∃ s a b c d,(s = 1 ∨ s = -1) ∧ 0 ≤ a ∧ 0 ≤ b ∧ 0 ≤ c ∧ 0 ≤ d ∧ a ≤ d ∧ b ≤ d ∧ c ≤ d ∧ d < 2147483648 ∧ p = s * a ∧ q = -(s * b) ∧ r = -(s * c) ∧ t = s * d ∧ a * d - b * c = s) := by
  rcases h with h | ⟨s,a,b,c,d,X,Y,h,h1,h2,rfl,rfl,rfl,rfl⟩
  · exact absurd h hq
  have hb1 : 1 ≤ b := by
    have := h.b0
    by_cases e : b = 0
    · subst e; simp at hq
    · omega
  have hab : a ≤ b ∧ 1 ≤ c := by rcases h.ab with e | ⟨_,e,_⟩; exact e; omega
  have ha := h.a0
  have hc := hab.2
  have hd := h.d1
  have hcd := h.cd
  have hbd := h.bd
  -- what is left below the tops
  have α0 := Int.emod_nonneg (x * E) (show D ≠ 0 by omega)
  have α1 := Int.emod_lt_of_pos (x * E) hD
  have β0 := Int.emod_nonneg (y * E) (show D ≠ 0 by omega)
  have β1 := Int.emod_lt_of_pos (y * E) hD
  have ex := Int.mul_ediv_add_emod (x * E) D
  have ey := Int.mul_ediv_add_emod (y * E) D
  rw [← hP] at ex
  rw [← hQ] at ey
  generalize x * E % D = α at *
  generalize y * E % D = β at *
  have hX : s * a * P - s * b * Q = X := by
    have e1 := h.ex
    have e2 := h.ey
    have e3 := h.det
    have : s * (a * P - b * Q) = X := by
      rw [← e1,← e2]
      have : a * (d * X + b * Y) - b * (c * X + a * Y) = (a * d - b * c) * X := by
        rw [Int.mul_add,Int.mul_add,Int.sub_mul,← Int.mul_assoc,← Int.mul_assoc,← Int.mul_assoc,← Int.mul_assoc,Int.mul_comm b a]; omega
      rw [this,e3,← Int.mul_assoc]
      rcases h.s1 with e | e <;> subst e <;> simp
    rw [← this,Int.mul_sub,Int.mul_assoc,Int.mul_assoc]
  have hY : -(s * c) * P + s * d * Q = Y := by
    have e1 := h.ex
    have e2 := h.ey
    have e3 := h.det
    have : s * (d * Q - c * P) = Y := by
      rw [← e1,← e2]
      have : d * (c * X + a * Y) - c * (d * X + b * Y) = (a * d - b * c) * Y := by
        rw [Int.mul_add,Int.mul_add,Int.sub_mul,← Int.mul_assoc,← Int.mul_assoc,← Int.mul_assoc,← Int.mul_assoc,Int.mul_comm d c,Int.mul_comm d a,Int.mul_comm c b]; omega
      rw [this,e3,← Int.mul_assoc]
      rcases h.s1 with e | e <;> subst e <;> simp
    rw [← this,Int.mul_sub,Int.neg_mul,Int.mul_assoc,Int.mul_assoc]; omega
  have hss : s * s = 1 := by rcases h.s1 with e | e <;> subst e <;> rfl
  have hdet := h.det
  obtain ⟨A,hA⟩ : ∃ A,s * a * x + -(s * b) * y = A := ⟨_,rfl⟩
  obtain ⟨B,hB⟩ : ∃ B,-(s * c) * x + s * d * y = B := ⟨_,rfl⟩
  rw [hA,hB]
  have yA : y = c * A + a * B := by
    rw [← hA,← hB]
    have : c * (s * a * x + -(s * b) * y) + a * (-(s * c) * x + s * d * y) = s * (a * d - b * c) * y := by grind
    rw [this,hdet,hss,Int.one_mul]
  have xA : x = d * A + b * B := by
    rw [← hA,← hB]
    have : d * (s * a * x + -(s * b) * y) + b * (-(s * c) * x + s * d * y) = s * (a * d - b * c) * x := by grind
    rw [this,hdet,hss,Int.one_mul]
  have eA : E * A = D * X + s * (a * α - b * β) := by
    rw [← hA,← hX]
    have : E * (s * a * x + -(s * b) * y) = s * a * (x * E) - s * b * (y * E) := by grind
    rw [this,← ex,← ey]
    grind
  have eB : E * B = D * Y + s * (d * β - c * α) := by
    rw [← hB,← hY]
    have : E * (-(s * c) * x + s * d * y) = -(s * c) * (x * E) + s * d * (y * E) := by grind
    rw [this,← ex,← ey]
    grind
  have n1 := Int.mul_nonneg (show 0 ≤ c by omega) α0
  have n2 := Int.mul_nonneg (show 0 ≤ d by omega) β0
  have n3 := Int.mul_nonneg ha α0
  have n4 := Int.mul_nonneg (show 0 ≤ b by omega) β0
  have m1 : c * α ≤ d * α := Int.mul_le_mul_of_nonneg_right hcd α0
  have m2 : a * α ≤ b * α := Int.mul_le_mul_of_nonneg_right hab.1 α0
  have m3 : d * α < d * D := Int.mul_lt_mul_of_pos_left α1 (by omega)
  have m4 : d * β < d * D := Int.mul_lt_mul_of_pos_left β1 (by omega)
  have m5 : b * α < b * D := Int.mul_lt_mul_of_pos_left α1 (by omega)
  have m6 : b * β < b * D := Int.mul_lt_mul_of_pos_left β1 (by omega)
  have m7 : D * d ≤ D * Y := Int.mul_le_mul_of_nonneg_left h1 (by omega)
  have m8 : D * (b + d) ≤ D * (X - Y) := Int.mul_le_mul_of_nonneg_left h2 (by omega)
  rw [Int.mul_add,Int.mul_sub,Int.mul_comm D b] at m8
  rw [Int.mul_comm D d] at m7 m8
  have B0 : 0 < B := pos_of hE (by rw [eB]; rcases h.s1 with e | e <;> subst e <;> omega)
  have AB : 0 < A - B := pos_of hE (by rw [Int.mul_sub,eA,eB]; rcases h.s1 with e | e <;> subst e <;> omega)
  refine ⟨B0,by omega,?_,gcd_turn hA.symm hB.symm xA yA,?_,?_⟩
  · have k1 : 1 * A ≤ c * A := Int.mul_le_mul_of_nonneg_right hc (by omega)
    have k2 := Int.mul_nonneg ha (show 0 ≤ B by omega)
    omega
  · have k1 : c * A ≤ d * A := Int.mul_le_mul_of_nonneg_right hcd (by omega)
    have k2 : a * B ≤ b * B := Int.mul_le_mul_of_nonneg_right hab.1 (by omega)
    omega
  · refine ⟨s,a,b,c,d,h.s1,ha,by omega,by omega,by omega,by omega,hbd,hcd,?_,rfl,rfl,rfl,rfl,hdet⟩
    have k1 : d * (d + d) ≤ d * X := Int.mul_le_mul_of_nonneg_left (by omega) (by omega)
    have k2 := Int.mul_nonneg (show 0 ≤ b by omega) h.Y0
    have k3 := h.ex
    rcases Int.lt_or_le d 2147483648 with k | k
    · exact k
    · have k4 : (2147483648 : Int) * 2147483648 ≤ d * d := Int.mul_le_mul k k (by decide) (by omega)
      rw [Int.mul_add] at k1
      omega
/-- The i-th word of n. -/
def wd (n : Int) (i : Nat) : Int := n / pw i % 18446744073709551616
theorem wd_word (n : Int) (i : Nat) : Word (wd n i) := ⟨Int.emod_nonneg _ (by decide),Int.emod_lt_of_pos _ (by decide)⟩
theorem wd_row {l : List Int} {L i : Nat} {n : Int} (hw : Words l) (hl : L ≤ l.length) (hv : val (l.take L) = n) (hi : i < L) : l.getD i 0 = wd n i := by
  have e := seg_add (l := l) (o := 0) (k := i) (m := L - i) (by omega)
  rw [show i + (L - i) = L by omega,seg_all,hv,Nat.zero_add,show L - i = (L - i - 1) + 1 by omega,seg_cons (by omega)] at e
  have b1 := seg_bd hw 0 i (by omega)
  have hx := hw.getD i
  unfold wd
  rw [e,Int.add_mul_ediv_left _ _ (show pw i ≠ 0 by have := pw_pos i; omega),Int.ediv_eq_zero_of_lt b1.1 b1.2,Int.zero_add,Int.add_mul_emod_self_left]
  exact (Int.emod_eq_of_lt hx.1 hx.2).symm
theorem wd_off {n : Int} {L i : Nat} (h0 : 0 ≤ n) (hn : n < pw L) (hi : L ≤ i) : wd n i = 0 := by
  unfold wd
  rw [Int.ediv_eq_zero_of_lt h0 (Int.lt_of_lt_of_le hn (pw_mono hi))]; rfl
theorem row_lt {w : World} {v : Value} {g L c : Nat} {n : Int} (h : IsRow w v g L c n) : n < pw L := by
  by_cases hL : L = 0
  · subst hL
    obtain ⟨-,-,l,-,-,-,hv,-⟩ := h
    simp [val] at hv
    rw [← hv]; exact pw_pos 0
  · exact (h.len hL).2
theorem word_off (v : Value) (p : Option Addr) (L c i : Nat) (hv : v = .slice p L c) (hi : L ≤ i) (w : World) : Calls Tryz.prog 97 #[v,.int .i64 i] w fun e w' => e = .returned (.int .u64 0) ∧ w' = w := by
  subst hv
  have h1 : ¬ (i : Int) < 0 := by omega
  have h2 : (L : Int) ≤ (i : Int) := by omega
  go_enter Tryz.func97,Tryz.ntmps97
  go_wp2_with fail
  go_ret
  exact ⟨rfl,rfl⟩
theorem word_row {w : World} {v : Value} {g L c : Nat} {n : Int} (h : IsRow w v g L c n) (hL : L ≤ 1000000) (i : Nat) : Calls Tryz.prog 97 #[v,.int .i64 i] w fun e w' => e = .returned (.int .u64 (wd n i)) ∧ w' = w := by
  by_cases hi : i < L
  · have h' := h
    obtain ⟨rfl,h2,l,ha,hc,hw,hv,-⟩ := h
    rw [← wd_row hw (by omega) hv hi]
    exact word_in g _ L c i l (by omega) hi hL w ha
  · rw [wd_off h.nonneg (row_lt h) (Nat.le_of_not_lt hi)]
    exact word_off v _ L c i h.1 (Nat.le_of_not_lt hi) w
/-- The word below the i-th. -/
def wb (n : Int) (i : Nat) : Int := if i = 0 then 0 else wd n (i - 1)
theorem wb_word (n : Int) (i : Nat) : Word (wb n i) := by
  unfold wb
  split
  · exact ⟨by decide,by decide⟩
  · exact wd_word _ _
theorem word_below {w : World} {v : Value} {g L c : Nat} {n : Int} (h : IsRow w v g L c n) (hL : L ≤ 1000000) (i : Nat) : Calls Tryz.prog 97 #[v,.int .i64 ((i : Int) - 1)] w fun e w' => e = .returned (.int .u64 (wb n i)) ∧ w' = w := by
  unfold wb
  split
  · subst i
    exact word_neg v _ (by decide) w
  · rw [show (i : Int) - 1 = ((i - 1 : Nat) : Int) by omega]
    exact word_row h hL (i - 1)
theorem tops_val {n : Int} {i S : Nat} (h0 : 0 ≤ n) (hn : n < pw (i + 1)) (hS : S ≤ 63) : wd n i * 2 ^ S + wb n i / 2 ^ (64 - S) = n * 2 ^ S / pw i := by
  match i with
  | 0 =>
    have e0 : pw 0 = 1 := rfl
    have e1 : pw (0 + 1) = 18446744073709551616 := by decide
    rw [e1] at hn
    unfold wd wb
    rw [if_pos rfl,e0,Int.zero_ediv,Int.ediv_one,Int.ediv_one,Int.emod_eq_of_lt h0 hn,Int.add_zero]
  | k + 1 =>
    have ep : pw (k + 1) = pw k * 18446744073709551616 := pw_add k 1
    have p0 := pw_pos k
    have p1 := pw_pos (k + 1)
    have hr0 := Int.emod_nonneg n (show pw (k + 1) ≠ 0 by omega)
    have hr1 := Int.emod_lt_of_pos n p1
    have hn2 := Int.mul_ediv_add_emod n (pw (k + 1))
    have hh0 : 0 ≤ n / pw (k + 1) := Int.ediv_nonneg h0 (by omega)
    have hh1 : n / pw (k + 1) < 18446744073709551616 := Int.ediv_lt_of_lt_mul p1 (by rw [show pw (k + 1 + 1) = pw (k + 1) * 18446744073709551616 from pw_add (k + 1) 1] at hn; rw [Int.mul_comm]; exact hn)
    have e2 : (18446744073709551616 : Int) = 2 ^ (64 - S) * 2 ^ S := by rw [← Int.pow_add,show 64 - S + S = 64 by omega]; rfl
    have pS : (0 : Int) < 2 ^ S := Int.pow_pos (by decide)
    have pT : (0 : Int) < 2 ^ (64 - S) := Int.pow_pos (by decide)
    have hw : wd n (k + 1) = n / pw (k + 1) := Int.emod_eq_of_lt hh0 hh1
    have hb : wb n (k + 1) = n % pw (k + 1) / pw k := by
      unfold wb
      rw [if_neg (by omega),show k + 1 - 1 = k by omega]
      unfold wd
      conv => lhs; rw [← hn2,ep,Int.mul_assoc]
      rw [← ep,Int.add_comm,Int.add_mul_ediv_left _ _ (show pw k ≠ 0 by omega),Int.add_mul_emod_self_left]
      exact Int.emod_eq_of_lt (Int.ediv_nonneg hr0 (by omega)) (Int.ediv_lt_of_lt_mul p0 (by rw [ep] at hr1; rw [Int.mul_comm]; rw [← ep] at hr1 ⊢; exact hr1))
    rw [hw,hb]
    conv => rhs; rw [← hn2]
    generalize n / pw (k + 1) = q
    generalize n % pw (k + 1) = r at *
    rw [Int.add_mul,Int.mul_assoc,Int.add_comm,Int.add_comm (pw (k + 1) * _),Int.add_mul_ediv_left _ _ (show pw (k + 1) ≠ 0 by omega)]
    congr 1
    rw [ep,e2,← Int.mul_assoc,Int.mul_ediv_mul_of_pos_left _ _ pS,Int.ediv_ediv_of_nonneg (by omega)]
set_option maxRecDepth 100000 in
set_option maxHeartbeats 1000000 in
theorem top_any {w : World} {v : Value} {g L c : Nat} {n : Int} (h : IsRow w v g L c n) (hL : L ≤ 1000000) (i S : Nat) (hi : i ≤ 1000000) (hn : n < pw (i + 1)) (hS : S ≤ 63) (ho : wd n i * 2 ^ S < 18446744073709551616) :
    Calls Tryz.prog 98 #[v,.int .i64 i,.int .i64 S] w fun e w' => e = .returned (.int .i64 (n * 2 ^ S / (2 * pw i))) ∧ ∃ m,w' = w.drewN m := by
  have w1 := fun n => word_row (w := w.drewN n) h hL i
  have w2 := fun n => word_below (w := w.drewN n) h hL i
  have hx := wd_word n i
  have hy := wb_word n i
  have hv := tops_val h.nonneg hn hS
  have e : wrap64 (bits .or .u64 (IntKind.u64.wrap (wd n i * 2 ^ S)) (wb n i / 2 ^ (64 - S)) / 2) = n * 2 ^ S / (2 * pw i) := by
    have hs := shift_parts hy hS
    have hw : IntKind.u64.wrap (wd n i * 2 ^ S) = wd n i * 2 ^ S := by
      have := Int.mul_nonneg hx.1 (show (0 : Int) ≤ 2 ^ S from Int.le_of_lt (Int.pow_pos (by decide)))
      rw [IntKind.wrap_u64]; omega
    rw [hw,or_shift hx.1 (by omega) ho hs.2.1 hs.2.2,hv]
    have e2 : (18446744073709551616 : Int) = 2 ^ (64 - S) * 2 ^ S := by rw [← Int.pow_add,show 64 - S + S = 64 by omega]; rfl
    have pS : (0 : Int) < 2 ^ S := Int.pow_pos (by decide)
    have k1 : wd n i < 2 ^ (64 - S) := by
      rw [e2] at ho
      exact Int.lt_of_mul_lt_mul_right ho (by omega)
    have k2 : (wd n i + 1) * 2 ^ S ≤ 2 ^ (64 - S) * 2 ^ S := Int.mul_le_mul_of_nonneg_right (by omega) (by omega)
    rw [← e2,Int.add_mul,Int.one_mul] at k2
    have k3 : n * 2 ^ S / pw i < 18446744073709551616 := by rw [← hv]; omega
    have k4 : 0 ≤ n * 2 ^ S / pw i := by rw [← hv]; have := Int.mul_nonneg hx.1 (show (0 : Int) ≤ 2 ^ S by omega); omega
    rw [Int.mul_comm 2 (pw i),← Int.ediv_ediv_of_nonneg (by have := pw_pos i; omega)]
    unfold wrap64
    omega
  have He := Lib.hid e
  clear h e hv
  go_enter Tryz.func98,Tryz.ntmps98
  go_wp2_with fail
  go_quiet (first | (go_at_call 97; first | with_reducible exact Calls.quiet_of_same (w1 _) | with_reducible exact Calls.quiet_of_same (w2 _)))
  go_wp2_with fail
  go_ret
  exact ⟨by rw [← He.out]; rfl,_,rfl⟩
theorem top_lt {n : Int} {i S : Nat} (h0 : 0 ≤ n) (hn : n < pw (i + 1)) (hS : S ≤ 63) (ho : wd n i * 2 ^ S < 18446744073709551616) : 0 ≤ n * 2 ^ S / (2 * pw i) ∧ n * 2 ^ S / (2 * pw i) < 9223372036854775808 := by
  have hv := tops_val h0 hn hS
  have hx := wd_word n i
  have hs := shift_parts (wb_word n i) hS
  have e2 : (18446744073709551616 : Int) = 2 ^ (64 - S) * 2 ^ S := by rw [← Int.pow_add,show 64 - S + S = 64 by omega]; rfl
  have pS : (0 : Int) < 2 ^ S := Int.pow_pos (by decide)
  have k1 : wd n i < 2 ^ (64 - S) := by
    rw [e2] at ho
    exact Int.lt_of_mul_lt_mul_right ho (by omega)
  have k2 : (wd n i + 1) * 2 ^ S ≤ 2 ^ (64 - S) * 2 ^ S := Int.mul_le_mul_of_nonneg_right (by omega) (by omega)
  rw [← e2,Int.add_mul,Int.one_mul] at k2
  have k4 := Int.mul_nonneg hx.1 (show (0 : Int) ≤ 2 ^ S by omega)
  rw [Int.mul_comm 2 (pw i),← Int.ediv_ediv_of_nonneg (by have := pw_pos i; omega),← hv]
  omega
theorem or_wd {x y : Int} {S : Nat} (hx : Word x) (hy : Word y) (h : bits .or .u64 x y * 2 ^ S < 18446744073709551616) : x * 2 ^ S < 18446744073709551616 ∧ y * 2 ^ S < 18446744073709551616 := by
  obtain ⟨a,rfl⟩ := Int.eq_ofNat_of_zero_le hx.1
  obtain ⟨b,rfl⟩ := Int.eq_ofNat_of_zero_le hy.1
  have hx2 := hx.2
  have hy2 := hy.2
  rw [bits_or_u64_nat a b (by omega) (by omega)] at h
  have h1 : a ≤ a ||| b := Nat.left_le_or
  have h2 : b ≤ a ||| b := Nat.right_le_or
  have p : (0 : Int) ≤ 2 ^ S := Int.le_of_lt (Int.pow_pos (by decide))
  have k1 : (a : Int) * 2 ^ S ≤ ((a ||| b : Nat) : Int) * 2 ^ S := Int.mul_le_mul_of_nonneg_right (by omega) p
  have k2 : (b : Int) * 2 ^ S ≤ ((a ||| b : Nat) : Int) * 2 ^ S := Int.mul_le_mul_of_nonneg_right (by omega) p
  exact ⟨Int.lt_of_le_of_lt k1 h,Int.lt_of_le_of_lt k2 h⟩
theorem or_ne {x y : Int} (hx : Word x) (hy : Word y) (h : x ≠ 0 ∨ y ≠ 0) : Word (bits .or .u64 x y) ∧ bits .or .u64 x y ≠ 0 := by
  obtain ⟨a,rfl⟩ := Int.eq_ofNat_of_zero_le hx.1
  obtain ⟨b,rfl⟩ := Int.eq_ofNat_of_zero_le hy.1
  have hx2 := hx.2
  have hy2 := hy.2
  rw [bits_or_u64_nat a b (by omega) (by omega)]
  have h1 : a ≤ a ||| b := Nat.left_le_or
  have h2 : b ≤ a ||| b := Nat.right_le_or
  have h3 : a ||| b < 2 ^ 64 := Nat.or_lt_two_pow (by omega) (by omega)
  exact ⟨⟨by omega,by omega⟩,by omega⟩
theorem lz_same (z : Int) (hz : Word z) (h0 : z ≠ 0) : ∃ S : Nat,S ≤ 63 ∧ z * 2 ^ S < 18446744073709551616 ∧ ∀ W,Calls Tryz.prog 96 #[.int .u64 z] W fun e w' => e = .returned (.int .i64 S) ∧ W = w' := by
  obtain ⟨S,hS,h1,h2,-⟩ := lz_any z hz h0 (default : World)
  refine ⟨S,hS,h2,fun W => ?_⟩
  obtain ⟨T,hT,h3,h4,q⟩ := lz_any z hz h0 W
  have key : ∀ {A B : Nat},9223372036854775808 ≤ z * 2 ^ A → z * 2 ^ B < 18446744073709551616 → ¬ A < B := by
    intro A B hA hB hlt
    have e : (2 : Int) ^ B = 2 ^ A * (2 * 2 ^ (B - A - 1)) := by
      rw [← Int.pow_succ',← Int.pow_add,show A + (B - A - 1 + 1) = B by omega]
    have p : (0 : Int) < 2 ^ (B - A - 1) := Int.pow_pos (by decide)
    rw [e,← Int.mul_assoc] at hB
    have := Int.mul_le_mul_of_nonneg_right hA (show (0 : Int) ≤ 2 * 2 ^ (B - A - 1) by omega)
    omega
  obtain rfl : S = T := by
    rcases Nat.lt_trichotomy S T with h | h | h
    · exact absurd h (key h1 h4)
    · exact h
    · exact absurd h (key h3 h2)
  exact q
theorem wd_top {w : World} {v : Value} {g L c : Nat} {n : Int} (h : IsRow w v g L c n) (hL : L ≠ 0) : wd n (L - 1) ≠ 0 := by
  obtain ⟨-,h2,l,ha,hc,hw,hv,hz⟩ := h
  rw [← wd_row hw (by omega) hv (by omega)]
  exact hz hL
set_option maxRecDepth 100000 in
set_option maxHeartbeats 4000000 in
theorem tops_any (e ga gb La Lb ca cb : Nat) (x y : Int) (pa pb : Value) (w : World) (he : EBox w e pa pb) (ha : IsRow w pa ga La ca x) (hb : IsRow w pb gb Lb cb y) (hLa : La ≤ 1000000) (hLb : Lb ≤ 1000000) (hM : La ≠ 0 ∨ Lb ≠ 0) :
    ∃ (S i : Nat) (V1 V2 : Int),V1 = x * 2 ^ S / (2 * pw i) ∧ V2 = y * 2 ^ S / (2 * pw i) ∧ (0 ≤ V1 ∧ V1 < 9223372036854775808) ∧ (0 ≤ V2 ∧ V2 < 9223372036854775808) ∧ ∀ w,EBox w e pa pb → IsRow w pa ga La ca x → IsRow w pb gb Lb cb y →
    Calls Tryz.prog 65 #[.pointer (some ⟨e,0,none⟩)] w fun r w' => r = .returned (.tuple #[.int .i64 V1,.int .i64 V2]) ∧ ∃ m,w' = w.drewN m := by
  obtain ⟨i,hi⟩ : ∃ i,max La Lb = i + 1 := ⟨max La Lb - 1,by omega⟩
  have hiI : max (La : Int) (Lb : Int) - 1 = (i : Int) := by omega
  have hil : i ≤ 1000000 := by omega
  have hx : x < pw (i + 1) := Int.lt_of_lt_of_le (row_lt ha) (pw_mono (by omega))
  have hy : y < pw (i + 1) := Int.lt_of_lt_of_le (row_lt hb) (pw_mono (by omega))
  have hne : wd x i ≠ 0 ∨ wd y i ≠ 0 := by
    by_cases h : La = i + 1
    · left; have := wd_top ha (by omega); rwa [h] at this
    · right; have := wd_top hb (by omega); rwa [show Lb - 1 = i by omega] at this
  obtain ⟨ow,on⟩ := or_ne (wd_word x i) (wd_word y i) hne
  obtain ⟨S,hS,hlt,lz⟩ := lz_same _ ow on
  obtain ⟨o1,o2⟩ := or_wd (wd_word x i) (wd_word y i) hlt
  obtain ⟨z,hz⟩ : ∃ z,bits .or .u64 (wd x i) (wd y i) = z := ⟨_,rfl⟩
  rw [hz] at lz
  have tb1 := top_lt ha.nonneg hx hS o1
  have tb2 := top_lt hb.nonneg hy hS o2
  obtain rfl := ha.1
  obtain rfl := hb.1
  have wa : ∀ W n,IsRow W (.slice (some ⟨ga,0,none⟩) La ca) ga La ca x → Calls Tryz.prog 97 #[.slice (some ⟨ga,0,none⟩) La ca,.int .i64 i] (W.drewN n) fun e w'' => e = .returned (.int .u64 (wd x i)) ∧ ∃ m,w'' = W.drewN m := fun W n h => Calls.quiet_of_same (word_row (w := W.drewN n) h hLa i)
  have wb : ∀ W n,IsRow W (.slice (some ⟨gb,0,none⟩) Lb cb) gb Lb cb y → Calls Tryz.prog 97 #[.slice (some ⟨gb,0,none⟩) Lb cb,.int .i64 i] (W.drewN n) fun e w'' => e = .returned (.int .u64 (wd y i)) ∧ ∃ m,w'' = W.drewN m := fun W n h => Calls.quiet_of_same (word_row (w := W.drewN n) h hLb i)
  have ta : ∀ W n,IsRow W (.slice (some ⟨ga,0,none⟩) La ca) ga La ca x → Calls Tryz.prog 98 #[.slice (some ⟨ga,0,none⟩) La ca,.int .i64 i,.int .i64 S] (W.drewN n) fun e w'' => e = .returned (.int .i64 (x * 2 ^ S / (2 * pw i))) ∧ ∃ m,w'' = W.drewN m := fun W n h => Calls.quiet_of (top_any (w := W.drewN n) h hLa i S hil hx hS o1)
  have tb : ∀ W n,IsRow W (.slice (some ⟨gb,0,none⟩) Lb cb) gb Lb cb y → Calls Tryz.prog 98 #[.slice (some ⟨gb,0,none⟩) Lb cb,.int .i64 i,.int .i64 S] (W.drewN n) fun e w'' => e = .returned (.int .i64 (y * 2 ^ S / (2 * pw i))) ∧ ∃ m,w'' = W.drewN m := fun W n h => Calls.quiet_of (top_any (w := W.drewN n) h hLb i S hil hy hS o2)
  have lzq : ∀ W n,Calls Tryz.prog 96 #[.int .u64 z] (World.drewN W n) fun e w'' => e = .returned (.int .i64 S) ∧ ∃ m,w'' = W.drewN m := fun W n => (lz (W.drewN n)).mono fun e w' ⟨he,hw⟩ => ⟨he,n,hw.symm⟩
  refine ⟨S,i,_,_,rfl,rfl,tb1,tb2,?_⟩
  clear tb1 tb2 he ha hb w hx hy o1 o2 hlt hne ow on lz
  intro w he ha hb
  have c0 := he.cell0
  have c1 := he.cell1
  obtain ⟨V1,hV1⟩ : ∃ V,x * 2 ^ S / (2 * pw i) = V := ⟨_,rfl⟩
  obtain ⟨V2,hV2⟩ : ∃ V,y * 2 ^ S / (2 * pw i) = V := ⟨_,rfl⟩
  rw [hV1] at ta ⊢
  rw [hV2] at tb ⊢
  clear hV1 hV2
  go_enter Tryz.func65,Tryz.ntmps65
  go_wp2_with fail
  go_quiet (fail)
  go_wp2_with fail
  have hk1 : ∃ m,w.drewN nq = w.drewN m := ⟨_,rfl⟩
  replace ha : IsRow (w.drewN nq) _ _ _ _ _ := ha
  replace hb : IsRow (w.drewN nq) _ _ _ _ _ := hb
  replace he : EBox (w.drewN nq) e _ _ := he
  generalize w.drewN nq = W1 at hk1 ha hb he ⊢
  replace c0 := he.cell0
  replace c1 := he.cell1
  go_quiet (first | (go_at_call 97; first | with_reducible exact wa _ _ ha | with_reducible exact wb _ _ hb) | (go_at_call 96; with_reducible exact lzq _ _))
  go_wp2_with fail
  have hk2 : ∃ m,W1.drewN nq = w.drewN m := by
    obtain ⟨m,rfl⟩ := hk1
    exact ⟨m + nq,World.drewN_drewN _ _ _⟩
  replace ha : IsRow (W1.drewN nq) _ _ _ _ _ := ha
  replace hb : IsRow (W1.drewN nq) _ _ _ _ _ := hb
  replace he : EBox (W1.drewN nq) e _ _ := he
  generalize W1.drewN nq = W2 at hk2 ha hb he ⊢
  replace c0 := he.cell0
  replace c1 := he.cell1
  go_quiet (first | (go_at_call 98; first | with_reducible exact ta _ _ ha | with_reducible exact tb _ _ hb))
  go_wp2_with fail
  obtain ⟨m,rfl⟩ := hk2
  refine bodyPost_ret (v := .tuple #[.int .i64 V1,.int .i64 V2]) ?_ rfl ⟨rfl,_,World.drewN_drewN _ _ _⟩
  simp [results,Tryz.results65]
end Go.Proofs.YtgccgacpifebbaaGreatDoor
