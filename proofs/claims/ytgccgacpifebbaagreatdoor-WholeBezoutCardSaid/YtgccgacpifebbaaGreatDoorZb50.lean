/- BezA Kn2 -/
import Derived.Test.YtgccgacpifebbaaGreatDoorZb49
namespace Go.Proofs.YtgccgacpifebbaaGreatDoor
open Go.RowKit
set_option linter.unusedVariables false
theorem absI_mul (a b : Int) : absI (a * b) = absI a * absI b := by rw [absI_nat,absI_nat,absI_nat,Int.natAbs_mul,Int.natCast_mul]
theorem absI_le_mul {a b : Int} (hb : b ≠ 0) : absI a ≤ absI (b * a) := by
  rw [absI_mul]
  have h1 := absI_pos hb
  have h2 := absI_nonneg a
  have : 1 * absI a ≤ absI b * absI a := Int.mul_le_mul_of_nonneg_right (by omega) h2
  omega
theorem absI_tri (a b : Int) : absI (a - b) ≤ absI a + absI b := by unfold absI; split <;> split <;> split <;> omega
theorem sgn_mul (X : Int) : X * sgnI X = absI X := by
  unfold sgnI absI
  by_cases h : X < 0
  · rw [if_pos h,if_pos h]; omega
  · rw [if_neg h,if_neg h]
    by_cases h0 : X = 0
    · rw [if_pos h0]; omega
    · rw [if_neg h0]; omega
/-- What Bezout tells of X and Y. -/
def BezA (X Y U V : Int) : Prop := X * U + Y * V = (Int.gcd X Y : Nat) ∧ absI U < pw 20 ∧ absI V < pw 20 ∧ (Y ≠ 0 → 0 ≤ U ∧ U * (Int.gcd X Y : Nat) < absI Y)
theorem gcd_le_abs {X Y : Int} (h : Y ≠ 0) : ((Int.gcd X Y : Nat) : Int) ≤ absI Y := by
  rw [absI_nat]
  exact Int.ofNat_le.2 (Nat.gcd_le_right _ (Int.natAbs_pos.2 h))
theorem bezout_all (va vb : Value) (X Y : Int) (w : World) (hx : IsInt w va X) (hy : IsInt w vb Y) (BX : absI X < pw 6) (BY : absI Y < pw 6) :
    Calls Tryz.prog 11 #[va,vb] w fun e w' => ∃ v1 v2 v3 U V,e = .returned (.tuple #[v1,v2,v3]) ∧ IsInt w' v1 (Int.gcd X Y : Nat) ∧ IsInt w' v2 U ∧ IsInt w' v3 V ∧ BezA X Y U V ∧ Below w.heap.size w w' := by
  by_cases h0 : Y = 0
  · subst h0
    obtain rfl := hy.zero
    refine (bezout_0 va X w hx).mono ?_
    rintro e w' ⟨v1,v2,v3,rfl,h1,h2,h3,hb⟩
    have eg : ((Int.gcd X 0 : Nat) : Int) = absI X := by rw [Int.gcd_zero_right,absI_nat]
    refine ⟨v1,v2,v3,sgnI X,0,rfl,by rw [eg]; exact h1,h2,h3,⟨by rw [eg,sgn_mul]; omega,?_,?_,fun h => absurd rfl h⟩,hb⟩
    · have : absI (sgnI X) ≤ 1 := by unfold absI sgnI; split <;> split <;> (try split) <;> omega
      exact Int.lt_of_le_of_lt this (by decide +kernel)
    · decide +kernel
  · refine (bezout_more 6 (by decide) va vb X Y w hx hy BX BY h0).mono ?_
    rintro e w' ⟨U,V,⟨v1,v2,v3,rfl,h1,h2,h3,hb⟩,hq,hU,hUG⟩
    refine ⟨v1,v2,v3,U,V,rfl,h1,h2,h3,⟨hq,?_,?_,fun _ => ⟨hU,hUG⟩⟩,hb⟩
    · have hG : 0 < ((Int.gcd X Y : Nat) : Int) := Int.ofNat_lt.2 (Nat.gcd_pos_of_pos_right _ (Int.natAbs_pos.2 h0))
      have : U * 1 ≤ U * (Int.gcd X Y : Nat) := Int.mul_le_mul_of_nonneg_left (by omega) hU
      have h6 : pw 6 ≤ pw 20 := pw_mono (by decide)
      have : absI U = U := by unfold absI; rw [if_neg (by omega)]
      omega
    · have hG : 0 < ((Int.gcd X Y : Nat) : Int) := Int.ofNat_lt.2 (Nat.gcd_pos_of_pos_right _ (Int.natAbs_pos.2 h0))
      have k1 : U * 1 ≤ U * (Int.gcd X Y : Nat) := Int.mul_le_mul_of_nonneg_left (by omega) hU
      have k2 : absI U = U := by unfold absI; rw [if_neg (by omega)]
      have k3 : absI (X * U) < pw 12 := absI_mul_lt BX (by omega)
      have k4 : Y * V = (Int.gcd X Y : Nat) - X * U := by omega
      have k5 := absI_le_mul (a := V) h0
      have k6 := absI_tri (Int.gcd X Y : Nat) (X * U)
      rw [← k4] at k6
      have k7 := gcd_le_abs (X := X) h0
      have k8 : absI ((Int.gcd X Y : Nat) : Int) = (Int.gcd X Y : Nat) := by unfold absI; rw [if_neg (by omega)]
      have k9 : pw 6 + pw 12 ≤ pw 20 := by decide +kernel
      omega
theorem from_f (v : Value) (n : Int) (w : World) (h : IsNat w v n) : Calls Tryz.prog 23 #[.bool false,v] w (RetInt n w) := by simpa using from_int false v n w h
theorem wcmp_less (va vb : Value) (a b : Int) (w : World) (ha : IsInt w va a) (hb : IsInt w vb b) (h : a < b) : Calls Tryz.prog 21 #[va,vb] w fun e w' => e = .returned (.int .i64 (-1)) ∧ Below w.heap.size w w' := by
  have q := wcmp_int va vb a b w ha hb
  rw [show cmpI a b = -1 by unfold cmpI; rw [if_pos h]] at q
  exact q
/-- What is left of both by what divides both. -/
theorem gcd_parts {X Y : Int} (h : ((Int.gcd X Y : Nat) : Int) ≠ 0) : qD X (Int.gcd X Y : Nat) * (Int.gcd X Y : Nat) = X ∧ rD X (Int.gcd X Y : Nat) = 0 ∧ qD Y (Int.gcd X Y : Nat) * (Int.gcd X Y : Nat) = Y ∧ rD Y (Int.gcd X Y : Nat) = 0 ∧ Int.gcd (qD X (Int.gcd X Y : Nat)) (qD Y (Int.gcd X Y : Nat)) = 1 := by
  have h1 := qD_exact h (Int.gcd_dvd_left X Y)
  have h2 := qD_exact h (Int.gcd_dvd_right X Y)
  have h3 := qrD (a := X) h
  have h4 := qrD (a := Y) h
  refine ⟨h1,by omega,h2,by omega,?_⟩
  have h5 : Int.gcd (qD X (Int.gcd X Y : Nat) * (Int.gcd X Y : Nat)) (qD Y (Int.gcd X Y : Nat) * (Int.gcd X Y : Nat)) = Int.gcd (qD X (Int.gcd X Y : Nat)) (qD Y (Int.gcd X Y : Nat)) * Int.gcd X Y := by
    rw [Int.gcd_mul_right]; rfl
  rw [h1,h2] at h5
  have hg : 0 < Int.gcd X Y := by omega
  exact Nat.eq_of_mul_eq_mul_right hg (by rw [← h5]; omega)
end Go.Proofs.YtgccgacpifebbaaGreatDoor
namespace Go.Proofs.YtgccgacpifebbaaGreatDoor
open Go.RowKit
set_option linter.unusedVariables false
theorem IsInt.lit {w : World} {v : Value} {z : Int} (h : IsInt w v z) (hz : absI z < 18446744073709551616) : v = .agg #[.bool (decide (z < 0)),.int .u64 (absI z),.slice none 0 0] := by
  obtain ⟨x,p,l,c,rfl,hn⟩ := h
  have e := hn.one hz
  simp only [Value.agg.injEq,Array.mk.injEq,List.cons.injEq,Value.int.injEq,Value.slice.injEq] at e
  obtain ⟨⟨_,rfl⟩,⟨rfl,rfl,rfl⟩,_⟩ := e
  rfl
theorem lit_int (w : World) (b : Bool) (x z : Int) (hb : b = decide (z < 0)) (hx : x = absI z) (hz : absI z < 18446744073709551616) : IsInt w (.agg #[.bool b,.int .u64 x,.slice none 0 0]) z := by
  subst hb hx
  exact ⟨_,_,_,_,rfl,IsNat.word ⟨absI_nonneg z,hz⟩⟩
theorem of_lit (n : Int) (b : Bool) (x : Int) (hb : b = decide (n < 0)) (hx : x = absI n) (hn : -9223372036854775808 ≤ n ∧ n ≤ 9223372036854775807) (w : World) : Calls Tryz.prog 31 #[.int .i64 n] w fun e w' => e = .returned (.agg #[.bool b,.int .u64 x,.slice none 0 0]) ∧ Below w.heap.size w w' := by
  refine (of_int n hn w).mono ?_
  rintro e w' ⟨v,rfl,hv,hB⟩
  rw [hv.lit (by unfold absI; split <;> omega),← hb,← hx]
  exact ⟨rfl,hB⟩
theorem div_lit (a b Q R : Int) (ba bb bq br : Bool) (xa xb xq xr : Int) (ha : ba = decide (a < 0) ∧ xa = absI a ∧ absI a < 18446744073709551616) (hb : bb = decide (b < 0) ∧ xb = absI b ∧ absI b < 18446744073709551616) (hb0 : b ≠ 0)
    (hq : qI a b = Q ∧ bq = decide (Q < 0) ∧ xq = absI Q ∧ absI Q < 18446744073709551616) (hr : rI a b = R ∧ br = decide (R < 0) ∧ xr = absI R ∧ absI R < 18446744073709551616) (w : World) :
    Calls Tryz.prog 26 #[.agg #[.bool ba,.int .u64 xa,.slice none 0 0],.agg #[.bool bb,.int .u64 xb,.slice none 0 0]] w fun e w' => e = .returned (.tuple #[.agg #[.bool bq,.int .u64 xq,.slice none 0 0],.agg #[.bool br,.int .u64 xr,.slice none 0 0],.bool true]) ∧ Below w.heap.size w w' := by
  refine (div_int 1 (by decide) _ _ a b w (lit_int w ba xa a ha.1 ha.2.1 ha.2.2) (lit_int w bb xb b hb.1 hb.2.1 hb.2.2) (by simpa [pw] using ha.2.2) (by simpa [pw] using hb.2.2) (by decide) hb0).mono ?_
  rintro e w' ⟨v1,v2,rfl,h1,h2,hB⟩
  rw [hq.1] at h1
  rw [hr.1] at h2
  rw [h1.lit hq.2.2.2,h2.lit hr.2.2.2,← hq.2.1,← hq.2.2.1,← hr.2.1,← hr.2.2.1]
  exact ⟨rfl,hB⟩
theorem bezout_64 (w : World) : Calls Tryz.prog 11 #[.agg #[.bool false,.int .u64 6,.slice none 0 0],.agg #[.bool false,.int .u64 4,.slice none 0 0]] w fun e w' => e = .returned (.tuple #[.agg #[.bool false,.int .u64 2,.slice none 0 0],.agg #[.bool false,.int .u64 1,.slice none 0 0],.agg #[.bool true,.int .u64 1,.slice none 0 0]]) ∧ Below w.heap.size w w' := by
  refine (bezout_all _ _ 6 4 w (lit_int w false 6 6 (by decide) (by decide) (by decide)) (lit_int w false 4 4 (by decide) (by decide) (by decide)) (by decide +kernel) (by decide +kernel)).mono ?_
  rintro e w' ⟨v1,v2,v3,U,V,rfl,h1,h2,h3,⟨k1,-,-,k4⟩,hb⟩
  obtain ⟨k5,k6⟩ := k4 (by decide)
  have eg : ((Int.gcd 6 4 : Nat) : Int) = 2 := by decide
  have e4 : absI 4 = 4 := by decide
  rw [eg] at h1 k1 k6
  rw [e4] at k6
  obtain ⟨rfl,rfl⟩ : U = 1 ∧ V = -1 := ⟨by omega,by omega⟩
  rw [h1.lit (by decide),h2.lit (by decide),h3.lit (by decide)]
  exact ⟨rfl,hb⟩
set_option maxRecDepth 100000 in
theorem text_2 (w : World) : Calls Tryz.prog 27 #[.agg #[.int .u64 2,.slice none 0 0]] w fun e w' => e = .returned (.string ⟨#[50]⟩) ∧ Below w.heap.size w w' := by
  have h : Lib.decDigits 2 = [50] := by decide +kernel
  have := text_small 2 (by decide) w
  rw [h] at this
  exact this
set_option maxRecDepth 100000 in
theorem itext_pos (x : Int) (t : ByteArray) (ht : ∀ W,Calls Tryz.prog 27 #[.agg #[.int .u64 x,.slice none 0 0]] W fun e w' => e = .returned (.string t) ∧ Below W.heap.size W w') (w : World) : Calls Tryz.prog 44 #[.agg #[.bool false,.int .u64 x,.slice none 0 0]] w fun e w' => e = .returned (.string t) ∧ Below w.heap.size w w' := by
  have r := Row3.new w (.bool false) (.int .u64 x) (.slice none 0 0) _ rfl
  have hb : Below w.heap.size w (w.alloc (.cells #[.bool false,.int .u64 x,.slice none 0 0] 28)) := by go_grown
  go_enter Tryz.func44,Tryz.ntmps44
  have c0 := r.cell0
  have c1 := r.cell1
  have c2 := r.cell2
  go_wp2_with fail
  refine (ht _).mono ?_
  rintro e w1 ⟨rfl,h1⟩
  go_wp2_with fail
  go_ret
  exact ⟨rfl,hb.trans (h1.mono hb.size)⟩
set_option maxRecDepth 100000 in
theorem itext_neg (x : Int) (y : UInt8) (ht : ∀ W,Calls Tryz.prog 27 #[.agg #[.int .u64 x,.slice none 0 0]] W fun e w' => e = .returned (.string ⟨#[y]⟩) ∧ Below W.heap.size W w') (w : World) : Calls Tryz.prog 44 #[.agg #[.bool true,.int .u64 x,.slice none 0 0]] w fun e w' => e = .returned (.string ⟨#[45,y]⟩) ∧ Below w.heap.size w w' := by
  have r := Row3.new w (.bool true) (.int .u64 x) (.slice none 0 0) _ rfl
  have hb : Below w.heap.size w (w.alloc (.cells #[.bool true,.int .u64 x,.slice none 0 0] 28)) := by go_grown
  go_enter Tryz.func44,Tryz.ntmps44
  have c0 := r.cell0
  have c1 := r.cell1
  have c2 := r.cell2
  go_wp2_with fail
  refine (ht _).mono ?_
  rintro e w1 ⟨rfl,h1⟩
  have hz : (⟨#[y]⟩ : ByteArray).size = 1 := rfl
  go_wp2_with fail
  go_ret
  exact ⟨rfl,hb.trans (h1.mono hb.size)⟩
set_option maxRecDepth 100000 in
set_option maxHeartbeats 4000000 in
theorem known2_true (w : World) : Calls Tryz.prog 13 #[] w fun e w' => e = .returned (.bool true) ∧ Below w.heap.size w w' := by
  have hBw := Below.refl w.heap.size w
  go_enter Tryz.func13,Tryz.ntmps13
  go_wp2_with fail
  refine (of_lit (-7) true 7 (by decide) (by decide) ⟨by decide,by decide⟩ w).mono ?_
  rintro e w1 ⟨rfl,hb⟩
  replace hBw := hBw.trans (hb.mono hBw.size)
  clear hb
  go_wp2_with fail
  refine (of_lit 2 false 2 (by decide) (by decide) ⟨by decide,by decide⟩ w1).mono ?_
  rintro e w2 ⟨rfl,hb⟩
  replace hBw := hBw.trans (hb.mono hBw.size)
  clear hb
  go_wp2_with fail
  refine (div_lit (-7) 2 (-4) 1 true false true false 7 2 4 1 ⟨by decide,by decide,by decide⟩ ⟨by decide,by decide,by decide⟩ (by decide) ⟨by decide,by decide,by decide,by decide⟩ ⟨by decide,by decide,by decide,by decide⟩ w2).mono ?_
  rintro e w3 ⟨rfl,hb⟩
  replace hBw := hBw.trans (hb.mono hBw.size)
  clear hb
  have hb : Below w3.heap.size w3 ((w3.alloc (.cells #[.bool true,.int .u64 4,.slice none 0 0] 28)).alloc (.cells #[.bool false,.int .u64 1,.slice none 0 0] 28)) := by go_grown
  have v1 := ((Row3.new w3 (.bool true) (.int .u64 4) (.slice none 0 0) (w3.heap.size) rfl).alloc (.cells #[.bool false,.int .u64 1,.slice none 0 0] 28))
  have v2 := (Row3.new (w3.alloc (.cells #[.bool true,.int .u64 4,.slice none 0 0] 28)) (.bool false) (.int .u64 1) (.slice none 0 0) (w3.heap.size + 1) (by simp))
  replace hBw := hBw.trans (hb.mono hBw.size)
  clear hb
  go_wp2_with fail
  generalize ((w3.alloc (.cells #[.bool true,.int .u64 4,.slice none 0 0] 28)).alloc (.cells #[.bool false,.int .u64 1,.slice none 0 0] 28)) = b1 at v1 v2 hBw ⊢
  refine (of_lit 6 false 6 (by decide) (by decide) ⟨by decide,by decide⟩ b1).mono ?_
  rintro e w4 ⟨rfl,hb⟩
  replace v1 := v1.below hb v1.lt
  replace v2 := v2.below hb v2.lt
  replace hBw := hBw.trans (hb.mono hBw.size)
  clear hb
  go_wp2_with fail
  refine (of_lit 4 false 4 (by decide) (by decide) ⟨by decide,by decide⟩ w4).mono ?_
  rintro e w5 ⟨rfl,hb⟩
  replace v1 := v1.below hb v1.lt
  replace v2 := v2.below hb v2.lt
  replace hBw := hBw.trans (hb.mono hBw.size)
  clear hb
  go_wp2_with fail
  refine (bezout_64 w5).mono ?_
  rintro e w6 ⟨rfl,hb⟩
  replace v1 := v1.below hb v1.lt
  replace v2 := v2.below hb v2.lt
  replace hBw := hBw.trans (hb.mono hBw.size)
  clear hb
  have hb : Below w6.heap.size w6 (((w6.alloc (.cells #[.bool false,.int .u64 2,.slice none 0 0] 28)).alloc (.cells #[.bool false,.int .u64 1,.slice none 0 0] 28)).alloc (.cells #[.bool true,.int .u64 1,.slice none 0 0] 28)) := by go_grown
  have v4 := (((Row3.new w6 (.bool false) (.int .u64 2) (.slice none 0 0) (w6.heap.size) rfl).alloc (.cells #[.bool false,.int .u64 1,.slice none 0 0] 28)).alloc (.cells #[.bool true,.int .u64 1,.slice none 0 0] 28))
  have v5 := ((Row3.new (w6.alloc (.cells #[.bool false,.int .u64 2,.slice none 0 0] 28)) (.bool false) (.int .u64 1) (.slice none 0 0) (w6.heap.size + 1) (by simp)).alloc (.cells #[.bool true,.int .u64 1,.slice none 0 0] 28))
  have v6 := (Row3.new ((w6.alloc (.cells #[.bool false,.int .u64 2,.slice none 0 0] 28)).alloc (.cells #[.bool false,.int .u64 1,.slice none 0 0] 28)) (.bool true) (.int .u64 1) (.slice none 0 0) (w6.heap.size + 1 + 1) (by simp))
  replace v1 := v1.below hb v1.lt
  replace v2 := v2.below hb v2.lt
  replace hBw := hBw.trans (hb.mono hBw.size)
  clear hb
  have v1_0 := v1.cell0
  have v1_1 := v1.cell1
  have v1_2 := v1.cell2
  have v2_0 := v2.cell0
  have v2_1 := v2.cell1
  have v2_2 := v2.cell2
  have v4_0 := v4.cell0
  have v4_1 := v4.cell1
  have v4_2 := v4.cell2
  have v5_0 := v5.cell0
  have v5_1 := v5.cell1
  have v5_2 := v5.cell2
  have v6_0 := v6.cell0
  have v6_1 := v6.cell1
  have v6_2 := v6.cell2
  go_wp2_with fail
  clear v1_0 v1_1 v1_2 v2_0 v2_1 v2_2 v4_0 v4_1 v4_2 v5_0 v5_1 v5_2 v6_0 v6_1 v6_2
  generalize (((w6.alloc (.cells #[.bool false,.int .u64 2,.slice none 0 0] 28)).alloc (.cells #[.bool false,.int .u64 1,.slice none 0 0] 28)).alloc (.cells #[.bool true,.int .u64 1,.slice none 0 0] 28)) = b2 at v1 v2 v4 v5 v6 hBw ⊢
  refine (itext_neg 4 52 text_4 b2).mono ?_
  rintro e t0 ⟨rfl,hb⟩
  replace v1 := v1.below hb v1.lt
  replace v2 := v2.below hb v2.lt
  replace v4 := v4.below hb v4.lt
  replace v5 := v5.below hb v5.lt
  replace v6 := v6.below hb v6.lt
  replace hBw := hBw.trans (hb.mono hBw.size)
  clear hb
  have v1_0 := v1.cell0
  have v1_1 := v1.cell1
  have v1_2 := v1.cell2
  have v2_0 := v2.cell0
  have v2_1 := v2.cell1
  have v2_2 := v2.cell2
  have v4_0 := v4.cell0
  have v4_1 := v4.cell1
  have v4_2 := v4.cell2
  have v5_0 := v5.cell0
  have v5_1 := v5.cell1
  have v5_2 := v5.cell2
  have v6_0 := v6.cell0
  have v6_1 := v6.cell1
  have v6_2 := v6.cell2
  go_wp2_with fail
  clear v1_0 v1_1 v1_2 v2_0 v2_1 v2_2 v4_0 v4_1 v4_2 v5_0 v5_1 v5_2 v6_0 v6_1 v6_2
  refine (itext_pos 1 _ text_1 t0).mono ?_
  rintro e t1 ⟨rfl,hb⟩
  replace v1 := v1.below hb v1.lt
  replace v2 := v2.below hb v2.lt
  replace v4 := v4.below hb v4.lt
  replace v5 := v5.below hb v5.lt
  replace v6 := v6.below hb v6.lt
  replace hBw := hBw.trans (hb.mono hBw.size)
  clear hb
  have v1_0 := v1.cell0
  have v1_1 := v1.cell1
  have v1_2 := v1.cell2
  have v2_0 := v2.cell0
  have v2_1 := v2.cell1
  have v2_2 := v2.cell2
  have v4_0 := v4.cell0
  have v4_1 := v4.cell1
  have v4_2 := v4.cell2
  have v5_0 := v5.cell0
  have v5_1 := v5.cell1
  have v5_2 := v5.cell2
  have v6_0 := v6.cell0
  have v6_1 := v6.cell1
  have v6_2 := v6.cell2
  go_wp2_with fail
  clear v1_0 v1_1 v1_2 v2_0 v2_1 v2_2 v4_0 v4_1 v4_2 v5_0 v5_1 v5_2 v6_0 v6_1 v6_2
  refine (itext_pos 2 _ text_2 t1).mono ?_
  rintro e t2 ⟨rfl,hb⟩
  replace v1 := v1.below hb v1.lt
  replace v2 := v2.below hb v2.lt
  replace v4 := v4.below hb v4.lt
  replace v5 := v5.below hb v5.lt
  replace v6 := v6.below hb v6.lt
  replace hBw := hBw.trans (hb.mono hBw.size)
  clear hb
  have v1_0 := v1.cell0
  have v1_1 := v1.cell1
  have v1_2 := v1.cell2
  have v2_0 := v2.cell0
  have v2_1 := v2.cell1
  have v2_2 := v2.cell2
  have v4_0 := v4.cell0
  have v4_1 := v4.cell1
  have v4_2 := v4.cell2
  have v5_0 := v5.cell0
  have v5_1 := v5.cell1
  have v5_2 := v5.cell2
  have v6_0 := v6.cell0
  have v6_1 := v6.cell1
  have v6_2 := v6.cell2
  go_wp2_with fail
  clear v1_0 v1_1 v1_2 v2_0 v2_1 v2_2 v4_0 v4_1 v4_2 v5_0 v5_1 v5_2 v6_0 v6_1 v6_2
  refine (itext_pos 1 _ text_1 t2).mono ?_
  rintro e t3 ⟨rfl,hb⟩
  replace v1 := v1.below hb v1.lt
  replace v2 := v2.below hb v2.lt
  replace v4 := v4.below hb v4.lt
  replace v5 := v5.below hb v5.lt
  replace v6 := v6.below hb v6.lt
  replace hBw := hBw.trans (hb.mono hBw.size)
  clear hb
  have v1_0 := v1.cell0
  have v1_1 := v1.cell1
  have v1_2 := v1.cell2
  have v2_0 := v2.cell0
  have v2_1 := v2.cell1
  have v2_2 := v2.cell2
  have v4_0 := v4.cell0
  have v4_1 := v4.cell1
  have v4_2 := v4.cell2
  have v5_0 := v5.cell0
  have v5_1 := v5.cell1
  have v5_2 := v5.cell2
  have v6_0 := v6.cell0
  have v6_1 := v6.cell1
  have v6_2 := v6.cell2
  go_wp2_with fail
  clear v1_0 v1_1 v1_2 v2_0 v2_1 v2_2 v4_0 v4_1 v4_2 v5_0 v5_1 v5_2 v6_0 v6_1 v6_2
  refine (itext_neg 1 49 text_1 t3).mono ?_
  rintro e t4 ⟨rfl,hb⟩
  replace v1 := v1.below hb v1.lt
  replace v2 := v2.below hb v2.lt
  replace v4 := v4.below hb v4.lt
  replace v5 := v5.below hb v5.lt
  replace v6 := v6.below hb v6.lt
  replace hBw := hBw.trans (hb.mono hBw.size)
  clear hb
  have v1_0 := v1.cell0
  have v1_1 := v1.cell1
  have v1_2 := v1.cell2
  have v2_0 := v2.cell0
  have v2_1 := v2.cell1
  have v2_2 := v2.cell2
  have v4_0 := v4.cell0
  have v4_1 := v4.cell1
  have v4_2 := v4.cell2
  have v5_0 := v5.cell0
  have v5_1 := v5.cell1
  have v5_2 := v5.cell2
  have v6_0 := v6.cell0
  have v6_1 := v6.cell1
  have v6_2 := v6.cell2
  go_wp2_with fail
  clear v1_0 v1_1 v1_2 v2_0 v2_1 v2_2 v4_0 v4_1 v4_2 v5_0 v5_1 v5_2 v6_0 v6_1 v6_2
  go_ret
  exact ⟨rfl,hBw⟩
end Go.Proofs.YtgccgacpifebbaaGreatDoor
