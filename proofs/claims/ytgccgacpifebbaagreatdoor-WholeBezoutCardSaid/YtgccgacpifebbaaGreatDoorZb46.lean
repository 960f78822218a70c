/- WhoLaw BezL -/
import Derived.Test.YtgccgacpifebbaaGreatDoorZb45
import Derived.Test.YtgccgacpifebbaaGreatDoorZb32
import Derived.Test.YtgccgacpifebbaaGreatDoorZb31
import Derived.Test.YtgccgacpifebbaaGreatDoorZb37
import Derived.Test.YtgccgacpifebbaaGreatDoorZb18
namespace Go.Proofs.YtgccgacpifebbaaGreatDoor
open Go.RowKit
set_option linter.unusedVariables false
theorem IsInt.shape {w : World} {v : Value} {z : Int} (h : IsInt w v z) : ∃ b x p l c,v = .agg #[.bool b,.int .u64 x,.slice p l c] := by
  obtain ⟨x,p,l,c,rfl,_⟩ := h
  exact ⟨_,x,p,l,c,rfl⟩
theorem IsR.shape {w : World} {v : Value} {z : Int} (h : IsR w v z) : ∃ b p l c,v = .agg #[.bool b,.slice p l c] := by
  obtain ⟨b,p,l,c,rfl,_⟩ := h
  exact ⟨b,p,l,c,rfl⟩
theorem IsR.drew {w : World} {v : Value} {z : Int} (h : IsR w v z) : IsR w.drew v z := h.below (Below.refl _ w).drew
theorem IsInt.zero {w : World} {v : Value} (h : IsInt w v 0) : v = .agg #[.bool false,.int .u64 0,.slice none 0 0] := by
  obtain ⟨x,p,l,c,rfl,hn⟩ := h
  have e := hn.one (by decide)
  simp only [Value.agg.injEq,Array.mk.injEq,List.cons.injEq,Value.int.injEq,Value.slice.injEq] at e
  obtain ⟨⟨_,rfl⟩,⟨rfl,rfl,rfl⟩,_⟩ := e
  rfl
theorem lit0_int (w : World) : IsInt w (.agg #[.bool false,.int .u64 0,.slice none 0 0]) 0 := ⟨_,_,_,_,rfl,IsNat.word ⟨by decide,by decide⟩⟩
theorem wcmp_alike (va vb : Value) (a b : Int) (w : World) (ha : IsInt w va a) (hb : IsInt w vb b) (he : a = b) : Calls Tryz.prog 21 #[va,vb] w fun e w' => e = .returned (.int .i64 0) ∧ Below w.heap.size w w' := by
  have h := wcmp_int va vb a b w ha hb
  rw [he,show cmpI b b = 0 by unfold cmpI; simp] at h
  exact h
theorem div_gen (K : Nat) (hK : K ≤ 200) (va vb : Value) (a b : Int) (w : World) (ha : IsInt w va a) (hb : IsInt w vb b) (haK : absI a < pw K) (hbK : absI b < pw K) (hp1 : (1 : Int) < pw K) : Calls Tryz.prog 26 #[va,vb] w fun e w' => ∃ v1 v2 ok,e = .returned (.tuple #[v1,v2,.bool ok]) ∧ ok = decide (b ≠ 0) ∧ IsInt w' v1 (qD a b) ∧ IsInt w' v2 (rD a b) ∧ Below w.heap.size w w' := by
  by_cases h0 : b = 0
  · subst h0
    obtain rfl := hb.zero
    refine (div0_int va a w ha).mono ?_
    rintro e w' ⟨rfl,hB⟩
    exact ⟨_,_,_,rfl,by simp,lit0_int _,lit0_int _,hB⟩
  · refine (div_int K hK va vb a b w ha hb haK hbK hp1 h0).mono ?_
    rintro e w' ⟨v1,v2,rfl,h1,h2,hB⟩
    exact ⟨_,_,_,rfl,by simp [h0],by unfold qD; rw [if_neg h0]; exact h1,by unfold rD; rw [if_neg h0]; exact h2,hB⟩
theorem lpw_pwL (k : Nat) : lpw (2 * k) = pw k := by rw [lpw_two,pw_two]; congr 1; omega
theorem lt_5 {z : Int} {N : Nat} (h : absI z < lpw ((min 40 N + 3) / 4)) : absI z < pw 5 := by
  have h1 := lpw_mono (show (min 40 N + 3) / 4 ≤ 2 * 5 by omega)
  rw [lpw_pwL] at h1
  omega
theorem nx {w a b : World} (h : Below w.heap.size w a) (k : Below a.heap.size a b) : Below w.heap.size w b := h.trans (k.mono h.size)
theorem sgnI_zero {a : Int} (h : a = 0) : sgnI a = 0 := by subst h; rfl
theorem sgnI_ne {a : Int} (h : a ≠ 0) : sgnI a = 1 ∨ sgnI a = -1 := by
  unfold sgnI
  by_cases h0 : a < 0
  · rw [if_pos h0]; exact .inr rfl
  · rw [if_neg h0,if_neg h]; exact .inl rfl
theorem absI_pos {a : Int} (h : a ≠ 0) : 0 < absI a := by unfold absI; split <;> omega
theorem qD_bd {a b : Int} {K : Nat} (ha : absI a < pw K) (hK : (1 : Int) < pw K) : absI (qD a b) < pw (K + 1) := by
  have h0 := absI_nonneg a
  have hb0 := absI_nonneg b
  have h1 : absI a / absI b ≤ absI a := Int.ediv_le_self _ h0
  have h2 : 0 ≤ absI a / absI b := Int.ediv_nonneg h0 hb0
  have h3 : absI (qD a b) ≤ absI a + 1 := by
    unfold qD qI
    split
    · unfold absI at h0 ⊢; split at h0 <;> simp <;> omega
    · obtain ⟨D,hD⟩ : ∃ D,absI a / absI b = D := ⟨_,rfl⟩
      rw [hD] at h1 h2 ⊢
      obtain ⟨A,hA⟩ : ∃ A,absI a = A := ⟨_,rfl⟩
      rw [hA] at h1 ⊢
      split
      · unfold absI; split <;> omega
      · split
        · unfold absI; split <;> omega
        · unfold absI; split <;> omega
  have h4 := pw_sum ha hK
  omega
theorem rD_lt {a b : Int} (h0 : b ≠ 0) : absI (rD a b) < absI b := by
  unfold rD
  rw [if_neg h0]
  have := lI_range (a := a) h0
  unfold rI
  have e : absI (if b < 0 then -lI a b else lI a b) = lI a b := by split <;> (unfold absI; split <;> omega)
  rw [e]; omega
theorem rD_sgn {a b : Int} (h0 : b ≠ 0) (hr : rD a b ≠ 0) : sgnI (rD a b) = sgnI b := by
  unfold rD at hr ⊢
  rw [if_neg h0] at hr ⊢
  have := lI_range (a := a) h0
  unfold rI at hr ⊢
  unfold sgnI
  by_cases hb : b < 0
  · rw [if_pos hb] at hr ⊢
    rw [if_pos (by omega),if_pos hb]
  · rw [if_neg hb] at hr ⊢
    rw [if_neg (by omega),if_neg hr,if_neg hb,if_neg h0]
theorem qrD {a b : Int} (h0 : b ≠ 0) : qD a b * b + rD a b = a := by
  unfold qD rD
  rw [if_neg h0,if_neg h0]
  exact qrI h0
theorem sign_s (v : Value) (a s : Int) (hs : Hid (sgnI a = s)) (w : World) (h : IsInt w v a) : Calls Tryz.prog 22 #[v] w fun e w' => e = .returned (.int .i64 s) ∧ Below w.heap.size w w' := by
  rw [← hs.out]
  exact sign_int v a w h
end Go.Proofs.YtgccgacpifebbaaGreatDoor
namespace Go.Proofs.YtgccgacpifebbaaGreatDoor
open Go.RowKit
set_option linter.unusedVariables false
theorem qD_exact {a b : Int} (h0 : b ≠ 0) (h : b ∣ a) : qD a b * b = a := by
  have h1 := qrD (a := a) h0
  have h2 := rD_lt (a := a) h0
  obtain ⟨k,hk⟩ := h
  have h3 : rD a b = b * (k - qD a b) := by rw [Int.mul_sub,← hk,Int.mul_comm b (qD a b)]; omega
  by_cases e : k - qD a b = 0
  · rw [e,Int.mul_zero] at h3; omega
  · exfalso
    have h4 : absI (rD a b) = absI b * absI (k - qD a b) := by
      rw [h3]
      unfold absI
      have m1 : b < 0 → k - qD a b < 0 → 0 < b * (k - qD a b) := fun x y => Int.mul_pos_of_neg_of_neg x y
      have m2 : 0 < b → 0 < k - qD a b → 0 < b * (k - qD a b) := fun x y => Int.mul_pos x y
      have m3 : b < 0 → 0 < k - qD a b → b * (k - qD a b) < 0 := fun x y => Int.mul_neg_of_neg_of_pos x y
      have m4 : 0 < b → k - qD a b < 0 → b * (k - qD a b) < 0 := fun x y => Int.mul_neg_of_pos_of_neg x y
      by_cases c1 : b < 0 <;> by_cases c2 : k - qD a b < 0
      · have := m1 c1 c2; rw [if_pos c1,if_pos c2,if_neg (by omega),Int.neg_mul_neg]
      · have := m3 c1 (by omega); rw [if_pos c1,if_neg c2,if_pos (by omega),Int.neg_mul]
      · have := m4 (by omega) c2; rw [if_neg c1,if_pos c2,if_pos (by omega),Int.mul_neg]
      · have := m2 (by omega) (by omega); rw [if_neg c1,if_neg c2,if_neg (by omega)]
    have h5 := absI_pos e
    have h6 : absI b * 1 ≤ absI b * absI (k - qD a b) := Int.mul_le_mul_of_nonneg_left (by omega) (absI_nonneg b)
    omega
theorem rD_pos {a b : Int} (h : 0 < b) : 0 ≤ rD a b ∧ rD a b < b := by
  have h1 := rD_lt (a := a) (b := b) (by omega)
  have h2 : absI b = b := by unfold absI; rw [if_neg (by omega)]
  by_cases h0 : rD a b = 0
  · omega
  · have h3 := rD_sgn (a := a) (b := b) (by omega) h0
    have h4 : sgnI b = 1 := by unfold sgnI; rw [if_neg (by omega),if_neg (by omega)]
    rw [h4] at h3
    have h5 : ¬ rD a b < 0 := by intro h; unfold sgnI at h3; rw [if_pos h] at h3; cases h3
    rw [h2] at h1
    unfold absI at h1
    rw [if_neg h5] at h1
    omega
theorem absI_dvd {a b : Int} (h : absI b ∣ a) : b ∣ a := by
  obtain ⟨k,hk⟩ := h
  unfold absI at hk
  split at hk
  · exact ⟨-k,by rw [hk]; grind⟩
  · exact ⟨k,hk⟩
/-- What Bezout tells: the least from 0 on. -/
def BezQ (a b g x y : Int) : Prop := a * x + b * y = g ∧ 0 ≤ x ∧ x * g < absI b
theorem bez_final {a b g T0 : Int} (hb : b ≠ 0) (hg : 0 < g) (ga : g ∣ a) (gb : g ∣ b) (hT : absI b ∣ g - T0 * absI a) :
    0 < qD (absI b) g ∧ BezQ a b g (rD (if a < 0 then -T0 else T0) (qD (absI b) g)) (qD (g - a * rD (if a < 0 then -T0 else T0) (qD (absI b) g)) b) := by
  have gB : g ∣ absI b := by unfold absI; split; exact Int.dvd_neg.2 gb; exact gb
  have hP := qD_exact (by omega) gB
  have hB := absI_pos hb
  have hPp : 0 < qD (absI b) g := by
    apply Classical.byContradiction
    intro h
    have : qD (absI b) g * g ≤ 0 := Int.mul_nonpos_of_nonpos_of_nonneg (by omega) (by omega)
    omega
  refine ⟨hPp,?_⟩
  generalize qD (absI b) g = P at *
  have hx : a * (if a < 0 then -T0 else T0) = T0 * absI a := by
    unfold absI
    split
    · rw [Int.mul_neg,Int.mul_neg,Int.mul_comm]
    · rw [Int.mul_comm]
  generalize (if a < 0 then -T0 else T0) = x0 at *
  have h1 := qrD (a := x0) (b := P) (by omega)
  have h2 := rD_pos (a := x0) hPp
  generalize rD x0 P = x1 at *
  generalize qD x0 P = k at *
  have hd : b ∣ g - a * x1 := by
    apply absI_dvd
    obtain ⟨m,hm⟩ := hT
    obtain ⟨a',ha⟩ := ga
    refine ⟨m + a' * k,?_⟩
    rw [← hx] at hm
    have e1 : g - a * x1 = (g - a * x0) + a * (k * P) := by rw [← h1]; grind
    rw [e1,hm,← hP,ha]
    grind
  have h3 := qD_exact hb hd
  refine ⟨by rw [Int.mul_comm b]; omega,h2.1,?_⟩
  rw [← hP]
  exact Int.mul_lt_mul_of_pos_right h2.2 hg
end Go.Proofs.YtgccgacpifebbaaGreatDoor
