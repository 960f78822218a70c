/- whole: what the laws' walks share: shapes,bounds,division by any. -/
import Derived.Test.YtogildikglomkaaGreatDoorWhoL
import Derived.Test.YtogildikglomkaaGreatDoorWhoH
import Derived.Test.YtogildikglomkaaGreatDoorWhoE
import Derived.Test.YtogildikglomkaaGreatDoorWhoQ
import Derived.Test.YtogildikglomkaaGreatDoorRingKit
namespace Go.Proofs.YtogildikglomkaaGreatDoor
open Go.RowKit
set_option linter.unusedVariables false

theorem IsInt.shape {w : World} {v : Value} {z : Int} (h : IsInt w v z) : ∃ b x p l c,v = .agg #[.bool b,.int .u64 x,.slice p l c] := by
  obtain ⟨x,p,l,c,rfl,_⟩ := h
  exact ⟨_,x,p,l,c,rfl⟩
theorem IsR.shape {w : World} {v : Value} {z : Int} (h : IsR w v z) : ∃ b p l c,v = .agg #[.bool b,.slice p l c] := by
  obtain ⟨b,p,l,c,rfl,_⟩ := h
  exact ⟨b,p,l,c,rfl⟩
theorem IsR.drew {w : World} {v : Value} {z : Int} (h : IsR w v z) : IsR w.drew v z := h.below (Below.refl _ w).drew
theorem IsInt.zero {w : World} {v : Value} (h : IsInt w v 0) : v = .agg #[.bool false,.int .u64 0,.slice none 0 0] := by
  obtain ⟨x,p,l,c,rfl,hn⟩ := h
  have e := hn.one (by decide)
  simp only [Value.agg.injEq,Array.mk.injEq,List.cons.injEq,Value.int.injEq,Value.slice.injEq] at e
  obtain ⟨⟨_,rfl⟩,⟨rfl,rfl,rfl⟩,_⟩ := e
  rfl
theorem lit0_int (w : World) : IsInt w (.agg #[.bool false,.int .u64 0,.slice none 0 0]) 0 := ⟨_,_,_,_,rfl,IsNat.word ⟨by decide,by decide⟩⟩
theorem absI_add_lt {a b : Int} {K : Nat} (ha : absI a < pw K) (hb : absI b < pw K) : absI (a + b) < pw (K + 1) := by
  have h : absI (a + b) ≤ absI a + absI b := by unfold absI; split <;> split <;> split <;> omega
  exact Int.lt_of_le_of_lt h (pw_sum ha hb)
theorem absI_neg' (a : Int) : absI (-a) = absI a := by unfold absI; split <;> split <;> omega
theorem absI_sub_lt {a b : Int} {K : Nat} (ha : absI a < pw K) (hb : absI b < pw K) : absI (a - b) < pw (K + 1) := by
  rw [Int.sub_eq_add_neg]
  exact absI_add_lt ha (by rw [absI_neg']; exact hb)
theorem wcmp_alike (va vb : Value) (a b : Int) (w : World) (ha : IsInt w va a) (hb : IsInt w vb b) (he : a = b) : Calls Tryz.prog 36 #[va,vb] w fun e w' => e = .returned (.int .i64 0) ∧ Below w.heap.size w w' := by
  have h := wcmp_int va vb a b w ha hb
  rw [he,show cmpI b b = 0 by unfold cmpI; simp] at h
  exact h
theorem div_gen (K : Nat) (hK : K ≤ 200) (va vb : Value) (a b : Int) (w : World) (ha : IsInt w va a) (hb : IsInt w vb b) (haK : absI a < pw K) (hbK : absI b < pw K) (hp1 : (1 : Int) < pw K) : Calls Tryz.prog 8 #[va,vb] w fun e w' => ∃ v1 v2 ok,e = .returned (.tuple #[v1,v2,.bool ok]) ∧ ok = decide (b ≠ 0) ∧ IsInt w' v1 (qD a b) ∧ IsInt w' v2 (rD a b) ∧ Below w.heap.size w w' := by
  by_cases h0 : b = 0
  · subst h0
    obtain rfl := hb.zero
    refine (div0_int va a w ha).mono ?_
    rintro e w' ⟨rfl,hB⟩
    exact ⟨_,_,_,rfl,by simp,lit0_int _,lit0_int _,hB⟩
  · refine (div_int K hK va vb a b w ha hb haK hbK hp1 h0).mono ?_
    rintro e w' ⟨v1,v2,rfl,h1,h2,hB⟩
    exact ⟨_,_,_,rfl,by simp [h0],by unfold qD; rw [if_neg h0]; exact h1,by unfold rD; rw [if_neg h0]; exact h2,hB⟩
theorem lpw_pwL (k : Nat) : lpw (2 * k) = pw k := by rw [lpw_two,pw_two]; congr 1; omega
theorem lpw_20 {L : Nat} (h : L ≤ 40) : lpw L ≤ pw 20 := by
  have := lpw_mono h
  rw [show (40 : Nat) = 2 * 20 from rfl,lpw_pwL] at this
  exact this
theorem lt_5 {z : Int} {N : Nat} (h : absI z < lpw ((min 40 N + 3) / 4)) : absI z < pw 5 := by
  have h1 := lpw_mono (show (min 40 N + 3) / 4 ≤ 2 * 5 by omega)
  rw [lpw_pwL] at h1
  omega
theorem nx {w a b : World} (h : Below w.heap.size w a) (k : Below a.heap.size a b) : Below w.heap.size w b := h.trans (k.mono h.size)
theorem sgnI_zero {a : Int} (h : a = 0) : sgnI a = 0 := by subst h; rfl
theorem sgnI_ne {a : Int} (h : a ≠ 0) : sgnI a = 1 ∨ sgnI a = -1 := by
  unfold sgnI
  by_cases h0 : a < 0
  · rw [if_pos h0]; exact .inr rfl
  · rw [if_neg h0,if_neg h]; exact .inl rfl
theorem absI_pos {a : Int} (h : a ≠ 0) : 0 < absI a := by unfold absI; split <;> omega
theorem qD_bd {a b : Int} {K : Nat} (ha : absI a < pw K) (hK : (1 : Int) < pw K) : absI (qD a b) < pw (K + 1) := by
  have h0 := absI_nonneg a
  have hb0 := absI_nonneg b
  have h1 : absI a / absI b ≤ absI a := Int.ediv_le_self _ h0
  have h2 : 0 ≤ absI a / absI b := Int.ediv_nonneg h0 hb0
  have h3 : absI (qD a b) ≤ absI a + 1 := by
    unfold qD qI
    split
    · unfold absI at h0 ⊢; split at h0 <;> simp <;> omega
    · obtain ⟨D,hD⟩ : ∃ D,absI a / absI b = D := ⟨_,rfl⟩
      rw [hD] at h1 h2 ⊢
      obtain ⟨A,hA⟩ : ∃ A,absI a = A := ⟨_,rfl⟩
      rw [hA] at h1 ⊢
      split
      · unfold absI; split <;> omega
      · split
        · unfold absI; split <;> omega
        · unfold absI; split <;> omega
  have h4 := pw_sum ha hK
  omega
theorem rD_bd {a b : Int} {K : Nat} (hb : absI b < pw K) : absI (rD a b) < pw K := by
  unfold rD
  split
  · exact pw_pos K
  · rename_i h0
    have := lI_range (a := a) h0
    unfold rI
    have e : absI (if b < 0 then -lI a b else lI a b) = lI a b := by split <;> (unfold absI; split <;> omega)
    rw [e]; omega
theorem rD_lt {a b : Int} (h0 : b ≠ 0) : absI (rD a b) < absI b := by
  unfold rD
  rw [if_neg h0]
  have := lI_range (a := a) h0
  unfold rI
  have e : absI (if b < 0 then -lI a b else lI a b) = lI a b := by split <;> (unfold absI; split <;> omega)
  rw [e]; omega
theorem rD_sgn {a b : Int} (h0 : b ≠ 0) (hr : rD a b ≠ 0) : sgnI (rD a b) = sgnI b := by
  unfold rD at hr ⊢
  rw [if_neg h0] at hr ⊢
  have := lI_range (a := a) h0
  unfold rI at hr ⊢
  unfold sgnI
  by_cases hb : b < 0
  · rw [if_pos hb] at hr ⊢
    rw [if_pos (by omega),if_pos hb]
  · rw [if_neg hb] at hr ⊢
    rw [if_neg (by omega),if_neg hr,if_neg hb,if_neg h0]
theorem qrD {a b : Int} (h0 : b ≠ 0) : qD a b * b + rD a b = a := by
  unfold qD rD
  rw [if_neg h0,if_neg h0]
  exact qrI h0
theorem cmp_less (v1 v2 : Value) (n m : Int) (w : World) (h1 : IsNat w v1 n) (h2 : IsNat w v2 m) (he : n < m) : Calls Tryz.prog 37 #[v1,v2] w fun e w' => e = .returned (.int .i64 (-1)) ∧ Below w.heap.size w w' := by
  have h := cmp_any v1 v2 n m w h1 h2
  rw [show cmpI n m = -1 by unfold cmpI; rw [if_pos he]] at h
  exact h
theorem sign_s (v : Value) (a s : Int) (hs : Hid (sgnI a = s)) (w : World) (h : IsInt w v a) : Calls Tryz.prog 16 #[v] w fun e w' => e = .returned (.int .i64 s) ∧ Below w.heap.size w w' := by
  rw [← hs.out]
  exact sign_int v a w h
end Go.Proofs.YtogildikglomkaaGreatDoor
