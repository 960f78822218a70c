/- GcdW -/
import Derived.Test.YtgccgacpifebbaaGreatDoorZb08
import Derived.Test.YtgccgacpifebbaaGreatDoorZb25
import Derived.Lib.TrailingZeros
import Derived.Laws.Bits64b
import Derived.Lib.LaidTab
import Derived.Deep.LoopGhost
namespace Go.Proofs.YtgccgacpifebbaaGreatDoor
open Go.RowKit
set_option linter.unusedVariables false
theorem pow_odd {i k a : Nat} (ha : a % 2 = 1) : 2 ^ i * a % 2 ^ k = 0 ↔ k ≤ i := by
  constructor
  · intro h
    apply Nat.le_of_not_lt
    intro hik
    obtain ⟨d,rfl⟩ : ∃ d, k = i + (d + 1) := ⟨k - i - 1,by omega⟩
    rw [Nat.pow_add,Nat.mul_mod_mul_left] at h
    have h0 : a % 2 ^ (d + 1) = 0 := by
      rcases Nat.mul_eq_zero.1 h with h | h
      · exact absurd h (Nat.pos_iff_ne_zero.1 (Nat.two_pow_pos i))
      · exact h
    have h2 : 2 ∣ a := Nat.dvd_trans (by rw [Nat.pow_succ]; exact Nat.dvd_mul_left 2 _) (Nat.dvd_of_mod_eq_zero h0)
    omega
  · intro h
    obtain ⟨d,rfl⟩ : ∃ d, i = k + d := ⟨i - k,by omega⟩
    rw [Nat.pow_add,Nat.mul_assoc]
    exact Nat.mul_mod_right _ _
theorem cop_two {a : Nat} (ha : a % 2 = 1) (d : Nat) : Nat.Coprime (2 ^ d) a := Nat.Coprime.pow_left d (by rw [Nat.Coprime,Nat.gcd_rec,ha]; rfl)
theorem gcd_pows {i j a b : Nat} (ha : a % 2 = 1) (hb : b % 2 = 1) : Nat.gcd (2 ^ i * a) (2 ^ j * b) = 2 ^ min i j * Nat.gcd a b := by
  rcases Nat.le_total i j with h | h
  · obtain ⟨d,rfl⟩ : ∃ d, j = i + d := ⟨j - i,by omega⟩
    rw [Nat.min_eq_left h,Nat.pow_add,Nat.mul_assoc,Nat.gcd_mul_left,Nat.Coprime.gcd_mul_left_cancel_right _ (cop_two ha d)]
  · obtain ⟨d,rfl⟩ : ∃ d, i = j + d := ⟨i - j,by omega⟩
    rw [Nat.min_eq_right h,Nat.pow_add,Nat.mul_assoc,Nat.gcd_mul_left,Nat.Coprime.gcd_mul_left_cancel _ (cop_two hb d)]
theorem ctz_spec {x : Nat} (h0 : x ≠ 0) (h : x < 18446744073709551616) : ∃ m, x = 2 ^ Lib.ctz 64 x * m ∧ m % 2 = 1 ∧ Lib.ctz 64 x < 64 := by
  obtain ⟨m,hm,hk⟩ := Lib.ctzFrom_spec 64 x (by omega) h
  unfold Lib.ctz
  rw [if_neg h0]
  exact ⟨_,hm,by omega,hk⟩
theorem ctz_or {x y : Nat} (hx0 : x ≠ 0) (hy0 : y ≠ 0) (hx : x < 18446744073709551616) (hy : y < 18446744073709551616) : Lib.ctz 64 (x ||| y) = min (Lib.ctz 64 x) (Lib.ctz 64 y) := by
  obtain ⟨a,ea,ha,_⟩ := ctz_spec hx0 hx
  obtain ⟨b,eb,hb,_⟩ := ctz_spec hy0 hy
  have hz : x ||| y ≠ 0 := fun h => hx0 (Nat.or_eq_zero_iff.1 h).1
  obtain ⟨c,ec,hc,_⟩ := ctz_spec hz (Nat.or_lt_two_pow (n := 64) hx hy)
  generalize Lib.ctz 64 (x ||| y) = k at *
  generalize Lib.ctz 64 x = i at *
  generalize Lib.ctz 64 y = j at *
  have key : ∀ n, n ≤ k ↔ n ≤ i ∧ n ≤ j := fun n => by
    rw [← pow_odd (k := n) hc,← pow_odd (k := n) ha,← pow_odd (k := n) hb,← ea,← eb,← ec,Nat.or_mod_two_pow,Nat.or_eq_zero_iff]
  have h1 := (key k).1 (Nat.le_refl k)
  have h2 := (key (min i j)).2 ⟨by omega,by omega⟩
  omega
/-- The table of the lowest bits lies where the program's text lays it. -/
def TabB (w : World) : Prop := ∃ t o, w.heap[0]? = some (.cells (Lib.deBruijn64tab.map fun n : Nat => Value.int .u8 (n : Int)).toArray t o)
theorem TabB.below {w w' : World} (h : TabB w) (hb : Below w.heap.size w w') : TabB w' := by
  obtain ⟨t,o,h⟩ := h
  exact ⟨t,o,(hb.block _ (Array.getElem?_eq_some_iff.1 h).1).trans h⟩
theorem TabB.touch {w w' : World} {p : Nat} (h : TabB w) (ht : Touch p w w') : TabB w' := by
  obtain ⟨t,o,h⟩ := h
  obtain ⟨⟨_,_,_,_,hk⟩,cs,cs',t',h1,_,_,⟨i,q,m,c,h2⟩,_⟩ := ht
  refine ⟨t,o,(hk _ ?_).trans h⟩
  rintro rfl
  rw [h] at h1
  cases h1
  simp at h2
theorem TabB.cell {w : World} (h : TabB w) (j : Nat) (hj : j < 64) : w.cell? ⟨0,j,none⟩ = some (.int .u8 (Lib.deBruijn64tab.getD j 0)) := by
  obtain ⟨t,o,h⟩ := h
  rw [cell_of_row w _ j _ t o h]
  have hl : Lib.deBruijn64tab.length = 64 := by decide
  simp [List.getD_eq_getElem?_getD,hl,hj]
theorem tz64_keyW (x a : Nat) (hx : x < 18446744073709551616) (hx0 : x ≠ 0) (hlow : x &&& (18446744073709551616 - x) = a) :
    IntKind.u64.wrap (bits BinOp.and IntKind.u64 (x : Int) (IntKind.u64.wrap (-(x : Int))) * 285870213051353865) / 288230376151711744 = ((a * 285870213051353865 % 18446744073709551616 / 288230376151711744 : Nat) : Int) := by
  have e1 : IntKind.u64.wrap (-(x : Int)) = ((18446744073709551616 - x : Nat) : Int) := by rw [IntKind.wrap_u64]; omega
  rw [e1,bits_and_u64_nat x _ hx (by omega),hlow,IntKind.wrap_u64]
  omega
set_option maxHeartbeats 1000000 in
theorem tz64_at (x k idx : Nat) (w : World) (hx0 : ((x : Int) == 0) = false)
    (key : IntKind.u64.wrap (bits BinOp.and IntKind.u64 (x : Int) (IntKind.u64.wrap (-(x : Int))) * 285870213051353865) / 288230376151711744 = (idx : Int))
    (hi : idx < 64) (hk : k < 64) (hcell : w.cell? ⟨0,idx,none⟩ = some (.int .u8 k)) :
    Calls Tryz.prog 73 #[.int .u64 x] w fun e w' => e = .returned (.int .i64 k) ∧ w' = w := by
  go_enter Tryz.func73,Tryz.ntmps73
  go_wp2_with (simp only [key])
  go_ret
  exact ⟨rfl,rfl⟩
theorem tz64 (x : Nat) (hx : x < 18446744073709551616) (hx0 : x ≠ 0) (w : World) (hT : TabB w) : Calls Tryz.prog 73 #[.int .u64 x] w fun e w' => e = .returned (.int .i64 (Lib.ctz 64 x : Nat)) ∧ w' = w := by
  obtain ⟨hlow,hk⟩ := Lib.lowest_bit 64 x hx0 hx
  obtain ⟨hi,htab⟩ := Lib.deBruijn64_at _ hk
  have hcell := hT.cell _ hi
  rw [htab] at hcell
  exact tz64_at x _ _ w (by simp; omega) (tz64_keyW x _ hx hx0 hlow) hi hk hcell
theorem odd_part {x m k : Nat} (h : x = 2 ^ k * m) : x / 2 ^ k = m := by rw [h]; exact Nat.mul_div_cancel_left _ (Nat.two_pow_pos k)
set_option maxRecDepth 100000 in
set_option maxHeartbeats 4000000 in
theorem gcdWords_pos (x y : Nat) (hx : x < 18446744073709551616) (hy : y < 18446744073709551616) (hx0 : x ≠ 0) (hy0 : y ≠ 0) (w : World) (hT : TabB w) :
    Calls Tryz.prog 49 #[.int .u64 x,.int .u64 y] w fun e w' => e = .returned (.int .u64 (Nat.gcd x y : Nat)) ∧ w' = w := by
  obtain ⟨a,ea,ha,hi⟩ := ctz_spec hx0 hx
  obtain ⟨b,eb,hb,hj⟩ := ctz_spec hy0 hy
  have hz : x ||| y ≠ 0 := fun h => hx0 (Nat.or_eq_zero_iff.1 h).1
  have hor := ctz_or hx0 hy0 hx hy
  have hg : Nat.gcd x y = 2 ^ Lib.ctz 64 (x ||| y) * Nat.gcd a b := by
    rw [hor]
    conv => lhs; rw [ea,eb]
    exact gcd_pows ha hb
  have t1 := tz64 (x ||| y) (Nat.or_lt_two_pow (n := 64) hx hy) hz w hT
  have t2 := tz64 x hx hx0 w hT
  have ox := bits_or_u64_nat x y hx hy
  have hka : Lib.ctz 64 (x ||| y) < 64 := by omega
  have ha2 := odd_part ea
  obtain ⟨k,hk⟩ : ∃ k, Lib.ctz 64 (x ||| y) = k := ⟨_,rfl⟩
  obtain ⟨i,hi2⟩ : ∃ i, Lib.ctz 64 x = i := ⟨_,rfl⟩
  rw [hk] at t1 hg hka
  have hgl : 2 ^ k * Nat.gcd a b < 18446744073709551616 := by rw [← hg]; exact Nat.lt_of_le_of_lt (Nat.gcd_le_left y (by omega)) hx
  rw [hi2] at t2 ha2 hi
  have qx : ((x : Int) == 0) = false := by simp; omega
  have qy : ((y : Int) == 0) = false := by simp; omega
  have hyb : Nat.gcd a y = Nat.gcd a b := by
    have h := Nat.Coprime.gcd_mul_left_cancel_right (m := a) b (cop_two ha (Lib.ctz 64 y))
    rw [← eb] at h; exact h
  clear ea eb hor hz
  go_enter Tryz.func49,Tryz.ntmps49
  go_wp2_with fail
  refine t1.mono ?_
  rintro e w1 ⟨rfl,rfl⟩
  go_wp2_with fail
  refine t2.mono ?_
  rintro e w2 ⟨rfl,rfl⟩
  have sx : (x : Int) / 2 ^ i = (a : Int) := by rw [← ha2]; norm_cast
  have al : a < 18446744073709551616 := by have := Nat.div_le_self x (2 ^ i); omega
  clear t1 t2 ox hx hx0
  go_wp2_with fail
  go_loop [0,1] (fun p q => ∃ X Y : Nat, p = .int .u64 X ∧ q = .int .u64 Y ∧ X % 2 = 1 ∧ X < 18446744073709551616 ∧ Y < 18446744073709551616 ∧ Nat.gcd X Y = Nat.gcd a b) (fun p q => (intOf p).toNat + (intOf q).toNat)
  case atStart => exact ⟨a,y,rfl,rfl,ha,al,hy,hyb⟩
  case round =>
    obtain ⟨X,Y,rfl,rfl,hX,hXl,hYl,hG⟩ := hrel
    go_wp2_with fail
    · have hY0 : Y ≠ 0 := by omega
      obtain ⟨m,em,hm,hjm⟩ := ctz_spec hY0 hYl
      have hym := odd_part em
      have hgm : Nat.gcd X Y = Nat.gcd X m := by
        have h := Nat.Coprime.gcd_mul_left_cancel_right (m := X) m (cop_two hX (Lib.ctz 64 Y))
        rw [← em] at h; exact h
      have q := tz64 Y hYl hY0 w2 hT
      obtain ⟨j,hj2⟩ : ∃ j, Lib.ctz 64 Y = j := ⟨_,rfl⟩
      rw [hj2] at q hym hjm
      have hml : m ≤ Y := by rw [← hym]; exact Nat.div_le_self _ _
      have sy : (Y : Int) / 2 ^ j = (m : Int) := by rw [← hym]; norm_cast
      clear em hj2
      refine q.mono ?_
      rintro e w3 ⟨rfl,rfl⟩
      clear q
      go_wp2_with fail
      rcases Nat.le_total X m with h | h
      · rw [show max (X : Int) (m : Int) - min (X : Int) (m : Int) = ((m - X : Nat) : Int) by omega,show min (X : Int) (m : Int) = (X : Int) by omega]
        exact ⟨⟨X,m - X,rfl,rfl,hX,hXl,by omega,by rw [Nat.gcd_sub_self_right h,← hgm,hG]⟩,by simp only [intOf]; omega⟩
      · rw [show max (X : Int) (m : Int) - min (X : Int) (m : Int) = ((X - m : Nat) : Int) by omega,show min (X : Int) (m : Int) = (m : Int) by omega]
        exact ⟨⟨m,X - m,rfl,rfl,hm,by omega,by omega,by rw [Nat.gcd_sub_self_right h,Nat.gcd_comm,← hgm,hG]⟩,by simp only [intOf]; omega⟩
    · obtain rfl : Y = 0 := by omega
      rw [Nat.gcd_zero_right] at hG
      have hw : IntKind.u64.wrap ((X : Int) * 2 ^ k) = 2 ^ k * ((Nat.gcd a b : Nat) : Int) := by
        rw [IntKind.wrap_u64,hG,Int.mul_comm]
        have : (2 : Int) ^ k * ((Nat.gcd a b : Nat) : Int) = ((2 ^ k * Nat.gcd a b : Nat) : Int) := by push_cast; rfl
        rw [this]
        omega
      go_ret
      exact ⟨by rw [← hw]; rfl,rfl⟩
theorem gcdWords (x y : Nat) (hx : x < 18446744073709551616) (hy : y < 18446744073709551616) (w : World) (hT : TabB w) : Calls Tryz.prog 49 #[.int .u64 x,.int .u64 y] w fun e w' => e = .returned (.int .u64 (Nat.gcd x y : Nat)) ∧ w' = w := by
  by_cases hx0 : x = 0
  · subst hx0
    have ox := bits_or_u64_nat 0 y (by decide) hy
    rw [Nat.gcd_zero_left]
    rw [Nat.zero_or] at ox
    go_enter Tryz.func49,Tryz.ntmps49
    go_wp2_with fail
    go_ret
    exact ⟨by show Ending.returned (.int .u64 (bits .or .u64 ((0 : Nat) : Int) (y : Int))) = _; rw [ox],rfl⟩
  · by_cases hy0 : y = 0
    · subst hy0
      have ox := bits_or_u64_nat x 0 hx (by decide)
      rw [Nat.gcd_zero_right]
      rw [Nat.or_zero] at ox
      have qx : ((x : Int) == 0) = false := by simp; omega
      go_enter Tryz.func49,Tryz.ntmps49
      go_wp2_with fail
      go_ret
      exact ⟨by show Ending.returned (.int .u64 (bits .or .u64 (x : Int) ((0 : Nat) : Int))) = _; rw [ox],rfl⟩
    · exact gcdWords_pos x y hx hy hx0 hy0 w hT
end Go.Proofs.YtgccgacpifebbaaGreatDoor
