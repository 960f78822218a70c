/- What NatShifts' walk wants beside the contracts: Pick, a shift of either sign. -/
import Derived.Test.YtogpephnkkofjaaGreatDoorRefPow
import Derived.Test.YtogpephnkkofjaaGreatDoorRootAny
import Derived.Test.YtogpephnkkofjaaGreatDoorPow
namespace Go.Proofs.YtogpephnkkofjaaGreatDoor
open Go.RowKit
set_option linter.unusedVariables false

/-- Any number as one of 0 to m - 1. -/
theorem pick_any (x m : Int) (hx : -9223372036854775808 ≤ x) (hx2 : x ≤ 9223372036854775807) (hm : 0 < m) (hm2 : m ≤ 4611686018427387904) (w : World) :
    Calls Tryz.prog 7 #[.int .i64 x, .int .i64 m] w fun e w' => (∃ p : Nat, (p : Int) < m ∧ e = .returned (.int .i64 p)) ∧ w = w' := by
  have h1 : -m < x.tmod m := by
    have := Int.tmod_lt_of_pos (-x) hm
    rw [Int.neg_tmod] at this
    omega
  have h2 : x.tmod m < m := Int.tmod_lt_of_pos x hm
  have hz : (m == 0) = false := by simp; omega
  obtain ⟨t, ht⟩ : ∃ t, x.tmod m = t := ⟨_, rfl⟩
  rw [ht] at h1 h2
  by_cases hneg : t < 0
  · obtain ⟨p, hp⟩ := Int.eq_ofNat_of_zero_le (show 0 ≤ t + m by omega)
    have hp2 : (p : Int) < m := by omega
    have hge : -4611686018427387904 ≤ t := by omega
    have Hp2 := Lib.hid hp2
    clear hp2
    go_enter Tryz.func7, Tryz.ntmps7
    go_wp2_with fail
    go_ret
    exact ⟨⟨p, Hp2.out, by first | rfl | (congr 2)⟩, rfl⟩
  · obtain ⟨p, rfl⟩ := Int.eq_ofNat_of_zero_le (show 0 ≤ t by omega)
    have hge : (0 : Int) ≤ (p : Int) := by omega
    go_enter Tryz.func7, Tryz.ntmps7
    go_wp2_with fail
    go_ret
    exact ⟨⟨p, h2, by first | rfl | (congr 2)⟩, rfl⟩

/-- n moved by z bits, down where z is below 0. -/
def shiftZ (n z : Int) : Int := if 0 ≤ z then n * 2 ^ z.toNat else n / 2 ^ (-z).toNat
theorem shift_z (K : Nat) (hK : 1 ≤ K) (hK2 : K ≤ 1048576) (v : Value) (n z : Int) (hz : -65536 ≤ z) (hz2 : z ≤ 65536) (w : World) (h : IsNat w v n) (hn : n < pw K) :
    Calls Tryz.prog 22 #[v, .int .i64 z] w (RetNat (shiftZ n z) w) := by
  unfold shiftZ
  by_cases h0 : 0 ≤ z
  · obtain ⟨k, rfl⟩ := Int.eq_ofNat_of_zero_le h0
    rw [if_pos h0, Int.toNat_natCast]
    exact shift_pos K hK hK2 v n k (by omega) w h hn
  · obtain ⟨k, hk⟩ := Int.eq_ofNat_of_zero_le (show 0 ≤ -z by omega)
    obtain rfl : z = -(k : Int) := by omega
    rw [if_neg h0, Int.neg_neg, Int.toNat_natCast]
    exact shift_neg K hK2 v n k (by omega) (by omega) w h hn
theorem natShift_z (s : Value) (n z : Int) (hz : -65536 ≤ z) (hz2 : z ≤ 65536) (w : World) {K : Nat} (h : IsNum w s n) (hn : n < lpw K) (hK : K ≤ 1048576) :
    Calls Tryz.prog 23 #[s, .int .i64 z] w (RetNum (shiftZ n z) w) := by
  unfold shiftZ
  by_cases h0 : 0 ≤ z
  · obtain ⟨k, rfl⟩ := Int.eq_ofNat_of_zero_le h0
    rw [if_pos h0, Int.toNat_natCast]
    exact natShift_pos s n k (by omega) w h hn hK
  · obtain ⟨k, hk⟩ := Int.eq_ofNat_of_zero_le (show 0 ≤ -z by omega)
    obtain rfl : z = -(k : Int) := by omega
    rw [if_neg h0, Int.neg_neg, Int.toNat_natCast]
    exact natShift_neg s n k (by omega) (by omega) w h hn hK
theorem shiftZ_lt {n z : Int} (h0 : 0 ≤ n) (hn : n < pw 6) (hz : z ≤ 300) : shiftZ n z < pw 11 := by
  unfold shiftZ
  split
  · have h1 : (2 : Int) ^ z.toNat ≤ 2 ^ 300 := two_pow_mono (by omega)
    have h2 : n * 2 ^ z.toNat ≤ n * 2 ^ 300 := Int.mul_le_mul_of_nonneg_left h1 h0
    have h3 : n * 2 ^ 300 < pw 6 * 2 ^ 300 := Int.mul_lt_mul_of_pos_right hn (Int.pow_pos (by decide))
    have h4 : pw 6 * 2 ^ 300 ≤ pw 11 := by
      rw [pw_two, pw_two, ← Int.pow_add]; exact two_pow_mono (by decide)
    omega
  · have h1 : n / 2 ^ (-z).toNat ≤ n := Int.ediv_le_self _ h0
    have h2 := pw_mono (a := 6) (b := 11) (by decide)
    omega
/-- The root, as the program and as the document has it. -/
theorem natRoot_at (K : Nat) (hK : 1 ≤ K) (hK2 : K ≤ 100000) (s : Value) (n r : Int) (w : World) (h : IsNum w s n) (hn : n < lpw K) (hr : IsRoot n r) : Calls Tryz.prog 25 #[s] w (RetNum r w) := by
  refine (natRoot_num K hK hK2 s n w h hn).mono ?_
  rintro e w' ⟨q, hq, hp⟩
  rw [hr.uniq hq]
  exact hp
theorem root_at (K : Nat) (hK : 1 ≤ K) (hK2 : K ≤ 190) (v : Value) (n r : Int) (w : World) (h : IsNat w v n) (hn : n < pw K) (hr : IsRoot n r) : Calls Tryz.prog 24 #[v] w (RetNat r w) := by
  refine (root_any K hK hK2 v n w h hn).mono ?_
  rintro e w' ⟨q, hq, hp⟩
  rw [hr.uniq hq]
  exact hp
theorem IsNum.drew {w : World} {s : Value} {n : Int} (h : IsNum w s n) : IsNum w.drew s n := h
theorem bits_none0 (w : World) : Calls Tryz.prog 10 #[.agg #[.int .u64 0, .slice none 0 0]] w fun e w' => e = .returned (.int .i64 0) ∧ Below w.heap.size w w' := by
  have e0 : Lib.bitLen (0 : Int).toNat = 0 := Lib.bitLenAux_zero 64
  have hb0 := bits_word 0 ⟨by decide, by decide⟩ w
  rw [e0] at hb0
  exact hb0
end Go.Proofs.YtogpephnkkofjaaGreatDoor
