/- Contracts of the document's NatPow and NatRoot. -/
import Derived.Test.YtogpephnkkofjaaGreatDoorRefShift
import Derived.Test.YtogpephnkkofjaaGreatDoorCloneAt
import Derived.Deep.LoopGhost
namespace Go.Proofs.YtogpephnkkofjaaGreatDoor
open Go.RowKit
set_option linter.unusedVariables false

theorem natOf_num (n : Int) (hn : Word n) (w : World) : Calls Tryz.prog 36 #[.int .u64 n] w (RetNum n w) := by
  refine (natOf_any n hn w).mono ?_
  rintro e w' ⟨⟨b, len, l, rfl, ha, hl, hw, h2, hz, hv⟩, hb⟩
  refine ⟨_, rfl, ?_, hb⟩
  rw [← hv]
  exact isNum_arr ha (by omega) (by omega) hw hz
theorem natBits_num (s : Value) (n : Int) (w : World) (h : IsNum w s n) : Calls Tryz.prog 17 #[s] w fun e w' => (∃ k : Nat, e = .returned (.int .i64 k) ∧ IsBits n k) ∧ w = w' := by
  obtain ⟨L, h1, h2, rfl⟩ := h
  rcases h1 with ⟨rfl, rfl⟩ | ⟨b, t, len, cap, l, rfl, ha, k1, k2, hw, rfl⟩
  · refine (natBits_zero none 0 w).mono ?_
    rintro e w' ⟨rfl, rfl⟩
    exact ⟨⟨0, rfl, isBits_zero⟩, rfl⟩
  · rcases len with _ | len
    · refine (natBits_zero _ cap w).mono ?_
      rintro e w' ⟨rfl, rfl⟩
      exact ⟨⟨0, rfl, by simpa [lval] using isBits_zero⟩, rfl⟩
    · refine (natBits_any b t len cap l w ha k1 (by omega) hw).mono ?_
      rintro e w' ⟨rfl, rfl⟩
      refine ⟨⟨_, rfl, ?_⟩, rfl⟩
      have hl : (l.take (len + 1)).length = len + 1 := by rw [List.length_take, Nat.min_eq_left k1]
      have hz := h2 (fun e => by rw [e] at hl; simp at hl)
      rw [hl, getD_take, if_pos (by omega), Nat.add_sub_cancel] at hz
      have hs := lseg_bd hw 0 len (by omega)
      have hwl := hw.getD len
      rw [← lseg_all, lseg_succ (by omega), Nat.zero_add]
      exact isBits_top (lpw_two len) hs.1 hs.2 hz (isBits_word ⟨hwl.1, by unfold Limb at hwl; omega⟩) hwl.1

theorem pow_le_lpw {X : Int} {K : Nat} (h0 : 0 ≤ X) (h : X < lpw K) : ∀ a : Nat, 0 ≤ X ^ a ∧ X ^ a ≤ lpw (K * a)
  | 0 => by simp [lpw]
  | a + 1 => by
    obtain ⟨g0, g1⟩ := pow_le_lpw h0 h a
    rw [Int.pow_succ, Nat.mul_succ, lpw_add]
    exact ⟨Int.mul_nonneg g0 h0, Int.mul_le_mul g1 (Int.le_of_lt h) h0 (Int.le_of_lt (lpw_pos _))⟩
theorem pow_lt_lpw {X : Int} {K M a : Nat} (h0 : 0 ≤ X) (h : X < lpw K) (hM : K * a < M) : X ^ a < lpw M := by
  have h1 := (pow_le_lpw h0 h a).2
  have h2 := lpw_mono (a := K * a + 1) (b := M) (by omega)
  have h3 := lpw_pos (K * a)
  simp only [lpw] at h2
  omega

set_option maxRecDepth 100000 in
set_option maxHeartbeats 1000000 in
theorem natPow_num (K N : Nat) (hN : N ≤ 1024) (hK : K ≤ 64) (s : Value) (X : Int) (w : World) (h : IsNum w s X) (hX : X < lpw K) :
    Calls Tryz.prog 26 #[s, .int .i64 N] w (RetNum (X ^ N) w) := by
  have h0 := h.nonneg
  have HX := Lib.hid hX
  clear hX
  go_enter Tryz.func26, Tryz.ntmps26
  go_wp2_with fail
  refine (natOf_num 1 ⟨by decide, by decide⟩ w).mono ?_
  rintro e w1 ⟨o, rfl, ho, hb1⟩
  go_wp2_with fail
  go_loopg [0, 1, 5] N (fun g a n o wr => ∃ (k p m : Nat), g = k ∧ n = .int .i64 k ∧ m + k * p = N ∧ p ≤ 2 * N + 1 ∧ k ≤ N ∧ IsNum wr a (X ^ p) ∧ IsNum wr o (X ^ m) ∧ Below w.heap.size w wr)
  case atStart => exact ⟨N, 1, 0, rfl, rfl, by omega, by omega, Nat.le_refl _, by rw [Int.pow_one]; exact h.below hb1, by rw [Int.pow_zero]; exact ho, hb1⟩
  case round =>
    obtain ⟨k, p, m, hg, rfl, hkp, hp, hkN, ha, ho, hB⟩ := hrel
    have Hg := Lib.hid hg
    have Hkp := Lib.hid hkp
    clear hg
    obtain ⟨pa, la, ca, rfl⟩ := ha.shape
    obtain ⟨po, lo, co, rfl⟩ := ho.shape
    by_cases hk0 : k = 0
    · subst hk0
      clear hkp
      go_wp2_with fail
      go_ret
      have : m = N := by have := Hkp.out; omega
      subst this
      exact ⟨_, rfl, ho, hB⟩
    · have hpN : p ≤ N := by
        have : 1 * p ≤ k * p := Nat.mul_le_mul_right _ (by omega)
        omega
      have hmN : m ≤ N := by omega
      obtain ⟨h, hh⟩ : ∃ h, k / 2 = h := ⟨_, rfl⟩
      have d1 : (0 : Int) < (k : Int) := by omega
      have d2 : (k : Int) / 2 = (h : Int) := by omega
      have B1 : ∀ a, a ≤ 2 * N → X ^ a < lpw 131073 := fun a ha => pow_lt_lpw h0 HX.out (by
        have := Nat.mul_le_mul hK (Nat.le_trans ha (show 2 * N ≤ 2048 by omega))
        omega)
      have sq := fun W (g : Below wr.heap.size wr W) => natMul_num 131073 (by decide) _ _ (X ^ p) (X ^ p) W (ha.below g) (ha.below g) (B1 p (by omega)) (B1 p (by omega))
      have ml := natMul_num 131073 (by decide) _ _ (X ^ m) (X ^ p) wr ho ha (B1 m (by omega)) (B1 p (by omega))
      rw [← Int.pow_add] at ml
      have sq : ∀ W, Below wr.heap.size wr W → Calls Tryz.prog 43 #[.slice pa la ca, .slice pa la ca] W (RetNum (X ^ (p + p)) W) := by
        intro W g
        rw [Int.pow_add]
        exact sq W g
      have hkh : (k : Nat) % 2 = 1 ∨ (k : Nat) % 2 = 0 := by omega
      clear B1 hkp
      have Hh := Lib.hid hh
      clear hh
      rcases hkh with hb | hb
      · have d3 : (k : Int) % 2 = 1 := by omega
        clear ha
        have Hb := Lib.hid hb
        clear hb
        go_wp2_with fail
        refine ml.mono ?_
        rintro e w2 ⟨o2, rfl, ho2, hb2⟩
        have sq2 := sq w2 hb2
        obtain ⟨po2, lo2, co2, rfl⟩ := ho2.shape
        clear ml sq ho
        go_wp2_with fail
        refine sq2.mono ?_
        rintro e w3 ⟨a3, rfl, ha3, hb3⟩
        obtain ⟨pa3, la3, ca3, rfl⟩ := ha3.shape
        clear sq2
        go_wp2_with fail
        go_roundg h
        case measure => have := Hg.out; have := Hh.out; omega
        case rel => exact ⟨h, p + p, m + p, rfl, rfl, by
          have e1 := Hkp.out
          have e2 : k = 2 * h + 1 := by have := Hh.out; have := Hb.out; omega
          rw [e2, Nat.add_mul, Nat.mul_assoc] at e1
          rw [Nat.mul_add]
          omega, by omega, by have := Hh.out; omega, ha3, ho2.below hb3, (hB.trans (hb2.mono hB.size)).trans (hb3.mono (Nat.le_trans hB.size hb2.size))⟩
      · have d3 : (k : Int) % 2 = 0 := by omega
        have sq2 := sq wr (Below.refl _ _)
        have Hb := Lib.hid hb
        clear hb ml sq ha
        go_wp2_with fail
        refine sq2.mono ?_
        rintro e w3 ⟨a3, rfl, ha3, hb3⟩
        obtain ⟨pa3, la3, ca3, rfl⟩ := ha3.shape
        clear sq2
        go_wp2_with fail
        go_roundg h
        case measure => have := Hg.out; have := Hh.out; omega
        case rel => exact ⟨h, p + p, m, rfl, rfl, by
          have e1 := Hkp.out
          have e2 : k = 2 * h := by have := Hh.out; have := Hb.out; omega
          rw [e2, Nat.mul_assoc] at e1
          rw [Nat.mul_add]
          omega, by omega, by have := Hh.out; omega, ha3, ho.below hb3, hB.trans (hb3.mono hB.size)⟩

theorem cmpI_le {a b : Int} : cmpI a b ≤ 0 ↔ a ≤ b := by
  unfold cmpI
  split
  · constructor <;> intro <;> omega
  · split <;> constructor <;> intro <;> omega
set_option maxRecDepth 100000 in
set_option maxHeartbeats 1000000 in
theorem natRoot_num (K : Nat) (hK : 1 ≤ K) (hK2 : K ≤ 100000) (s : Value) (n : Int) (w : World) (h : IsNum w s n) (hn : n < lpw K) :
    Calls Tryz.prog 25 #[s] w fun e w' => ∃ r, IsRoot n r ∧ RetNum r w e w' := by
  have h0 := h.nonneg
  obtain ⟨ps, ls, cs, rfl⟩ := h.shape
  have Hn := Lib.hid hn
  clear hn
  go_enter Tryz.func25, Tryz.ntmps25
  go_wp2_with fail
  refine (natBits_num _ n w h).mono ?_
  rintro e w1 ⟨⟨b, rfl, hb⟩, rfl⟩
  have hbK : b ≤ 32 * K := by
    by_cases hc : b ≤ 32 * K
    · exact hc
    · have h2 := hb.2 (by omega)
      have h3 := Hn.out
      rw [lpw_two] at h3
      have := two_pow_mono (a := 32 * K) (b := b - 1) (by omega)
      omega
  obtain ⟨i0, hi0⟩ : ∃ i0, b / 2 = i0 := ⟨_, rfl⟩
  have d1 : (b : Int) / 2 = (i0 : Int) := by omega
  have hstart : n < (2 : Int) ^ (i0 + 1) * 2 ^ (i0 + 1) := by
    rw [← Int.pow_add]
    exact Int.lt_of_lt_of_le hb.1 (two_pow_mono (by omega))
  have hi1 : i0 ≤ 16 * K := by omega
  have Hstart := Lib.hid hstart
  clear hstart hi0 hb
  go_wp2_with fail
  go_loopg [3, 4] (i0 + 1) (fun g r i wr => ∃ (k : Nat) (z R : Int), g = k ∧ k ≤ i0 + 1 ∧ z = (k : Int) - 1 ∧ i = .int .i64 z ∧ IsNum wr r R ∧ R * R ≤ n ∧ n < (R + 2 ^ k) * (R + 2 ^ k) ∧ Below w.heap.size w wr)
  case atStart => exact ⟨i0 + 1, _, 0, rfl, Nat.le_refl _, rfl, by go_num, ⟨[], .inl ⟨rfl, rfl⟩, fun h => absurd rfl h, rfl⟩, by simpa using h0, by simpa using Hstart.out, Below.refl _ _⟩
  case round =>
    obtain ⟨k, z, R, hg, hk, hz, rfl, hr, h1, h2, hB⟩ := hrel
    have Hg := Lib.hid hg
    have H1 := Lib.hid h1
    have H2 := Lib.hid h2
    have hR0 := hr.nonneg
    clear hg h1 h2
    obtain ⟨pr, lr, cr, rfl⟩ := hr.shape
    rcases k with _ | j
    · have hz0 : z < 0 := by omega
      clear hz
      go_wp2_with fail
      go_ret
      exact ⟨R, ⟨hR0, H1.out, by simpa using H2.out⟩, _, rfl, hr, hB⟩
    · obtain rfl : z = (j : Int) := by omega
      clear hz
      go_wp2_with fail
      refine (natOf_num 1 ⟨by decide, by decide⟩ wr).mono ?_
      rintro e w2 ⟨o, rfl, ho, hb2⟩
      have sh := natShift_pos o 1 j (by omega) w2 ho (show (1 : Int) < lpw 1 by decide) (by decide)
      go_wp2_with fail
      refine sh.mono ?_
      rintro e w3 ⟨t, rfl, ht, hb3⟩
      rw [Int.one_mul] at ht
      have p0 : (0 : Int) < 2 ^ j := Int.pow_pos (by decide)
      have hRn : R ≤ n := by
        by_cases hz : R = 0
        · omega
        · have g1 := Int.mul_le_mul_of_nonneg_left (show (1 : Int) ≤ R by omega) hR0
          have := H1.out
          omega
      have hj : (2 : Int) ^ j < lpw (K + 1) := by
        have g1 := two_pow_mono (show j ≤ 32 * K by omega)
        rw [← lpw_two] at g1
        have g2 := lpw_pos K
        simp only [lpw]
        omega
      have hRK : R < lpw (K + 1) := Int.lt_of_le_of_lt hRn (Int.lt_of_lt_of_le Hn.out (lpw_mono (by omega)))
      have hxK : R + 2 ^ j < lpw (K + 2) := by simp only [lpw] at hRK hj ⊢; omega
      have ad := natAdd_num (K + 1) (by omega) _ _ R (2 ^ j) w3 ((hr.below hb2).below hb3) ht hRK hj
      have hB3 := (hB.trans (hb2.mono hB.size)).trans (hb3.mono (Nat.le_trans hB.size hb2.size))
      have hp2 : (2 : Int) ^ (j + 1) = 2 ^ j + 2 ^ j := by rw [Int.pow_succ]; omega
      have hr3 := (hr.below hb2).below hb3
      obtain ⟨pt, lt, ct, rfl⟩ := ht.shape
      obtain ⟨X, hX⟩ : ∃ X, R + 2 ^ j = X := ⟨_, rfl⟩
      rw [hX] at ad hxK
      have HX := Lib.hid hX
      have Hp2 := Lib.hid hp2
      clear sh hb2 hb3 hr hB hX hp2 p0 hj
      go_wp2_with fail
      refine ad.mono ?_
      rintro e w4 ⟨x4, rfl, hx4, hb4⟩
      obtain ⟨p4, l4, c4, rfl⟩ := hx4.shape
      have ml := natMul_num (K + 2) (by omega) _ _ X X w4 hx4 hx4 hxK hxK
      clear ad
      go_wp2_with fail
      refine ml.mono ?_
      rintro e w5 ⟨x5, rfl, hx5, hb5⟩
      obtain ⟨p5, l5, c5, rfl⟩ := hx5.shape
      have hB5 := (hB3.trans (hb4.mono hB3.size)).trans (hb5.mono (Nat.le_trans hB3.size hb4.size))
      have cm := natCmp_num _ _ (X * X) n w5 hx5 (h.below hB5)
      clear ml
      by_cases hle : X * X ≤ n
      · have hd := cmpI_le.2 hle
        obtain ⟨d, hdd⟩ : ∃ d, cmpI (X * X) n = d := ⟨_, rfl⟩
        rw [hdd] at cm hd
        have Hle := Lib.hid hle
        clear hdd hle
        go_wp2_with fail
        refine cm.mono ?_
        rintro e w6 ⟨rfl, hb6⟩
        go_wp2_with fail
        go_roundg j
        case measure => have := Hg.out; omega
        case rel => exact ⟨j, _, X, rfl, by omega, rfl, rfl, (hx4.below hb5).below hb6, Hle.out, by have := H2.out; rw [Hp2.out, ← Int.add_assoc, HX.out] at this; exact this, hB5.trans (hb6.mono hB5.size)⟩
      · have hd : ¬ cmpI (X * X) n ≤ 0 := fun g => hle (cmpI_le.1 g)
        obtain ⟨d, hdd⟩ : ∃ d, cmpI (X * X) n = d := ⟨_, rfl⟩
        rw [hdd] at cm hd
        have Hle := Lib.hid hle
        clear hdd hle
        go_wp2_with fail
        refine cm.mono ?_
        rintro e w6 ⟨rfl, hb6⟩
        go_wp2_with fail
        go_roundg j
        case measure => have := Hg.out; omega
        case rel => exact ⟨j, _, R, rfl, by omega, rfl, rfl, ((hr3.below hb4).below hb5).below hb6, H1.out, by rw [HX.out]; have := Hle.out; omega, hB5.trans (hb6.mono hB5.size)⟩
end Go.Proofs.YtogpephnkkofjaaGreatDoor
