/- DiceForks, walked. -/
import Derived.Test.YtikoaihbpdcofaaDicA
namespace Go.Proofs.Ytikoaihbpdcofaa
open Go.RowKit
set_option linter.unusedVariables false

theorem xor_same {n a b : Int} (hn : Word n) (ha : Word a) (hb : Word b) (h : bits .xor .u64 n a = bits .xor .u64 n b) : a = b := by
  have e : ∀ c : Int, bits .xor .u64 n c = ((BitVec.ofInt 64 n ^^^ BitVec.ofInt 64 c).toNat : Int) := fun c => by
    show IntKind.u64.wrap ((BitVec.ofInt 64 n ^^^ BitVec.ofInt 64 c).toNat : Int) = _
    rw [IntKind.wrap_u64]
    have := (BitVec.ofInt 64 n ^^^ BitVec.ofInt 64 c).isLt
    omega
  rw [e, e] at h
  have h2 : BitVec.ofInt 64 n ^^^ BitVec.ofInt 64 a = BitVec.ofInt 64 n ^^^ BitVec.ofInt 64 b := BitVec.eq_of_toNat_eq (by omega)
  have h3 := congrArg (BitVec.ofInt 64 n ^^^ ·) h2
  simp only [← BitVec.xor_assoc, BitVec.xor_self, BitVec.zero_xor] at h3
  have h4 := congrArg BitVec.toNat h3
  rw [BitVec.toNat_ofInt, BitVec.toNat_ofInt] at h4
  obtain ⟨a1, a2⟩ := ha
  obtain ⟨b1, b2⟩ := hb
  omega
theorem xor_word (n a : Int) : Word (bits .xor .u64 n a) := by
  show Word (IntKind.u64.wrap _)
  rw [IntKind.wrap_u64]
  constructor <;> omega
set_option maxRecDepth 100000 in
set_option maxHeartbeats 1000000 in
theorem diceForks_walk (seed : Int) (s t : ByteArray) (w : World) (bs : Word seed) (hs : s.size ≤ 9223372036854775807) (ht : t.size ≤ 9223372036854775807) :
    Calls Try.prog 4 #[.int .u64 seed, .string s, .string t] w fun e w' => e = .returned (.bool true) ∧ Below w.heap.size w w' := by
  go_enter Try.func4, Try.ntmps4
  go_wp2_with fail
  refine (new_dice seed w).mono ?_
  rintro e w1 ⟨rfl, ha, b1⟩
  go_wp2_with fail
  refine (new_dice seed w1).mono ?_
  rintro e w2 ⟨rfl, hb, b2⟩
  have la := ha.lt
  replace ha := ha.below b2 la
  go_wp2_with fail
  refine (new_dice seed w2).mono ?_
  rintro e w3 ⟨rfl, hc, b3⟩
  have lb := hb.lt
  replace ha := ha.below b3 ha.lt
  replace hb := hb.below b3 lb
  have B3 := (b1.trans (b2.mono (by omega))).trans (b3.mono (by omega))
  clear b1 b2 b3
  go_wp2_with fail
  refine (known5_true w3).mono ?_
  rintro e w4 ⟨rfl, b4⟩
  replace ha := ha.below b4 ha.lt
  replace hb := hb.below b4 hb.lt
  replace hc := hc.below b4 hc.lt
  have B4 := B3.trans (b4.mono (by have := B3.size; omega))
  clear B3 b4
  go_wp2_with fail
  refine (fork_dice _ seed s hs w4 ha).mono ?_
  rintro e w5 ⟨qx, rfl, hx, ha5, lx, g5⟩
  have lb4 := hb.lt
  have lc4 := hc.lt
  replace hb := hb.grown g5 (by simp; omega)
  replace hc := hc.grown g5 (by simp; omega)
  have B5 := B4.grown g5 (by have := B4.size; omega) (fun k e => by cases e; omega)
  clear ha g5 B4
  go_wp2_with fail
  refine (fork_dice _ seed t ht w5 hb).mono ?_
  rintro e w6 ⟨qy, rfl, hy, hb6, ly, g6⟩
  have lx5 := hx.lt
  replace ha5 := ha5.grown g6 (by simp; omega)
  replace hc := hc.grown g6 (by simp; omega)
  replace hx := hx.grown g6 (by simp; omega)
  have B6 := B5.grown g6 (by have := B5.size; omega) (fun k e => by cases e; omega)
  clear hb g6 B5
  go_wp2_with fail
  refine (next_dice _ seed w6 hc).mono ?_
  rintro e w7 ⟨rfl, hc7, g7⟩
  have ly6 := hy.lt
  replace ha5 := ha5.grown g7 (by simp; omega)
  replace hb6 := hb6.grown g7 (by simp; omega)
  replace hx := hx.grown g7 (by simp; omega)
  replace hy := hy.grown g7 (by simp; omega)
  have B7 := B6.grown g7 (by have := B6.size; omega) (fun k e => by cases e; omega)
  clear hc g7 B6
  obtain ⟨S, hS⟩ : ∃ S, dgrow seed = S := ⟨_, rfl⟩
  rw [hS]
  simp only [hS] at ha5 hb6 hx hy hc7
  have hn : Word (dtell S) := xor_word _ _
  obtain ⟨n, en⟩ : ∃ n, dtell S = n := ⟨_, rfl⟩
  rw [en]
  simp only [en] at hx hy hn
  obtain ⟨A, hA⟩ : ∃ A, fnv f0 (lets s) = A := ⟨_, rfl⟩
  obtain ⟨B, hB⟩ : ∃ B, fnv f0 (lets t) = B := ⟨_, rfl⟩
  have wA : Word A := hA ▸ fnv_word f0_word _
  have wB : Word B := hB ▸ fnv_word f0_word _
  rw [hA] at hx
  rw [hB] at hy
  have key := xor_same hn wA wB
  obtain ⟨X, hX⟩ : ∃ X, bits .xor .u64 n A = X := ⟨_, rfl⟩
  obtain ⟨Y, hY⟩ : ∃ Y, bits .xor .u64 n B = Y := ⟨_, rfl⟩
  rw [hX, hY] at key
  rw [hX] at hx
  rw [hY] at hy
  have HX := Lib.hid hX
  have Hk := Lib.hid key
  have HA := Lib.hid hA
  have HB := Lib.hid hB
  clear hX hA hB key hS en
  go_wp2_with fail
  refine (state_dice _ _ _ ha5).mono ?_
  rintro e w8 ⟨rfl, rfl⟩
  go_wp2_with fail
  refine (state_dice _ _ _ hb6).mono ?_
  rintro e w8 ⟨rfl, rfl⟩
  go_wp2_with fail
  refine (state_dice _ _ _ ha5).mono ?_
  rintro e w8 ⟨rfl, rfl⟩
  go_wp2_with fail
  refine (state_dice _ _ _ hc7).mono ?_
  rintro e w8 ⟨rfl, rfl⟩
  go_wp2_with fail
  refine (state_dice _ _ _ hx).mono ?_
  rintro e w8 ⟨rfl, rfl⟩
  go_wp2_with fail
  refine (state_dice _ _ _ hy).mono ?_
  rintro e w8 ⟨rfl, rfl⟩
  obtain ⟨v1, w8, r1, o1, c1⟩ := bs_of_string w7 s hs
  replace hx := hx.below c1 hx.lt
  have B8 := B7.trans (c1.mono B7.size)
  clear hy ha5 hb6 hc7 B7
  go_wp2_with fail
  refine (sum_bs _ _ _ o1).mono ?_
  rintro e w9 ⟨rfl, rfl⟩
  rw [HA.out]
  obtain ⟨v2, w9, r2, o2, c2⟩ := bs_of_string w8 t ht
  replace hx := hx.below c2 hx.lt
  have B9 := B8.trans (c2.mono B8.size)
  clear B8
  go_wp2_with fail
  refine (sum_bs _ _ _ o2).mono ?_
  rintro e w10 ⟨rfl, rfl⟩
  rw [HB.out]
  have hXY : (X == Y) = (A == B) := by
    by_cases h : X = Y
    · have := Hk.out h
      rw [h, this, beq_self_eq_true, beq_self_eq_true]
    · have : A ≠ B := fun e => h (by rw [← HX.out, ← hY, e])
      rw [beq_false_of_ne h, beq_false_of_ne this]
  have hbb : ∀ b : Bool, (b == b) = true := by decide
  clear Hk hY
  go_wp2_with fail
  refine (state_dice _ _ _ hx).mono ?_
  rintro e w10 ⟨rfl, rfl⟩
  obtain ⟨v3, w10, r3, o3, c3⟩ := bs_of_string w9 s hs
  have B10 := B9.trans (c3.mono B9.size)
  clear B9 hx
  go_wp2_with fail
  refine (sum_bs _ _ _ o3).mono ?_
  rintro e w11 ⟨rfl, rfl⟩
  rw [HA.out]
  have hX := HX.out
  go_wp2_with fail
  go_ret
  exact ⟨rfl, B10⟩
end Go.Proofs.Ytikoaihbpdcofaa
