/- Contract of (Nat).Pow. -/
import Derived.Test.YtogildikglomkaaGreatDoorMulAny
import Derived.Test.YtogildikglomkaaGreatDoorKnown
import Derived.Test.YtogildikglomkaaGreatDoorRingKit
import Derived.Deep.LoopGhost
namespace Go.Proofs.YtogildikglomkaaGreatDoor
open Go.RowKit
set_option linter.unusedVariables false

theorem i64_and_one (a : Nat) (ha : a < 9223372036854775808) : bits .and .i64 (a : Int) 1 = ((a % 2 : Nat) : Int) := by
  show IntKind.i64.wrap ((BitVec.ofInt 64 (a : Int) &&& BitVec.ofInt 64 ((1 : Nat) : Int)).toNat : Int) = _
  rw [BitVec.toNat_and, ofInt_u64 a (by omega), ofInt_u64 1 (by omega), IntKind.wrap_i64, Nat.and_one_is_mod]
  omega
theorem pow_le_pw {X : Int} {K : Nat} (h0 : 0 ≤ X) (h : X < pw K) : ∀ a : Nat, 0 ≤ X ^ a ∧ X ^ a ≤ pw (K * a)
  | 0 => by simp [pw]
  | a + 1 => by
    obtain ⟨g0, g1⟩ := pow_le_pw h0 h a
    rw [Int.pow_succ, Nat.mul_succ, pw_add]
    exact ⟨Int.mul_nonneg g0 h0, Int.mul_le_mul g1 (Int.le_of_lt h) h0 (Int.le_of_lt (pw_pos _))⟩
theorem pow_lt_pw {X : Int} {K M a : Nat} (h0 : 0 ≤ X) (h : X < pw K) (hM : K * a < M) : X ^ a < pw M := by
  have h1 := (pow_le_pw h0 h a).2
  have h2 := pw_mono (a := K * a + 1) (b := M) (by omega)
  have h3 := pw_pos (K * a)
  simp only [pw] at h2
  omega
theorem half_pow (N i : Nat) : N / 2 ^ i = 2 * (N / 2 ^ (i + 1)) + N / 2 ^ i % 2 := by
  rw [Nat.pow_succ, ← Nat.div_div_eq_div_mul]; omega

set_option maxRecDepth 100000 in
set_option maxHeartbeats 1000000 in
theorem pow_neg (v : Value) (n : Int) (z : Int) (hz : z < 0) (w : World) (h : IsNat w v n) :
    Calls Tryz.prog 46 #[v, .int .i64 z] w fun e w' => e = .returned (.tuple #[.agg #[.int .u64 0, .slice none 0 0], .bool false]) ∧ Below w.heap.size w w' := by
  obtain ⟨x, p, l, c, rfl⟩ := h.shape
  have v1 : Var ((w.alloc (.cells #[.int .u64 x, .slice p l c] 25)).alloc (.cells #[.int .u64 0, .slice none 0 0] 25)) (w.heap.size + 1) (.int .u64 0) (.slice none 0 0) := Var.new (w.alloc _) _ _ _ _ _ (by simp)
  have hW : Below w.heap.size w ((w.alloc (.cells #[.int .u64 x, .slice p l c] 25)).alloc (.cells #[.int .u64 0, .slice none 0 0] 25)) := by go_grown
  go_enter Tryz.func46, Tryz.ntmps46
  go_wp2_with fail
  refine bodyPost_ret (v := .tuple #[.agg #[.int .u64 0, .slice none 0 0], .bool false]) ?_ rfl ⟨rfl, hW⟩
  simp [results, Tryz.results46, asAddr, run_loadVar_nat v1]

/-- What stands at the head of a round. -/
structure PowAt (w : World) (x : Int) (p : Option Addr) (l c : Nat) (X : Int) (N r : Nat) (k : Nat) (wr : World) : Prop where
  num : Var wr w.heap.size (.int .u64 x) (.slice p l c)
  out : Var wr (w.heap.size + 1) (.int .u64 0) (.slice none 0 0)
  below : Below w.heap.size w wr
  at_ : w.heap.size + 1 < r
  pow : ∃ xa xp xl xc, Var wr r (.int .u64 xa) (.slice xp xl xc) ∧ IsNat wr (.agg #[.int .u64 xa, .slice xp xl xc]) (X ^ (N / 2 ^ k))

set_option maxRecDepth 100000 in
set_option maxHeartbeats 2000000 in
theorem pow_bd (N : Nat) (hN : N ≤ 65536) (v : Value) (X : Int) (w : World) (h : IsNat w v X) (hX : X < pw 39) (hb39 : ∀ a, a ≤ N - 1 → X ^ a < pw 39) :
    Calls Tryz.prog 46 #[v, .int .i64 N] w fun e w' => ∃ v', e = .returned (.tuple #[v', .bool true]) ∧ IsNat w' v' (X ^ N) ∧ Below w.heap.size w w' := by
  obtain ⟨x, p, l, c, rfl⟩ := h.shape
  have h0 := h.nonneg
  have v0 : Var ((w.alloc (.cells #[.int .u64 x, .slice p l c] 25)).alloc (.cells #[.int .u64 0, .slice none 0 0] 25)) w.heap.size (.int .u64 x) (.slice p l c) := (Var.new w w.heap.size _ _ _ _ rfl).alloc _
  have v1 : Var ((w.alloc (.cells #[.int .u64 x, .slice p l c] 25)).alloc (.cells #[.int .u64 0, .slice none 0 0] 25)) (w.heap.size + 1) (.int .u64 0) (.slice none 0 0) := Var.new (w.alloc _) _ _ _ _ _ (by simp)
  have hW : Below w.heap.size w ((w.alloc (.cells #[.int .u64 x, .slice p l c] 25)).alloc (.cells #[.int .u64 0, .slice none 0 0] 25)) := by go_grown
  obtain ⟨L, hL⟩ : ∃ L, Lib.bitLen N = L := ⟨_, rfl⟩
  have hL2 : L ≤ 64 := by rw [← hL]; exact Lib.bitLen_le N 64 (by decide) (by omega)
  have hb := isBits_word (x := (N : Int)) ⟨by omega, by omega⟩
  rw [Int.toNat_natCast, hL] at hb
  have hNL : N / 2 ^ L = 0 := by
    refine Nat.div_eq_of_lt ?_
    have := hb.1
    exact_mod_cast this
  have len := fun w => Tryz.bits_Len (N : Int) w (by omega) (by omega)
  rw [Int.toNat_natCast, hL] at len
  have HNL := Lib.hid hNL
  have HX := Lib.hid hX
  have Hb39 := Lib.hid hb39
  clear hb hNL hL hX hb39
  have hlt1 : ¬ (N : Int) < 0 := by omega
  have hlt2 : ¬ 65536 < (N : Int) := by omega
  go_enter Tryz.func46, Tryz.ntmps46
  go_wp2_with fail
  generalize ((w.alloc (.cells #[.int .u64 x, .slice p l c] 25)).alloc (.cells #[.int .u64 0, .slice none 0 0] 25)) = W at hW v0 v1 ⊢
  refine (of_any 1 W).mono ?_
  rintro e w1 ⟨rfl, hb1⟩
  have start : PowAt w x p l c X N w1.heap.size L (w1.alloc (.cells #[.int .u64 1, .slice none 0 0] 25)) :=
    ⟨(v0.below hb1 v0.lt).alloc _, (v1.below hb1 v1.lt).alloc _, (hW.trans (hb1.mono hW.size)).alloc (Nat.le_trans hW.size hb1.size) _, (v1.below hb1 v1.lt).lt, _, _, _, _, Var.new w1 _ _ _ _ _ rfl, by rw [HNL.out, Int.pow_zero]; exact IsNat.word ⟨by decide, by decide⟩⟩
  clear hW v0 v1 hb1
  go_wp2_with (go_at_call 83; (with_reducible refine (len _).mono ?_); rintro e W1 ⟨rfl, rfl⟩)
  generalize (w1.alloc (.cells #[.int .u64 1, .slice none 0 0] 25)) = w2 at start ⊢
  generalize w1.heap.size = r at start ⊢
  go_loopg [7] L (fun g i wr => ∃ (k : Nat) (z : Int), k ≤ L ∧ g = k ∧ z = (k : Int) - 1 ∧ i = .int .i64 z ∧ PowAt w x p l c X N r k wr)
  case atStart => exact ⟨L, _, Nat.le_refl _, rfl, rfl, rfl, start⟩
  case round =>
    obtain ⟨k, z, hk, hgk, hz, rfl, q0, q1, hB, hat, xa, xp, xl, xc, qr, hp⟩ := hrel
    have Hgk := Lib.hid hgk
    have cr0 := qr.c0
    have cr1 := qr.c1
    clear hgk start
    rcases k with _ | j
    · have hz0 : z < 0 := by omega
      have c10 := q1.c0
      have c11 := q1.c1
      have f10 := q1.free 0
      have f11 := q1.free 1
      clear hz
      rw [Nat.pow_zero, Nat.div_one] at hp
      go_wp2_with fail
      have u1 := q1.set (.int .u64 xa) xp xl xc
      refine bodyPost_ret (v := .tuple #[.agg #[.int .u64 xa, .slice xp xl xc], .bool true]) ?_ rfl ⟨_, rfl, hp.two q1 _ _, below_two hB (by omega) _ _⟩
      simp [results, Tryz.results46, asAddr, run_loadVar_nat u1]
    · obtain rfl : z = (j : Int) := by omega
      clear hz
      have hj : j ≤ 63 := by omega
      have hmin : min j 64 = j := by omega
      have hand := i64_and_one (N / 2 ^ j) (Nat.lt_of_le_of_lt (Nat.div_le_self _ _) (by omega))
      have hand : bits .and .i64 ((N : Int) / 2 ^ j) 1 = ((N / 2 ^ j % 2 : Nat) : Int) := by
        rw [Int.natCast_ediv, Int.natCast_pow] at hand
        exact hand
      have hh := half_pow N j
      have hM : N / 2 ^ (j + 1) ≤ N - 1 := by
        have : N / 2 ^ (j + 1) ≤ N / 2 := by
          rw [Nat.pow_succ, Nat.mul_comm, ← Nat.div_div_eq_div_mul]
          exact Nat.div_le_self _ _
        omega
      have hM2 : N / 2 ^ j ≤ N := Nat.div_le_self _ _
      obtain ⟨M, hMd⟩ : ∃ M, N / 2 ^ (j + 1) = M := ⟨_, rfl⟩
      obtain ⟨M2, hM2d⟩ : ∃ M2, N / 2 ^ j = M2 := ⟨_, rfl⟩
      rw [hMd] at hp hh hM
      rw [hM2d] at hand hh hM2
      have HM2d := Lib.hid hM2d
      have Hh := Lib.hid hh
      have b1 : X ^ M < pw 39 := Hb39.out _ hM
      have mu := mul_any 39 (by decide) (by decide) _ _ (X ^ M) (X ^ M) wr hp hp b1 b1
      have c00 := q0.c0
      have c01 := q0.c1
      have fr0 := qr.free 0
      have fr1 := qr.free 1
      clear hMd hM2d hh
      go_wp2_with fail
      refine mu.mono ?_
      rintro e w3 ⟨v3, rfl, hv3, hb3⟩
      obtain ⟨ya, yp, yl, yc, rfl⟩ := hv3.shape
      clear mu cr0 cr1 c00 c01 fr0 fr1
      have p0 := q0.below hb3 q0.lt
      have p1 := q1.below hb3 q1.lt
      have pr := qr.below hb3 qr.lt
      have hB3 := hB.trans (hb3.mono hB.size)
      have cr0 := pr.c0
      have cr1 := pr.c1
      have fr0 := pr.free 0
      have fr1 := pr.free 1
      have t0 := (p0.other (d := r) (i := 0) (by omega) (.int .u64 ya)).other (d := r) (i := 1) (by omega) (.slice yp yl yc)
      have t1 := (p1.other (d := r) (i := 0) (by omega) (.int .u64 ya)).other (d := r) (i := 1) (by omega) (.slice yp yl yc)
      have tr := pr.set (.int .u64 ya) yp yl yc
      have hB4 := below_two hB3 (c := r) (by omega) (.int .u64 ya) (.slice yp yl yc)
      have hv4 := hv3.two pr (.int .u64 ya) (.slice yp yl yc)
      have hge := h.below hB4
      clear hv3 hp q0 q1 qr hb3 p0 p1 pr hB3 hB
      by_cases hbit : M2 % 2 = 1
      · replace hand : bits .and .i64 ((N : Int) / 2 ^ j) 1 = 1 := by rw [hand, hbit]; rfl
        have hpow : X ^ M * X ^ M * X = X ^ M2 := by
          rw [show M2 = M + M + 1 by have := Hh.out; omega, Int.pow_succ, Int.pow_add]
        have b2 : X ^ M * X ^ M < pw 39 := by rw [← Int.pow_add]; exact Hb39.out _ (show M + M ≤ N - 1 by have := Hh.out; omega)
        have bX : X < pw 39 := HX.out
        have mu2 := mul_any 39 (by decide) (by decide) _ _ (X ^ M * X ^ M) X _ hv4 hge b2 bX
        rw [hpow] at mu2
        clear hv4 hge hbit b2 b1 hpow
        have k00 := t0.c0
        have k01 := t0.c1
        have kr0 := tr.c0
        have kr1 := tr.c1
        have jr0 := tr.free 0
        have jr1 := tr.free 1
        go_wp2_with fail
        generalize ((w3.setCell ⟨r, 0, none⟩ (.int .u64 ya)).setCell ⟨r, 1, none⟩ (.slice yp yl yc)) = w5 at t0 t1 tr hB4 mu2 k00 k01 kr0 kr1 jr0 jr1 ⊢
        refine mu2.mono ?_
        rintro e w6 ⟨v6, rfl, hv6, hb6⟩
        obtain ⟨za, zp, zl, zc, rfl⟩ := hv6.shape
        clear cr0 cr1 fr0 fr1 mu2 k00 k01 kr0 kr1 jr0 jr1
        have p0 := t0.below hb6 t0.lt
        have p1 := t1.below hb6 t1.lt
        have pr := tr.below hb6 tr.lt
        have hB6 := hB4.trans (hb6.mono hB4.size)
        have kr0 := pr.c0
        have kr1 := pr.c1
        have jr0 := pr.free 0
        have jr1 := pr.free 1
        go_wp2_with fail
        go_roundg j
        case measure => have := Hgk.out; omega
        case rel => exact ⟨j, _, by omega, rfl, rfl, rfl, (p0.other (by omega) _).other (by omega) _, (p1.other (by omega) _).other (by omega) _, below_two hB6 (by omega) _ _, hat, _, _, _, _, pr.set _ _ _ _, by rw [HM2d.out]; exact hv6.two pr _ _⟩
      · have hbit0 : M2 % 2 = 0 := by omega
        replace hand : bits .and .i64 ((N : Int) / 2 ^ j) 1 = 0 := by rw [hand, hbit0]; rfl
        have hpow : X ^ M * X ^ M = X ^ M2 := by rw [show M2 = M + M by have := Hh.out; omega, Int.pow_add]
        rw [hpow] at hv4
        clear hge hbit hbit0 b1 hpow
        go_wp2_with fail
        go_roundg j
        case measure => have := Hgk.out; omega
        case rel => exact ⟨j, _, by omega, rfl, rfl, rfl, t0, t1, hB4, hat, _, _, _, _, tr, by rw [HM2d.out]; exact hv4⟩
theorem pow_any (K : Nat) (hK : 1 ≤ K) (N : Nat) (hKN : K * (N - 1) < 39) (hK3 : K < 40) (hN : N ≤ 65536) (v : Value) (X : Int) (w : World) (h : IsNat w v X) (hX : X < pw K) :
    Calls Tryz.prog 46 #[v, .int .i64 N] w fun e w' => ∃ v', e = .returned (.tuple #[v', .bool true]) ∧ IsNat w' v' (X ^ N) ∧ Below w.heap.size w w' :=
  pow_bd N hN v X w h (Int.lt_of_lt_of_le hX (pw_mono (by omega))) fun a ha => pow_lt_pw h.nonneg hX (Nat.lt_of_le_of_lt (Nat.mul_le_mul_left K ha) hKN)
end Go.Proofs.YtogildikglomkaaGreatDoor
