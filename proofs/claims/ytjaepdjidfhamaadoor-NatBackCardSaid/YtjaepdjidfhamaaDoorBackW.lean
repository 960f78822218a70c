/- NatBack, walked. -/
import Derived.Test.YtjaepdjidfhamaaDoorDivAny
import Derived.Deep.RegionHeld3
import Derived.Test.YtjaepdjidfhamaaDoorSteps
namespace Go.Proofs.YtjaepdjidfhamaaDoor
open Go.RowKit
set_option linter.unusedVariables false

theorem back_sum (X Y : Int) : X / Y * Y + X % Y = X := by
  have := Int.mul_ediv_add_emod X Y
  rw [Int.mul_comm] at this
  exact this
theorem cmp_less (v1 v2 : Value) (n m : Int) (w : World) (h1 : IsNat w v1 n) (h2 : IsNat w v2 m) (hlt : n < m) :
    Calls Tryd.prog 16 #[v1, v2] w fun e w' => e = .returned (.int .i64 (-1)) ∧ Below w.heap.size w w' := by
  have := cmp_any v1 v2 n m w h1 h2
  rw [cmpI_lt hlt] at this
  exact this

theorem bits_none (v : Value) (w : World) (h : IsNat w v 0) : Calls Tryd.prog 13 #[v] w fun e w' => e = .returned (.int .i64 0) ∧ Below w.heap.size w w' := by
  have := h.one (by decide)
  subst this
  have e0 : Lib.bitLen (0 : Int).toNat = 0 := Lib.bitLenAux_zero 64
  have hb0 := bits_word 0 ⟨by decide, by decide⟩ w
  rw [e0] at hb0
  exact hb0
theorem div_at (v1 v2 : Value) (n m Z S : Int) (w : World) (h1 : IsNat w v1 n) (h2 : IsNat w v2 m) (hn : n < pw 200) (hm0 : m ≠ 0) (hZ : n / m = Z) (hS : n % m = S) :
    Calls Tryd.prog 9 #[v1, v2] w fun e w' => ∃ z s, e = .returned (.tuple #[z, s, .bool true]) ∧ IsNat w' z Z ∧ IsNat w' s S ∧ Below w.heap.size w w' := by
  subst hZ hS
  exact div_any 200 (Nat.le_refl _) v1 v2 n m w h1 h2 hn hm0
set_option maxRecDepth 100000 in
set_option maxHeartbeats 4000000 in
theorem natBack_walk (a b : Value) (w : World) (ha : BArg w a) (hb : BArg w b) :
    Calls Tryd.prog 4 #[a, b] w fun e w' => e = .returned (.bool true) ∧ Below w.heap.size w w' := by
  go_enter Tryd.func4, Tryd.ntmps4
  go_wp2_with fail
  refine (two_any a b w ha hb).mono ?_
  rintro e w1 ⟨x, y, s1, s2, X, Y, rfl, hx, hy, hr1, hr2, hb1⟩
  obtain ⟨X0, XB⟩ := ref_pw hr1
  obtain ⟨Y0, YB⟩ := ref_pw hr2
  clear hr1 hr2 ha hb
  obtain ⟨x1, xp, xl, xc, rfl⟩ := hx.shape
  obtain ⟨y1, yp, yl, yc, rfl⟩ := hy.shape
  have z0 := hb1.size
  have u0 : Var ((w1.alloc (.cells #[.int .u64 x1, .slice xp xl xc] 25)).alloc (.cells #[.int .u64 y1, .slice yp yl yc] 25)) w1.heap.size (.int .u64 x1) (.slice xp xl xc) := (Var.new w1 w1.heap.size _ _ _ _ rfl).alloc _
  have u1 : Var ((w1.alloc (.cells #[.int .u64 x1, .slice xp xl xc] 25)).alloc (.cells #[.int .u64 y1, .slice yp yl yc] 25)) (w1.heap.size + 1) (.int .u64 y1) (.slice yp yl yc) := Var.new (w1.alloc _) _ _ _ _ _ (by simp)
  have hB2 : Below w1.heap.size w1 ((w1.alloc (.cells #[.int .u64 x1, .slice xp xl xc] 25)).alloc (.cells #[.int .u64 y1, .slice yp yl yc] 25)) := by go_grown
  go_wp2_with fail
  generalize ((w1.alloc (.cells #[.int .u64 x1, .slice xp xl xc] 25)).alloc (.cells #[.int .u64 y1, .slice yp yl yc] 25)) = w2 at u0 u1 hB2 ⊢
  have z2 := hB2.size
  have hBw2 := hb1.trans (hB2.mono z0)
  replace hx := hx.below hB2
  replace hy := hy.below hB2
  by_cases hY : Y = 0
  · subst hY
    have hone := hy.one (by decide)
    simp only [Value.agg.injEq, Array.mk.injEq, List.cons.injEq, Value.int.injEq, Value.slice.injEq, and_true, true_and] at hone
    obtain ⟨rfl, rfl, rfl, rfl⟩ := hone
    refine (div_zero _ X w2 hx).mono ?_
    rintro e w3 ⟨rfl, hb3⟩
    have u13 := u1.below hb3 u1.lt
    have c10 := u13.c0
    have c11 := u13.c1
    have hBw3 := hBw2.trans (hb3.mono hBw2.size)
    have hB4 : Below w3.heap.size w3 ((w3.alloc (.cells #[.int .u64 0, .slice none 0 0] 25)).alloc (.cells #[.int .u64 0, .slice none 0 0] 25)) := by go_grown
    have u14 := (u13.alloc (.cells #[.int .u64 0, .slice none 0 0] 25)).alloc (.cells #[.int .u64 0, .slice none 0 0] 25)
    go_wp2_with fail
    generalize ((w3.alloc (.cells #[.int .u64 0, .slice none 0 0] 25)).alloc (.cells #[.int .u64 0, .slice none 0 0] 25)) = w4 at hB4 u14 ⊢
    refine (known_true w4).mono ?_
    rintro e w5 ⟨rfl, hb5⟩
    have u15 := u14.below hb5 u14.lt
    have c20 := u15.c0
    have c21 := u15.c1
    clear c10 c11
    go_wp2_with fail
    have e0 : Lib.bitLen (0 : Int).toNat = 0 := Lib.bitLenAux_zero 64
    have hb0 := bits_word 0 ⟨by decide, by decide⟩ w5
    rw [e0] at hb0
    refine hb0.mono ?_
    rintro e w6 ⟨rfl, hb6⟩
    go_wp2_with fail
    go_ret
    exact ⟨rfl, ((hBw3.trans (hB4.mono hBw3.size)).trans (hb5.mono (Nat.le_trans hBw3.size hB4.size))).trans (hb6.mono (Nat.le_trans (Nat.le_trans hBw3.size hB4.size) hb5.size))⟩
  · refine (div_any 200 (Nat.le_refl _) _ _ X Y w2 hx hy (Int.lt_of_lt_of_le XB (pw_mono (by decide))) hY).mono ?_
    rintro e w3 ⟨q, r, rfl, hq, hr, hb3⟩
    obtain ⟨qa, qp, ql, qc, rfl⟩ := hq.shape
    obtain ⟨ra, rp, rl, rc, rfl⟩ := hr.shape
    have u03 := u0.below hb3 u0.lt
    have u13 := u1.below hb3 u1.lt
    have z3 := hb3.size
    have hB4 : Below w3.heap.size w3 ((w3.alloc (.cells #[.int .u64 qa, .slice qp ql qc] 25)).alloc (.cells #[.int .u64 ra, .slice rp rl rc] 25)) := by go_grown
    have uq : Var ((w3.alloc (.cells #[.int .u64 qa, .slice qp ql qc] 25)).alloc (.cells #[.int .u64 ra, .slice rp rl rc] 25)) w3.heap.size (.int .u64 qa) (.slice qp ql qc) := (Var.new w3 _ _ _ _ _ rfl).alloc _
    have ur : Var ((w3.alloc (.cells #[.int .u64 qa, .slice qp ql qc] 25)).alloc (.cells #[.int .u64 ra, .slice rp rl rc] 25)) (w3.heap.size + 1) (.int .u64 ra) (.slice rp rl rc) := Var.new (w3.alloc _) _ _ _ _ _ (by simp)
    replace hx := (hx.below hb3).below hB4
    replace hy := (hy.below hb3).below hB4
    replace hq := hq.below hB4
    replace hr := hr.below hB4
    replace u0 := u03.below hB4 u03.lt
    replace u1 := u13.below hB4 u13.lt
    have hBw4 : Below w.heap.size w _ := (hBw2.trans (hb3.mono hBw2.size)).trans (hB4.mono (Nat.le_trans hBw2.size z3))
    have c00 := u0.c0
    have c01 := u0.c1
    have c10 := u1.c0
    have c11 := u1.c1
    have BX := pw_up XB (by decide)
    have BY := pw_up YB (by decide)
    have BP : X * Y < pw 200 := Int.lt_of_lt_of_le (pw_up (pw_prod X0 XB Y0 YB) (by decide)) (pw_mono (by decide))
    have EZ : X * Y / Y = X := Int.mul_ediv_cancel X hY
    have ES : X * Y % Y = 0 := Int.mul_emod_left X Y
    have hQ0 : 0 ≤ X / Y := Int.ediv_nonneg X0 Y0
    have hQX : X / Y ≤ X := Int.ediv_le_self _ X0
    have hR0 := Int.emod_nonneg X hY
    have hRY := Int.emod_lt_of_pos X (show 0 < Y by omega)
    have hsum := back_sum X Y
    generalize X / Y = Q at *
    generalize X % Y = Rm at *
    clear u03 u13 hb3 z3
    have l0 := u0.lt
    have l1 := u1.lt
    have lq := uq.lt
    have lr := ur.lt
    go_wp2_with fail
    generalize ((w3.alloc (.cells #[.int .u64 qa, .slice qp ql qc] 25)).alloc (.cells #[.int .u64 ra, .slice rp rl rc] 25)) = w4 at *
    clear c00 c01 c10 c11
    refine wpIn_wide (n := 5) |>.1 ?_
    refine region_ways (by kernel_rfl) fun R hR => ?_
    have H11111111111111 : ∀ (W : World) (acc : Below w4.heap.size w4 W) (va : Int) (vp : Option Addr) (vl vc : Nat) (hv : IsNat W (.agg #[.int .u64 va, .slice vp vl vc]) (X * Y)) (za : Int) (zp : Option Addr) (zl zc : Nat) (sa : Int) (sp : Option Addr) (sl sc : Nat) (hz : IsNat W (.agg #[.int .u64 za, .slice zp zl zc]) X) (hs : IsNat W (.agg #[.int .u64 sa, .slice sp sl sc]) 0) (c : Nat) (hc : Var W c (.int .u64 za) (.slice zp zl zc)) (hcn : w4.heap.size ≤ c) (d : Nat) (hd : Var W d (.int .u64 sa) (.slice sp sl sc)) (hdn : w4.heap.size ≤ d) (hcd : c ≠ d), R 0 #[true, true, true, true, true, true, true, true, true, true, true, true, true, true] { tmps := #[a, b, undef, undef, .bool false, .pointer (some ⟨w1.heap.size, 0, none⟩), .pointer (some ⟨w1.heap.size + 1, 0, none⟩), s1, s2, .pointer (some ⟨w3.heap.size, 0, none⟩), .pointer (some ⟨w3.heap.size + 1, 0, none⟩), .bool true, .pointer (some ⟨c, 0, none⟩), .pointer (some ⟨d, 0, none⟩), .bool true, .tuple #[.agg #[.int .u64 x1, .slice xp xl xc], .agg #[.int .u64 y1, .slice yp yl yc], s1, s2], a, b, .tuple #[.agg #[.int .u64 x1, .slice xp xl xc], .agg #[.int .u64 y1, .slice yp yl yc], s1, s2], .agg #[.int .u64 x1, .slice xp xl xc], .agg #[.int .u64 y1, .slice yp yl yc], s1, s2, .tuple #[.agg #[.int .u64 qa, .slice qp ql qc], .agg #[.int .u64 ra, .slice rp rl rc], .bool true], .agg #[.int .u64 x1, .slice xp xl xc], .agg #[.int .u64 y1, .slice yp yl yc], .tuple #[.agg #[.int .u64 qa, .slice qp ql qc], .agg #[.int .u64 ra, .slice rp rl rc], .bool true], .agg #[.int .u64 qa, .slice qp ql qc], .agg #[.int .u64 ra, .slice rp rl rc], .bool true, .bool true, .bool false, undef, undef, undef, undef, undef, undef, .tuple #[.agg #[.int .u64 za, .slice zp zl zc], .agg #[.int .u64 sa, .slice sp sl sc], .bool true], .agg #[.int .u64 x1, .slice xp xl xc], .agg #[.int .u64 y1, .slice yp yl yc], .agg #[.int .u64 va, .slice vp vl vc], .agg #[.int .u64 y1, .slice yp yl yc], .tuple #[.agg #[.int .u64 za, .slice zp zl zc], .agg #[.int .u64 sa, .slice sp sl sc], .bool true], .agg #[.int .u64 za, .slice zp zl zc], .agg #[.int .u64 sa, .slice sp sl sc], .bool true, undef, undef, undef, undef, undef, undef, undef, undef, undef, undef, undef, undef, undef, undef, undef, undef, undef, undef, undef, undef, undef, undef, undef, undef, undef, undef, undef, undef, undef, undef, undef], defers := [] } W := by
      intro W acc va vp vl vc hv za zp zl zc sa sp sl sc hz hs c hc hcn d hd hdn hcd
      rw [← hR]
      refine wpAnyIn_done (by kernel_rfl) ?_ _
      have hBwW := hBw4.trans (acc.mono hBw4.size)
      replace hx := hx.below acc
      replace hy := hy.below acc
      replace hq := hq.below acc
      replace hr := hr.below acc
      have u0W := u0.below acc l0
      have u1W := u1.below acc l1
      have uqW := uq.below acc lq
      have urW := ur.below acc lr
      have l0W := u0W.lt
      have l1W := u1W.lt
      have lqW := uqW.lt
      have lrW := urW.lt
      have lcW := hc.lt
      have ldW := hd.lt
      clear acc hv
      have acc := Below.refl W.heap.size W
      have BQ : Q < pw 20 := Int.lt_of_le_of_lt hQX BX
      have BR : Rm < pw 20 := Int.lt_trans hRY BY
      have BQY : Q * Y < pw 20 := by omega
      have c00 := u0W.c0
      have c01 := u0W.c1
      have c10 := u1W.c0
      have c11 := u1W.c1
      have cq0 := uqW.c0
      have cq1 := uqW.c1
      have cr0 := urW.c0
      have cr1 := urW.c1
      have cz0 := hc.c0
      have cz1 := hc.c1
      have cs0 := hd.c0
      have cs1 := hd.c1
      go_wp2_with fail
      go_region_held3 (fun w' => w'.cell? ⟨w1.heap.size, 0, none⟩ = some (.int .u64 x1) ∧ w'.cell? ⟨w1.heap.size, 1, none⟩ = some (.slice xp xl xc) ∧ w'.cell? ⟨w1.heap.size + 1, 0, none⟩ = some (.int .u64 y1) ∧ w'.cell? ⟨w1.heap.size + 1, 1, none⟩ = some (.slice yp yl yc) ∧ w'.cell? ⟨w3.heap.size, 0, none⟩ = some (.int .u64 qa) ∧ w'.cell? ⟨w3.heap.size, 1, none⟩ = some (.slice qp ql qc) ∧ w'.cell? ⟨w3.heap.size + 1, 0, none⟩ = some (.int .u64 ra) ∧ w'.cell? ⟨w3.heap.size + 1, 1, none⟩ = some (.slice rp rl rc) ∧ w'.cell? ⟨c, 0, none⟩ = some (.int .u64 za) ∧ w'.cell? ⟨c, 1, none⟩ = some (.slice zp zl zc) ∧ w'.cell? ⟨d, 0, none⟩ = some (.int .u64 sa) ∧ w'.cell? ⟨d, 1, none⟩ = some (.slice sp sl sc))
            (first | with_reducible exact ⟨(u0W.below acc l0W).c0, (u0W.below acc l0W).c1, (u1W.below acc l1W).c0, (u1W.below acc l1W).c1, (uqW.below acc lqW).c0, (uqW.below acc lqW).c1, (urW.below acc lrW).c0, (urW.below acc lrW).c1, (hc.below acc lcW).c0, (hc.below acc lcW).c1, (hd.below acc ldW).c0, (hd.below acc ldW).c1⟩ | with_reducible exact ⟨(u0W.below acc l0W).drew.c0, (u0W.below acc l0W).drew.c1, (u1W.below acc l1W).drew.c0, (u1W.below acc l1W).drew.c1, (uqW.below acc lqW).drew.c0, (uqW.below acc lqW).drew.c1, (urW.below acc lrW).drew.c0, (urW.below acc lrW).drew.c1, (hc.below acc lcW).drew.c0, (hc.below acc lcW).drew.c1, (hd.below acc ldW).drew.c0, (hd.below acc ldW).drew.c1⟩)
            (first
              | (go_at_call 12; (first | (have q := known_true W; (with_reducible refine q.mono ?_); clear q) | (have q := known_true W.drew; (with_reducible refine q.mono ?_); clear q)); rintro e r0 ⟨rfl, hb0⟩; (first | replace hb0 : Below W.heap.size W r0 := hb0 | replace hb0 := below_undrew (w := W) hb0); replace acc := below_acc acc acc.size hb0; clear hb0; have c00 := (u0W.below acc l0W).c0; have c01 := (u0W.below acc l0W).c1; have c10 := (u1W.below acc l1W).c0; have c11 := (u1W.below acc l1W).c1; have cq0 := (uqW.below acc lqW).c0; have cq1 := (uqW.below acc lqW).c1; have cr0 := (urW.below acc lrW).c0; have cr1 := (urW.below acc lrW).c1; have cz0 := (hc.below acc lcW).c0; have cz1 := (hc.below acc lcW).c1; have cs0 := (hd.below acc ldW).c0; have cs1 := (hd.below acc ldW).c1)
              | (go_at_call 20; (first | (have q := mul_any 20 (by decide) (by decide) _ _ Q Y r0 (hq.below acc) (hy.below acc) BQ BY; (with_reducible refine q.mono ?_); clear q) | (have q := mul_any 20 (by decide) (by decide) _ _ Q Y r0.drew (hq.below acc.drew) (hy.below acc.drew) BQ BY; (with_reducible refine q.mono ?_); clear q)); rintro e r1 ⟨v1, rfl, hs1, hb1⟩; obtain ⟨as1, ps1, ms1, qs1, rfl⟩ := hs1.shape; (first | replace hb1 : Below r0.heap.size r0 r1 := hb1 | replace hb1 := below_undrew (w := r0) hb1); replace acc := below_acc acc acc.size hb1; clear hb1; have c00 := (u0W.below acc l0W).c0; have c01 := (u0W.below acc l0W).c1; have c10 := (u1W.below acc l1W).c0; have c11 := (u1W.below acc l1W).c1; have cq0 := (uqW.below acc lqW).c0; have cq1 := (uqW.below acc lqW).c1; have cr0 := (urW.below acc lrW).c0; have cr1 := (urW.below acc lrW).c1; have cz0 := (hc.below acc lcW).c0; have cz1 := (hc.below acc lcW).c1; have cs0 := (hd.below acc ldW).c0; have cs1 := (hd.below acc ldW).c1)
              | (go_at_call 21; (first | (have q := add_any 20 (by decide) _ _ (Q * Y) Rm r1 hs1 (hr.below acc) BQY BR; (with_reducible refine q.mono ?_); clear q) | (have q := add_any 20 (by decide) _ _ (Q * Y) Rm r1.drew (hs1.drew) (hr.below acc.drew) BQY BR; (with_reducible refine q.mono ?_); clear q)); rintro e r2 ⟨v2, rfl, hs2, hb2⟩; obtain ⟨as2, ps2, ms2, qs2, rfl⟩ := hs2.shape; (first | replace hb2 : Below r1.heap.size r1 r2 := hb2 | replace hb2 := below_undrew (w := r1) hb2); replace acc := below_acc acc acc.size hb2; clear hb2 hs1; have c00 := (u0W.below acc l0W).c0; have c01 := (u0W.below acc l0W).c1; have c10 := (u1W.below acc l1W).c0; have c11 := (u1W.below acc l1W).c1; have cq0 := (uqW.below acc lqW).c0; have cq1 := (uqW.below acc lqW).c1; have cr0 := (urW.below acc lrW).c0; have cr1 := (urW.below acc lrW).c1; have cz0 := (hc.below acc lcW).c0; have cz1 := (hc.below acc lcW).c1; have cs0 := (hd.below acc ldW).c0; have cs1 := (hd.below acc ldW).c1)
              | (go_at_call 16; (first | (have q := cmp_alike _ _ (Q * Y + Rm) X r2 hs2 (hx.below acc) hsum; (with_reducible refine q.mono ?_); clear q) | (have q := cmp_alike _ _ (Q * Y + Rm) X r2.drew (hs2.drew) (hx.below acc.drew) hsum; (with_reducible refine q.mono ?_); clear q)); rintro e r3 ⟨rfl, hb3⟩; (first | replace hb3 : Below r2.heap.size r2 r3 := hb3 | replace hb3 := below_undrew (w := r2) hb3); replace acc := below_acc acc acc.size hb3; clear hb3 hs2; have c00 := (u0W.below acc l0W).c0; have c01 := (u0W.below acc l0W).c1; have c10 := (u1W.below acc l1W).c0; have c11 := (u1W.below acc l1W).c1; have cq0 := (uqW.below acc lqW).c0; have cq1 := (uqW.below acc lqW).c1; have cr0 := (urW.below acc lrW).c0; have cr1 := (urW.below acc lrW).c1; have cz0 := (hc.below acc lcW).c0; have cz1 := (hc.below acc lcW).c1; have cs0 := (hd.below acc ldW).c0; have cs1 := (hd.below acc ldW).c1)
              | (go_at_call 16; (first | (have q := cmp_less _ _ Rm Y r3 (hr.below acc) (hy.below acc) hRY; (with_reducible refine q.mono ?_); clear q) | (have q := cmp_less _ _ Rm Y r3.drew (hr.below acc.drew) (hy.below acc.drew) hRY; (with_reducible refine q.mono ?_); clear q)); rintro e r4 ⟨rfl, hb4⟩; (first | replace hb4 : Below r3.heap.size r3 r4 := hb4 | replace hb4 := below_undrew (w := r3) hb4); replace acc := below_acc acc acc.size hb4; clear hb4; have c00 := (u0W.below acc l0W).c0; have c01 := (u0W.below acc l0W).c1; have c10 := (u1W.below acc l1W).c0; have c11 := (u1W.below acc l1W).c1; have cq0 := (uqW.below acc lqW).c0; have cq1 := (uqW.below acc lqW).c1; have cr0 := (urW.below acc lrW).c0; have cr1 := (urW.below acc lrW).c1; have cz0 := (hc.below acc lcW).c0; have cz1 := (hc.below acc lcW).c1; have cs0 := (hd.below acc ldW).c0; have cs1 := (hd.below acc ldW).c1)
              | (go_at_call 16; (first | (have q := cmp_alike _ _ X X r4 (hz.below acc) (hx.below acc) rfl; (with_reducible refine q.mono ?_); clear q) | (have q := cmp_alike _ _ X X r4.drew (hz.below acc.drew) (hx.below acc.drew) rfl; (with_reducible refine q.mono ?_); clear q)); rintro e r5 ⟨rfl, hb5⟩; (first | replace hb5 : Below r4.heap.size r4 r5 := hb5 | replace hb5 := below_undrew (w := r4) hb5); replace acc := below_acc acc acc.size hb5; clear hb5; have c00 := (u0W.below acc l0W).c0; have c01 := (u0W.below acc l0W).c1; have c10 := (u1W.below acc l1W).c0; have c11 := (u1W.below acc l1W).c1; have cq0 := (uqW.below acc lqW).c0; have cq1 := (uqW.below acc lqW).c1; have cr0 := (urW.below acc lrW).c0; have cr1 := (urW.below acc lrW).c1; have cz0 := (hc.below acc lcW).c0; have cz1 := (hc.below acc lcW).c1; have cs0 := (hd.below acc ldW).c0; have cs1 := (hd.below acc ldW).c1)
              | (go_at_call 13; (first | (have q := bits_none _ r5 (hs.below acc); (with_reducible refine q.mono ?_); clear q) | (have q := bits_none _ r5.drew (hs.below acc.drew); (with_reducible refine q.mono ?_); clear q)); rintro e r6 ⟨rfl, hb6⟩; (first | replace hb6 : Below r5.heap.size r5 r6 := hb6 | replace hb6 := below_undrew (w := r5) hb6); replace acc := below_acc acc acc.size hb6; clear hb6; have c00 := (u0W.below acc l0W).c0; have c01 := (u0W.below acc l0W).c1; have c10 := (u1W.below acc l1W).c0; have c11 := (u1W.below acc l1W).c1; have cq0 := (uqW.below acc lqW).c0; have cq1 := (uqW.below acc lqW).c1; have cr0 := (urW.below acc lrW).c0; have cr1 := (urW.below acc lrW).c1; have cz0 := (hc.below acc lcW).c0; have cz1 := (hc.below acc lcW).c1; have cs0 := (hd.below acc ldW).c0; have cs1 := (hd.below acc ldW).c1))
      all_goals
        go_wp2
        go_ret
        exact ⟨rfl, hBwW.trans (acc.mono hBwW.size)⟩
    have H11111111111110 : ∀ (W : World) (acc : Below w4.heap.size w4 W) (va : Int) (vp : Option Addr) (vl vc : Nat) (hv : IsNat W (.agg #[.int .u64 va, .slice vp vl vc]) (X * Y)) (za : Int) (zp : Option Addr) (zl zc : Nat) (sa : Int) (sp : Option Addr) (sl sc : Nat) (hz : IsNat W (.agg #[.int .u64 za, .slice zp zl zc]) X) (hs : IsNat W (.agg #[.int .u64 sa, .slice sp sl sc]) 0) (c : Nat) (hc : Var W c (.int .u64 za) (.slice zp zl zc)) (hcn : w4.heap.size ≤ c) (d : Nat) (hd : Var W d (.int .u64 sa) (.slice sp sl sc)) (hdn : w4.heap.size ≤ d) (hcd : c ≠ d), R 1 #[true, true, true, true, true, true, true, true, true, true, true, true, true, false] { tmps := #[a, b, undef, undef, .bool false, .pointer (some ⟨w1.heap.size, 0, none⟩), .pointer (some ⟨w1.heap.size + 1, 0, none⟩), s1, s2, .pointer (some ⟨w3.heap.size, 0, none⟩), .pointer (some ⟨w3.heap.size + 1, 0, none⟩), .bool true, .pointer (some ⟨c, 0, none⟩), .pointer (some ⟨d, 0, none⟩), undef, .tuple #[.agg #[.int .u64 x1, .slice xp xl xc], .agg #[.int .u64 y1, .slice yp yl yc], s1, s2], a, b, .tuple #[.agg #[.int .u64 x1, .slice xp xl xc], .agg #[.int .u64 y1, .slice yp yl yc], s1, s2], .agg #[.int .u64 x1, .slice xp xl xc], .agg #[.int .u64 y1, .slice yp yl yc], s1, s2, .tuple #[.agg #[.int .u64 qa, .slice qp ql qc], .agg #[.int .u64 ra, .slice rp rl rc], .bool true], .agg #[.int .u64 x1, .slice xp xl xc], .agg #[.int .u64 y1, .slice yp yl yc], .tuple #[.agg #[.int .u64 qa, .slice qp ql qc], .agg #[.int .u64 ra, .slice rp rl rc], .bool true], .agg #[.int .u64 qa, .slice qp ql qc], .agg #[.int .u64 ra, .slice rp rl rc], .bool true, .bool true, .bool false, undef, undef, undef, undef, undef, undef, .tuple #[.agg #[.int .u64 za, .slice zp zl zc], .agg #[.int .u64 sa, .slice sp sl sc], .bool true], .agg #[.int .u64 x1, .slice xp xl xc], .agg #[.int .u64 y1, .slice yp yl yc], .agg #[.int .u64 va, .slice vp vl vc], .agg #[.int .u64 y1, .slice yp yl yc], .tuple #[.agg #[.int .u64 za, .slice zp zl zc], .agg #[.int .u64 sa, .slice sp sl sc], .bool true], .agg #[.int .u64 za, .slice zp zl zc], .agg #[.int .u64 sa, .slice sp sl sc], .bool true, undef, undef, undef, undef, undef, undef, undef, undef, undef, undef, undef, undef, undef, undef, undef, undef, undef, undef, undef, undef, undef, undef, undef, undef, undef, undef, undef, undef, undef, undef, undef], defers := [] } W := by
      intro W acc va vp vl vc hv za zp zl zc sa sp sl sc hz hs c hc hcn d hd hdn hcd
      rw [← hR]
      have c00 := (u0.below acc l0).c0
      have c01 := (u0.below acc l0).c1
      have c10 := (u1.below acc l1).c0
      have c11 := (u1.below acc l1).c1
      have kc0 := hc.c0
      have kc1 := hc.c1
      have fc0 := hc.free 0
      have fc1 := hc.free 1
      have kd0 := hd.c0
      have kd1 := hd.c1
      have fd0 := hd.free 0
      have fd1 := hd.free 1
      refine wpAnyIn_ready (rs := [13]) (by kernel_rfl) (by simp) ?_
      refine AllReadyIn.cons rfl (fun K hK => ?_) ?_
      · go_simp
        refine hK _ _ ?_
        have h := H11111111111111 W acc va vp vl vc hv za zp zl zc sa sp sl sc hz hs c hc hcn d hd hdn hcd
        rw [← hR] at h
        exact h
      exact AllReadyIn.nil
    have H11111111111100 : ∀ (W : World) (acc : Below w4.heap.size w4 W) (va : Int) (vp : Option Addr) (vl vc : Nat) (hv : IsNat W (.agg #[.int .u64 va, .slice vp vl vc]) (X * Y)) (za : Int) (zp : Option Addr) (zl zc : Nat) (sa : Int) (sp : Option Addr) (sl sc : Nat) (hz : IsNat W (.agg #[.int .u64 za, .slice zp zl zc]) X) (hs : IsNat W (.agg #[.int .u64 sa, .slice sp sl sc]) 0) (c : Nat) (hc : Var W c (.int .u64 za) (.slice zp zl zc)) (hcn : w4.heap.size ≤ c) (d : Nat) (hd : Var W d (.int .u64 0) (.slice none 0 0)) (hdn : w4.heap.size ≤ d) (hcd : c ≠ d), R 2 #[true, true, true, true, true, true, true, true, true, true, true, true, false, false] { tmps := #[a, b, undef, undef, .bool false, .pointer (some ⟨w1.heap.size, 0, none⟩), .pointer (some ⟨w1.heap.size + 1, 0, none⟩), s1, s2, .pointer (some ⟨w3.heap.size, 0, none⟩), .pointer (some ⟨w3.heap.size + 1, 0, none⟩), .bool true, .pointer (some ⟨c, 0, none⟩), .pointer (some ⟨d, 0, none⟩), undef, .tuple #[.agg #[.int .u64 x1, .slice xp xl xc], .agg #[.int .u64 y1, .slice yp yl yc], s1, s2], a, b, .tuple #[.agg #[.int .u64 x1, .slice xp xl xc], .agg #[.int .u64 y1, .slice yp yl yc], s1, s2], .agg #[.int .u64 x1, .slice xp xl xc], .agg #[.int .u64 y1, .slice yp yl yc], s1, s2, .tuple #[.agg #[.int .u64 qa, .slice qp ql qc], .agg #[.int .u64 ra, .slice rp rl rc], .bool true], .agg #[.int .u64 x1, .slice xp xl xc], .agg #[.int .u64 y1, .slice yp yl yc], .tuple #[.agg #[.int .u64 qa, .slice qp ql qc], .agg #[.int .u64 ra, .slice rp rl rc], .bool true], .agg #[.int .u64 qa, .slice qp ql qc], .agg #[.int .u64 ra, .slice rp rl rc], .bool true, .bool true, .bool false, undef, undef, undef, undef, undef, undef, .tuple #[.agg #[.int .u64 za, .slice zp zl zc], .agg #[.int .u64 sa, .slice sp sl sc], .bool true], .agg #[.int .u64 x1, .slice xp xl xc], .agg #[.int .u64 y1, .slice yp yl yc], .agg #[.int .u64 va, .slice vp vl vc], .agg #[.int .u64 y1, .slice yp yl yc], .tuple #[.agg #[.int .u64 za, .slice zp zl zc], .agg #[.int .u64 sa, .slice sp sl sc], .bool true], .agg #[.int .u64 za, .slice zp zl zc], .agg #[.int .u64 sa, .slice sp sl sc], .bool true, undef, undef, undef, undef, undef, undef, undef, undef, undef, undef, undef, undef, undef, undef, undef, undef, undef, undef, undef, undef, undef, undef, undef, undef, undef, undef, undef, undef, undef, undef, undef], defers := [] } W := by
      intro W acc va vp vl vc hv za zp zl zc sa sp sl sc hz hs c hc hcn d hd hdn hcd
      rw [← hR]
      have c00 := (u0.below acc l0).c0
      have c01 := (u0.below acc l0).c1
      have c10 := (u1.below acc l1).c0
      have c11 := (u1.below acc l1).c1
      have kc0 := hc.c0
      have kc1 := hc.c1
      have fc0 := hc.free 0
      have fc1 := hc.free 1
      have kd0 := hd.c0
      have kd1 := hd.c1
      have fd0 := hd.free 0
      have fd1 := hd.free 1
      refine wpAnyIn_ready (rs := [12]) (by kernel_rfl) (by simp) ?_
      refine AllReadyIn.cons rfl (fun K hK => ?_) ?_
      · go_simp
        refine hK _ _ ?_
        have h := H11111111111110 ((W.setCell ⟨d, 0, none⟩ (.int .u64 sa)).setCell ⟨d, 1, none⟩ (.slice sp sl sc)) (below_two acc hdn _ _) va vp vl vc (hv.two hd _ _) za zp zl zc sa sp sl sc (hz.two hd _ _) (hs.two hd _ _) c ((hc.other hcd _).other hcd _) hcn d (hd.set (.int .u64 sa) sp sl sc) hdn hcd
        rw [← hR] at h
        exact h
      exact AllReadyIn.nil
    have H11111111111000 : ∀ (W : World) (acc : Below w4.heap.size w4 W) (va : Int) (vp : Option Addr) (vl vc : Nat) (hv : IsNat W (.agg #[.int .u64 va, .slice vp vl vc]) (X * Y)) (za : Int) (zp : Option Addr) (zl zc : Nat) (sa : Int) (sp : Option Addr) (sl sc : Nat) (hz : IsNat W (.agg #[.int .u64 za, .slice zp zl zc]) X) (hs : IsNat W (.agg #[.int .u64 sa, .slice sp sl sc]) 0) (c : Nat) (hc : Var W c (.int .u64 0) (.slice none 0 0)) (hcn : w4.heap.size ≤ c) (d : Nat) (hd : Var W d (.int .u64 0) (.slice none 0 0)) (hdn : w4.heap.size ≤ d) (hcd : c ≠ d), R 3 #[true, true, true, true, true, true, true, true, true, true, true, false, false, false] { tmps := #[a, b, undef, undef, .bool false, .pointer (some ⟨w1.heap.size, 0, none⟩), .pointer (some ⟨w1.heap.size + 1, 0, none⟩), s1, s2, .pointer (some ⟨w3.heap.size, 0, none⟩), .pointer (some ⟨w3.heap.size + 1, 0, none⟩), .bool true, .pointer (some ⟨c, 0, none⟩), .pointer (some ⟨d, 0, none⟩), undef, .tuple #[.agg #[.int .u64 x1, .slice xp xl xc], .agg #[.int .u64 y1, .slice yp yl yc], s1, s2], a, b, .tuple #[.agg #[.int .u64 x1, .slice xp xl xc], .agg #[.int .u64 y1, .slice yp yl yc], s1, s2], .agg #[.int .u64 x1, .slice xp xl xc], .agg #[.int .u64 y1, .slice yp yl yc], s1, s2, .tuple #[.agg #[.int .u64 qa, .slice qp ql qc], .agg #[.int .u64 ra, .slice rp rl rc], .bool true], .agg #[.int .u64 x1, .slice xp xl xc], .agg #[.int .u64 y1, .slice yp yl yc], .tuple #[.agg #[.int .u64 qa, .slice qp ql qc], .agg #[.int .u64 ra, .slice rp rl rc], .bool true], .agg #[.int .u64 qa, .slice qp ql qc], .agg #[.int .u64 ra, .slice rp rl rc], .bool true, .bool true, .bool false, undef, undef, undef, undef, undef, undef, .tuple #[.agg #[.int .u64 za, .slice zp zl zc], .agg #[.int .u64 sa, .slice sp sl sc], .bool true], .agg #[.int .u64 x1, .slice xp xl xc], .agg #[.int .u64 y1, .slice yp yl yc], .agg #[.int .u64 va, .slice vp vl vc], .agg #[.int .u64 y1, .slice yp yl yc], .tuple #[.agg #[.int .u64 za, .slice zp zl zc], .agg #[.int .u64 sa, .slice sp sl sc], .bool true], .agg #[.int .u64 za, .slice zp zl zc], .agg #[.int .u64 sa, .slice sp sl sc], .bool true, undef, undef, undef, undef, undef, undef, undef, undef, undef, undef, undef, undef, undef, undef, undef, undef, undef, undef, undef, undef, undef, undef, undef, undef, undef, undef, undef, undef, undef, undef, undef], defers := [] } W := by
      intro W acc va vp vl vc hv za zp zl zc sa sp sl sc hz hs c hc hcn d hd hdn hcd
      rw [← hR]
      have c00 := (u0.below acc l0).c0
      have c01 := (u0.below acc l0).c1
      have c10 := (u1.below acc l1).c0
      have c11 := (u1.below acc l1).c1
      have kc0 := hc.c0
      have kc1 := hc.c1
      have fc0 := hc.free 0
      have fc1 := hc.free 1
      have kd0 := hd.c0
      have kd1 := hd.c1
      have fd0 := hd.free 0
      have fd1 := hd.free 1
      refine wpAnyIn_ready (rs := [11]) (by kernel_rfl) (by simp) ?_
      refine AllReadyIn.cons rfl (fun K hK => ?_) ?_
      · go_simp
        refine hK _ _ ?_
        have h := H11111111111100 ((W.setCell ⟨c, 0, none⟩ (.int .u64 za)).setCell ⟨c, 1, none⟩ (.slice zp zl zc)) (below_two acc hcn _ _) va vp vl vc (hv.two hc _ _) za zp zl zc sa sp sl sc (hz.two hc _ _) (hs.two hc _ _) c (hc.set (.int .u64 za) zp zl zc) hcn d ((hd.other hcd.symm _).other hcd.symm _) hdn hcd
        rw [← hR] at h
        exact h
      exact AllReadyIn.nil
    have H11111111110000 : ∀ (W : World) (acc : Below w4.heap.size w4 W) (va : Int) (vp : Option Addr) (vl vc : Nat) (hv : IsNat W (.agg #[.int .u64 va, .slice vp vl vc]) (X * Y)) (za : Int) (zp : Option Addr) (zl zc : Nat) (sa : Int) (sp : Option Addr) (sl sc : Nat) (hz : IsNat W (.agg #[.int .u64 za, .slice zp zl zc]) X) (hs : IsNat W (.agg #[.int .u64 sa, .slice sp sl sc]) 0) (c : Nat) (hc : Var W c (.int .u64 0) (.slice none 0 0)) (hcn : w4.heap.size ≤ c), R 4 #[true, true, true, true, true, true, true, true, true, true, false, false, false, false] { tmps := #[a, b, undef, undef, .bool false, .pointer (some ⟨w1.heap.size, 0, none⟩), .pointer (some ⟨w1.heap.size + 1, 0, none⟩), s1, s2, .pointer (some ⟨w3.heap.size, 0, none⟩), .pointer (some ⟨w3.heap.size + 1, 0, none⟩), .bool true, .pointer (some ⟨c, 0, none⟩), undef, undef, .tuple #[.agg #[.int .u64 x1, .slice xp xl xc], .agg #[.int .u64 y1, .slice yp yl yc], s1, s2], a, b, .tuple #[.agg #[.int .u64 x1, .slice xp xl xc], .agg #[.int .u64 y1, .slice yp yl yc], s1, s2], .agg #[.int .u64 x1, .slice xp xl xc], .agg #[.int .u64 y1, .slice yp yl yc], s1, s2, .tuple #[.agg #[.int .u64 qa, .slice qp ql qc], .agg #[.int .u64 ra, .slice rp rl rc], .bool true], .agg #[.int .u64 x1, .slice xp xl xc], .agg #[.int .u64 y1, .slice yp yl yc], .tuple #[.agg #[.int .u64 qa, .slice qp ql qc], .agg #[.int .u64 ra, .slice rp rl rc], .bool true], .agg #[.int .u64 qa, .slice qp ql qc], .agg #[.int .u64 ra, .slice rp rl rc], .bool true, .bool true, .bool false, undef, undef, undef, undef, undef, undef, .tuple #[.agg #[.int .u64 za, .slice zp zl zc], .agg #[.int .u64 sa, .slice sp sl sc], .bool true], .agg #[.int .u64 x1, .slice xp xl xc], .agg #[.int .u64 y1, .slice yp yl yc], .agg #[.int .u64 va, .slice vp vl vc], .agg #[.int .u64 y1, .slice yp yl yc], .tuple #[.agg #[.int .u64 za, .slice zp zl zc], .agg #[.int .u64 sa, .slice sp sl sc], .bool true], .agg #[.int .u64 za, .slice zp zl zc], .agg #[.int .u64 sa, .slice sp sl sc], .bool true, undef, undef, undef, undef, undef, undef, undef, undef, undef, undef, undef, undef, undef, undef, undef, undef, undef, undef, undef, undef, undef, undef, undef, undef, undef, undef, undef, undef, undef, undef, undef], defers := [] } W := by
      intro W acc va vp vl vc hv za zp zl zc sa sp sl sc hz hs c hc hcn
      rw [← hR]
      have c00 := (u0.below acc l0).c0
      have c01 := (u0.below acc l0).c1
      have c10 := (u1.below acc l1).c0
      have c11 := (u1.below acc l1).c1
      have kc0 := hc.c0
      have kc1 := hc.c1
      have fc0 := hc.free 0
      have fc1 := hc.free 1
      refine wpAnyIn_ready (rs := [10]) (by kernel_rfl) (by simp) ?_
      refine AllReadyIn.cons rfl (fun K hK => ?_) ?_
      · go_simp
        refine hK _ _ ?_
        have h := H11111111111000 (W.alloc (.cells #[.int .u64 0, .slice none 0 0] 25)) (acc.alloc acc.size _) va vp vl vc (hv.below ((Below.refl _ W).alloc (Nat.le_refl _) _)) za zp zl zc sa sp sl sc (hz.below ((Below.refl _ W).alloc (Nat.le_refl _) _)) (hs.below ((Below.refl _ W).alloc (Nat.le_refl _) _)) c (hc.alloc _) hcn W.heap.size (Var.new W W.heap.size _ _ _ _ rfl) acc.size (Nat.ne_of_lt hc.lt)
        rw [← hR] at h
        exact h
      exact AllReadyIn.nil
    have H11111111101000 : ∀ (W : World) (acc : Below w4.heap.size w4 W) (va : Int) (vp : Option Addr) (vl vc : Nat) (hv : IsNat W (.agg #[.int .u64 va, .slice vp vl vc]) (X * Y)) (za : Int) (zp : Option Addr) (zl zc : Nat) (sa : Int) (sp : Option Addr) (sl sc : Nat) (hz : IsNat W (.agg #[.int .u64 za, .slice zp zl zc]) X) (hs : IsNat W (.agg #[.int .u64 sa, .slice sp sl sc]) 0) (d : Nat) (hd : Var W d (.int .u64 0) (.slice none 0 0)) (hdn : w4.heap.size ≤ d), R 4 #[true, true, true, true, true, true, true, true, true, false, true, false, false, false] { tmps := #[a, b, undef, undef, .bool false, .pointer (some ⟨w1.heap.size, 0, none⟩), .pointer (some ⟨w1.heap.size + 1, 0, none⟩), s1, s2, .pointer (some ⟨w3.heap.size, 0, none⟩), .pointer (some ⟨w3.heap.size + 1, 0, none⟩), .bool true, undef, .pointer (some ⟨d, 0, none⟩), undef, .tuple #[.agg #[.int .u64 x1, .slice xp xl xc], .agg #[.int .u64 y1, .slice yp yl yc], s1, s2], a, b, .tuple #[.agg #[.int .u64 x1, .slice xp xl xc], .agg #[.int .u64 y1, .slice yp yl yc], s1, s2], .agg #[.int .u64 x1, .slice xp xl xc], .agg #[.int .u64 y1, .slice yp yl yc], s1, s2, .tuple #[.agg #[.int .u64 qa, .slice qp ql qc], .agg #[.int .u64 ra, .slice rp rl rc], .bool true], .agg #[.int .u64 x1, .slice xp xl xc], .agg #[.int .u64 y1, .slice yp yl yc], .tuple #[.agg #[.int .u64 qa, .slice qp ql qc], .agg #[.int .u64 ra, .slice rp rl rc], .bool true], .agg #[.int .u64 qa, .slice qp ql qc], .agg #[.int .u64 ra, .slice rp rl rc], .bool true, .bool true, .bool false, undef, undef, undef, undef, undef, undef, .tuple #[.agg #[.int .u64 za, .slice zp zl zc], .agg #[.int .u64 sa, .slice sp sl sc], .bool true], .agg #[.int .u64 x1, .slice xp xl xc], .agg #[.int .u64 y1, .slice yp yl yc], .agg #[.int .u64 va, .slice vp vl vc], .agg #[.int .u64 y1, .slice yp yl yc], .tuple #[.agg #[.int .u64 za, .slice zp zl zc], .agg #[.int .u64 sa, .slice sp sl sc], .bool true], .agg #[.int .u64 za, .slice zp zl zc], .agg #[.int .u64 sa, .slice sp sl sc], .bool true, undef, undef, undef, undef, undef, undef, undef, undef, undef, undef, undef, undef, undef, undef, undef, undef, undef, undef, undef, undef, undef, undef, undef, undef, undef, undef, undef, undef, undef, undef, undef], defers := [] } W := by
      intro W acc va vp vl vc hv za zp zl zc sa sp sl sc hz hs d hd hdn
      rw [← hR]
      have c00 := (u0.below acc l0).c0
      have c01 := (u0.below acc l0).c1
      have c10 := (u1.below acc l1).c0
      have c11 := (u1.below acc l1).c1
      have kd0 := hd.c0
      have kd1 := hd.c1
      have fd0 := hd.free 0
      have fd1 := hd.free 1
      refine wpAnyIn_ready (rs := [9]) (by kernel_rfl) (by simp) ?_
      refine AllReadyIn.cons rfl (fun K hK => ?_) ?_
      · go_simp
        refine hK _ _ ?_
        have h := H11111111111000 (W.alloc (.cells #[.int .u64 0, .slice none 0 0] 25)) (acc.alloc acc.size _) va vp vl vc (hv.below ((Below.refl _ W).alloc (Nat.le_refl _) _)) za zp zl zc sa sp sl sc (hz.below ((Below.refl _ W).alloc (Nat.le_refl _) _)) (hs.below ((Below.refl _ W).alloc (Nat.le_refl _) _)) W.heap.size (Var.new W W.heap.size _ _ _ _ rfl) acc.size d (hd.alloc _) hdn (Nat.ne_of_gt hd.lt)
        rw [← hR] at h
        exact h
      exact AllReadyIn.nil
    have H11111111100000 : ∀ (W : World) (acc : Below w4.heap.size w4 W) (va : Int) (vp : Option Addr) (vl vc : Nat) (hv : IsNat W (.agg #[.int .u64 va, .slice vp vl vc]) (X * Y)) (za : Int) (zp : Option Addr) (zl zc : Nat) (sa : Int) (sp : Option Addr) (sl sc : Nat) (hz : IsNat W (.agg #[.int .u64 za, .slice zp zl zc]) X) (hs : IsNat W (.agg #[.int .u64 sa, .slice sp sl sc]) 0), R 5 #[true, true, true, true, true, true, true, true, true, false, false, false, false, false] { tmps := #[a, b, undef, undef, .bool false, .pointer (some ⟨w1.heap.size, 0, none⟩), .pointer (some ⟨w1.heap.size + 1, 0, none⟩), s1, s2, .pointer (some ⟨w3.heap.size, 0, none⟩), .pointer (some ⟨w3.heap.size + 1, 0, none⟩), .bool true, undef, undef, undef, .tuple #[.agg #[.int .u64 x1, .slice xp xl xc], .agg #[.int .u64 y1, .slice yp yl yc], s1, s2], a, b, .tuple #[.agg #[.int .u64 x1, .slice xp xl xc], .agg #[.int .u64 y1, .slice yp yl yc], s1, s2], .agg #[.int .u64 x1, .slice xp xl xc], .agg #[.int .u64 y1, .slice yp yl yc], s1, s2, .tuple #[.agg #[.int .u64 qa, .slice qp ql qc], .agg #[.int .u64 ra, .slice rp rl rc], .bool true], .agg #[.int .u64 x1, .slice xp xl xc], .agg #[.int .u64 y1, .slice yp yl yc], .tuple #[.agg #[.int .u64 qa, .slice qp ql qc], .agg #[.int .u64 ra, .slice rp rl rc], .bool true], .agg #[.int .u64 qa, .slice qp ql qc], .agg #[.int .u64 ra, .slice rp rl rc], .bool true, .bool true, .bool false, undef, undef, undef, undef, undef, undef, .tuple #[.agg #[.int .u64 za, .slice zp zl zc], .agg #[.int .u64 sa, .slice sp sl sc], .bool true], .agg #[.int .u64 x1, .slice xp xl xc], .agg #[.int .u64 y1, .slice yp yl yc], .agg #[.int .u64 va, .slice vp vl vc], .agg #[.int .u64 y1, .slice yp yl yc], .tuple #[.agg #[.int .u64 za, .slice zp zl zc], .agg #[.int .u64 sa, .slice sp sl sc], .bool true], .agg #[.int .u64 za, .slice zp zl zc], .agg #[.int .u64 sa, .slice sp sl sc], .bool true, undef, undef, undef, undef, undef, undef, undef, undef, undef, undef, undef, undef, undef, undef, undef, undef, undef, undef, undef, undef, undef, undef, undef, undef, undef, undef, undef, undef, undef, undef, undef], defers := [] } W := by
      intro W acc va vp vl vc hv za zp zl zc sa sp sl sc hz hs
      rw [← hR]
      have c00 := (u0.below acc l0).c0
      have c01 := (u0.below acc l0).c1
      have c10 := (u1.below acc l1).c0
      have c11 := (u1.below acc l1).c1
      refine wpAnyIn_ready (rs := [9, 10]) (by kernel_rfl) (by simp) ?_
      refine AllReadyIn.cons rfl (fun K hK => ?_) ?_
      · go_simp
        refine hK _ _ ?_
        have h := H11111111110000 (W.alloc (.cells #[.int .u64 0, .slice none 0 0] 25)) (acc.alloc acc.size _) va vp vl vc (hv.below ((Below.refl _ W).alloc (Nat.le_refl _) _)) za zp zl zc sa sp sl sc (hz.below ((Below.refl _ W).alloc (Nat.le_refl _) _)) (hs.below ((Below.refl _ W).alloc (Nat.le_refl _) _)) W.heap.size (Var.new W W.heap.size _ _ _ _ rfl) acc.size
        rw [← hR] at h
        exact h
      refine AllReadyIn.cons rfl (fun K hK => ?_) ?_
      · go_simp
        refine hK _ _ ?_
        have h := H11111111101000 (W.alloc (.cells #[.int .u64 0, .slice none 0 0] 25)) (acc.alloc acc.size _) va vp vl vc (hv.below ((Below.refl _ W).alloc (Nat.le_refl _) _)) za zp zl zc sa sp sl sc (hz.below ((Below.refl _ W).alloc (Nat.le_refl _) _)) (hs.below ((Below.refl _ W).alloc (Nat.le_refl _) _)) W.heap.size (Var.new W W.heap.size _ _ _ _ rfl) acc.size
        rw [← hR] at h
        exact h
      exact AllReadyIn.nil
    have H11111111011110 : ∀ (W : World) (acc : Below w4.heap.size w4 W) (va : Int) (vp : Option Addr) (vl vc : Nat) (hv : IsNat W (.agg #[.int .u64 va, .slice vp vl vc]) (X * Y)) (za : Int) (zp : Option Addr) (zl zc : Nat) (sa : Int) (sp : Option Addr) (sl sc : Nat) (hz : IsNat W (.agg #[.int .u64 za, .slice zp zl zc]) X) (hs : IsNat W (.agg #[.int .u64 sa, .slice sp sl sc]) 0) (c : Nat) (hc : Var W c (.int .u64 za) (.slice zp zl zc)) (hcn : w4.heap.size ≤ c) (d : Nat) (hd : Var W d (.int .u64 sa) (.slice sp sl sc)) (hdn : w4.heap.size ≤ d) (hcd : c ≠ d), R 2 #[true, true, true, true, true, true, true, true, false, true, true, true, true, false] { tmps := #[a, b, undef, undef, .bool false, .pointer (some ⟨w1.heap.size, 0, none⟩), .pointer (some ⟨w1.heap.size + 1, 0, none⟩), s1, s2, .pointer (some ⟨w3.heap.size, 0, none⟩), .pointer (some ⟨w3.heap.size + 1, 0, none⟩), .bool true, .pointer (some ⟨c, 0, none⟩), .pointer (some ⟨d, 0, none⟩), undef, .tuple #[.agg #[.int .u64 x1, .slice xp xl xc], .agg #[.int .u64 y1, .slice yp yl yc], s1, s2], a, b, .tuple #[.agg #[.int .u64 x1, .slice xp xl xc], .agg #[.int .u64 y1, .slice yp yl yc], s1, s2], .agg #[.int .u64 x1, .slice xp xl xc], .agg #[.int .u64 y1, .slice yp yl yc], s1, s2, .tuple #[.agg #[.int .u64 qa, .slice qp ql qc], .agg #[.int .u64 ra, .slice rp rl rc], .bool true], .agg #[.int .u64 x1, .slice xp xl xc], .agg #[.int .u64 y1, .slice yp yl yc], .tuple #[.agg #[.int .u64 qa, .slice qp ql qc], .agg #[.int .u64 ra, .slice rp rl rc], .bool true], .agg #[.int .u64 qa, .slice qp ql qc], .agg #[.int .u64 ra, .slice rp rl rc], .bool true, .bool true, .bool false, undef, undef, undef, undef, undef, undef, .tuple #[.agg #[.int .u64 za, .slice zp zl zc], .agg #[.int .u64 sa, .slice sp sl sc], .bool true], .agg #[.int .u64 x1, .slice xp xl xc], .agg #[.int .u64 y1, .slice yp yl yc], .agg #[.int .u64 va, .slice vp vl vc], .agg #[.int .u64 y1, .slice yp yl yc], .tuple #[.agg #[.int .u64 za, .slice zp zl zc], .agg #[.int .u64 sa, .slice sp sl sc], .bool true], .agg #[.int .u64 za, .slice zp zl zc], .agg #[.int .u64 sa, .slice sp sl sc], undef, undef, undef, undef, undef, undef, undef, undef, undef, undef, undef, undef, undef, undef, undef, undef, undef, undef, undef, undef, undef, undef, undef, undef, undef, undef, undef, undef, undef, undef, undef, undef], defers := [] } W := by
      intro W acc va vp vl vc hv za zp zl zc sa sp sl sc hz hs c hc hcn d hd hdn hcd
      rw [← hR]
      have c00 := (u0.below acc l0).c0
      have c01 := (u0.below acc l0).c1
      have c10 := (u1.below acc l1).c0
      have c11 := (u1.below acc l1).c1
      have kc0 := hc.c0
      have kc1 := hc.c1
      have fc0 := hc.free 0
      have fc1 := hc.free 1
      have kd0 := hd.c0
      have kd1 := hd.c1
      have fd0 := hd.free 0
      have fd1 := hd.free 1
      refine wpAnyIn_ready (rs := [8]) (by kernel_rfl) (by simp) ?_
      refine AllReadyIn.cons rfl (fun K hK => ?_) ?_
      · go_simp
        refine hK _ _ ?_
        have h := H11111111111110 W acc va vp vl vc hv za zp zl zc sa sp sl sc hz hs c hc hcn d hd hdn hcd
        rw [← hR] at h
        exact h
      exact AllReadyIn.nil
    have H11111111011100 : ∀ (W : World) (acc : Below w4.heap.size w4 W) (va : Int) (vp : Option Addr) (vl vc : Nat) (hv : IsNat W (.agg #[.int .u64 va, .slice vp vl vc]) (X * Y)) (za : Int) (zp : Option Addr) (zl zc : Nat) (sa : Int) (sp : Option Addr) (sl sc : Nat) (hz : IsNat W (.agg #[.int .u64 za, .slice zp zl zc]) X) (hs : IsNat W (.agg #[.int .u64 sa, .slice sp sl sc]) 0) (c : Nat) (hc : Var W c (.int .u64 za) (.slice zp zl zc)) (hcn : w4.heap.size ≤ c) (d : Nat) (hd : Var W d (.int .u64 0) (.slice none 0 0)) (hdn : w4.heap.size ≤ d) (hcd : c ≠ d), R 3 #[true, true, true, true, true, true, true, true, false, true, true, true, false, false] { tmps := #[a, b, undef, undef, .bool false, .pointer (some ⟨w1.heap.size, 0, none⟩), .pointer (some ⟨w1.heap.size + 1, 0, none⟩), s1, s2, .pointer (some ⟨w3.heap.size, 0, none⟩), .pointer (some ⟨w3.heap.size + 1, 0, none⟩), .bool true, .pointer (some ⟨c, 0, none⟩), .pointer (some ⟨d, 0, none⟩), undef, .tuple #[.agg #[.int .u64 x1, .slice xp xl xc], .agg #[.int .u64 y1, .slice yp yl yc], s1, s2], a, b, .tuple #[.agg #[.int .u64 x1, .slice xp xl xc], .agg #[.int .u64 y1, .slice yp yl yc], s1, s2], .agg #[.int .u64 x1, .slice xp xl xc], .agg #[.int .u64 y1, .slice yp yl yc], s1, s2, .tuple #[.agg #[.int .u64 qa, .slice qp ql qc], .agg #[.int .u64 ra, .slice rp rl rc], .bool true], .agg #[.int .u64 x1, .slice xp xl xc], .agg #[.int .u64 y1, .slice yp yl yc], .tuple #[.agg #[.int .u64 qa, .slice qp ql qc], .agg #[.int .u64 ra, .slice rp rl rc], .bool true], .agg #[.int .u64 qa, .slice qp ql qc], .agg #[.int .u64 ra, .slice rp rl rc], .bool true, .bool true, .bool false, undef, undef, undef, undef, undef, undef, .tuple #[.agg #[.int .u64 za, .slice zp zl zc], .agg #[.int .u64 sa, .slice sp sl sc], .bool true], .agg #[.int .u64 x1, .slice xp xl xc], .agg #[.int .u64 y1, .slice yp yl yc], .agg #[.int .u64 va, .slice vp vl vc], .agg #[.int .u64 y1, .slice yp yl yc], .tuple #[.agg #[.int .u64 za, .slice zp zl zc], .agg #[.int .u64 sa, .slice sp sl sc], .bool true], .agg #[.int .u64 za, .slice zp zl zc], .agg #[.int .u64 sa, .slice sp sl sc], undef, undef, undef, undef, undef, undef, undef, undef, undef, undef, undef, undef, undef, undef, undef, undef, undef, undef, undef, undef, undef, undef, undef, undef, undef, undef, undef, undef, undef, undef, undef, undef], defers := [] } W := by
      intro W acc va vp vl vc hv za zp zl zc sa sp sl sc hz hs c hc hcn d hd hdn hcd
      rw [← hR]
      have c00 := (u0.below acc l0).c0
      have c01 := (u0.below acc l0).c1
      have c10 := (u1.below acc l1).c0
      have c11 := (u1.below acc l1).c1
      have kc0 := hc.c0
      have kc1 := hc.c1
      have fc0 := hc.free 0
      have fc1 := hc.free 1
      have kd0 := hd.c0
      have kd1 := hd.c1
      have fd0 := hd.free 0
      have fd1 := hd.free 1
      refine wpAnyIn_ready (rs := [8, 12]) (by kernel_rfl) (by simp) ?_
      refine AllReadyIn.cons rfl (fun K hK => ?_) ?_
      · go_simp
        refine hK _ _ ?_
        have h := H11111111111100 W acc va vp vl vc hv za zp zl zc sa sp sl sc hz hs c hc hcn d hd hdn hcd
        rw [← hR] at h
        exact h
      refine AllReadyIn.cons rfl (fun K hK => ?_) ?_
      · go_simp
        refine hK _ _ ?_
        have h := H11111111011110 ((W.setCell ⟨d, 0, none⟩ (.int .u64 sa)).setCell ⟨d, 1, none⟩ (.slice sp sl sc)) (below_two acc hdn _ _) va vp vl vc (hv.two hd _ _) za zp zl zc sa sp sl sc (hz.two hd _ _) (hs.two hd _ _) c ((hc.other hcd _).other hcd _) hcn d (hd.set (.int .u64 sa) sp sl sc) hdn hcd
        rw [← hR] at h
        exact h
      exact AllReadyIn.nil
    have H11111111011000 : ∀ (W : World) (acc : Below w4.heap.size w4 W) (va : Int) (vp : Option Addr) (vl vc : Nat) (hv : IsNat W (.agg #[.int .u64 va, .slice vp vl vc]) (X * Y)) (za : Int) (zp : Option Addr) (zl zc : Nat) (sa : Int) (sp : Option Addr) (sl sc : Nat) (hz : IsNat W (.agg #[.int .u64 za, .slice zp zl zc]) X) (hs : IsNat W (.agg #[.int .u64 sa, .slice sp sl sc]) 0) (c : Nat) (hc : Var W c (.int .u64 0) (.slice none 0 0)) (hcn : w4.heap.size ≤ c) (d : Nat) (hd : Var W d (.int .u64 0) (.slice none 0 0)) (hdn : w4.heap.size ≤ d) (hcd : c ≠ d), R 4 #[true, true, true, true, true, true, true, true, false, true, true, false, false, false] { tmps := #[a, b, undef, undef, .bool false, .pointer (some ⟨w1.heap.size, 0, none⟩), .pointer (some ⟨w1.heap.size + 1, 0, none⟩), s1, s2, .pointer (some ⟨w3.heap.size, 0, none⟩), .pointer (some ⟨w3.heap.size + 1, 0, none⟩), .bool true, .pointer (some ⟨c, 0, none⟩), .pointer (some ⟨d, 0, none⟩), undef, .tuple #[.agg #[.int .u64 x1, .slice xp xl xc], .agg #[.int .u64 y1, .slice yp yl yc], s1, s2], a, b, .tuple #[.agg #[.int .u64 x1, .slice xp xl xc], .agg #[.int .u64 y1, .slice yp yl yc], s1, s2], .agg #[.int .u64 x1, .slice xp xl xc], .agg #[.int .u64 y1, .slice yp yl yc], s1, s2, .tuple #[.agg #[.int .u64 qa, .slice qp ql qc], .agg #[.int .u64 ra, .slice rp rl rc], .bool true], .agg #[.int .u64 x1, .slice xp xl xc], .agg #[.int .u64 y1, .slice yp yl yc], .tuple #[.agg #[.int .u64 qa, .slice qp ql qc], .agg #[.int .u64 ra, .slice rp rl rc], .bool true], .agg #[.int .u64 qa, .slice qp ql qc], .agg #[.int .u64 ra, .slice rp rl rc], .bool true, .bool true, .bool false, undef, undef, undef, undef, undef, undef, .tuple #[.agg #[.int .u64 za, .slice zp zl zc], .agg #[.int .u64 sa, .slice sp sl sc], .bool true], .agg #[.int .u64 x1, .slice xp xl xc], .agg #[.int .u64 y1, .slice yp yl yc], .agg #[.int .u64 va, .slice vp vl vc], .agg #[.int .u64 y1, .slice yp yl yc], .tuple #[.agg #[.int .u64 za, .slice zp zl zc], .agg #[.int .u64 sa, .slice sp sl sc], .bool true], .agg #[.int .u64 za, .slice zp zl zc], .agg #[.int .u64 sa, .slice sp sl sc], undef, undef, undef, undef, undef, undef, undef, undef, undef, undef, undef, undef, undef, undef, undef, undef, undef, undef, undef, undef, undef, undef, undef, undef, undef, undef, undef, undef, undef, undef, undef, undef], defers := [] } W := by
      intro W acc va vp vl vc hv za zp zl zc sa sp sl sc hz hs c hc hcn d hd hdn hcd
      rw [← hR]
      have c00 := (u0.below acc l0).c0
      have c01 := (u0.below acc l0).c1
      have c10 := (u1.below acc l1).c0
      have c11 := (u1.below acc l1).c1
      have kc0 := hc.c0
      have kc1 := hc.c1
      have fc0 := hc.free 0
      have fc1 := hc.free 1
      have kd0 := hd.c0
      have kd1 := hd.c1
      have fd0 := hd.free 0
      have fd1 := hd.free 1
      refine wpAnyIn_ready (rs := [8, 11]) (by kernel_rfl) (by simp) ?_
      refine AllReadyIn.cons rfl (fun K hK => ?_) ?_
      · go_simp
        refine hK _ _ ?_
        have h := H11111111111000 W acc va vp vl vc hv za zp zl zc sa sp sl sc hz hs c hc hcn d hd hdn hcd
        rw [← hR] at h
        exact h
      refine AllReadyIn.cons rfl (fun K hK => ?_) ?_
      · go_simp
        refine hK _ _ ?_
        have h := H11111111011100 ((W.setCell ⟨c, 0, none⟩ (.int .u64 za)).setCell ⟨c, 1, none⟩ (.slice zp zl zc)) (below_two acc hcn _ _) va vp vl vc (hv.two hc _ _) za zp zl zc sa sp sl sc (hz.two hc _ _) (hs.two hc _ _) c (hc.set (.int .u64 za) zp zl zc) hcn d ((hd.other hcd.symm _).other hcd.symm _) hdn hcd
        rw [← hR] at h
        exact h
      exact AllReadyIn.nil
    have H11111111010000 : ∀ (W : World) (acc : Below w4.heap.size w4 W) (va : Int) (vp : Option Addr) (vl vc : Nat) (hv : IsNat W (.agg #[.int .u64 va, .slice vp vl vc]) (X * Y)) (za : Int) (zp : Option Addr) (zl zc : Nat) (sa : Int) (sp : Option Addr) (sl sc : Nat) (hz : IsNat W (.agg #[.int .u64 za, .slice zp zl zc]) X) (hs : IsNat W (.agg #[.int .u64 sa, .slice sp sl sc]) 0) (c : Nat) (hc : Var W c (.int .u64 0) (.slice none 0 0)) (hcn : w4.heap.size ≤ c), R 5 #[true, true, true, true, true, true, true, true, false, true, false, false, false, false] { tmps := #[a, b, undef, undef, .bool false, .pointer (some ⟨w1.heap.size, 0, none⟩), .pointer (some ⟨w1.heap.size + 1, 0, none⟩), s1, s2, .pointer (some ⟨w3.heap.size, 0, none⟩), .pointer (some ⟨w3.heap.size + 1, 0, none⟩), .bool true, .pointer (some ⟨c, 0, none⟩), undef, undef, .tuple #[.agg #[.int .u64 x1, .slice xp xl xc], .agg #[.int .u64 y1, .slice yp yl yc], s1, s2], a, b, .tuple #[.agg #[.int .u64 x1, .slice xp xl xc], .agg #[.int .u64 y1, .slice yp yl yc], s1, s2], .agg #[.int .u64 x1, .slice xp xl xc], .agg #[.int .u64 y1, .slice yp yl yc], s1, s2, .tuple #[.agg #[.int .u64 qa, .slice qp ql qc], .agg #[.int .u64 ra, .slice rp rl rc], .bool true], .agg #[.int .u64 x1, .slice xp xl xc], .agg #[.int .u64 y1, .slice yp yl yc], .tuple #[.agg #[.int .u64 qa, .slice qp ql qc], .agg #[.int .u64 ra, .slice rp rl rc], .bool true], .agg #[.int .u64 qa, .slice qp ql qc], .agg #[.int .u64 ra, .slice rp rl rc], .bool true, .bool true, .bool false, undef, undef, undef, undef, undef, undef, .tuple #[.agg #[.int .u64 za, .slice zp zl zc], .agg #[.int .u64 sa, .slice sp sl sc], .bool true], .agg #[.int .u64 x1, .slice xp xl xc], .agg #[.int .u64 y1, .slice yp yl yc], .agg #[.int .u64 va, .slice vp vl vc], .agg #[.int .u64 y1, .slice yp yl yc], .tuple #[.agg #[.int .u64 za, .slice zp zl zc], .agg #[.int .u64 sa, .slice sp sl sc], .bool true], .agg #[.int .u64 za, .slice zp zl zc], .agg #[.int .u64 sa, .slice sp sl sc], undef, undef, undef, undef, undef, undef, undef, undef, undef, undef, undef, undef, undef, undef, undef, undef, undef, undef, undef, undef, undef, undef, undef, undef, undef, undef, undef, undef, undef, undef, undef, undef], defers := [] } W := by
      intro W acc va vp vl vc hv za zp zl zc sa sp sl sc hz hs c hc hcn
      rw [← hR]
      have c00 := (u0.below acc l0).c0
      have c01 := (u0.below acc l0).c1
      have c10 := (u1.below acc l1).c0
      have c11 := (u1.below acc l1).c1
      have kc0 := hc.c0
      have kc1 := hc.c1
      have fc0 := hc.free 0
      have fc1 := hc.free 1
      refine wpAnyIn_ready (rs := [8, 10]) (by kernel_rfl) (by simp) ?_
      refine AllReadyIn.cons rfl (fun K hK => ?_) ?_
      · go_simp
        refine hK _ _ ?_
        have h := H11111111110000 W acc va vp vl vc hv za zp zl zc sa sp sl sc hz hs c hc hcn
        rw [← hR] at h
        exact h
      refine AllReadyIn.cons rfl (fun K hK => ?_) ?_
      · go_simp
        refine hK _ _ ?_
        have h := H11111111011000 (W.alloc (.cells #[.int .u64 0, .slice none 0 0] 25)) (acc.alloc acc.size _) va vp vl vc (hv.below ((Below.refl _ W).alloc (Nat.le_refl _) _)) za zp zl zc sa sp sl sc (hz.below ((Below.refl _ W).alloc (Nat.le_refl _) _)) (hs.below ((Below.refl _ W).alloc (Nat.le_refl _) _)) c (hc.alloc _) hcn W.heap.size (Var.new W W.heap.size _ _ _ _ rfl) acc.size (Nat.ne_of_lt hc.lt)
        rw [← hR] at h
        exact h
      exact AllReadyIn.nil
    have H11111111001000 : ∀ (W : World) (acc : Below w4.heap.size w4 W) (va : Int) (vp : Option Addr) (vl vc : Nat) (hv : IsNat W (.agg #[.int .u64 va, .slice vp vl vc]) (X * Y)) (za : Int) (zp : Option Addr) (zl zc : Nat) (sa : Int) (sp : Option Addr) (sl sc : Nat) (hz : IsNat W (.agg #[.int .u64 za, .slice zp zl zc]) X) (hs : IsNat W (.agg #[.int .u64 sa, .slice sp sl sc]) 0) (d : Nat) (hd : Var W d (.int .u64 0) (.slice none 0 0)) (hdn : w4.heap.size ≤ d), R 5 #[true, true, true, true, true, true, true, true, false, false, true, false, false, false] { tmps := #[a, b, undef, undef, .bool false, .pointer (some ⟨w1.heap.size, 0, none⟩), .pointer (some ⟨w1.heap.size + 1, 0, none⟩), s1, s2, .pointer (some ⟨w3.heap.size, 0, none⟩), .pointer (some ⟨w3.heap.size + 1, 0, none⟩), .bool true, undef, .pointer (some ⟨d, 0, none⟩), undef, .tuple #[.agg #[.int .u64 x1, .slice xp xl xc], .agg #[.int .u64 y1, .slice yp yl yc], s1, s2], a, b, .tuple #[.agg #[.int .u64 x1, .slice xp xl xc], .agg #[.int .u64 y1, .slice yp yl yc], s1, s2], .agg #[.int .u64 x1, .slice xp xl xc], .agg #[.int .u64 y1, .slice yp yl yc], s1, s2, .tuple #[.agg #[.int .u64 qa, .slice qp ql qc], .agg #[.int .u64 ra, .slice rp rl rc], .bool true], .agg #[.int .u64 x1, .slice xp xl xc], .agg #[.int .u64 y1, .slice yp yl yc], .tuple #[.agg #[.int .u64 qa, .slice qp ql qc], .agg #[.int .u64 ra, .slice rp rl rc], .bool true], .agg #[.int .u64 qa, .slice qp ql qc], .agg #[.int .u64 ra, .slice rp rl rc], .bool true, .bool true, .bool false, undef, undef, undef, undef, undef, undef, .tuple #[.agg #[.int .u64 za, .slice zp zl zc], .agg #[.int .u64 sa, .slice sp sl sc], .bool true], .agg #[.int .u64 x1, .slice xp xl xc], .agg #[.int .u64 y1, .slice yp yl yc], .agg #[.int .u64 va, .slice vp vl vc], .agg #[.int .u64 y1, .slice yp yl yc], .tuple #[.agg #[.int .u64 za, .slice zp zl zc], .agg #[.int .u64 sa, .slice sp sl sc], .bool true], .agg #[.int .u64 za, .slice zp zl zc], .agg #[.int .u64 sa, .slice sp sl sc], undef, undef, undef, undef, undef, undef, undef, undef, undef, undef, undef, undef, undef, undef, undef, undef, undef, undef, undef, undef, undef, undef, undef, undef, undef, undef, undef, undef, undef, undef, undef, undef], defers := [] } W := by
      intro W acc va vp vl vc hv za zp zl zc sa sp sl sc hz hs d hd hdn
      rw [← hR]
      have c00 := (u0.below acc l0).c0
      have c01 := (u0.below acc l0).c1
      have c10 := (u1.below acc l1).c0
      have c11 := (u1.below acc l1).c1
      have kd0 := hd.c0
      have kd1 := hd.c1
      have fd0 := hd.free 0
      have fd1 := hd.free 1
      refine wpAnyIn_ready (rs := [8, 9]) (by kernel_rfl) (by simp) ?_
      refine AllReadyIn.cons rfl (fun K hK => ?_) ?_
      · go_simp
        refine hK _ _ ?_
        have h := H11111111101000 W acc va vp vl vc hv za zp zl zc sa sp sl sc hz hs d hd hdn
        rw [← hR] at h
        exact h
      refine AllReadyIn.cons rfl (fun K hK => ?_) ?_
      · go_simp
        refine hK _ _ ?_
        have h := H11111111011000 (W.alloc (.cells #[.int .u64 0, .slice none 0 0] 25)) (acc.alloc acc.size _) va vp vl vc (hv.below ((Below.refl _ W).alloc (Nat.le_refl _) _)) za zp zl zc sa sp sl sc (hz.below ((Below.refl _ W).alloc (Nat.le_refl _) _)) (hs.below ((Below.refl _ W).alloc (Nat.le_refl _) _)) W.heap.size (Var.new W W.heap.size _ _ _ _ rfl) acc.size d (hd.alloc _) hdn (Nat.ne_of_gt hd.lt)
        rw [← hR] at h
        exact h
      exact AllReadyIn.nil
    have H11111111000000 : ∀ (W : World) (acc : Below w4.heap.size w4 W) (va : Int) (vp : Option Addr) (vl vc : Nat) (hv : IsNat W (.agg #[.int .u64 va, .slice vp vl vc]) (X * Y)) (za : Int) (zp : Option Addr) (zl zc : Nat) (sa : Int) (sp : Option Addr) (sl sc : Nat) (hz : IsNat W (.agg #[.int .u64 za, .slice zp zl zc]) X) (hs : IsNat W (.agg #[.int .u64 sa, .slice sp sl sc]) 0), R 6 #[true, true, true, true, true, true, true, true, false, false, false, false, false, false] { tmps := #[a, b, undef, undef, .bool false, .pointer (some ⟨w1.heap.size, 0, none⟩), .pointer (some ⟨w1.heap.size + 1, 0, none⟩), s1, s2, .pointer (some ⟨w3.heap.size, 0, none⟩), .pointer (some ⟨w3.heap.size + 1, 0, none⟩), .bool true, undef, undef, undef, .tuple #[.agg #[.int .u64 x1, .slice xp xl xc], .agg #[.int .u64 y1, .slice yp yl yc], s1, s2], a, b, .tuple #[.agg #[.int .u64 x1, .slice xp xl xc], .agg #[.int .u64 y1, .slice yp yl yc], s1, s2], .agg #[.int .u64 x1, .slice xp xl xc], .agg #[.int .u64 y1, .slice yp yl yc], s1, s2, .tuple #[.agg #[.int .u64 qa, .slice qp ql qc], .agg #[.int .u64 ra, .slice rp rl rc], .bool true], .agg #[.int .u64 x1, .slice xp xl xc], .agg #[.int .u64 y1, .slice yp yl yc], .tuple #[.agg #[.int .u64 qa, .slice qp ql qc], .agg #[.int .u64 ra, .slice rp rl rc], .bool true], .agg #[.int .u64 qa, .slice qp ql qc], .agg #[.int .u64 ra, .slice rp rl rc], .bool true, .bool true, .bool false, undef, undef, undef, undef, undef, undef, .tuple #[.agg #[.int .u64 za, .slice zp zl zc], .agg #[.int .u64 sa, .slice sp sl sc], .bool true], .agg #[.int .u64 x1, .slice xp xl xc], .agg #[.int .u64 y1, .slice yp yl yc], .agg #[.int .u64 va, .slice vp vl vc], .agg #[.int .u64 y1, .slice yp yl yc], .tuple #[.agg #[.int .u64 za, .slice zp zl zc], .agg #[.int .u64 sa, .slice sp sl sc], .bool true], .agg #[.int .u64 za, .slice zp zl zc], .agg #[.int .u64 sa, .slice sp sl sc], undef, undef, undef, undef, undef, undef, undef, undef, undef, undef, undef, undef, undef, undef, undef, undef, undef, undef, undef, undef, undef, undef, undef, undef, undef, undef, undef, undef, undef, undef, undef, undef], defers := [] } W := by
      intro W acc va vp vl vc hv za zp zl zc sa sp sl sc hz hs
      rw [← hR]
      have c00 := (u0.below acc l0).c0
      have c01 := (u0.below acc l0).c1
      have c10 := (u1.below acc l1).c0
      have c11 := (u1.below acc l1).c1
      refine wpAnyIn_ready (rs := [8, 9, 10]) (by kernel_rfl) (by simp) ?_
      refine AllReadyIn.cons rfl (fun K hK => ?_) ?_
      · go_simp
        refine hK _ _ ?_
        have h := H11111111100000 W acc va vp vl vc hv za zp zl zc sa sp sl sc hz hs
        rw [← hR] at h
        exact h
      refine AllReadyIn.cons rfl (fun K hK => ?_) ?_
      · go_simp
        refine hK _ _ ?_
        have h := H11111111010000 (W.alloc (.cells #[.int .u64 0, .slice none 0 0] 25)) (acc.alloc acc.size _) va vp vl vc (hv.below ((Below.refl _ W).alloc (Nat.le_refl _) _)) za zp zl zc sa sp sl sc (hz.below ((Below.refl _ W).alloc (Nat.le_refl _) _)) (hs.below ((Below.refl _ W).alloc (Nat.le_refl _) _)) W.heap.size (Var.new W W.heap.size _ _ _ _ rfl) acc.size
        rw [← hR] at h
        exact h
      refine AllReadyIn.cons rfl (fun K hK => ?_) ?_
      · go_simp
        refine hK _ _ ?_
        have h := H11111111001000 (W.alloc (.cells #[.int .u64 0, .slice none 0 0] 25)) (acc.alloc acc.size _) va vp vl vc (hv.below ((Below.refl _ W).alloc (Nat.le_refl _) _)) za zp zl zc sa sp sl sc (hz.below ((Below.refl _ W).alloc (Nat.le_refl _) _)) (hs.below ((Below.refl _ W).alloc (Nat.le_refl _) _)) W.heap.size (Var.new W W.heap.size _ _ _ _ rfl) acc.size
        rw [← hR] at h
        exact h
      exact AllReadyIn.nil
    have H11111110111100 : ∀ (W : World) (acc : Below w4.heap.size w4 W) (va : Int) (vp : Option Addr) (vl vc : Nat) (hv : IsNat W (.agg #[.int .u64 va, .slice vp vl vc]) (X * Y)) (za : Int) (zp : Option Addr) (zl zc : Nat) (sa : Int) (sp : Option Addr) (sl sc : Nat) (hz : IsNat W (.agg #[.int .u64 za, .slice zp zl zc]) X) (hs : IsNat W (.agg #[.int .u64 sa, .slice sp sl sc]) 0) (c : Nat) (hc : Var W c (.int .u64 za) (.slice zp zl zc)) (hcn : w4.heap.size ≤ c) (d : Nat) (hd : Var W d (.int .u64 0) (.slice none 0 0)) (hdn : w4.heap.size ≤ d) (hcd : c ≠ d), R 3 #[true, true, true, true, true, true, true, false, true, true, true, true, false, false] { tmps := #[a, b, undef, undef, .bool false, .pointer (some ⟨w1.heap.size, 0, none⟩), .pointer (some ⟨w1.heap.size + 1, 0, none⟩), s1, s2, .pointer (some ⟨w3.heap.size, 0, none⟩), .pointer (some ⟨w3.heap.size + 1, 0, none⟩), .bool true, .pointer (some ⟨c, 0, none⟩), .pointer (some ⟨d, 0, none⟩), undef, .tuple #[.agg #[.int .u64 x1, .slice xp xl xc], .agg #[.int .u64 y1, .slice yp yl yc], s1, s2], a, b, .tuple #[.agg #[.int .u64 x1, .slice xp xl xc], .agg #[.int .u64 y1, .slice yp yl yc], s1, s2], .agg #[.int .u64 x1, .slice xp xl xc], .agg #[.int .u64 y1, .slice yp yl yc], s1, s2, .tuple #[.agg #[.int .u64 qa, .slice qp ql qc], .agg #[.int .u64 ra, .slice rp rl rc], .bool true], .agg #[.int .u64 x1, .slice xp xl xc], .agg #[.int .u64 y1, .slice yp yl yc], .tuple #[.agg #[.int .u64 qa, .slice qp ql qc], .agg #[.int .u64 ra, .slice rp rl rc], .bool true], .agg #[.int .u64 qa, .slice qp ql qc], .agg #[.int .u64 ra, .slice rp rl rc], .bool true, .bool true, .bool false, undef, undef, undef, undef, undef, undef, .tuple #[.agg #[.int .u64 za, .slice zp zl zc], .agg #[.int .u64 sa, .slice sp sl sc], .bool true], .agg #[.int .u64 x1, .slice xp xl xc], .agg #[.int .u64 y1, .slice yp yl yc], .agg #[.int .u64 va, .slice vp vl vc], .agg #[.int .u64 y1, .slice yp yl yc], .tuple #[.agg #[.int .u64 za, .slice zp zl zc], .agg #[.int .u64 sa, .slice sp sl sc], .bool true], .agg #[.int .u64 za, .slice zp zl zc], undef, .bool true, undef, undef, undef, undef, undef, undef, undef, undef, undef, undef, undef, undef, undef, undef, undef, undef, undef, undef, undef, undef, undef, undef, undef, undef, undef, undef, undef, undef, undef, undef, undef], defers := [] } W := by
      intro W acc va vp vl vc hv za zp zl zc sa sp sl sc hz hs c hc hcn d hd hdn hcd
      rw [← hR]
      have c00 := (u0.below acc l0).c0
      have c01 := (u0.below acc l0).c1
      have c10 := (u1.below acc l1).c0
      have c11 := (u1.below acc l1).c1
      have kc0 := hc.c0
      have kc1 := hc.c1
      have fc0 := hc.free 0
      have fc1 := hc.free 1
      have kd0 := hd.c0
      have kd1 := hd.c1
      have fd0 := hd.free 0
      have fd1 := hd.free 1
      refine wpAnyIn_ready (rs := [7]) (by kernel_rfl) (by simp) ?_
      refine AllReadyIn.cons rfl (fun K hK => ?_) ?_
      · go_simp
        refine hK _ _ ?_
        have h := H11111111111100 W acc va vp vl vc hv za zp zl zc sa sp sl sc hz hs c hc hcn d hd hdn hcd
        rw [← hR] at h
        exact h
      exact AllReadyIn.nil
    have H11111110111000 : ∀ (W : World) (acc : Below w4.heap.size w4 W) (va : Int) (vp : Option Addr) (vl vc : Nat) (hv : IsNat W (.agg #[.int .u64 va, .slice vp vl vc]) (X * Y)) (za : Int) (zp : Option Addr) (zl zc : Nat) (sa : Int) (sp : Option Addr) (sl sc : Nat) (hz : IsNat W (.agg #[.int .u64 za, .slice zp zl zc]) X) (hs : IsNat W (.agg #[.int .u64 sa, .slice sp sl sc]) 0) (c : Nat) (hc : Var W c (.int .u64 0) (.slice none 0 0)) (hcn : w4.heap.size ≤ c) (d : Nat) (hd : Var W d (.int .u64 0) (.slice none 0 0)) (hdn : w4.heap.size ≤ d) (hcd : c ≠ d), R 4 #[true, true, true, true, true, true, true, false, true, true, true, false, false, false] { tmps := #[a, b, undef, undef, .bool false, .pointer (some ⟨w1.heap.size, 0, none⟩), .pointer (some ⟨w1.heap.size + 1, 0, none⟩), s1, s2, .pointer (some ⟨w3.heap.size, 0, none⟩), .pointer (some ⟨w3.heap.size + 1, 0, none⟩), .bool true, .pointer (some ⟨c, 0, none⟩), .pointer (some ⟨d, 0, none⟩), undef, .tuple #[.agg #[.int .u64 x1, .slice xp xl xc], .agg #[.int .u64 y1, .slice yp yl yc], s1, s2], a, b, .tuple #[.agg #[.int .u64 x1, .slice xp xl xc], .agg #[.int .u64 y1, .slice yp yl yc], s1, s2], .agg #[.int .u64 x1, .slice xp xl xc], .agg #[.int .u64 y1, .slice yp yl yc], s1, s2, .tuple #[.agg #[.int .u64 qa, .slice qp ql qc], .agg #[.int .u64 ra, .slice rp rl rc], .bool true], .agg #[.int .u64 x1, .slice xp xl xc], .agg #[.int .u64 y1, .slice yp yl yc], .tuple #[.agg #[.int .u64 qa, .slice qp ql qc], .agg #[.int .u64 ra, .slice rp rl rc], .bool true], .agg #[.int .u64 qa, .slice qp ql qc], .agg #[.int .u64 ra, .slice rp rl rc], .bool true, .bool true, .bool false, undef, undef, undef, undef, undef, undef, .tuple #[.agg #[.int .u64 za, .slice zp zl zc], .agg #[.int .u64 sa, .slice sp sl sc], .bool true], .agg #[.int .u64 x1, .slice xp xl xc], .agg #[.int .u64 y1, .slice yp yl yc], .agg #[.int .u64 va, .slice vp vl vc], .agg #[.int .u64 y1, .slice yp yl yc], .tuple #[.agg #[.int .u64 za, .slice zp zl zc], .agg #[.int .u64 sa, .slice sp sl sc], .bool true], .agg #[.int .u64 za, .slice zp zl zc], undef, .bool true, undef, undef, undef, undef, undef, undef, undef, undef, undef, undef, undef, undef, undef, undef, undef, undef, undef, undef, undef, undef, undef, undef, undef, undef, undef, undef, undef, undef, undef, undef, undef], defers := [] } W := by
      intro W acc va vp vl vc hv za zp zl zc sa sp sl sc hz hs c hc hcn d hd hdn hcd
      rw [← hR]
      have c00 := (u0.below acc l0).c0
      have c01 := (u0.below acc l0).c1
      have c10 := (u1.below acc l1).c0
      have c11 := (u1.below acc l1).c1
      have kc0 := hc.c0
      have kc1 := hc.c1
      have fc0 := hc.free 0
      have fc1 := hc.free 1
      have kd0 := hd.c0
      have kd1 := hd.c1
      have fd0 := hd.free 0
      have fd1 := hd.free 1
      refine wpAnyIn_ready (rs := [7, 11]) (by kernel_rfl) (by simp) ?_
      refine AllReadyIn.cons rfl (fun K hK => ?_) ?_
      · go_simp
        refine hK _ _ ?_
        have h := H11111111111000 W acc va vp vl vc hv za zp zl zc sa sp sl sc hz hs c hc hcn d hd hdn hcd
        rw [← hR] at h
        exact h
      refine AllReadyIn.cons rfl (fun K hK => ?_) ?_
      · go_simp
        refine hK _ _ ?_
        have h := H11111110111100 ((W.setCell ⟨c, 0, none⟩ (.int .u64 za)).setCell ⟨c, 1, none⟩ (.slice zp zl zc)) (below_two acc hcn _ _) va vp vl vc (hv.two hc _ _) za zp zl zc sa sp sl sc (hz.two hc _ _) (hs.two hc _ _) c (hc.set (.int .u64 za) zp zl zc) hcn d ((hd.other hcd.symm _).other hcd.symm _) hdn hcd
        rw [← hR] at h
        exact h
      exact AllReadyIn.nil
    have H11111110110000 : ∀ (W : World) (acc : Below w4.heap.size w4 W) (va : Int) (vp : Option Addr) (vl vc : Nat) (hv : IsNat W (.agg #[.int .u64 va, .slice vp vl vc]) (X * Y)) (za : Int) (zp : Option Addr) (zl zc : Nat) (sa : Int) (sp : Option Addr) (sl sc : Nat) (hz : IsNat W (.agg #[.int .u64 za, .slice zp zl zc]) X) (hs : IsNat W (.agg #[.int .u64 sa, .slice sp sl sc]) 0) (c : Nat) (hc : Var W c (.int .u64 0) (.slice none 0 0)) (hcn : w4.heap.size ≤ c), R 5 #[true, true, true, true, true, true, true, false, true, true, false, false, false, false] { tmps := #[a, b, undef, undef, .bool false, .pointer (some ⟨w1.heap.size, 0, none⟩), .pointer (some ⟨w1.heap.size + 1, 0, none⟩), s1, s2, .pointer (some ⟨w3.heap.size, 0, none⟩), .pointer (some ⟨w3.heap.size + 1, 0, none⟩), .bool true, .pointer (some ⟨c, 0, none⟩), undef, undef, .tuple #[.agg #[.int .u64 x1, .slice xp xl xc], .agg #[.int .u64 y1, .slice yp yl yc], s1, s2], a, b, .tuple #[.agg #[.int .u64 x1, .slice xp xl xc], .agg #[.int .u64 y1, .slice yp yl yc], s1, s2], .agg #[.int .u64 x1, .slice xp xl xc], .agg #[.int .u64 y1, .slice yp yl yc], s1, s2, .tuple #[.agg #[.int .u64 qa, .slice qp ql qc], .agg #[.int .u64 ra, .slice rp rl rc], .bool true], .agg #[.int .u64 x1, .slice xp xl xc], .agg #[.int .u64 y1, .slice yp yl yc], .tuple #[.agg #[.int .u64 qa, .slice qp ql qc], .agg #[.int .u64 ra, .slice rp rl rc], .bool true], .agg #[.int .u64 qa, .slice qp ql qc], .agg #[.int .u64 ra, .slice rp rl rc], .bool true, .bool true, .bool false, undef, undef, undef, undef, undef, undef, .tuple #[.agg #[.int .u64 za, .slice zp zl zc], .agg #[.int .u64 sa, .slice sp sl sc], .bool true], .agg #[.int .u64 x1, .slice xp xl xc], .agg #[.int .u64 y1, .slice yp yl yc], .agg #[.int .u64 va, .slice vp vl vc], .agg #[.int .u64 y1, .slice yp yl yc], .tuple #[.agg #[.int .u64 za, .slice zp zl zc], .agg #[.int .u64 sa, .slice sp sl sc], .bool true], .agg #[.int .u64 za, .slice zp zl zc], undef, .bool true, undef, undef, undef, undef, undef, undef, undef, undef, undef, undef, undef, undef, undef, undef, undef, undef, undef, undef, undef, undef, undef, undef, undef, undef, undef, undef, undef, undef, undef, undef, undef], defers := [] } W := by
      intro W acc va vp vl vc hv za zp zl zc sa sp sl sc hz hs c hc hcn
      rw [← hR]
      have c00 := (u0.below acc l0).c0
      have c01 := (u0.below acc l0).c1
      have c10 := (u1.below acc l1).c0
      have c11 := (u1.below acc l1).c1
      have kc0 := hc.c0
      have kc1 := hc.c1
      have fc0 := hc.free 0
      have fc1 := hc.free 1
      refine wpAnyIn_ready (rs := [7, 10]) (by kernel_rfl) (by simp) ?_
      refine AllReadyIn.cons rfl (fun K hK => ?_) ?_
      · go_simp
        refine hK _ _ ?_
        have h := H11111111110000 W acc va vp vl vc hv za zp zl zc sa sp sl sc hz hs c hc hcn
        rw [← hR] at h
        exact h
      refine AllReadyIn.cons rfl (fun K hK => ?_) ?_
      · go_simp
        refine hK _ _ ?_
        have h := H11111110111000 (W.alloc (.cells #[.int .u64 0, .slice none 0 0] 25)) (acc.alloc acc.size _) va vp vl vc (hv.below ((Below.refl _ W).alloc (Nat.le_refl _) _)) za zp zl zc sa sp sl sc (hz.below ((Below.refl _ W).alloc (Nat.le_refl _) _)) (hs.below ((Below.refl _ W).alloc (Nat.le_refl _) _)) c (hc.alloc _) hcn W.heap.size (Var.new W W.heap.size _ _ _ _ rfl) acc.size (Nat.ne_of_lt hc.lt)
        rw [← hR] at h
        exact h
      exact AllReadyIn.nil
    have H11111110101000 : ∀ (W : World) (acc : Below w4.heap.size w4 W) (va : Int) (vp : Option Addr) (vl vc : Nat) (hv : IsNat W (.agg #[.int .u64 va, .slice vp vl vc]) (X * Y)) (za : Int) (zp : Option Addr) (zl zc : Nat) (sa : Int) (sp : Option Addr) (sl sc : Nat) (hz : IsNat W (.agg #[.int .u64 za, .slice zp zl zc]) X) (hs : IsNat W (.agg #[.int .u64 sa, .slice sp sl sc]) 0) (d : Nat) (hd : Var W d (.int .u64 0) (.slice none 0 0)) (hdn : w4.heap.size ≤ d), R 5 #[true, true, true, true, true, true, true, false, true, false, true, false, false, false] { tmps := #[a, b, undef, undef, .bool false, .pointer (some ⟨w1.heap.size, 0, none⟩), .pointer (some ⟨w1.heap.size + 1, 0, none⟩), s1, s2, .pointer (some ⟨w3.heap.size, 0, none⟩), .pointer (some ⟨w3.heap.size + 1, 0, none⟩), .bool true, undef, .pointer (some ⟨d, 0, none⟩), undef, .tuple #[.agg #[.int .u64 x1, .slice xp xl xc], .agg #[.int .u64 y1, .slice yp yl yc], s1, s2], a, b, .tuple #[.agg #[.int .u64 x1, .slice xp xl xc], .agg #[.int .u64 y1, .slice yp yl yc], s1, s2], .agg #[.int .u64 x1, .slice xp xl xc], .agg #[.int .u64 y1, .slice yp yl yc], s1, s2, .tuple #[.agg #[.int .u64 qa, .slice qp ql qc], .agg #[.int .u64 ra, .slice rp rl rc], .bool true], .agg #[.int .u64 x1, .slice xp xl xc], .agg #[.int .u64 y1, .slice yp yl yc], .tuple #[.agg #[.int .u64 qa, .slice qp ql qc], .agg #[.int .u64 ra, .slice rp rl rc], .bool true], .agg #[.int .u64 qa, .slice qp ql qc], .agg #[.int .u64 ra, .slice rp rl rc], .bool true, .bool true, .bool false, undef, undef, undef, undef, undef, undef, .tuple #[.agg #[.int .u64 za, .slice zp zl zc], .agg #[.int .u64 sa, .slice sp sl sc], .bool true], .agg #[.int .u64 x1, .slice xp xl xc], .agg #[.int .u64 y1, .slice yp yl yc], .agg #[.int .u64 va, .slice vp vl vc], .agg #[.int .u64 y1, .slice yp yl yc], .tuple #[.agg #[.int .u64 za, .slice zp zl zc], .agg #[.int .u64 sa, .slice sp sl sc], .bool true], .agg #[.int .u64 za, .slice zp zl zc], undef, .bool true, undef, undef, undef, undef, undef, undef, undef, undef, undef, undef, undef, undef, undef, undef, undef, undef, undef, undef, undef, undef, undef, undef, undef, undef, undef, undef, undef, undef, undef, undef, undef], defers := [] } W := by
      intro W acc va vp vl vc hv za zp zl zc sa sp sl sc hz hs d hd hdn
      rw [← hR]
      have c00 := (u0.below acc l0).c0
      have c01 := (u0.below acc l0).c1
      have c10 := (u1.below acc l1).c0
      have c11 := (u1.below acc l1).c1
      have kd0 := hd.c0
      have kd1 := hd.c1
      have fd0 := hd.free 0
      have fd1 := hd.free 1
      refine wpAnyIn_ready (rs := [7, 9]) (by kernel_rfl) (by simp) ?_
      refine AllReadyIn.cons rfl (fun K hK => ?_) ?_
      · go_simp
        refine hK _ _ ?_
        have h := H11111111101000 W acc va vp vl vc hv za zp zl zc sa sp sl sc hz hs d hd hdn
        rw [← hR] at h
        exact h
      refine AllReadyIn.cons rfl (fun K hK => ?_) ?_
      · go_simp
        refine hK _ _ ?_
        have h := H11111110111000 (W.alloc (.cells #[.int .u64 0, .slice none 0 0] 25)) (acc.alloc acc.size _) va vp vl vc (hv.below ((Below.refl _ W).alloc (Nat.le_refl _) _)) za zp zl zc sa sp sl sc (hz.below ((Below.refl _ W).alloc (Nat.le_refl _) _)) (hs.below ((Below.refl _ W).alloc (Nat.le_refl _) _)) W.heap.size (Var.new W W.heap.size _ _ _ _ rfl) acc.size d (hd.alloc _) hdn (Nat.ne_of_gt hd.lt)
        rw [← hR] at h
        exact h
      exact AllReadyIn.nil
    have H11111110100000 : ∀ (W : World) (acc : Below w4.heap.size w4 W) (va : Int) (vp : Option Addr) (vl vc : Nat) (hv : IsNat W (.agg #[.int .u64 va, .slice vp vl vc]) (X * Y)) (za : Int) (zp : Option Addr) (zl zc : Nat) (sa : Int) (sp : Option Addr) (sl sc : Nat) (hz : IsNat W (.agg #[.int .u64 za, .slice zp zl zc]) X) (hs : IsNat W (.agg #[.int .u64 sa, .slice sp sl sc]) 0), R 6 #[true, true, true, true, true, true, true, false, true, false, false, false, false, false] { tmps := #[a, b, undef, undef, .bool false, .pointer (some ⟨w1.heap.size, 0, none⟩), .pointer (some ⟨w1.heap.size + 1, 0, none⟩), s1, s2, .pointer (some ⟨w3.heap.size, 0, none⟩), .pointer (some ⟨w3.heap.size + 1, 0, none⟩), .bool true, undef, undef, undef, .tuple #[.agg #[.int .u64 x1, .slice xp xl xc], .agg #[.int .u64 y1, .slice yp yl yc], s1, s2], a, b, .tuple #[.agg #[.int .u64 x1, .slice xp xl xc], .agg #[.int .u64 y1, .slice yp yl yc], s1, s2], .agg #[.int .u64 x1, .slice xp xl xc], .agg #[.int .u64 y1, .slice yp yl yc], s1, s2, .tuple #[.agg #[.int .u64 qa, .slice qp ql qc], .agg #[.int .u64 ra, .slice rp rl rc], .bool true], .agg #[.int .u64 x1, .slice xp xl xc], .agg #[.int .u64 y1, .slice yp yl yc], .tuple #[.agg #[.int .u64 qa, .slice qp ql qc], .agg #[.int .u64 ra, .slice rp rl rc], .bool true], .agg #[.int .u64 qa, .slice qp ql qc], .agg #[.int .u64 ra, .slice rp rl rc], .bool true, .bool true, .bool false, undef, undef, undef, undef, undef, undef, .tuple #[.agg #[.int .u64 za, .slice zp zl zc], .agg #[.int .u64 sa, .slice sp sl sc], .bool true], .agg #[.int .u64 x1, .slice xp xl xc], .agg #[.int .u64 y1, .slice yp yl yc], .agg #[.int .u64 va, .slice vp vl vc], .agg #[.int .u64 y1, .slice yp yl yc], .tuple #[.agg #[.int .u64 za, .slice zp zl zc], .agg #[.int .u64 sa, .slice sp sl sc], .bool true], .agg #[.int .u64 za, .slice zp zl zc], undef, .bool true, undef, undef, undef, undef, undef, undef, undef, undef, undef, undef, undef, undef, undef, undef, undef, undef, undef, undef, undef, undef, undef, undef, undef, undef, undef, undef, undef, undef, undef, undef, undef], defers := [] } W := by
      intro W acc va vp vl vc hv za zp zl zc sa sp sl sc hz hs
      rw [← hR]
      have c00 := (u0.below acc l0).c0
      have c01 := (u0.below acc l0).c1
      have c10 := (u1.below acc l1).c0
      have c11 := (u1.below acc l1).c1
      refine wpAnyIn_ready (rs := [7, 9, 10]) (by kernel_rfl) (by simp) ?_
      refine AllReadyIn.cons rfl (fun K hK => ?_) ?_
      · go_simp
        refine hK _ _ ?_
        have h := H11111111100000 W acc va vp vl vc hv za zp zl zc sa sp sl sc hz hs
        rw [← hR] at h
        exact h
      refine AllReadyIn.cons rfl (fun K hK => ?_) ?_
      · go_simp
        refine hK _ _ ?_
        have h := H11111110110000 (W.alloc (.cells #[.int .u64 0, .slice none 0 0] 25)) (acc.alloc acc.size _) va vp vl vc (hv.below ((Below.refl _ W).alloc (Nat.le_refl _) _)) za zp zl zc sa sp sl sc (hz.below ((Below.refl _ W).alloc (Nat.le_refl _) _)) (hs.below ((Below.refl _ W).alloc (Nat.le_refl _) _)) W.heap.size (Var.new W W.heap.size _ _ _ _ rfl) acc.size
        rw [← hR] at h
        exact h
      refine AllReadyIn.cons rfl (fun K hK => ?_) ?_
      · go_simp
        refine hK _ _ ?_
        have h := H11111110101000 (W.alloc (.cells #[.int .u64 0, .slice none 0 0] 25)) (acc.alloc acc.size _) va vp vl vc (hv.below ((Below.refl _ W).alloc (Nat.le_refl _) _)) za zp zl zc sa sp sl sc (hz.below ((Below.refl _ W).alloc (Nat.le_refl _) _)) (hs.below ((Below.refl _ W).alloc (Nat.le_refl _) _)) W.heap.size (Var.new W W.heap.size _ _ _ _ rfl) acc.size
        rw [← hR] at h
        exact h
      exact AllReadyIn.nil
    have H11111110011100 : ∀ (W : World) (acc : Below w4.heap.size w4 W) (va : Int) (vp : Option Addr) (vl vc : Nat) (hv : IsNat W (.agg #[.int .u64 va, .slice vp vl vc]) (X * Y)) (za : Int) (zp : Option Addr) (zl zc : Nat) (sa : Int) (sp : Option Addr) (sl sc : Nat) (hz : IsNat W (.agg #[.int .u64 za, .slice zp zl zc]) X) (hs : IsNat W (.agg #[.int .u64 sa, .slice sp sl sc]) 0) (c : Nat) (hc : Var W c (.int .u64 za) (.slice zp zl zc)) (hcn : w4.heap.size ≤ c) (d : Nat) (hd : Var W d (.int .u64 0) (.slice none 0 0)) (hdn : w4.heap.size ≤ d) (hcd : c ≠ d), R 4 #[true, true, true, true, true, true, true, false, false, true, true, true, false, false] { tmps := #[a, b, undef, undef, .bool false, .pointer (some ⟨w1.heap.size, 0, none⟩), .pointer (some ⟨w1.heap.size + 1, 0, none⟩), s1, s2, .pointer (some ⟨w3.heap.size, 0, none⟩), .pointer (some ⟨w3.heap.size + 1, 0, none⟩), .bool true, .pointer (some ⟨c, 0, none⟩), .pointer (some ⟨d, 0, none⟩), undef, .tuple #[.agg #[.int .u64 x1, .slice xp xl xc], .agg #[.int .u64 y1, .slice yp yl yc], s1, s2], a, b, .tuple #[.agg #[.int .u64 x1, .slice xp xl xc], .agg #[.int .u64 y1, .slice yp yl yc], s1, s2], .agg #[.int .u64 x1, .slice xp xl xc], .agg #[.int .u64 y1, .slice yp yl yc], s1, s2, .tuple #[.agg #[.int .u64 qa, .slice qp ql qc], .agg #[.int .u64 ra, .slice rp rl rc], .bool true], .agg #[.int .u64 x1, .slice xp xl xc], .agg #[.int .u64 y1, .slice yp yl yc], .tuple #[.agg #[.int .u64 qa, .slice qp ql qc], .agg #[.int .u64 ra, .slice rp rl rc], .bool true], .agg #[.int .u64 qa, .slice qp ql qc], .agg #[.int .u64 ra, .slice rp rl rc], .bool true, .bool true, .bool false, undef, undef, undef, undef, undef, undef, .tuple #[.agg #[.int .u64 za, .slice zp zl zc], .agg #[.int .u64 sa, .slice sp sl sc], .bool true], .agg #[.int .u64 x1, .slice xp xl xc], .agg #[.int .u64 y1, .slice yp yl yc], .agg #[.int .u64 va, .slice vp vl vc], .agg #[.int .u64 y1, .slice yp yl yc], .tuple #[.agg #[.int .u64 za, .slice zp zl zc], .agg #[.int .u64 sa, .slice sp sl sc], .bool true], .agg #[.int .u64 za, .slice zp zl zc], undef, undef, undef, undef, undef, undef, undef, undef, undef, undef, undef, undef, undef, undef, undef, undef, undef, undef, undef, undef, undef, undef, undef, undef, undef, undef, undef, undef, undef, undef, undef, undef, undef], defers := [] } W := by
      intro W acc va vp vl vc hv za zp zl zc sa sp sl sc hz hs c hc hcn d hd hdn hcd
      rw [← hR]
      have c00 := (u0.below acc l0).c0
      have c01 := (u0.below acc l0).c1
      have c10 := (u1.below acc l1).c0
      have c11 := (u1.below acc l1).c1
      have kc0 := hc.c0
      have kc1 := hc.c1
      have fc0 := hc.free 0
      have fc1 := hc.free 1
      have kd0 := hd.c0
      have kd1 := hd.c1
      have fd0 := hd.free 0
      have fd1 := hd.free 1
      refine wpAnyIn_ready (rs := [7, 8]) (by kernel_rfl) (by simp) ?_
      refine AllReadyIn.cons rfl (fun K hK => ?_) ?_
      · go_simp
        refine hK _ _ ?_
        have h := H11111111011100 W acc va vp vl vc hv za zp zl zc sa sp sl sc hz hs c hc hcn d hd hdn hcd
        rw [← hR] at h
        exact h
      refine AllReadyIn.cons rfl (fun K hK => ?_) ?_
      · go_simp
        refine hK _ _ ?_
        have h := H11111110111100 W acc va vp vl vc hv za zp zl zc sa sp sl sc hz hs c hc hcn d hd hdn hcd
        rw [← hR] at h
        exact h
      exact AllReadyIn.nil
    have H11111110011000 : ∀ (W : World) (acc : Below w4.heap.size w4 W) (va : Int) (vp : Option Addr) (vl vc : Nat) (hv : IsNat W (.agg #[.int .u64 va, .slice vp vl vc]) (X * Y)) (za : Int) (zp : Option Addr) (zl zc : Nat) (sa : Int) (sp : Option Addr) (sl sc : Nat) (hz : IsNat W (.agg #[.int .u64 za, .slice zp zl zc]) X) (hs : IsNat W (.agg #[.int .u64 sa, .slice sp sl sc]) 0) (c : Nat) (hc : Var W c (.int .u64 0) (.slice none 0 0)) (hcn : w4.heap.size ≤ c) (d : Nat) (hd : Var W d (.int .u64 0) (.slice none 0 0)) (hdn : w4.heap.size ≤ d) (hcd : c ≠ d), R 5 #[true, true, true, true, true, true, true, false, false, true, true, false, false, false] { tmps := #[a, b, undef, undef, .bool false, .pointer (some ⟨w1.heap.size, 0, none⟩), .pointer (some ⟨w1.heap.size + 1, 0, none⟩), s1, s2, .pointer (some ⟨w3.heap.size, 0, none⟩), .pointer (some ⟨w3.heap.size + 1, 0, none⟩), .bool true, .pointer (some ⟨c, 0, none⟩), .pointer (some ⟨d, 0, none⟩), undef, .tuple #[.agg #[.int .u64 x1, .slice xp xl xc], .agg #[.int .u64 y1, .slice yp yl yc], s1, s2], a, b, .tuple #[.agg #[.int .u64 x1, .slice xp xl xc], .agg #[.int .u64 y1, .slice yp yl yc], s1, s2], .agg #[.int .u64 x1, .slice xp xl xc], .agg #[.int .u64 y1, .slice yp yl yc], s1, s2, .tuple #[.agg #[.int .u64 qa, .slice qp ql qc], .agg #[.int .u64 ra, .slice rp rl rc], .bool true], .agg #[.int .u64 x1, .slice xp xl xc], .agg #[.int .u64 y1, .slice yp yl yc], .tuple #[.agg #[.int .u64 qa, .slice qp ql qc], .agg #[.int .u64 ra, .slice rp rl rc], .bool true], .agg #[.int .u64 qa, .slice qp ql qc], .agg #[.int .u64 ra, .slice rp rl rc], .bool true, .bool true, .bool false, undef, undef, undef, undef, undef, undef, .tuple #[.agg #[.int .u64 za, .slice zp zl zc], .agg #[.int .u64 sa, .slice sp sl sc], .bool true], .agg #[.int .u64 x1, .slice xp xl xc], .agg #[.int .u64 y1, .slice yp yl yc], .agg #[.int .u64 va, .slice vp vl vc], .agg #[.int .u64 y1, .slice yp yl yc], .tuple #[.agg #[.int .u64 za, .slice zp zl zc], .agg #[.int .u64 sa, .slice sp sl sc], .bool true], .agg #[.int .u64 za, .slice zp zl zc], undef, undef, undef, undef, undef, undef, undef, undef, undef, undef, undef, undef, undef, undef, undef, undef, undef, undef, undef, undef, undef, undef, undef, undef, undef, undef, undef, undef, undef, undef, undef, undef, undef], defers := [] } W := by
      intro W acc va vp vl vc hv za zp zl zc sa sp sl sc hz hs c hc hcn d hd hdn hcd
      rw [← hR]
      have c00 := (u0.below acc l0).c0
      have c01 := (u0.below acc l0).c1
      have c10 := (u1.below acc l1).c0
      have c11 := (u1.below acc l1).c1
      have kc0 := hc.c0
      have kc1 := hc.c1
      have fc0 := hc.free 0
      have fc1 := hc.free 1
      have kd0 := hd.c0
      have kd1 := hd.c1
      have fd0 := hd.free 0
      have fd1 := hd.free 1
      refine wpAnyIn_ready (rs := [7, 8, 11]) (by kernel_rfl) (by simp) ?_
      refine AllReadyIn.cons rfl (fun K hK => ?_) ?_
      · go_simp
        refine hK _ _ ?_
        have h := H11111111011000 W acc va vp vl vc hv za zp zl zc sa sp sl sc hz hs c hc hcn d hd hdn hcd
        rw [← hR] at h
        exact h
      refine AllReadyIn.cons rfl (fun K hK => ?_) ?_
      · go_simp
        refine hK _ _ ?_
        have h := H11111110111000 W acc va vp vl vc hv za zp zl zc sa sp sl sc hz hs c hc hcn d hd hdn hcd
        rw [← hR] at h
        exact h
      refine AllReadyIn.cons rfl (fun K hK => ?_) ?_
      · go_simp
        refine hK _ _ ?_
        have h := H11111110011100 ((W.setCell ⟨c, 0, none⟩ (.int .u64 za)).setCell ⟨c, 1, none⟩ (.slice zp zl zc)) (below_two acc hcn _ _) va vp vl vc (hv.two hc _ _) za zp zl zc sa sp sl sc (hz.two hc _ _) (hs.two hc _ _) c (hc.set (.int .u64 za) zp zl zc) hcn d ((hd.other hcd.symm _).other hcd.symm _) hdn hcd
        rw [← hR] at h
        exact h
      exact AllReadyIn.nil
    have H11111110010000 : ∀ (W : World) (acc : Below w4.heap.size w4 W) (va : Int) (vp : Option Addr) (vl vc : Nat) (hv : IsNat W (.agg #[.int .u64 va, .slice vp vl vc]) (X * Y)) (za : Int) (zp : Option Addr) (zl zc : Nat) (sa : Int) (sp : Option Addr) (sl sc : Nat) (hz : IsNat W (.agg #[.int .u64 za, .slice zp zl zc]) X) (hs : IsNat W (.agg #[.int .u64 sa, .slice sp sl sc]) 0) (c : Nat) (hc : Var W c (.int .u64 0) (.slice none 0 0)) (hcn : w4.heap.size ≤ c), R 6 #[true, true, true, true, true, true, true, false, false, true, false, false, false, false] { tmps := #[a, b, undef, undef, .bool false, .pointer (some ⟨w1.heap.size, 0, none⟩), .pointer (some ⟨w1.heap.size + 1, 0, none⟩), s1, s2, .pointer (some ⟨w3.heap.size, 0, none⟩), .pointer (some ⟨w3.heap.size + 1, 0, none⟩), .bool true, .pointer (some ⟨c, 0, none⟩), undef, undef, .tuple #[.agg #[.int .u64 x1, .slice xp xl xc], .agg #[.int .u64 y1, .slice yp yl yc], s1, s2], a, b, .tuple #[.agg #[.int .u64 x1, .slice xp xl xc], .agg #[.int .u64 y1, .slice yp yl yc], s1, s2], .agg #[.int .u64 x1, .slice xp xl xc], .agg #[.int .u64 y1, .slice yp yl yc], s1, s2, .tuple #[.agg #[.int .u64 qa, .slice qp ql qc], .agg #[.int .u64 ra, .slice rp rl rc], .bool true], .agg #[.int .u64 x1, .slice xp xl xc], .agg #[.int .u64 y1, .slice yp yl yc], .tuple #[.agg #[.int .u64 qa, .slice qp ql qc], .agg #[.int .u64 ra, .slice rp rl rc], .bool true], .agg #[.int .u64 qa, .slice qp ql qc], .agg #[.int .u64 ra, .slice rp rl rc], .bool true, .bool true, .bool false, undef, undef, undef, undef, undef, undef, .tuple #[.agg #[.int .u64 za, .slice zp zl zc], .agg #[.int .u64 sa, .slice sp sl sc], .bool true], .agg #[.int .u64 x1, .slice xp xl xc], .agg #[.int .u64 y1, .slice yp yl yc], .agg #[.int .u64 va, .slice vp vl vc], .agg #[.int .u64 y1, .slice yp yl yc], .tuple #[.agg #[.int .u64 za, .slice zp zl zc], .agg #[.int .u64 sa, .slice sp sl sc], .bool true], .agg #[.int .u64 za, .slice zp zl zc], undef, undef, undef, undef, undef, undef, undef, undef, undef, undef, undef, undef, undef, undef, undef, undef, undef, undef, undef, undef, undef, undef, undef, undef, undef, undef, undef, undef, undef, undef, undef, undef, undef], defers := [] } W := by
      intro W acc va vp vl vc hv za zp zl zc sa sp sl sc hz hs c hc hcn
      rw [← hR]
      have c00 := (u0.below acc l0).c0
      have c01 := (u0.below acc l0).c1
      have c10 := (u1.below acc l1).c0
      have c11 := (u1.below acc l1).c1
      have kc0 := hc.c0
      have kc1 := hc.c1
      have fc0 := hc.free 0
      have fc1 := hc.free 1
      refine wpAnyIn_ready (rs := [7, 8, 10]) (by kernel_rfl) (by simp) ?_
      refine AllReadyIn.cons rfl (fun K hK => ?_) ?_
      · go_simp
        refine hK _ _ ?_
        have h := H11111111010000 W acc va vp vl vc hv za zp zl zc sa sp sl sc hz hs c hc hcn
        rw [← hR] at h
        exact h
      refine AllReadyIn.cons rfl (fun K hK => ?_) ?_
      · go_simp
        refine hK _ _ ?_
        have h := H11111110110000 W acc va vp vl vc hv za zp zl zc sa sp sl sc hz hs c hc hcn
        rw [← hR] at h
        exact h
      refine AllReadyIn.cons rfl (fun K hK => ?_) ?_
      · go_simp
        refine hK _ _ ?_
        have h := H11111110011000 (W.alloc (.cells #[.int .u64 0, .slice none 0 0] 25)) (acc.alloc acc.size _) va vp vl vc (hv.below ((Below.refl _ W).alloc (Nat.le_refl _) _)) za zp zl zc sa sp sl sc (hz.below ((Below.refl _ W).alloc (Nat.le_refl _) _)) (hs.below ((Below.refl _ W).alloc (Nat.le_refl _) _)) c (hc.alloc _) hcn W.heap.size (Var.new W W.heap.size _ _ _ _ rfl) acc.size (Nat.ne_of_lt hc.lt)
        rw [← hR] at h
        exact h
      exact AllReadyIn.nil
    have H11111110001000 : ∀ (W : World) (acc : Below w4.heap.size w4 W) (va : Int) (vp : Option Addr) (vl vc : Nat) (hv : IsNat W (.agg #[.int .u64 va, .slice vp vl vc]) (X * Y)) (za : Int) (zp : Option Addr) (zl zc : Nat) (sa : Int) (sp : Option Addr) (sl sc : Nat) (hz : IsNat W (.agg #[.int .u64 za, .slice zp zl zc]) X) (hs : IsNat W (.agg #[.int .u64 sa, .slice sp sl sc]) 0) (d : Nat) (hd : Var W d (.int .u64 0) (.slice none 0 0)) (hdn : w4.heap.size ≤ d), R 6 #[true, true, true, true, true, true, true, false, false, false, true, false, false, false] { tmps := #[a, b, undef, undef, .bool false, .pointer (some ⟨w1.heap.size, 0, none⟩), .pointer (some ⟨w1.heap.size + 1, 0, none⟩), s1, s2, .pointer (some ⟨w3.heap.size, 0, none⟩), .pointer (some ⟨w3.heap.size + 1, 0, none⟩), .bool true, undef, .pointer (some ⟨d, 0, none⟩), undef, .tuple #[.agg #[.int .u64 x1, .slice xp xl xc], .agg #[.int .u64 y1, .slice yp yl yc], s1, s2], a, b, .tuple #[.agg #[.int .u64 x1, .slice xp xl xc], .agg #[.int .u64 y1, .slice yp yl yc], s1, s2], .agg #[.int .u64 x1, .slice xp xl xc], .agg #[.int .u64 y1, .slice yp yl yc], s1, s2, .tuple #[.agg #[.int .u64 qa, .slice qp ql qc], .agg #[.int .u64 ra, .slice rp rl rc], .bool true], .agg #[.int .u64 x1, .slice xp xl xc], .agg #[.int .u64 y1, .slice yp yl yc], .tuple #[.agg #[.int .u64 qa, .slice qp ql qc], .agg #[.int .u64 ra, .slice rp rl rc], .bool true], .agg #[.int .u64 qa, .slice qp ql qc], .agg #[.int .u64 ra, .slice rp rl rc], .bool true, .bool true, .bool false, undef, undef, undef, undef, undef, undef, .tuple #[.agg #[.int .u64 za, .slice zp zl zc], .agg #[.int .u64 sa, .slice sp sl sc], .bool true], .agg #[.int .u64 x1, .slice xp xl xc], .agg #[.int .u64 y1, .slice yp yl yc], .agg #[.int .u64 va, .slice vp vl vc], .agg #[.int .u64 y1, .slice yp yl yc], .tuple #[.agg #[.int .u64 za, .slice zp zl zc], .agg #[.int .u64 sa, .slice sp sl sc], .bool true], .agg #[.int .u64 za, .slice zp zl zc], undef, undef, undef, undef, undef, undef, undef, undef, undef, undef, undef, undef, undef, undef, undef, undef, undef, undef, undef, undef, undef, undef, undef, undef, undef, undef, undef, undef, undef, undef, undef, undef, undef], defers := [] } W := by
      intro W acc va vp vl vc hv za zp zl zc sa sp sl sc hz hs d hd hdn
      rw [← hR]
      have c00 := (u0.below acc l0).c0
      have c01 := (u0.below acc l0).c1
      have c10 := (u1.below acc l1).c0
      have c11 := (u1.below acc l1).c1
      have kd0 := hd.c0
      have kd1 := hd.c1
      have fd0 := hd.free 0
      have fd1 := hd.free 1
      refine wpAnyIn_ready (rs := [7, 8, 9]) (by kernel_rfl) (by simp) ?_
      refine AllReadyIn.cons rfl (fun K hK => ?_) ?_
      · go_simp
        refine hK _ _ ?_
        have h := H11111111001000 W acc va vp vl vc hv za zp zl zc sa sp sl sc hz hs d hd hdn
        rw [← hR] at h
        exact h
      refine AllReadyIn.cons rfl (fun K hK => ?_) ?_
      · go_simp
        refine hK _ _ ?_
        have h := H11111110101000 W acc va vp vl vc hv za zp zl zc sa sp sl sc hz hs d hd hdn
        rw [← hR] at h
        exact h
      refine AllReadyIn.cons rfl (fun K hK => ?_) ?_
      · go_simp
        refine hK _ _ ?_
        have h := H11111110011000 (W.alloc (.cells #[.int .u64 0, .slice none 0 0] 25)) (acc.alloc acc.size _) va vp vl vc (hv.below ((Below.refl _ W).alloc (Nat.le_refl _) _)) za zp zl zc sa sp sl sc (hz.below ((Below.refl _ W).alloc (Nat.le_refl _) _)) (hs.below ((Below.refl _ W).alloc (Nat.le_refl _) _)) W.heap.size (Var.new W W.heap.size _ _ _ _ rfl) acc.size d (hd.alloc _) hdn (Nat.ne_of_gt hd.lt)
        rw [← hR] at h
        exact h
      exact AllReadyIn.nil
    have H11111110000000 : ∀ (W : World) (acc : Below w4.heap.size w4 W) (va : Int) (vp : Option Addr) (vl vc : Nat) (hv : IsNat W (.agg #[.int .u64 va, .slice vp vl vc]) (X * Y)) (za : Int) (zp : Option Addr) (zl zc : Nat) (sa : Int) (sp : Option Addr) (sl sc : Nat) (hz : IsNat W (.agg #[.int .u64 za, .slice zp zl zc]) X) (hs : IsNat W (.agg #[.int .u64 sa, .slice sp sl sc]) 0), R 7 #[true, true, true, true, true, true, true, false, false, false, false, false, false, false] { tmps := #[a, b, undef, undef, .bool false, .pointer (some ⟨w1.heap.size, 0, none⟩), .pointer (some ⟨w1.heap.size + 1, 0, none⟩), s1, s2, .pointer (some ⟨w3.heap.size, 0, none⟩), .pointer (some ⟨w3.heap.size + 1, 0, none⟩), .bool true, undef, undef, undef, .tuple #[.agg #[.int .u64 x1, .slice xp xl xc], .agg #[.int .u64 y1, .slice yp yl yc], s1, s2], a, b, .tuple #[.agg #[.int .u64 x1, .slice xp xl xc], .agg #[.int .u64 y1, .slice yp yl yc], s1, s2], .agg #[.int .u64 x1, .slice xp xl xc], .agg #[.int .u64 y1, .slice yp yl yc], s1, s2, .tuple #[.agg #[.int .u64 qa, .slice qp ql qc], .agg #[.int .u64 ra, .slice rp rl rc], .bool true], .agg #[.int .u64 x1, .slice xp xl xc], .agg #[.int .u64 y1, .slice yp yl yc], .tuple #[.agg #[.int .u64 qa, .slice qp ql qc], .agg #[.int .u64 ra, .slice rp rl rc], .bool true], .agg #[.int .u64 qa, .slice qp ql qc], .agg #[.int .u64 ra, .slice rp rl rc], .bool true, .bool true, .bool false, undef, undef, undef, undef, undef, undef, .tuple #[.agg #[.int .u64 za, .slice zp zl zc], .agg #[.int .u64 sa, .slice sp sl sc], .bool true], .agg #[.int .u64 x1, .slice xp xl xc], .agg #[.int .u64 y1, .slice yp yl yc], .agg #[.int .u64 va, .slice vp vl vc], .agg #[.int .u64 y1, .slice yp yl yc], .tuple #[.agg #[.int .u64 za, .slice zp zl zc], .agg #[.int .u64 sa, .slice sp sl sc], .bool true], .agg #[.int .u64 za, .slice zp zl zc], undef, undef, undef, undef, undef, undef, undef, undef, undef, undef, undef, undef, undef, undef, undef, undef, undef, undef, undef, undef, undef, undef, undef, undef, undef, undef, undef, undef, undef, undef, undef, undef, undef], defers := [] } W := by
      intro W acc va vp vl vc hv za zp zl zc sa sp sl sc hz hs
      rw [← hR]
      have c00 := (u0.below acc l0).c0
      have c01 := (u0.below acc l0).c1
      have c10 := (u1.below acc l1).c0
      have c11 := (u1.below acc l1).c1
      refine wpAnyIn_ready (rs := [7, 8, 9, 10]) (by kernel_rfl) (by simp) ?_
      refine AllReadyIn.cons rfl (fun K hK => ?_) ?_
      · go_simp
        refine hK _ _ ?_
        have h := H11111111000000 W acc va vp vl vc hv za zp zl zc sa sp sl sc hz hs
        rw [← hR] at h
        exact h
      refine AllReadyIn.cons rfl (fun K hK => ?_) ?_
      · go_simp
        refine hK _ _ ?_
        have h := H11111110100000 W acc va vp vl vc hv za zp zl zc sa sp sl sc hz hs
        rw [← hR] at h
        exact h
      refine AllReadyIn.cons rfl (fun K hK => ?_) ?_
      · go_simp
        refine hK _ _ ?_
        have h := H11111110010000 (W.alloc (.cells #[.int .u64 0, .slice none 0 0] 25)) (acc.alloc acc.size _) va vp vl vc (hv.below ((Below.refl _ W).alloc (Nat.le_refl _) _)) za zp zl zc sa sp sl sc (hz.below ((Below.refl _ W).alloc (Nat.le_refl _) _)) (hs.below ((Below.refl _ W).alloc (Nat.le_refl _) _)) W.heap.size (Var.new W W.heap.size _ _ _ _ rfl) acc.size
        rw [← hR] at h
        exact h
      refine AllReadyIn.cons rfl (fun K hK => ?_) ?_
      · go_simp
        refine hK _ _ ?_
        have h := H11111110001000 (W.alloc (.cells #[.int .u64 0, .slice none 0 0] 25)) (acc.alloc acc.size _) va vp vl vc (hv.below ((Below.refl _ W).alloc (Nat.le_refl _) _)) za zp zl zc sa sp sl sc (hz.below ((Below.refl _ W).alloc (Nat.le_refl _) _)) (hs.below ((Below.refl _ W).alloc (Nat.le_refl _) _)) W.heap.size (Var.new W W.heap.size _ _ _ _ rfl) acc.size
        rw [← hR] at h
        exact h
      exact AllReadyIn.nil
    have H11111101111000 : ∀ (W : World) (acc : Below w4.heap.size w4 W) (va : Int) (vp : Option Addr) (vl vc : Nat) (hv : IsNat W (.agg #[.int .u64 va, .slice vp vl vc]) (X * Y)) (za : Int) (zp : Option Addr) (zl zc : Nat) (sa : Int) (sp : Option Addr) (sl sc : Nat) (hz : IsNat W (.agg #[.int .u64 za, .slice zp zl zc]) X) (hs : IsNat W (.agg #[.int .u64 sa, .slice sp sl sc]) 0) (c : Nat) (hc : Var W c (.int .u64 0) (.slice none 0 0)) (hcn : w4.heap.size ≤ c) (d : Nat) (hd : Var W d (.int .u64 0) (.slice none 0 0)) (hdn : w4.heap.size ≤ d) (hcd : c ≠ d), R 4 #[true, true, true, true, true, true, false, true, true, true, true, false, false, false] { tmps := #[a, b, undef, undef, .bool false, .pointer (some ⟨w1.heap.size, 0, none⟩), .pointer (some ⟨w1.heap.size + 1, 0, none⟩), s1, s2, .pointer (some ⟨w3.heap.size, 0, none⟩), .pointer (some ⟨w3.heap.size + 1, 0, none⟩), .bool true, .pointer (some ⟨c, 0, none⟩), .pointer (some ⟨d, 0, none⟩), undef, .tuple #[.agg #[.int .u64 x1, .slice xp xl xc], .agg #[.int .u64 y1, .slice yp yl yc], s1, s2], a, b, .tuple #[.agg #[.int .u64 x1, .slice xp xl xc], .agg #[.int .u64 y1, .slice yp yl yc], s1, s2], .agg #[.int .u64 x1, .slice xp xl xc], .agg #[.int .u64 y1, .slice yp yl yc], s1, s2, .tuple #[.agg #[.int .u64 qa, .slice qp ql qc], .agg #[.int .u64 ra, .slice rp rl rc], .bool true], .agg #[.int .u64 x1, .slice xp xl xc], .agg #[.int .u64 y1, .slice yp yl yc], .tuple #[.agg #[.int .u64 qa, .slice qp ql qc], .agg #[.int .u64 ra, .slice rp rl rc], .bool true], .agg #[.int .u64 qa, .slice qp ql qc], .agg #[.int .u64 ra, .slice rp rl rc], .bool true, .bool true, .bool false, undef, undef, undef, undef, undef, undef, .tuple #[.agg #[.int .u64 za, .slice zp zl zc], .agg #[.int .u64 sa, .slice sp sl sc], .bool true], .agg #[.int .u64 x1, .slice xp xl xc], .agg #[.int .u64 y1, .slice yp yl yc], .agg #[.int .u64 va, .slice vp vl vc], .agg #[.int .u64 y1, .slice yp yl yc], .tuple #[.agg #[.int .u64 za, .slice zp zl zc], .agg #[.int .u64 sa, .slice sp sl sc], .bool true], undef, .agg #[.int .u64 sa, .slice sp sl sc], .bool true, undef, undef, undef, undef, undef, undef, undef, undef, undef, undef, undef, undef, undef, undef, undef, undef, undef, undef, undef, undef, undef, undef, undef, undef, undef, undef, undef, undef, undef, undef, undef], defers := [] } W := by
      intro W acc va vp vl vc hv za zp zl zc sa sp sl sc hz hs c hc hcn d hd hdn hcd
      rw [← hR]
      have c00 := (u0.below acc l0).c0
      have c01 := (u0.below acc l0).c1
      have c10 := (u1.below acc l1).c0
      have c11 := (u1.below acc l1).c1
      have kc0 := hc.c0
      have kc1 := hc.c1
      have fc0 := hc.free 0
      have fc1 := hc.free 1
      have kd0 := hd.c0
      have kd1 := hd.c1
      have fd0 := hd.free 0
      have fd1 := hd.free 1
      refine wpAnyIn_ready (rs := [6]) (by kernel_rfl) (by simp) ?_
      refine AllReadyIn.cons rfl (fun K hK => ?_) ?_
      · go_simp
        refine hK _ _ ?_
        have h := H11111111111000 W acc va vp vl vc hv za zp zl zc sa sp sl sc hz hs c hc hcn d hd hdn hcd
        rw [← hR] at h
        exact h
      exact AllReadyIn.nil
    have H11111101110000 : ∀ (W : World) (acc : Below w4.heap.size w4 W) (va : Int) (vp : Option Addr) (vl vc : Nat) (hv : IsNat W (.agg #[.int .u64 va, .slice vp vl vc]) (X * Y)) (za : Int) (zp : Option Addr) (zl zc : Nat) (sa : Int) (sp : Option Addr) (sl sc : Nat) (hz : IsNat W (.agg #[.int .u64 za, .slice zp zl zc]) X) (hs : IsNat W (.agg #[.int .u64 sa, .slice sp sl sc]) 0) (c : Nat) (hc : Var W c (.int .u64 0) (.slice none 0 0)) (hcn : w4.heap.size ≤ c), R 5 #[true, true, true, true, true, true, false, true, true, true, false, false, false, false] { tmps := #[a, b, undef, undef, .bool false, .pointer (some ⟨w1.heap.size, 0, none⟩), .pointer (some ⟨w1.heap.size + 1, 0, none⟩), s1, s2, .pointer (some ⟨w3.heap.size, 0, none⟩), .pointer (some ⟨w3.heap.size + 1, 0, none⟩), .bool true, .pointer (some ⟨c, 0, none⟩), undef, undef, .tuple #[.agg #[.int .u64 x1, .slice xp xl xc], .agg #[.int .u64 y1, .slice yp yl yc], s1, s2], a, b, .tuple #[.agg #[.int .u64 x1, .slice xp xl xc], .agg #[.int .u64 y1, .slice yp yl yc], s1, s2], .agg #[.int .u64 x1, .slice xp xl xc], .agg #[.int .u64 y1, .slice yp yl yc], s1, s2, .tuple #[.agg #[.int .u64 qa, .slice qp ql qc], .agg #[.int .u64 ra, .slice rp rl rc], .bool true], .agg #[.int .u64 x1, .slice xp xl xc], .agg #[.int .u64 y1, .slice yp yl yc], .tuple #[.agg #[.int .u64 qa, .slice qp ql qc], .agg #[.int .u64 ra, .slice rp rl rc], .bool true], .agg #[.int .u64 qa, .slice qp ql qc], .agg #[.int .u64 ra, .slice rp rl rc], .bool true, .bool true, .bool false, undef, undef, undef, undef, undef, undef, .tuple #[.agg #[.int .u64 za, .slice zp zl zc], .agg #[.int .u64 sa, .slice sp sl sc], .bool true], .agg #[.int .u64 x1, .slice xp xl xc], .agg #[.int .u64 y1, .slice yp yl yc], .agg #[.int .u64 va, .slice vp vl vc], .agg #[.int .u64 y1, .slice yp yl yc], .tuple #[.agg #[.int .u64 za, .slice zp zl zc], .agg #[.int .u64 sa, .slice sp sl sc], .bool true], undef, .agg #[.int .u64 sa, .slice sp sl sc], .bool true, undef, undef, undef, undef, undef, undef, undef, undef, undef, undef, undef, undef, undef, undef, undef, undef, undef, undef, undef, undef, undef, undef, undef, undef, undef, undef, undef, undef, undef, undef, undef], defers := [] } W := by
      intro W acc va vp vl vc hv za zp zl zc sa sp sl sc hz hs c hc hcn
      rw [← hR]
      have c00 := (u0.below acc l0).c0
      have c01 := (u0.below acc l0).c1
      have c10 := (u1.below acc l1).c0
      have c11 := (u1.below acc l1).c1
      have kc0 := hc.c0
      have kc1 := hc.c1
      have fc0 := hc.free 0
      have fc1 := hc.free 1
      refine wpAnyIn_ready (rs := [6, 10]) (by kernel_rfl) (by simp) ?_
      refine AllReadyIn.cons rfl (fun K hK => ?_) ?_
      · go_simp
        refine hK _ _ ?_
        have h := H11111111110000 W acc va vp vl vc hv za zp zl zc sa sp sl sc hz hs c hc hcn
        rw [← hR] at h
        exact h
      refine AllReadyIn.cons rfl (fun K hK => ?_) ?_
      · go_simp
        refine hK _ _ ?_
        have h := H11111101111000 (W.alloc (.cells #[.int .u64 0, .slice none 0 0] 25)) (acc.alloc acc.size _) va vp vl vc (hv.below ((Below.refl _ W).alloc (Nat.le_refl _) _)) za zp zl zc sa sp sl sc (hz.below ((Below.refl _ W).alloc (Nat.le_refl _) _)) (hs.below ((Below.refl _ W).alloc (Nat.le_refl _) _)) c (hc.alloc _) hcn W.heap.size (Var.new W W.heap.size _ _ _ _ rfl) acc.size (Nat.ne_of_lt hc.lt)
        rw [← hR] at h
        exact h
      exact AllReadyIn.nil
    have H11111101101000 : ∀ (W : World) (acc : Below w4.heap.size w4 W) (va : Int) (vp : Option Addr) (vl vc : Nat) (hv : IsNat W (.agg #[.int .u64 va, .slice vp vl vc]) (X * Y)) (za : Int) (zp : Option Addr) (zl zc : Nat) (sa : Int) (sp : Option Addr) (sl sc : Nat) (hz : IsNat W (.agg #[.int .u64 za, .slice zp zl zc]) X) (hs : IsNat W (.agg #[.int .u64 sa, .slice sp sl sc]) 0) (d : Nat) (hd : Var W d (.int .u64 0) (.slice none 0 0)) (hdn : w4.heap.size ≤ d), R 5 #[true, true, true, true, true, true, false, true, true, false, true, false, false, false] { tmps := #[a, b, undef, undef, .bool false, .pointer (some ⟨w1.heap.size, 0, none⟩), .pointer (some ⟨w1.heap.size + 1, 0, none⟩), s1, s2, .pointer (some ⟨w3.heap.size, 0, none⟩), .pointer (some ⟨w3.heap.size + 1, 0, none⟩), .bool true, undef, .pointer (some ⟨d, 0, none⟩), undef, .tuple #[.agg #[.int .u64 x1, .slice xp xl xc], .agg #[.int .u64 y1, .slice yp yl yc], s1, s2], a, b, .tuple #[.agg #[.int .u64 x1, .slice xp xl xc], .agg #[.int .u64 y1, .slice yp yl yc], s1, s2], .agg #[.int .u64 x1, .slice xp xl xc], .agg #[.int .u64 y1, .slice yp yl yc], s1, s2, .tuple #[.agg #[.int .u64 qa, .slice qp ql qc], .agg #[.int .u64 ra, .slice rp rl rc], .bool true], .agg #[.int .u64 x1, .slice xp xl xc], .agg #[.int .u64 y1, .slice yp yl yc], .tuple #[.agg #[.int .u64 qa, .slice qp ql qc], .agg #[.int .u64 ra, .slice rp rl rc], .bool true], .agg #[.int .u64 qa, .slice qp ql qc], .agg #[.int .u64 ra, .slice rp rl rc], .bool true, .bool true, .bool false, undef, undef, undef, undef, undef, undef, .tuple #[.agg #[.int .u64 za, .slice zp zl zc], .agg #[.int .u64 sa, .slice sp sl sc], .bool true], .agg #[.int .u64 x1, .slice xp xl xc], .agg #[.int .u64 y1, .slice yp yl yc], .agg #[.int .u64 va, .slice vp vl vc], .agg #[.int .u64 y1, .slice yp yl yc], .tuple #[.agg #[.int .u64 za, .slice zp zl zc], .agg #[.int .u64 sa, .slice sp sl sc], .bool true], undef, .agg #[.int .u64 sa, .slice sp sl sc], .bool true, undef, undef, undef, undef, undef, undef, undef, undef, undef, undef, undef, undef, undef, undef, undef, undef, undef, undef, undef, undef, undef, undef, undef, undef, undef, undef, undef, undef, undef, undef, undef], defers := [] } W := by
      intro W acc va vp vl vc hv za zp zl zc sa sp sl sc hz hs d hd hdn
      rw [← hR]
      have c00 := (u0.below acc l0).c0
      have c01 := (u0.below acc l0).c1
      have c10 := (u1.below acc l1).c0
      have c11 := (u1.below acc l1).c1
      have kd0 := hd.c0
      have kd1 := hd.c1
      have fd0 := hd.free 0
      have fd1 := hd.free 1
      refine wpAnyIn_ready (rs := [6, 9]) (by kernel_rfl) (by simp) ?_
      refine AllReadyIn.cons rfl (fun K hK => ?_) ?_
      · go_simp
        refine hK _ _ ?_
        have h := H11111111101000 W acc va vp vl vc hv za zp zl zc sa sp sl sc hz hs d hd hdn
        rw [← hR] at h
        exact h
      refine AllReadyIn.cons rfl (fun K hK => ?_) ?_
      · go_simp
        refine hK _ _ ?_
        have h := H11111101111000 (W.alloc (.cells #[.int .u64 0, .slice none 0 0] 25)) (acc.alloc acc.size _) va vp vl vc (hv.below ((Below.refl _ W).alloc (Nat.le_refl _) _)) za zp zl zc sa sp sl sc (hz.below ((Below.refl _ W).alloc (Nat.le_refl _) _)) (hs.below ((Below.refl _ W).alloc (Nat.le_refl _) _)) W.heap.size (Var.new W W.heap.size _ _ _ _ rfl) acc.size d (hd.alloc _) hdn (Nat.ne_of_gt hd.lt)
        rw [← hR] at h
        exact h
      exact AllReadyIn.nil
    have H11111101100000 : ∀ (W : World) (acc : Below w4.heap.size w4 W) (va : Int) (vp : Option Addr) (vl vc : Nat) (hv : IsNat W (.agg #[.int .u64 va, .slice vp vl vc]) (X * Y)) (za : Int) (zp : Option Addr) (zl zc : Nat) (sa : Int) (sp : Option Addr) (sl sc : Nat) (hz : IsNat W (.agg #[.int .u64 za, .slice zp zl zc]) X) (hs : IsNat W (.agg #[.int .u64 sa, .slice sp sl sc]) 0), R 6 #[true, true, true, true, true, true, false, true, true, false, false, false, false, false] { tmps := #[a, b, undef, undef, .bool false, .pointer (some ⟨w1.heap.size, 0, none⟩), .pointer (some ⟨w1.heap.size + 1, 0, none⟩), s1, s2, .pointer (some ⟨w3.heap.size, 0, none⟩), .pointer (some ⟨w3.heap.size + 1, 0, none⟩), .bool true, undef, undef, undef, .tuple #[.agg #[.int .u64 x1, .slice xp xl xc], .agg #[.int .u64 y1, .slice yp yl yc], s1, s2], a, b, .tuple #[.agg #[.int .u64 x1, .slice xp xl xc], .agg #[.int .u64 y1, .slice yp yl yc], s1, s2], .agg #[.int .u64 x1, .slice xp xl xc], .agg #[.int .u64 y1, .slice yp yl yc], s1, s2, .tuple #[.agg #[.int .u64 qa, .slice qp ql qc], .agg #[.int .u64 ra, .slice rp rl rc], .bool true], .agg #[.int .u64 x1, .slice xp xl xc], .agg #[.int .u64 y1, .slice yp yl yc], .tuple #[.agg #[.int .u64 qa, .slice qp ql qc], .agg #[.int .u64 ra, .slice rp rl rc], .bool true], .agg #[.int .u64 qa, .slice qp ql qc], .agg #[.int .u64 ra, .slice rp rl rc], .bool true, .bool true, .bool false, undef, undef, undef, undef, undef, undef, .tuple #[.agg #[.int .u64 za, .slice zp zl zc], .agg #[.int .u64 sa, .slice sp sl sc], .bool true], .agg #[.int .u64 x1, .slice xp xl xc], .agg #[.int .u64 y1, .slice yp yl yc], .agg #[.int .u64 va, .slice vp vl vc], .agg #[.int .u64 y1, .slice yp yl yc], .tuple #[.agg #[.int .u64 za, .slice zp zl zc], .agg #[.int .u64 sa, .slice sp sl sc], .bool true], undef, .agg #[.int .u64 sa, .slice sp sl sc], .bool true, undef, undef, undef, undef, undef, undef, undef, undef, undef, undef, undef, undef, undef, undef, undef, undef, undef, undef, undef, undef, undef, undef, undef, undef, undef, undef, undef, undef, undef, undef, undef], defers := [] } W := by
      intro W acc va vp vl vc hv za zp zl zc sa sp sl sc hz hs
      rw [← hR]
      have c00 := (u0.below acc l0).c0
      have c01 := (u0.below acc l0).c1
      have c10 := (u1.below acc l1).c0
      have c11 := (u1.below acc l1).c1
      refine wpAnyIn_ready (rs := [6, 9, 10]) (by kernel_rfl) (by simp) ?_
      refine AllReadyIn.cons rfl (fun K hK => ?_) ?_
      · go_simp
        refine hK _ _ ?_
        have h := H11111111100000 W acc va vp vl vc hv za zp zl zc sa sp sl sc hz hs
        rw [← hR] at h
        exact h
      refine AllReadyIn.cons rfl (fun K hK => ?_) ?_
      · go_simp
        refine hK _ _ ?_
        have h := H11111101110000 (W.alloc (.cells #[.int .u64 0, .slice none 0 0] 25)) (acc.alloc acc.size _) va vp vl vc (hv.below ((Below.refl _ W).alloc (Nat.le_refl _) _)) za zp zl zc sa sp sl sc (hz.below ((Below.refl _ W).alloc (Nat.le_refl _) _)) (hs.below ((Below.refl _ W).alloc (Nat.le_refl _) _)) W.heap.size (Var.new W W.heap.size _ _ _ _ rfl) acc.size
        rw [← hR] at h
        exact h
      refine AllReadyIn.cons rfl (fun K hK => ?_) ?_
      · go_simp
        refine hK _ _ ?_
        have h := H11111101101000 (W.alloc (.cells #[.int .u64 0, .slice none 0 0] 25)) (acc.alloc acc.size _) va vp vl vc (hv.below ((Below.refl _ W).alloc (Nat.le_refl _) _)) za zp zl zc sa sp sl sc (hz.below ((Below.refl _ W).alloc (Nat.le_refl _) _)) (hs.below ((Below.refl _ W).alloc (Nat.le_refl _) _)) W.heap.size (Var.new W W.heap.size _ _ _ _ rfl) acc.size
        rw [← hR] at h
        exact h
      exact AllReadyIn.nil
    have H11111101011000 : ∀ (W : World) (acc : Below w4.heap.size w4 W) (va : Int) (vp : Option Addr) (vl vc : Nat) (hv : IsNat W (.agg #[.int .u64 va, .slice vp vl vc]) (X * Y)) (za : Int) (zp : Option Addr) (zl zc : Nat) (sa : Int) (sp : Option Addr) (sl sc : Nat) (hz : IsNat W (.agg #[.int .u64 za, .slice zp zl zc]) X) (hs : IsNat W (.agg #[.int .u64 sa, .slice sp sl sc]) 0) (c : Nat) (hc : Var W c (.int .u64 0) (.slice none 0 0)) (hcn : w4.heap.size ≤ c) (d : Nat) (hd : Var W d (.int .u64 0) (.slice none 0 0)) (hdn : w4.heap.size ≤ d) (hcd : c ≠ d), R 5 #[true, true, true, true, true, true, false, true, false, true, true, false, false, false] { tmps := #[a, b, undef, undef, .bool false, .pointer (some ⟨w1.heap.size, 0, none⟩), .pointer (some ⟨w1.heap.size + 1, 0, none⟩), s1, s2, .pointer (some ⟨w3.heap.size, 0, none⟩), .pointer (some ⟨w3.heap.size + 1, 0, none⟩), .bool true, .pointer (some ⟨c, 0, none⟩), .pointer (some ⟨d, 0, none⟩), undef, .tuple #[.agg #[.int .u64 x1, .slice xp xl xc], .agg #[.int .u64 y1, .slice yp yl yc], s1, s2], a, b, .tuple #[.agg #[.int .u64 x1, .slice xp xl xc], .agg #[.int .u64 y1, .slice yp yl yc], s1, s2], .agg #[.int .u64 x1, .slice xp xl xc], .agg #[.int .u64 y1, .slice yp yl yc], s1, s2, .tuple #[.agg #[.int .u64 qa, .slice qp ql qc], .agg #[.int .u64 ra, .slice rp rl rc], .bool true], .agg #[.int .u64 x1, .slice xp xl xc], .agg #[.int .u64 y1, .slice yp yl yc], .tuple #[.agg #[.int .u64 qa, .slice qp ql qc], .agg #[.int .u64 ra, .slice rp rl rc], .bool true], .agg #[.int .u64 qa, .slice qp ql qc], .agg #[.int .u64 ra, .slice rp rl rc], .bool true, .bool true, .bool false, undef, undef, undef, undef, undef, undef, .tuple #[.agg #[.int .u64 za, .slice zp zl zc], .agg #[.int .u64 sa, .slice sp sl sc], .bool true], .agg #[.int .u64 x1, .slice xp xl xc], .agg #[.int .u64 y1, .slice yp yl yc], .agg #[.int .u64 va, .slice vp vl vc], .agg #[.int .u64 y1, .slice yp yl yc], .tuple #[.agg #[.int .u64 za, .slice zp zl zc], .agg #[.int .u64 sa, .slice sp sl sc], .bool true], undef, .agg #[.int .u64 sa, .slice sp sl sc], undef, undef, undef, undef, undef, undef, undef, undef, undef, undef, undef, undef, undef, undef, undef, undef, undef, undef, undef, undef, undef, undef, undef, undef, undef, undef, undef, undef, undef, undef, undef, undef], defers := [] } W := by
      intro W acc va vp vl vc hv za zp zl zc sa sp sl sc hz hs c hc hcn d hd hdn hcd
      rw [← hR]
      have c00 := (u0.below acc l0).c0
      have c01 := (u0.below acc l0).c1
      have c10 := (u1.below acc l1).c0
      have c11 := (u1.below acc l1).c1
      have kc0 := hc.c0
      have kc1 := hc.c1
      have fc0 := hc.free 0
      have fc1 := hc.free 1
      have kd0 := hd.c0
      have kd1 := hd.c1
      have fd0 := hd.free 0
      have fd1 := hd.free 1
      refine wpAnyIn_ready (rs := [6, 8]) (by kernel_rfl) (by simp) ?_
      refine AllReadyIn.cons rfl (fun K hK => ?_) ?_
      · go_simp
        refine hK _ _ ?_
        have h := H11111111011000 W acc va vp vl vc hv za zp zl zc sa sp sl sc hz hs c hc hcn d hd hdn hcd
        rw [← hR] at h
        exact h
      refine AllReadyIn.cons rfl (fun K hK => ?_) ?_
      · go_simp
        refine hK _ _ ?_
        have h := H11111101111000 W acc va vp vl vc hv za zp zl zc sa sp sl sc hz hs c hc hcn d hd hdn hcd
        rw [← hR] at h
        exact h
      exact AllReadyIn.nil
    have H11111101010000 : ∀ (W : World) (acc : Below w4.heap.size w4 W) (va : Int) (vp : Option Addr) (vl vc : Nat) (hv : IsNat W (.agg #[.int .u64 va, .slice vp vl vc]) (X * Y)) (za : Int) (zp : Option Addr) (zl zc : Nat) (sa : Int) (sp : Option Addr) (sl sc : Nat) (hz : IsNat W (.agg #[.int .u64 za, .slice zp zl zc]) X) (hs : IsNat W (.agg #[.int .u64 sa, .slice sp sl sc]) 0) (c : Nat) (hc : Var W c (.int .u64 0) (.slice none 0 0)) (hcn : w4.heap.size ≤ c), R 6 #[true, true, true, true, true, true, false, true, false, true, false, false, false, false] { tmps := #[a, b, undef, undef, .bool false, .pointer (some ⟨w1.heap.size, 0, none⟩), .pointer (some ⟨w1.heap.size + 1, 0, none⟩), s1, s2, .pointer (some ⟨w3.heap.size, 0, none⟩), .pointer (some ⟨w3.heap.size + 1, 0, none⟩), .bool true, .pointer (some ⟨c, 0, none⟩), undef, undef, .tuple #[.agg #[.int .u64 x1, .slice xp xl xc], .agg #[.int .u64 y1, .slice yp yl yc], s1, s2], a, b, .tuple #[.agg #[.int .u64 x1, .slice xp xl xc], .agg #[.int .u64 y1, .slice yp yl yc], s1, s2], .agg #[.int .u64 x1, .slice xp xl xc], .agg #[.int .u64 y1, .slice yp yl yc], s1, s2, .tuple #[.agg #[.int .u64 qa, .slice qp ql qc], .agg #[.int .u64 ra, .slice rp rl rc], .bool true], .agg #[.int .u64 x1, .slice xp xl xc], .agg #[.int .u64 y1, .slice yp yl yc], .tuple #[.agg #[.int .u64 qa, .slice qp ql qc], .agg #[.int .u64 ra, .slice rp rl rc], .bool true], .agg #[.int .u64 qa, .slice qp ql qc], .agg #[.int .u64 ra, .slice rp rl rc], .bool true, .bool true, .bool false, undef, undef, undef, undef, undef, undef, .tuple #[.agg #[.int .u64 za, .slice zp zl zc], .agg #[.int .u64 sa, .slice sp sl sc], .bool true], .agg #[.int .u64 x1, .slice xp xl xc], .agg #[.int .u64 y1, .slice yp yl yc], .agg #[.int .u64 va, .slice vp vl vc], .agg #[.int .u64 y1, .slice yp yl yc], .tuple #[.agg #[.int .u64 za, .slice zp zl zc], .agg #[.int .u64 sa, .slice sp sl sc], .bool true], undef, .agg #[.int .u64 sa, .slice sp sl sc], undef, undef, undef, undef, undef, undef, undef, undef, undef, undef, undef, undef, undef, undef, undef, undef, undef, undef, undef, undef, undef, undef, undef, undef, undef, undef, undef, undef, undef, undef, undef, undef], defers := [] } W := by
      intro W acc va vp vl vc hv za zp zl zc sa sp sl sc hz hs c hc hcn
      rw [← hR]
      have c00 := (u0.below acc l0).c0
      have c01 := (u0.below acc l0).c1
      have c10 := (u1.below acc l1).c0
      have c11 := (u1.below acc l1).c1
      have kc0 := hc.c0
      have kc1 := hc.c1
      have fc0 := hc.free 0
      have fc1 := hc.free 1
      refine wpAnyIn_ready (rs := [6, 8, 10]) (by kernel_rfl) (by simp) ?_
      refine AllReadyIn.cons rfl (fun K hK => ?_) ?_
      · go_simp
        refine hK _ _ ?_
        have h := H11111111010000 W acc va vp vl vc hv za zp zl zc sa sp sl sc hz hs c hc hcn
        rw [← hR] at h
        exact h
      refine AllReadyIn.cons rfl (fun K hK => ?_) ?_
      · go_simp
        refine hK _ _ ?_
        have h := H11111101110000 W acc va vp vl vc hv za zp zl zc sa sp sl sc hz hs c hc hcn
        rw [← hR] at h
        exact h
      refine AllReadyIn.cons rfl (fun K hK => ?_) ?_
      · go_simp
        refine hK _ _ ?_
        have h := H11111101011000 (W.alloc (.cells #[.int .u64 0, .slice none 0 0] 25)) (acc.alloc acc.size _) va vp vl vc (hv.below ((Below.refl _ W).alloc (Nat.le_refl _) _)) za zp zl zc sa sp sl sc (hz.below ((Below.refl _ W).alloc (Nat.le_refl _) _)) (hs.below ((Below.refl _ W).alloc (Nat.le_refl _) _)) c (hc.alloc _) hcn W.heap.size (Var.new W W.heap.size _ _ _ _ rfl) acc.size (Nat.ne_of_lt hc.lt)
        rw [← hR] at h
        exact h
      exact AllReadyIn.nil
    have H11111101001000 : ∀ (W : World) (acc : Below w4.heap.size w4 W) (va : Int) (vp : Option Addr) (vl vc : Nat) (hv : IsNat W (.agg #[.int .u64 va, .slice vp vl vc]) (X * Y)) (za : Int) (zp : Option Addr) (zl zc : Nat) (sa : Int) (sp : Option Addr) (sl sc : Nat) (hz : IsNat W (.agg #[.int .u64 za, .slice zp zl zc]) X) (hs : IsNat W (.agg #[.int .u64 sa, .slice sp sl sc]) 0) (d : Nat) (hd : Var W d (.int .u64 0) (.slice none 0 0)) (hdn : w4.heap.size ≤ d), R 6 #[true, true, true, true, true, true, false, true, false, false, true, false, false, false] { tmps := #[a, b, undef, undef, .bool false, .pointer (some ⟨w1.heap.size, 0, none⟩), .pointer (some ⟨w1.heap.size + 1, 0, none⟩), s1, s2, .pointer (some ⟨w3.heap.size, 0, none⟩), .pointer (some ⟨w3.heap.size + 1, 0, none⟩), .bool true, undef, .pointer (some ⟨d, 0, none⟩), undef, .tuple #[.agg #[.int .u64 x1, .slice xp xl xc], .agg #[.int .u64 y1, .slice yp yl yc], s1, s2], a, b, .tuple #[.agg #[.int .u64 x1, .slice xp xl xc], .agg #[.int .u64 y1, .slice yp yl yc], s1, s2], .agg #[.int .u64 x1, .slice xp xl xc], .agg #[.int .u64 y1, .slice yp yl yc], s1, s2, .tuple #[.agg #[.int .u64 qa, .slice qp ql qc], .agg #[.int .u64 ra, .slice rp rl rc], .bool true], .agg #[.int .u64 x1, .slice xp xl xc], .agg #[.int .u64 y1, .slice yp yl yc], .tuple #[.agg #[.int .u64 qa, .slice qp ql qc], .agg #[.int .u64 ra, .slice rp rl rc], .bool true], .agg #[.int .u64 qa, .slice qp ql qc], .agg #[.int .u64 ra, .slice rp rl rc], .bool true, .bool true, .bool false, undef, undef, undef, undef, undef, undef, .tuple #[.agg #[.int .u64 za, .slice zp zl zc], .agg #[.int .u64 sa, .slice sp sl sc], .bool true], .agg #[.int .u64 x1, .slice xp xl xc], .agg #[.int .u64 y1, .slice yp yl yc], .agg #[.int .u64 va, .slice vp vl vc], .agg #[.int .u64 y1, .slice yp yl yc], .tuple #[.agg #[.int .u64 za, .slice zp zl zc], .agg #[.int .u64 sa, .slice sp sl sc], .bool true], undef, .agg #[.int .u64 sa, .slice sp sl sc], undef, undef, undef, undef, undef, undef, undef, undef, undef, undef, undef, undef, undef, undef, undef, undef, undef, undef, undef, undef, undef, undef, undef, undef, undef, undef, undef, undef, undef, undef, undef, undef], defers := [] } W := by
      intro W acc va vp vl vc hv za zp zl zc sa sp sl sc hz hs d hd hdn
      rw [← hR]
      have c00 := (u0.below acc l0).c0
      have c01 := (u0.below acc l0).c1
      have c10 := (u1.below acc l1).c0
      have c11 := (u1.below acc l1).c1
      have kd0 := hd.c0
      have kd1 := hd.c1
      have fd0 := hd.free 0
      have fd1 := hd.free 1
      refine wpAnyIn_ready (rs := [6, 8, 9]) (by kernel_rfl) (by simp) ?_
      refine AllReadyIn.cons rfl (fun K hK => ?_) ?_
      · go_simp
        refine hK _ _ ?_
        have h := H11111111001000 W acc va vp vl vc hv za zp zl zc sa sp sl sc hz hs d hd hdn
        rw [← hR] at h
        exact h
      refine AllReadyIn.cons rfl (fun K hK => ?_) ?_
      · go_simp
        refine hK _ _ ?_
        have h := H11111101101000 W acc va vp vl vc hv za zp zl zc sa sp sl sc hz hs d hd hdn
        rw [← hR] at h
        exact h
      refine AllReadyIn.cons rfl (fun K hK => ?_) ?_
      · go_simp
        refine hK _ _ ?_
        have h := H11111101011000 (W.alloc (.cells #[.int .u64 0, .slice none 0 0] 25)) (acc.alloc acc.size _) va vp vl vc (hv.below ((Below.refl _ W).alloc (Nat.le_refl _) _)) za zp zl zc sa sp sl sc (hz.below ((Below.refl _ W).alloc (Nat.le_refl _) _)) (hs.below ((Below.refl _ W).alloc (Nat.le_refl _) _)) W.heap.size (Var.new W W.heap.size _ _ _ _ rfl) acc.size d (hd.alloc _) hdn (Nat.ne_of_gt hd.lt)
        rw [← hR] at h
        exact h
      exact AllReadyIn.nil
    have H11111101000000 : ∀ (W : World) (acc : Below w4.heap.size w4 W) (va : Int) (vp : Option Addr) (vl vc : Nat) (hv : IsNat W (.agg #[.int .u64 va, .slice vp vl vc]) (X * Y)) (za : Int) (zp : Option Addr) (zl zc : Nat) (sa : Int) (sp : Option Addr) (sl sc : Nat) (hz : IsNat W (.agg #[.int .u64 za, .slice zp zl zc]) X) (hs : IsNat W (.agg #[.int .u64 sa, .slice sp sl sc]) 0), R 7 #[true, true, true, true, true, true, false, true, false, false, false, false, false, false] { tmps := #[a, b, undef, undef, .bool false, .pointer (some ⟨w1.heap.size, 0, none⟩), .pointer (some ⟨w1.heap.size + 1, 0, none⟩), s1, s2, .pointer (some ⟨w3.heap.size, 0, none⟩), .pointer (some ⟨w3.heap.size + 1, 0, none⟩), .bool true, undef, undef, undef, .tuple #[.agg #[.int .u64 x1, .slice xp xl xc], .agg #[.int .u64 y1, .slice yp yl yc], s1, s2], a, b, .tuple #[.agg #[.int .u64 x1, .slice xp xl xc], .agg #[.int .u64 y1, .slice yp yl yc], s1, s2], .agg #[.int .u64 x1, .slice xp xl xc], .agg #[.int .u64 y1, .slice yp yl yc], s1, s2, .tuple #[.agg #[.int .u64 qa, .slice qp ql qc], .agg #[.int .u64 ra, .slice rp rl rc], .bool true], .agg #[.int .u64 x1, .slice xp xl xc], .agg #[.int .u64 y1, .slice yp yl yc], .tuple #[.agg #[.int .u64 qa, .slice qp ql qc], .agg #[.int .u64 ra, .slice rp rl rc], .bool true], .agg #[.int .u64 qa, .slice qp ql qc], .agg #[.int .u64 ra, .slice rp rl rc], .bool true, .bool true, .bool false, undef, undef, undef, undef, undef, undef, .tuple #[.agg #[.int .u64 za, .slice zp zl zc], .agg #[.int .u64 sa, .slice sp sl sc], .bool true], .agg #[.int .u64 x1, .slice xp xl xc], .agg #[.int .u64 y1, .slice yp yl yc], .agg #[.int .u64 va, .slice vp vl vc], .agg #[.int .u64 y1, .slice yp yl yc], .tuple #[.agg #[.int .u64 za, .slice zp zl zc], .agg #[.int .u64 sa, .slice sp sl sc], .bool true], undef, .agg #[.int .u64 sa, .slice sp sl sc], undef, undef, undef, undef, undef, undef, undef, undef, undef, undef, undef, undef, undef, undef, undef, undef, undef, undef, undef, undef, undef, undef, undef, undef, undef, undef, undef, undef, undef, undef, undef, undef], defers := [] } W := by
      intro W acc va vp vl vc hv za zp zl zc sa sp sl sc hz hs
      rw [← hR]
      have c00 := (u0.below acc l0).c0
      have c01 := (u0.below acc l0).c1
      have c10 := (u1.below acc l1).c0
      have c11 := (u1.below acc l1).c1
      refine wpAnyIn_ready (rs := [6, 8, 9, 10]) (by kernel_rfl) (by simp) ?_
      refine AllReadyIn.cons rfl (fun K hK => ?_) ?_
      · go_simp
        refine hK _ _ ?_
        have h := H11111111000000 W acc va vp vl vc hv za zp zl zc sa sp sl sc hz hs
        rw [← hR] at h
        exact h
      refine AllReadyIn.cons rfl (fun K hK => ?_) ?_
      · go_simp
        refine hK _ _ ?_
        have h := H11111101100000 W acc va vp vl vc hv za zp zl zc sa sp sl sc hz hs
        rw [← hR] at h
        exact h
      refine AllReadyIn.cons rfl (fun K hK => ?_) ?_
      · go_simp
        refine hK _ _ ?_
        have h := H11111101010000 (W.alloc (.cells #[.int .u64 0, .slice none 0 0] 25)) (acc.alloc acc.size _) va vp vl vc (hv.below ((Below.refl _ W).alloc (Nat.le_refl _) _)) za zp zl zc sa sp sl sc (hz.below ((Below.refl _ W).alloc (Nat.le_refl _) _)) (hs.below ((Below.refl _ W).alloc (Nat.le_refl _) _)) W.heap.size (Var.new W W.heap.size _ _ _ _ rfl) acc.size
        rw [← hR] at h
        exact h
      refine AllReadyIn.cons rfl (fun K hK => ?_) ?_
      · go_simp
        refine hK _ _ ?_
        have h := H11111101001000 (W.alloc (.cells #[.int .u64 0, .slice none 0 0] 25)) (acc.alloc acc.size _) va vp vl vc (hv.below ((Below.refl _ W).alloc (Nat.le_refl _) _)) za zp zl zc sa sp sl sc (hz.below ((Below.refl _ W).alloc (Nat.le_refl _) _)) (hs.below ((Below.refl _ W).alloc (Nat.le_refl _) _)) W.heap.size (Var.new W W.heap.size _ _ _ _ rfl) acc.size
        rw [← hR] at h
        exact h
      exact AllReadyIn.nil
    have H11111100111000 : ∀ (W : World) (acc : Below w4.heap.size w4 W) (va : Int) (vp : Option Addr) (vl vc : Nat) (hv : IsNat W (.agg #[.int .u64 va, .slice vp vl vc]) (X * Y)) (za : Int) (zp : Option Addr) (zl zc : Nat) (sa : Int) (sp : Option Addr) (sl sc : Nat) (hz : IsNat W (.agg #[.int .u64 za, .slice zp zl zc]) X) (hs : IsNat W (.agg #[.int .u64 sa, .slice sp sl sc]) 0) (c : Nat) (hc : Var W c (.int .u64 0) (.slice none 0 0)) (hcn : w4.heap.size ≤ c) (d : Nat) (hd : Var W d (.int .u64 0) (.slice none 0 0)) (hdn : w4.heap.size ≤ d) (hcd : c ≠ d), R 5 #[true, true, true, true, true, true, false, false, true, true, true, false, false, false] { tmps := #[a, b, undef, undef, .bool false, .pointer (some ⟨w1.heap.size, 0, none⟩), .pointer (some ⟨w1.heap.size + 1, 0, none⟩), s1, s2, .pointer (some ⟨w3.heap.size, 0, none⟩), .pointer (some ⟨w3.heap.size + 1, 0, none⟩), .bool true, .pointer (some ⟨c, 0, none⟩), .pointer (some ⟨d, 0, none⟩), undef, .tuple #[.agg #[.int .u64 x1, .slice xp xl xc], .agg #[.int .u64 y1, .slice yp yl yc], s1, s2], a, b, .tuple #[.agg #[.int .u64 x1, .slice xp xl xc], .agg #[.int .u64 y1, .slice yp yl yc], s1, s2], .agg #[.int .u64 x1, .slice xp xl xc], .agg #[.int .u64 y1, .slice yp yl yc], s1, s2, .tuple #[.agg #[.int .u64 qa, .slice qp ql qc], .agg #[.int .u64 ra, .slice rp rl rc], .bool true], .agg #[.int .u64 x1, .slice xp xl xc], .agg #[.int .u64 y1, .slice yp yl yc], .tuple #[.agg #[.int .u64 qa, .slice qp ql qc], .agg #[.int .u64 ra, .slice rp rl rc], .bool true], .agg #[.int .u64 qa, .slice qp ql qc], .agg #[.int .u64 ra, .slice rp rl rc], .bool true, .bool true, .bool false, undef, undef, undef, undef, undef, undef, .tuple #[.agg #[.int .u64 za, .slice zp zl zc], .agg #[.int .u64 sa, .slice sp sl sc], .bool true], .agg #[.int .u64 x1, .slice xp xl xc], .agg #[.int .u64 y1, .slice yp yl yc], .agg #[.int .u64 va, .slice vp vl vc], .agg #[.int .u64 y1, .slice yp yl yc], .tuple #[.agg #[.int .u64 za, .slice zp zl zc], .agg #[.int .u64 sa, .slice sp sl sc], .bool true], undef, undef, .bool true, undef, undef, undef, undef, undef, undef, undef, undef, undef, undef, undef, undef, undef, undef, undef, undef, undef, undef, undef, undef, undef, undef, undef, undef, undef, undef, undef, undef, undef, undef, undef], defers := [] } W := by
      intro W acc va vp vl vc hv za zp zl zc sa sp sl sc hz hs c hc hcn d hd hdn hcd
      rw [← hR]
      have c00 := (u0.below acc l0).c0
      have c01 := (u0.below acc l0).c1
      have c10 := (u1.below acc l1).c0
      have c11 := (u1.below acc l1).c1
      have kc0 := hc.c0
      have kc1 := hc.c1
      have fc0 := hc.free 0
      have fc1 := hc.free 1
      have kd0 := hd.c0
      have kd1 := hd.c1
      have fd0 := hd.free 0
      have fd1 := hd.free 1
      refine wpAnyIn_ready (rs := [6, 7]) (by kernel_rfl) (by simp) ?_
      refine AllReadyIn.cons rfl (fun K hK => ?_) ?_
      · go_simp
        refine hK _ _ ?_
        have h := H11111110111000 W acc va vp vl vc hv za zp zl zc sa sp sl sc hz hs c hc hcn d hd hdn hcd
        rw [← hR] at h
        exact h
      refine AllReadyIn.cons rfl (fun K hK => ?_) ?_
      · go_simp
        refine hK _ _ ?_
        have h := H11111101111000 W acc va vp vl vc hv za zp zl zc sa sp sl sc hz hs c hc hcn d hd hdn hcd
        rw [← hR] at h
        exact h
      exact AllReadyIn.nil
    have H11111100110000 : ∀ (W : World) (acc : Below w4.heap.size w4 W) (va : Int) (vp : Option Addr) (vl vc : Nat) (hv : IsNat W (.agg #[.int .u64 va, .slice vp vl vc]) (X * Y)) (za : Int) (zp : Option Addr) (zl zc : Nat) (sa : Int) (sp : Option Addr) (sl sc : Nat) (hz : IsNat W (.agg #[.int .u64 za, .slice zp zl zc]) X) (hs : IsNat W (.agg #[.int .u64 sa, .slice sp sl sc]) 0) (c : Nat) (hc : Var W c (.int .u64 0) (.slice none 0 0)) (hcn : w4.heap.size ≤ c), R 6 #[true, true, true, true, true, true, false, false, true, true, false, false, false, false] { tmps := #[a, b, undef, undef, .bool false, .pointer (some ⟨w1.heap.size, 0, none⟩), .pointer (some ⟨w1.heap.size + 1, 0, none⟩), s1, s2, .pointer (some ⟨w3.heap.size, 0, none⟩), .pointer (some ⟨w3.heap.size + 1, 0, none⟩), .bool true, .pointer (some ⟨c, 0, none⟩), undef, undef, .tuple #[.agg #[.int .u64 x1, .slice xp xl xc], .agg #[.int .u64 y1, .slice yp yl yc], s1, s2], a, b, .tuple #[.agg #[.int .u64 x1, .slice xp xl xc], .agg #[.int .u64 y1, .slice yp yl yc], s1, s2], .agg #[.int .u64 x1, .slice xp xl xc], .agg #[.int .u64 y1, .slice yp yl yc], s1, s2, .tuple #[.agg #[.int .u64 qa, .slice qp ql qc], .agg #[.int .u64 ra, .slice rp rl rc], .bool true], .agg #[.int .u64 x1, .slice xp xl xc], .agg #[.int .u64 y1, .slice yp yl yc], .tuple #[.agg #[.int .u64 qa, .slice qp ql qc], .agg #[.int .u64 ra, .slice rp rl rc], .bool true], .agg #[.int .u64 qa, .slice qp ql qc], .agg #[.int .u64 ra, .slice rp rl rc], .bool true, .bool true, .bool false, undef, undef, undef, undef, undef, undef, .tuple #[.agg #[.int .u64 za, .slice zp zl zc], .agg #[.int .u64 sa, .slice sp sl sc], .bool true], .agg #[.int .u64 x1, .slice xp xl xc], .agg #[.int .u64 y1, .slice yp yl yc], .agg #[.int .u64 va, .slice vp vl vc], .agg #[.int .u64 y1, .slice yp yl yc], .tuple #[.agg #[.int .u64 za, .slice zp zl zc], .agg #[.int .u64 sa, .slice sp sl sc], .bool true], undef, undef, .bool true, undef, undef, undef, undef, undef, undef, undef, undef, undef, undef, undef, undef, undef, undef, undef, undef, undef, undef, undef, undef, undef, undef, undef, undef, undef, undef, undef, undef, undef, undef, undef], defers := [] } W := by
      intro W acc va vp vl vc hv za zp zl zc sa sp sl sc hz hs c hc hcn
      rw [← hR]
      have c00 := (u0.below acc l0).c0
      have c01 := (u0.below acc l0).c1
      have c10 := (u1.below acc l1).c0
      have c11 := (u1.below acc l1).c1
      have kc0 := hc.c0
      have kc1 := hc.c1
      have fc0 := hc.free 0
      have fc1 := hc.free 1
      refine wpAnyIn_ready (rs := [6, 7, 10]) (by kernel_rfl) (by simp) ?_
      refine AllReadyIn.cons rfl (fun K hK => ?_) ?_
      · go_simp
        refine hK _ _ ?_
        have h := H11111110110000 W acc va vp vl vc hv za zp zl zc sa sp sl sc hz hs c hc hcn
        rw [← hR] at h
        exact h
      refine AllReadyIn.cons rfl (fun K hK => ?_) ?_
      · go_simp
        refine hK _ _ ?_
        have h := H11111101110000 W acc va vp vl vc hv za zp zl zc sa sp sl sc hz hs c hc hcn
        rw [← hR] at h
        exact h
      refine AllReadyIn.cons rfl (fun K hK => ?_) ?_
      · go_simp
        refine hK _ _ ?_
        have h := H11111100111000 (W.alloc (.cells #[.int .u64 0, .slice none 0 0] 25)) (acc.alloc acc.size _) va vp vl vc (hv.below ((Below.refl _ W).alloc (Nat.le_refl _) _)) za zp zl zc sa sp sl sc (hz.below ((Below.refl _ W).alloc (Nat.le_refl _) _)) (hs.below ((Below.refl _ W).alloc (Nat.le_refl _) _)) c (hc.alloc _) hcn W.heap.size (Var.new W W.heap.size _ _ _ _ rfl) acc.size (Nat.ne_of_lt hc.lt)
        rw [← hR] at h
        exact h
      exact AllReadyIn.nil
    have H11111100101000 : ∀ (W : World) (acc : Below w4.heap.size w4 W) (va : Int) (vp : Option Addr) (vl vc : Nat) (hv : IsNat W (.agg #[.int .u64 va, .slice vp vl vc]) (X * Y)) (za : Int) (zp : Option Addr) (zl zc : Nat) (sa : Int) (sp : Option Addr) (sl sc : Nat) (hz : IsNat W (.agg #[.int .u64 za, .slice zp zl zc]) X) (hs : IsNat W (.agg #[.int .u64 sa, .slice sp sl sc]) 0) (d : Nat) (hd : Var W d (.int .u64 0) (.slice none 0 0)) (hdn : w4.heap.size ≤ d), R 6 #[true, true, true, true, true, true, false, false, true, false, true, false, false, false] { tmps := #[a, b, undef, undef, .bool false, .pointer (some ⟨w1.heap.size, 0, none⟩), .pointer (some ⟨w1.heap.size + 1, 0, none⟩), s1, s2, .pointer (some ⟨w3.heap.size, 0, none⟩), .pointer (some ⟨w3.heap.size + 1, 0, none⟩), .bool true, undef, .pointer (some ⟨d, 0, none⟩), undef, .tuple #[.agg #[.int .u64 x1, .slice xp xl xc], .agg #[.int .u64 y1, .slice yp yl yc], s1, s2], a, b, .tuple #[.agg #[.int .u64 x1, .slice xp xl xc], .agg #[.int .u64 y1, .slice yp yl yc], s1, s2], .agg #[.int .u64 x1, .slice xp xl xc], .agg #[.int .u64 y1, .slice yp yl yc], s1, s2, .tuple #[.agg #[.int .u64 qa, .slice qp ql qc], .agg #[.int .u64 ra, .slice rp rl rc], .bool true], .agg #[.int .u64 x1, .slice xp xl xc], .agg #[.int .u64 y1, .slice yp yl yc], .tuple #[.agg #[.int .u64 qa, .slice qp ql qc], .agg #[.int .u64 ra, .slice rp rl rc], .bool true], .agg #[.int .u64 qa, .slice qp ql qc], .agg #[.int .u64 ra, .slice rp rl rc], .bool true, .bool true, .bool false, undef, undef, undef, undef, undef, undef, .tuple #[.agg #[.int .u64 za, .slice zp zl zc], .agg #[.int .u64 sa, .slice sp sl sc], .bool true], .agg #[.int .u64 x1, .slice xp xl xc], .agg #[.int .u64 y1, .slice yp yl yc], .agg #[.int .u64 va, .slice vp vl vc], .agg #[.int .u64 y1, .slice yp yl yc], .tuple #[.agg #[.int .u64 za, .slice zp zl zc], .agg #[.int .u64 sa, .slice sp sl sc], .bool true], undef, undef, .bool true, undef, undef, undef, undef, undef, undef, undef, undef, undef, undef, undef, undef, undef, undef, undef, undef, undef, undef, undef, undef, undef, undef, undef, undef, undef, undef, undef, undef, undef, undef, undef], defers := [] } W := by
      intro W acc va vp vl vc hv za zp zl zc sa sp sl sc hz hs d hd hdn
      rw [← hR]
      have c00 := (u0.below acc l0).c0
      have c01 := (u0.below acc l0).c1
      have c10 := (u1.below acc l1).c0
      have c11 := (u1.below acc l1).c1
      have kd0 := hd.c0
      have kd1 := hd.c1
      have fd0 := hd.free 0
      have fd1 := hd.free 1
      refine wpAnyIn_ready (rs := [6, 7, 9]) (by kernel_rfl) (by simp) ?_
      refine AllReadyIn.cons rfl (fun K hK => ?_) ?_
      · go_simp
        refine hK _ _ ?_
        have h := H11111110101000 W acc va vp vl vc hv za zp zl zc sa sp sl sc hz hs d hd hdn
        rw [← hR] at h
        exact h
      refine AllReadyIn.cons rfl (fun K hK => ?_) ?_
      · go_simp
        refine hK _ _ ?_
        have h := H11111101101000 W acc va vp vl vc hv za zp zl zc sa sp sl sc hz hs d hd hdn
        rw [← hR] at h
        exact h
      refine AllReadyIn.cons rfl (fun K hK => ?_) ?_
      · go_simp
        refine hK _ _ ?_
        have h := H11111100111000 (W.alloc (.cells #[.int .u64 0, .slice none 0 0] 25)) (acc.alloc acc.size _) va vp vl vc (hv.below ((Below.refl _ W).alloc (Nat.le_refl _) _)) za zp zl zc sa sp sl sc (hz.below ((Below.refl _ W).alloc (Nat.le_refl _) _)) (hs.below ((Below.refl _ W).alloc (Nat.le_refl _) _)) W.heap.size (Var.new W W.heap.size _ _ _ _ rfl) acc.size d (hd.alloc _) hdn (Nat.ne_of_gt hd.lt)
        rw [← hR] at h
        exact h
      exact AllReadyIn.nil
    have H11111100100000 : ∀ (W : World) (acc : Below w4.heap.size w4 W) (va : Int) (vp : Option Addr) (vl vc : Nat) (hv : IsNat W (.agg #[.int .u64 va, .slice vp vl vc]) (X * Y)) (za : Int) (zp : Option Addr) (zl zc : Nat) (sa : Int) (sp : Option Addr) (sl sc : Nat) (hz : IsNat W (.agg #[.int .u64 za, .slice zp zl zc]) X) (hs : IsNat W (.agg #[.int .u64 sa, .slice sp sl sc]) 0), R 7 #[true, true, true, true, true, true, false, false, true, false, false, false, false, false] { tmps := #[a, b, undef, undef, .bool false, .pointer (some ⟨w1.heap.size, 0, none⟩), .pointer (some ⟨w1.heap.size + 1, 0, none⟩), s1, s2, .pointer (some ⟨w3.heap.size, 0, none⟩), .pointer (some ⟨w3.heap.size + 1, 0, none⟩), .bool true, undef, undef, undef, .tuple #[.agg #[.int .u64 x1, .slice xp xl xc], .agg #[.int .u64 y1, .slice yp yl yc], s1, s2], a, b, .tuple #[.agg #[.int .u64 x1, .slice xp xl xc], .agg #[.int .u64 y1, .slice yp yl yc], s1, s2], .agg #[.int .u64 x1, .slice xp xl xc], .agg #[.int .u64 y1, .slice yp yl yc], s1, s2, .tuple #[.agg #[.int .u64 qa, .slice qp ql qc], .agg #[.int .u64 ra, .slice rp rl rc], .bool true], .agg #[.int .u64 x1, .slice xp xl xc], .agg #[.int .u64 y1, .slice yp yl yc], .tuple #[.agg #[.int .u64 qa, .slice qp ql qc], .agg #[.int .u64 ra, .slice rp rl rc], .bool true], .agg #[.int .u64 qa, .slice qp ql qc], .agg #[.int .u64 ra, .slice rp rl rc], .bool true, .bool true, .bool false, undef, undef, undef, undef, undef, undef, .tuple #[.agg #[.int .u64 za, .slice zp zl zc], .agg #[.int .u64 sa, .slice sp sl sc], .bool true], .agg #[.int .u64 x1, .slice xp xl xc], .agg #[.int .u64 y1, .slice yp yl yc], .agg #[.int .u64 va, .slice vp vl vc], .agg #[.int .u64 y1, .slice yp yl yc], .tuple #[.agg #[.int .u64 za, .slice zp zl zc], .agg #[.int .u64 sa, .slice sp sl sc], .bool true], undef, undef, .bool true, undef, undef, undef, undef, undef, undef, undef, undef, undef, undef, undef, undef, undef, undef, undef, undef, undef, undef, undef, undef, undef, undef, undef, undef, undef, undef, undef, undef, undef, undef, undef], defers := [] } W := by
      intro W acc va vp vl vc hv za zp zl zc sa sp sl sc hz hs
      rw [← hR]
      have c00 := (u0.below acc l0).c0
      have c01 := (u0.below acc l0).c1
      have c10 := (u1.below acc l1).c0
      have c11 := (u1.below acc l1).c1
      refine wpAnyIn_ready (rs := [6, 7, 9, 10]) (by kernel_rfl) (by simp) ?_
      refine AllReadyIn.cons rfl (fun K hK => ?_) ?_
      · go_simp
        refine hK _ _ ?_
        have h := H11111110100000 W acc va vp vl vc hv za zp zl zc sa sp sl sc hz hs
        rw [← hR] at h
        exact h
      refine AllReadyIn.cons rfl (fun K hK => ?_) ?_
      · go_simp
        refine hK _ _ ?_
        have h := H11111101100000 W acc va vp vl vc hv za zp zl zc sa sp sl sc hz hs
        rw [← hR] at h
        exact h
      refine AllReadyIn.cons rfl (fun K hK => ?_) ?_
      · go_simp
        refine hK _ _ ?_
        have h := H11111100110000 (W.alloc (.cells #[.int .u64 0, .slice none 0 0] 25)) (acc.alloc acc.size _) va vp vl vc (hv.below ((Below.refl _ W).alloc (Nat.le_refl _) _)) za zp zl zc sa sp sl sc (hz.below ((Below.refl _ W).alloc (Nat.le_refl _) _)) (hs.below ((Below.refl _ W).alloc (Nat.le_refl _) _)) W.heap.size (Var.new W W.heap.size _ _ _ _ rfl) acc.size
        rw [← hR] at h
        exact h
      refine AllReadyIn.cons rfl (fun K hK => ?_) ?_
      · go_simp
        refine hK _ _ ?_
        have h := H11111100101000 (W.alloc (.cells #[.int .u64 0, .slice none 0 0] 25)) (acc.alloc acc.size _) va vp vl vc (hv.below ((Below.refl _ W).alloc (Nat.le_refl _) _)) za zp zl zc sa sp sl sc (hz.below ((Below.refl _ W).alloc (Nat.le_refl _) _)) (hs.below ((Below.refl _ W).alloc (Nat.le_refl _) _)) W.heap.size (Var.new W W.heap.size _ _ _ _ rfl) acc.size
        rw [← hR] at h
        exact h
      exact AllReadyIn.nil
    have H11111100011000 : ∀ (W : World) (acc : Below w4.heap.size w4 W) (va : Int) (vp : Option Addr) (vl vc : Nat) (hv : IsNat W (.agg #[.int .u64 va, .slice vp vl vc]) (X * Y)) (za : Int) (zp : Option Addr) (zl zc : Nat) (sa : Int) (sp : Option Addr) (sl sc : Nat) (hz : IsNat W (.agg #[.int .u64 za, .slice zp zl zc]) X) (hs : IsNat W (.agg #[.int .u64 sa, .slice sp sl sc]) 0) (c : Nat) (hc : Var W c (.int .u64 0) (.slice none 0 0)) (hcn : w4.heap.size ≤ c) (d : Nat) (hd : Var W d (.int .u64 0) (.slice none 0 0)) (hdn : w4.heap.size ≤ d) (hcd : c ≠ d), R 6 #[true, true, true, true, true, true, false, false, false, true, true, false, false, false] { tmps := #[a, b, undef, undef, .bool false, .pointer (some ⟨w1.heap.size, 0, none⟩), .pointer (some ⟨w1.heap.size + 1, 0, none⟩), s1, s2, .pointer (some ⟨w3.heap.size, 0, none⟩), .pointer (some ⟨w3.heap.size + 1, 0, none⟩), .bool true, .pointer (some ⟨c, 0, none⟩), .pointer (some ⟨d, 0, none⟩), undef, .tuple #[.agg #[.int .u64 x1, .slice xp xl xc], .agg #[.int .u64 y1, .slice yp yl yc], s1, s2], a, b, .tuple #[.agg #[.int .u64 x1, .slice xp xl xc], .agg #[.int .u64 y1, .slice yp yl yc], s1, s2], .agg #[.int .u64 x1, .slice xp xl xc], .agg #[.int .u64 y1, .slice yp yl yc], s1, s2, .tuple #[.agg #[.int .u64 qa, .slice qp ql qc], .agg #[.int .u64 ra, .slice rp rl rc], .bool true], .agg #[.int .u64 x1, .slice xp xl xc], .agg #[.int .u64 y1, .slice yp yl yc], .tuple #[.agg #[.int .u64 qa, .slice qp ql qc], .agg #[.int .u64 ra, .slice rp rl rc], .bool true], .agg #[.int .u64 qa, .slice qp ql qc], .agg #[.int .u64 ra, .slice rp rl rc], .bool true, .bool true, .bool false, undef, undef, undef, undef, undef, undef, .tuple #[.agg #[.int .u64 za, .slice zp zl zc], .agg #[.int .u64 sa, .slice sp sl sc], .bool true], .agg #[.int .u64 x1, .slice xp xl xc], .agg #[.int .u64 y1, .slice yp yl yc], .agg #[.int .u64 va, .slice vp vl vc], .agg #[.int .u64 y1, .slice yp yl yc], .tuple #[.agg #[.int .u64 za, .slice zp zl zc], .agg #[.int .u64 sa, .slice sp sl sc], .bool true], undef, undef, undef, undef, undef, undef, undef, undef, undef, undef, undef, undef, undef, undef, undef, undef, undef, undef, undef, undef, undef, undef, undef, undef, undef, undef, undef, undef, undef, undef, undef, undef, undef, undef], defers := [] } W := by
      intro W acc va vp vl vc hv za zp zl zc sa sp sl sc hz hs c hc hcn d hd hdn hcd
      rw [← hR]
      have c00 := (u0.below acc l0).c0
      have c01 := (u0.below acc l0).c1
      have c10 := (u1.below acc l1).c0
      have c11 := (u1.below acc l1).c1
      have kc0 := hc.c0
      have kc1 := hc.c1
      have fc0 := hc.free 0
      have fc1 := hc.free 1
      have kd0 := hd.c0
      have kd1 := hd.c1
      have fd0 := hd.free 0
      have fd1 := hd.free 1
      refine wpAnyIn_ready (rs := [6, 7, 8]) (by kernel_rfl) (by simp) ?_
      refine AllReadyIn.cons rfl (fun K hK => ?_) ?_
      · go_simp
        refine hK _ _ ?_
        have h := H11111110011000 W acc va vp vl vc hv za zp zl zc sa sp sl sc hz hs c hc hcn d hd hdn hcd
        rw [← hR] at h
        exact h
      refine AllReadyIn.cons rfl (fun K hK => ?_) ?_
      · go_simp
        refine hK _ _ ?_
        have h := H11111101011000 W acc va vp vl vc hv za zp zl zc sa sp sl sc hz hs c hc hcn d hd hdn hcd
        rw [← hR] at h
        exact h
      refine AllReadyIn.cons rfl (fun K hK => ?_) ?_
      · go_simp
        refine hK _ _ ?_
        have h := H11111100111000 W acc va vp vl vc hv za zp zl zc sa sp sl sc hz hs c hc hcn d hd hdn hcd
        rw [← hR] at h
        exact h
      exact AllReadyIn.nil
    have H11111100010000 : ∀ (W : World) (acc : Below w4.heap.size w4 W) (va : Int) (vp : Option Addr) (vl vc : Nat) (hv : IsNat W (.agg #[.int .u64 va, .slice vp vl vc]) (X * Y)) (za : Int) (zp : Option Addr) (zl zc : Nat) (sa : Int) (sp : Option Addr) (sl sc : Nat) (hz : IsNat W (.agg #[.int .u64 za, .slice zp zl zc]) X) (hs : IsNat W (.agg #[.int .u64 sa, .slice sp sl sc]) 0) (c : Nat) (hc : Var W c (.int .u64 0) (.slice none 0 0)) (hcn : w4.heap.size ≤ c), R 7 #[true, true, true, true, true, true, false, false, false, true, false, false, false, false] { tmps := #[a, b, undef, undef, .bool false, .pointer (some ⟨w1.heap.size, 0, none⟩), .pointer (some ⟨w1.heap.size + 1, 0, none⟩), s1, s2, .pointer (some ⟨w3.heap.size, 0, none⟩), .pointer (some ⟨w3.heap.size + 1, 0, none⟩), .bool true, .pointer (some ⟨c, 0, none⟩), undef, undef, .tuple #[.agg #[.int .u64 x1, .slice xp xl xc], .agg #[.int .u64 y1, .slice yp yl yc], s1, s2], a, b, .tuple #[.agg #[.int .u64 x1, .slice xp xl xc], .agg #[.int .u64 y1, .slice yp yl yc], s1, s2], .agg #[.int .u64 x1, .slice xp xl xc], .agg #[.int .u64 y1, .slice yp yl yc], s1, s2, .tuple #[.agg #[.int .u64 qa, .slice qp ql qc], .agg #[.int .u64 ra, .slice rp rl rc], .bool true], .agg #[.int .u64 x1, .slice xp xl xc], .agg #[.int .u64 y1, .slice yp yl yc], .tuple #[.agg #[.int .u64 qa, .slice qp ql qc], .agg #[.int .u64 ra, .slice rp rl rc], .bool true], .agg #[.int .u64 qa, .slice qp ql qc], .agg #[.int .u64 ra, .slice rp rl rc], .bool true, .bool true, .bool false, undef, undef, undef, undef, undef, undef, .tuple #[.agg #[.int .u64 za, .slice zp zl zc], .agg #[.int .u64 sa, .slice sp sl sc], .bool true], .agg #[.int .u64 x1, .slice xp xl xc], .agg #[.int .u64 y1, .slice yp yl yc], .agg #[.int .u64 va, .slice vp vl vc], .agg #[.int .u64 y1, .slice yp yl yc], .tuple #[.agg #[.int .u64 za, .slice zp zl zc], .agg #[.int .u64 sa, .slice sp sl sc], .bool true], undef, undef, undef, undef, undef, undef, undef, undef, undef, undef, undef, undef, undef, undef, undef, undef, undef, undef, undef, undef, undef, undef, undef, undef, undef, undef, undef, undef, undef, undef, undef, undef, undef, undef], defers := [] } W := by
      intro W acc va vp vl vc hv za zp zl zc sa sp sl sc hz hs c hc hcn
      rw [← hR]
      have c00 := (u0.below acc l0).c0
      have c01 := (u0.below acc l0).c1
      have c10 := (u1.below acc l1).c0
      have c11 := (u1.below acc l1).c1
      have kc0 := hc.c0
      have kc1 := hc.c1
      have fc0 := hc.free 0
      have fc1 := hc.free 1
      refine wpAnyIn_ready (rs := [6, 7, 8, 10]) (by kernel_rfl) (by simp) ?_
      refine AllReadyIn.cons rfl (fun K hK => ?_) ?_
      · go_simp
        refine hK _ _ ?_
        have h := H11111110010000 W acc va vp vl vc hv za zp zl zc sa sp sl sc hz hs c hc hcn
        rw [← hR] at h
        exact h
      refine AllReadyIn.cons rfl (fun K hK => ?_) ?_
      · go_simp
        refine hK _ _ ?_
        have h := H11111101010000 W acc va vp vl vc hv za zp zl zc sa sp sl sc hz hs c hc hcn
        rw [← hR] at h
        exact h
      refine AllReadyIn.cons rfl (fun K hK => ?_) ?_
      · go_simp
        refine hK _ _ ?_
        have h := H11111100110000 W acc va vp vl vc hv za zp zl zc sa sp sl sc hz hs c hc hcn
        rw [← hR] at h
        exact h
      refine AllReadyIn.cons rfl (fun K hK => ?_) ?_
      · go_simp
        refine hK _ _ ?_
        have h := H11111100011000 (W.alloc (.cells #[.int .u64 0, .slice none 0 0] 25)) (acc.alloc acc.size _) va vp vl vc (hv.below ((Below.refl _ W).alloc (Nat.le_refl _) _)) za zp zl zc sa sp sl sc (hz.below ((Below.refl _ W).alloc (Nat.le_refl _) _)) (hs.below ((Below.refl _ W).alloc (Nat.le_refl _) _)) c (hc.alloc _) hcn W.heap.size (Var.new W W.heap.size _ _ _ _ rfl) acc.size (Nat.ne_of_lt hc.lt)
        rw [← hR] at h
        exact h
      exact AllReadyIn.nil
    have H11111100001000 : ∀ (W : World) (acc : Below w4.heap.size w4 W) (va : Int) (vp : Option Addr) (vl vc : Nat) (hv : IsNat W (.agg #[.int .u64 va, .slice vp vl vc]) (X * Y)) (za : Int) (zp : Option Addr) (zl zc : Nat) (sa : Int) (sp : Option Addr) (sl sc : Nat) (hz : IsNat W (.agg #[.int .u64 za, .slice zp zl zc]) X) (hs : IsNat W (.agg #[.int .u64 sa, .slice sp sl sc]) 0) (d : Nat) (hd : Var W d (.int .u64 0) (.slice none 0 0)) (hdn : w4.heap.size ≤ d), R 7 #[true, true, true, true, true, true, false, false, false, false, true, false, false, false] { tmps := #[a, b, undef, undef, .bool false, .pointer (some ⟨w1.heap.size, 0, none⟩), .pointer (some ⟨w1.heap.size + 1, 0, none⟩), s1, s2, .pointer (some ⟨w3.heap.size, 0, none⟩), .pointer (some ⟨w3.heap.size + 1, 0, none⟩), .bool true, undef, .pointer (some ⟨d, 0, none⟩), undef, .tuple #[.agg #[.int .u64 x1, .slice xp xl xc], .agg #[.int .u64 y1, .slice yp yl yc], s1, s2], a, b, .tuple #[.agg #[.int .u64 x1, .slice xp xl xc], .agg #[.int .u64 y1, .slice yp yl yc], s1, s2], .agg #[.int .u64 x1, .slice xp xl xc], .agg #[.int .u64 y1, .slice yp yl yc], s1, s2, .tuple #[.agg #[.int .u64 qa, .slice qp ql qc], .agg #[.int .u64 ra, .slice rp rl rc], .bool true], .agg #[.int .u64 x1, .slice xp xl xc], .agg #[.int .u64 y1, .slice yp yl yc], .tuple #[.agg #[.int .u64 qa, .slice qp ql qc], .agg #[.int .u64 ra, .slice rp rl rc], .bool true], .agg #[.int .u64 qa, .slice qp ql qc], .agg #[.int .u64 ra, .slice rp rl rc], .bool true, .bool true, .bool false, undef, undef, undef, undef, undef, undef, .tuple #[.agg #[.int .u64 za, .slice zp zl zc], .agg #[.int .u64 sa, .slice sp sl sc], .bool true], .agg #[.int .u64 x1, .slice xp xl xc], .agg #[.int .u64 y1, .slice yp yl yc], .agg #[.int .u64 va, .slice vp vl vc], .agg #[.int .u64 y1, .slice yp yl yc], .tuple #[.agg #[.int .u64 za, .slice zp zl zc], .agg #[.int .u64 sa, .slice sp sl sc], .bool true], undef, undef, undef, undef, undef, undef, undef, undef, undef, undef, undef, undef, undef, undef, undef, undef, undef, undef, undef, undef, undef, undef, undef, undef, undef, undef, undef, undef, undef, undef, undef, undef, undef, undef], defers := [] } W := by
      intro W acc va vp vl vc hv za zp zl zc sa sp sl sc hz hs d hd hdn
      rw [← hR]
      have c00 := (u0.below acc l0).c0
      have c01 := (u0.below acc l0).c1
      have c10 := (u1.below acc l1).c0
      have c11 := (u1.below acc l1).c1
      have kd0 := hd.c0
      have kd1 := hd.c1
      have fd0 := hd.free 0
      have fd1 := hd.free 1
      refine wpAnyIn_ready (rs := [6, 7, 8, 9]) (by kernel_rfl) (by simp) ?_
      refine AllReadyIn.cons rfl (fun K hK => ?_) ?_
      · go_simp
        refine hK _ _ ?_
        have h := H11111110001000 W acc va vp vl vc hv za zp zl zc sa sp sl sc hz hs d hd hdn
        rw [← hR] at h
        exact h
      refine AllReadyIn.cons rfl (fun K hK => ?_) ?_
      · go_simp
        refine hK _ _ ?_
        have h := H11111101001000 W acc va vp vl vc hv za zp zl zc sa sp sl sc hz hs d hd hdn
        rw [← hR] at h
        exact h
      refine AllReadyIn.cons rfl (fun K hK => ?_) ?_
      · go_simp
        refine hK _ _ ?_
        have h := H11111100101000 W acc va vp vl vc hv za zp zl zc sa sp sl sc hz hs d hd hdn
        rw [← hR] at h
        exact h
      refine AllReadyIn.cons rfl (fun K hK => ?_) ?_
      · go_simp
        refine hK _ _ ?_
        have h := H11111100011000 (W.alloc (.cells #[.int .u64 0, .slice none 0 0] 25)) (acc.alloc acc.size _) va vp vl vc (hv.below ((Below.refl _ W).alloc (Nat.le_refl _) _)) za zp zl zc sa sp sl sc (hz.below ((Below.refl _ W).alloc (Nat.le_refl _) _)) (hs.below ((Below.refl _ W).alloc (Nat.le_refl _) _)) W.heap.size (Var.new W W.heap.size _ _ _ _ rfl) acc.size d (hd.alloc _) hdn (Nat.ne_of_gt hd.lt)
        rw [← hR] at h
        exact h
      exact AllReadyIn.nil
    have H11111100000000 : ∀ (W : World) (acc : Below w4.heap.size w4 W) (va : Int) (vp : Option Addr) (vl vc : Nat) (hv : IsNat W (.agg #[.int .u64 va, .slice vp vl vc]) (X * Y)) (za : Int) (zp : Option Addr) (zl zc : Nat) (sa : Int) (sp : Option Addr) (sl sc : Nat) (hz : IsNat W (.agg #[.int .u64 za, .slice zp zl zc]) X) (hs : IsNat W (.agg #[.int .u64 sa, .slice sp sl sc]) 0), R 8 #[true, true, true, true, true, true, false, false, false, false, false, false, false, false] { tmps := #[a, b, undef, undef, .bool false, .pointer (some ⟨w1.heap.size, 0, none⟩), .pointer (some ⟨w1.heap.size + 1, 0, none⟩), s1, s2, .pointer (some ⟨w3.heap.size, 0, none⟩), .pointer (some ⟨w3.heap.size + 1, 0, none⟩), .bool true, undef, undef, undef, .tuple #[.agg #[.int .u64 x1, .slice xp xl xc], .agg #[.int .u64 y1, .slice yp yl yc], s1, s2], a, b, .tuple #[.agg #[.int .u64 x1, .slice xp xl xc], .agg #[.int .u64 y1, .slice yp yl yc], s1, s2], .agg #[.int .u64 x1, .slice xp xl xc], .agg #[.int .u64 y1, .slice yp yl yc], s1, s2, .tuple #[.agg #[.int .u64 qa, .slice qp ql qc], .agg #[.int .u64 ra, .slice rp rl rc], .bool true], .agg #[.int .u64 x1, .slice xp xl xc], .agg #[.int .u64 y1, .slice yp yl yc], .tuple #[.agg #[.int .u64 qa, .slice qp ql qc], .agg #[.int .u64 ra, .slice rp rl rc], .bool true], .agg #[.int .u64 qa, .slice qp ql qc], .agg #[.int .u64 ra, .slice rp rl rc], .bool true, .bool true, .bool false, undef, undef, undef, undef, undef, undef, .tuple #[.agg #[.int .u64 za, .slice zp zl zc], .agg #[.int .u64 sa, .slice sp sl sc], .bool true], .agg #[.int .u64 x1, .slice xp xl xc], .agg #[.int .u64 y1, .slice yp yl yc], .agg #[.int .u64 va, .slice vp vl vc], .agg #[.int .u64 y1, .slice yp yl yc], .tuple #[.agg #[.int .u64 za, .slice zp zl zc], .agg #[.int .u64 sa, .slice sp sl sc], .bool true], undef, undef, undef, undef, undef, undef, undef, undef, undef, undef, undef, undef, undef, undef, undef, undef, undef, undef, undef, undef, undef, undef, undef, undef, undef, undef, undef, undef, undef, undef, undef, undef, undef, undef], defers := [] } W := by
      intro W acc va vp vl vc hv za zp zl zc sa sp sl sc hz hs
      rw [← hR]
      have c00 := (u0.below acc l0).c0
      have c01 := (u0.below acc l0).c1
      have c10 := (u1.below acc l1).c0
      have c11 := (u1.below acc l1).c1
      refine wpAnyIn_ready (rs := [6, 7, 8, 9, 10]) (by kernel_rfl) (by simp) ?_
      refine AllReadyIn.cons rfl (fun K hK => ?_) ?_
      · go_simp
        refine hK _ _ ?_
        have h := H11111110000000 W acc va vp vl vc hv za zp zl zc sa sp sl sc hz hs
        rw [← hR] at h
        exact h
      refine AllReadyIn.cons rfl (fun K hK => ?_) ?_
      · go_simp
        refine hK _ _ ?_
        have h := H11111101000000 W acc va vp vl vc hv za zp zl zc sa sp sl sc hz hs
        rw [← hR] at h
        exact h
      refine AllReadyIn.cons rfl (fun K hK => ?_) ?_
      · go_simp
        refine hK _ _ ?_
        have h := H11111100100000 W acc va vp vl vc hv za zp zl zc sa sp sl sc hz hs
        rw [← hR] at h
        exact h
      refine AllReadyIn.cons rfl (fun K hK => ?_) ?_
      · go_simp
        refine hK _ _ ?_
        have h := H11111100010000 (W.alloc (.cells #[.int .u64 0, .slice none 0 0] 25)) (acc.alloc acc.size _) va vp vl vc (hv.below ((Below.refl _ W).alloc (Nat.le_refl _) _)) za zp zl zc sa sp sl sc (hz.below ((Below.refl _ W).alloc (Nat.le_refl _) _)) (hs.below ((Below.refl _ W).alloc (Nat.le_refl _) _)) W.heap.size (Var.new W W.heap.size _ _ _ _ rfl) acc.size
        rw [← hR] at h
        exact h
      refine AllReadyIn.cons rfl (fun K hK => ?_) ?_
      · go_simp
        refine hK _ _ ?_
        have h := H11111100001000 (W.alloc (.cells #[.int .u64 0, .slice none 0 0] 25)) (acc.alloc acc.size _) va vp vl vc (hv.below ((Below.refl _ W).alloc (Nat.le_refl _) _)) za zp zl zc sa sp sl sc (hz.below ((Below.refl _ W).alloc (Nat.le_refl _) _)) (hs.below ((Below.refl _ W).alloc (Nat.le_refl _) _)) W.heap.size (Var.new W W.heap.size _ _ _ _ rfl) acc.size
        rw [← hR] at h
        exact h
      exact AllReadyIn.nil
    have H11111000011000 : ∀ (W : World) (acc : Below w4.heap.size w4 W) (va : Int) (vp : Option Addr) (vl vc : Nat) (hv : IsNat W (.agg #[.int .u64 va, .slice vp vl vc]) (X * Y)) (za : Int) (zp : Option Addr) (zl zc : Nat) (sa : Int) (sp : Option Addr) (sl sc : Nat) (hz : IsNat W (.agg #[.int .u64 za, .slice zp zl zc]) X) (hs : IsNat W (.agg #[.int .u64 sa, .slice sp sl sc]) 0) (c : Nat) (hc : Var W c (.int .u64 0) (.slice none 0 0)) (hcn : w4.heap.size ≤ c) (d : Nat) (hd : Var W d (.int .u64 0) (.slice none 0 0)) (hdn : w4.heap.size ≤ d) (hcd : c ≠ d), R 7 #[true, true, true, true, true, false, false, false, false, true, true, false, false, false] { tmps := #[a, b, undef, undef, .bool false, .pointer (some ⟨w1.heap.size, 0, none⟩), .pointer (some ⟨w1.heap.size + 1, 0, none⟩), s1, s2, .pointer (some ⟨w3.heap.size, 0, none⟩), .pointer (some ⟨w3.heap.size + 1, 0, none⟩), .bool true, .pointer (some ⟨c, 0, none⟩), .pointer (some ⟨d, 0, none⟩), undef, .tuple #[.agg #[.int .u64 x1, .slice xp xl xc], .agg #[.int .u64 y1, .slice yp yl yc], s1, s2], a, b, .tuple #[.agg #[.int .u64 x1, .slice xp xl xc], .agg #[.int .u64 y1, .slice yp yl yc], s1, s2], .agg #[.int .u64 x1, .slice xp xl xc], .agg #[.int .u64 y1, .slice yp yl yc], s1, s2, .tuple #[.agg #[.int .u64 qa, .slice qp ql qc], .agg #[.int .u64 ra, .slice rp rl rc], .bool true], .agg #[.int .u64 x1, .slice xp xl xc], .agg #[.int .u64 y1, .slice yp yl yc], .tuple #[.agg #[.int .u64 qa, .slice qp ql qc], .agg #[.int .u64 ra, .slice rp rl rc], .bool true], .agg #[.int .u64 qa, .slice qp ql qc], .agg #[.int .u64 ra, .slice rp rl rc], .bool true, .bool true, .bool false, undef, undef, undef, undef, undef, undef, undef, .agg #[.int .u64 x1, .slice xp xl xc], .agg #[.int .u64 y1, .slice yp yl yc], .agg #[.int .u64 va, .slice vp vl vc], .agg #[.int .u64 y1, .slice yp yl yc], .tuple #[.agg #[.int .u64 za, .slice zp zl zc], .agg #[.int .u64 sa, .slice sp sl sc], .bool true], undef, undef, undef, undef, undef, undef, undef, undef, undef, undef, undef, undef, undef, undef, undef, undef, undef, undef, undef, undef, undef, undef, undef, undef, undef, undef, undef, undef, undef, undef, undef, undef, undef, undef], defers := [] } W := by
      intro W acc va vp vl vc hv za zp zl zc sa sp sl sc hz hs c hc hcn d hd hdn hcd
      rw [← hR]
      have c00 := (u0.below acc l0).c0
      have c01 := (u0.below acc l0).c1
      have c10 := (u1.below acc l1).c0
      have c11 := (u1.below acc l1).c1
      have kc0 := hc.c0
      have kc1 := hc.c1
      have fc0 := hc.free 0
      have fc1 := hc.free 1
      have kd0 := hd.c0
      have kd1 := hd.c1
      have fd0 := hd.free 0
      have fd1 := hd.free 1
      refine wpAnyIn_ready (rs := [5]) (by kernel_rfl) (by simp) ?_
      refine AllReadyIn.cons rfl (fun K hK => ?_) ?_
      · go_simp
        refine hK _ _ ?_
        have h := H11111100011000 W acc va vp vl vc hv za zp zl zc sa sp sl sc hz hs c hc hcn d hd hdn hcd
        rw [← hR] at h
        exact h
      exact AllReadyIn.nil
    have H11111000010000 : ∀ (W : World) (acc : Below w4.heap.size w4 W) (va : Int) (vp : Option Addr) (vl vc : Nat) (hv : IsNat W (.agg #[.int .u64 va, .slice vp vl vc]) (X * Y)) (za : Int) (zp : Option Addr) (zl zc : Nat) (sa : Int) (sp : Option Addr) (sl sc : Nat) (hz : IsNat W (.agg #[.int .u64 za, .slice zp zl zc]) X) (hs : IsNat W (.agg #[.int .u64 sa, .slice sp sl sc]) 0) (c : Nat) (hc : Var W c (.int .u64 0) (.slice none 0 0)) (hcn : w4.heap.size ≤ c), R 8 #[true, true, true, true, true, false, false, false, false, true, false, false, false, false] { tmps := #[a, b, undef, undef, .bool false, .pointer (some ⟨w1.heap.size, 0, none⟩), .pointer (some ⟨w1.heap.size + 1, 0, none⟩), s1, s2, .pointer (some ⟨w3.heap.size, 0, none⟩), .pointer (some ⟨w3.heap.size + 1, 0, none⟩), .bool true, .pointer (some ⟨c, 0, none⟩), undef, undef, .tuple #[.agg #[.int .u64 x1, .slice xp xl xc], .agg #[.int .u64 y1, .slice yp yl yc], s1, s2], a, b, .tuple #[.agg #[.int .u64 x1, .slice xp xl xc], .agg #[.int .u64 y1, .slice yp yl yc], s1, s2], .agg #[.int .u64 x1, .slice xp xl xc], .agg #[.int .u64 y1, .slice yp yl yc], s1, s2, .tuple #[.agg #[.int .u64 qa, .slice qp ql qc], .agg #[.int .u64 ra, .slice rp rl rc], .bool true], .agg #[.int .u64 x1, .slice xp xl xc], .agg #[.int .u64 y1, .slice yp yl yc], .tuple #[.agg #[.int .u64 qa, .slice qp ql qc], .agg #[.int .u64 ra, .slice rp rl rc], .bool true], .agg #[.int .u64 qa, .slice qp ql qc], .agg #[.int .u64 ra, .slice rp rl rc], .bool true, .bool true, .bool false, undef, undef, undef, undef, undef, undef, undef, .agg #[.int .u64 x1, .slice xp xl xc], .agg #[.int .u64 y1, .slice yp yl yc], .agg #[.int .u64 va, .slice vp vl vc], .agg #[.int .u64 y1, .slice yp yl yc], .tuple #[.agg #[.int .u64 za, .slice zp zl zc], .agg #[.int .u64 sa, .slice sp sl sc], .bool true], undef, undef, undef, undef, undef, undef, undef, undef, undef, undef, undef, undef, undef, undef, undef, undef, undef, undef, undef, undef, undef, undef, undef, undef, undef, undef, undef, undef, undef, undef, undef, undef, undef, undef], defers := [] } W := by
      intro W acc va vp vl vc hv za zp zl zc sa sp sl sc hz hs c hc hcn
      rw [← hR]
      have c00 := (u0.below acc l0).c0
      have c01 := (u0.below acc l0).c1
      have c10 := (u1.below acc l1).c0
      have c11 := (u1.below acc l1).c1
      have kc0 := hc.c0
      have kc1 := hc.c1
      have fc0 := hc.free 0
      have fc1 := hc.free 1
      refine wpAnyIn_ready (rs := [5, 10]) (by kernel_rfl) (by simp) ?_
      refine AllReadyIn.cons rfl (fun K hK => ?_) ?_
      · go_simp
        refine hK _ _ ?_
        have h := H11111100010000 W acc va vp vl vc hv za zp zl zc sa sp sl sc hz hs c hc hcn
        rw [← hR] at h
        exact h
      refine AllReadyIn.cons rfl (fun K hK => ?_) ?_
      · go_simp
        refine hK _ _ ?_
        have h := H11111000011000 (W.alloc (.cells #[.int .u64 0, .slice none 0 0] 25)) (acc.alloc acc.size _) va vp vl vc (hv.below ((Below.refl _ W).alloc (Nat.le_refl _) _)) za zp zl zc sa sp sl sc (hz.below ((Below.refl _ W).alloc (Nat.le_refl _) _)) (hs.below ((Below.refl _ W).alloc (Nat.le_refl _) _)) c (hc.alloc _) hcn W.heap.size (Var.new W W.heap.size _ _ _ _ rfl) acc.size (Nat.ne_of_lt hc.lt)
        rw [← hR] at h
        exact h
      exact AllReadyIn.nil
    have H11111000001000 : ∀ (W : World) (acc : Below w4.heap.size w4 W) (va : Int) (vp : Option Addr) (vl vc : Nat) (hv : IsNat W (.agg #[.int .u64 va, .slice vp vl vc]) (X * Y)) (za : Int) (zp : Option Addr) (zl zc : Nat) (sa : Int) (sp : Option Addr) (sl sc : Nat) (hz : IsNat W (.agg #[.int .u64 za, .slice zp zl zc]) X) (hs : IsNat W (.agg #[.int .u64 sa, .slice sp sl sc]) 0) (d : Nat) (hd : Var W d (.int .u64 0) (.slice none 0 0)) (hdn : w4.heap.size ≤ d), R 8 #[true, true, true, true, true, false, false, false, false, false, true, false, false, false] { tmps := #[a, b, undef, undef, .bool false, .pointer (some ⟨w1.heap.size, 0, none⟩), .pointer (some ⟨w1.heap.size + 1, 0, none⟩), s1, s2, .pointer (some ⟨w3.heap.size, 0, none⟩), .pointer (some ⟨w3.heap.size + 1, 0, none⟩), .bool true, undef, .pointer (some ⟨d, 0, none⟩), undef, .tuple #[.agg #[.int .u64 x1, .slice xp xl xc], .agg #[.int .u64 y1, .slice yp yl yc], s1, s2], a, b, .tuple #[.agg #[.int .u64 x1, .slice xp xl xc], .agg #[.int .u64 y1, .slice yp yl yc], s1, s2], .agg #[.int .u64 x1, .slice xp xl xc], .agg #[.int .u64 y1, .slice yp yl yc], s1, s2, .tuple #[.agg #[.int .u64 qa, .slice qp ql qc], .agg #[.int .u64 ra, .slice rp rl rc], .bool true], .agg #[.int .u64 x1, .slice xp xl xc], .agg #[.int .u64 y1, .slice yp yl yc], .tuple #[.agg #[.int .u64 qa, .slice qp ql qc], .agg #[.int .u64 ra, .slice rp rl rc], .bool true], .agg #[.int .u64 qa, .slice qp ql qc], .agg #[.int .u64 ra, .slice rp rl rc], .bool true, .bool true, .bool false, undef, undef, undef, undef, undef, undef, undef, .agg #[.int .u64 x1, .slice xp xl xc], .agg #[.int .u64 y1, .slice yp yl yc], .agg #[.int .u64 va, .slice vp vl vc], .agg #[.int .u64 y1, .slice yp yl yc], .tuple #[.agg #[.int .u64 za, .slice zp zl zc], .agg #[.int .u64 sa, .slice sp sl sc], .bool true], undef, undef, undef, undef, undef, undef, undef, undef, undef, undef, undef, undef, undef, undef, undef, undef, undef, undef, undef, undef, undef, undef, undef, undef, undef, undef, undef, undef, undef, undef, undef, undef, undef, undef], defers := [] } W := by
      intro W acc va vp vl vc hv za zp zl zc sa sp sl sc hz hs d hd hdn
      rw [← hR]
      have c00 := (u0.below acc l0).c0
      have c01 := (u0.below acc l0).c1
      have c10 := (u1.below acc l1).c0
      have c11 := (u1.below acc l1).c1
      have kd0 := hd.c0
      have kd1 := hd.c1
      have fd0 := hd.free 0
      have fd1 := hd.free 1
      refine wpAnyIn_ready (rs := [5, 9]) (by kernel_rfl) (by simp) ?_
      refine AllReadyIn.cons rfl (fun K hK => ?_) ?_
      · go_simp
        refine hK _ _ ?_
        have h := H11111100001000 W acc va vp vl vc hv za zp zl zc sa sp sl sc hz hs d hd hdn
        rw [← hR] at h
        exact h
      refine AllReadyIn.cons rfl (fun K hK => ?_) ?_
      · go_simp
        refine hK _ _ ?_
        have h := H11111000011000 (W.alloc (.cells #[.int .u64 0, .slice none 0 0] 25)) (acc.alloc acc.size _) va vp vl vc (hv.below ((Below.refl _ W).alloc (Nat.le_refl _) _)) za zp zl zc sa sp sl sc (hz.below ((Below.refl _ W).alloc (Nat.le_refl _) _)) (hs.below ((Below.refl _ W).alloc (Nat.le_refl _) _)) W.heap.size (Var.new W W.heap.size _ _ _ _ rfl) acc.size d (hd.alloc _) hdn (Nat.ne_of_gt hd.lt)
        rw [← hR] at h
        exact h
      exact AllReadyIn.nil
    have H11111000000000 : ∀ (W : World) (acc : Below w4.heap.size w4 W) (va : Int) (vp : Option Addr) (vl vc : Nat) (hv : IsNat W (.agg #[.int .u64 va, .slice vp vl vc]) (X * Y)) (za : Int) (zp : Option Addr) (zl zc : Nat) (sa : Int) (sp : Option Addr) (sl sc : Nat) (hz : IsNat W (.agg #[.int .u64 za, .slice zp zl zc]) X) (hs : IsNat W (.agg #[.int .u64 sa, .slice sp sl sc]) 0), R 9 #[true, true, true, true, true, false, false, false, false, false, false, false, false, false] { tmps := #[a, b, undef, undef, .bool false, .pointer (some ⟨w1.heap.size, 0, none⟩), .pointer (some ⟨w1.heap.size + 1, 0, none⟩), s1, s2, .pointer (some ⟨w3.heap.size, 0, none⟩), .pointer (some ⟨w3.heap.size + 1, 0, none⟩), .bool true, undef, undef, undef, .tuple #[.agg #[.int .u64 x1, .slice xp xl xc], .agg #[.int .u64 y1, .slice yp yl yc], s1, s2], a, b, .tuple #[.agg #[.int .u64 x1, .slice xp xl xc], .agg #[.int .u64 y1, .slice yp yl yc], s1, s2], .agg #[.int .u64 x1, .slice xp xl xc], .agg #[.int .u64 y1, .slice yp yl yc], s1, s2, .tuple #[.agg #[.int .u64 qa, .slice qp ql qc], .agg #[.int .u64 ra, .slice rp rl rc], .bool true], .agg #[.int .u64 x1, .slice xp xl xc], .agg #[.int .u64 y1, .slice yp yl yc], .tuple #[.agg #[.int .u64 qa, .slice qp ql qc], .agg #[.int .u64 ra, .slice rp rl rc], .bool true], .agg #[.int .u64 qa, .slice qp ql qc], .agg #[.int .u64 ra, .slice rp rl rc], .bool true, .bool true, .bool false, undef, undef, undef, undef, undef, undef, undef, .agg #[.int .u64 x1, .slice xp xl xc], .agg #[.int .u64 y1, .slice yp yl yc], .agg #[.int .u64 va, .slice vp vl vc], .agg #[.int .u64 y1, .slice yp yl yc], .tuple #[.agg #[.int .u64 za, .slice zp zl zc], .agg #[.int .u64 sa, .slice sp sl sc], .bool true], undef, undef, undef, undef, undef, undef, undef, undef, undef, undef, undef, undef, undef, undef, undef, undef, undef, undef, undef, undef, undef, undef, undef, undef, undef, undef, undef, undef, undef, undef, undef, undef, undef, undef], defers := [] } W := by
      intro W acc va vp vl vc hv za zp zl zc sa sp sl sc hz hs
      rw [← hR]
      have c00 := (u0.below acc l0).c0
      have c01 := (u0.below acc l0).c1
      have c10 := (u1.below acc l1).c0
      have c11 := (u1.below acc l1).c1
      refine wpAnyIn_ready (rs := [5, 9, 10]) (by kernel_rfl) (by simp) ?_
      refine AllReadyIn.cons rfl (fun K hK => ?_) ?_
      · go_simp
        refine hK _ _ ?_
        have h := H11111100000000 W acc va vp vl vc hv za zp zl zc sa sp sl sc hz hs
        rw [← hR] at h
        exact h
      refine AllReadyIn.cons rfl (fun K hK => ?_) ?_
      · go_simp
        refine hK _ _ ?_
        have h := H11111000010000 (W.alloc (.cells #[.int .u64 0, .slice none 0 0] 25)) (acc.alloc acc.size _) va vp vl vc (hv.below ((Below.refl _ W).alloc (Nat.le_refl _) _)) za zp zl zc sa sp sl sc (hz.below ((Below.refl _ W).alloc (Nat.le_refl _) _)) (hs.below ((Below.refl _ W).alloc (Nat.le_refl _) _)) W.heap.size (Var.new W W.heap.size _ _ _ _ rfl) acc.size
        rw [← hR] at h
        exact h
      refine AllReadyIn.cons rfl (fun K hK => ?_) ?_
      · go_simp
        refine hK _ _ ?_
        have h := H11111000001000 (W.alloc (.cells #[.int .u64 0, .slice none 0 0] 25)) (acc.alloc acc.size _) va vp vl vc (hv.below ((Below.refl _ W).alloc (Nat.le_refl _) _)) za zp zl zc sa sp sl sc (hz.below ((Below.refl _ W).alloc (Nat.le_refl _) _)) (hs.below ((Below.refl _ W).alloc (Nat.le_refl _) _)) W.heap.size (Var.new W W.heap.size _ _ _ _ rfl) acc.size
        rw [← hR] at h
        exact h
      exact AllReadyIn.nil
    have H11110000011000 : ∀ (W : World) (acc : Below w4.heap.size w4 W) (va : Int) (vp : Option Addr) (vl vc : Nat) (hv : IsNat W (.agg #[.int .u64 va, .slice vp vl vc]) (X * Y)) (c : Nat) (hc : Var W c (.int .u64 0) (.slice none 0 0)) (hcn : w4.heap.size ≤ c) (d : Nat) (hd : Var W d (.int .u64 0) (.slice none 0 0)) (hdn : w4.heap.size ≤ d) (hcd : c ≠ d), R 8 #[true, true, true, true, false, false, false, false, false, true, true, false, false, false] { tmps := #[a, b, undef, undef, .bool false, .pointer (some ⟨w1.heap.size, 0, none⟩), .pointer (some ⟨w1.heap.size + 1, 0, none⟩), s1, s2, .pointer (some ⟨w3.heap.size, 0, none⟩), .pointer (some ⟨w3.heap.size + 1, 0, none⟩), .bool true, .pointer (some ⟨c, 0, none⟩), .pointer (some ⟨d, 0, none⟩), undef, .tuple #[.agg #[.int .u64 x1, .slice xp xl xc], .agg #[.int .u64 y1, .slice yp yl yc], s1, s2], a, b, .tuple #[.agg #[.int .u64 x1, .slice xp xl xc], .agg #[.int .u64 y1, .slice yp yl yc], s1, s2], .agg #[.int .u64 x1, .slice xp xl xc], .agg #[.int .u64 y1, .slice yp yl yc], s1, s2, .tuple #[.agg #[.int .u64 qa, .slice qp ql qc], .agg #[.int .u64 ra, .slice rp rl rc], .bool true], .agg #[.int .u64 x1, .slice xp xl xc], .agg #[.int .u64 y1, .slice yp yl yc], .tuple #[.agg #[.int .u64 qa, .slice qp ql qc], .agg #[.int .u64 ra, .slice rp rl rc], .bool true], .agg #[.int .u64 qa, .slice qp ql qc], .agg #[.int .u64 ra, .slice rp rl rc], .bool true, .bool true, .bool false, undef, undef, undef, undef, undef, undef, undef, .agg #[.int .u64 x1, .slice xp xl xc], .agg #[.int .u64 y1, .slice yp yl yc], .agg #[.int .u64 va, .slice vp vl vc], .agg #[.int .u64 y1, .slice yp yl yc], undef, undef, undef, undef, undef, undef, undef, undef, undef, undef, undef, undef, undef, undef, undef, undef, undef, undef, undef, undef, undef, undef, undef, undef, undef, undef, undef, undef, undef, undef, undef, undef, undef, undef, undef], defers := [] } W := by
      intro W acc va vp vl vc hv c hc hcn d hd hdn hcd
      rw [← hR]
      have c00 := (u0.below acc l0).c0
      have c01 := (u0.below acc l0).c1
      have c10 := (u1.below acc l1).c0
      have c11 := (u1.below acc l1).c1
      have kc0 := hc.c0
      have kc1 := hc.c1
      have fc0 := hc.free 0
      have fc1 := hc.free 1
      have kd0 := hd.c0
      have kd1 := hd.c1
      have fd0 := hd.free 0
      have fd1 := hd.free 1
      refine wpAnyIn_ready (rs := [4]) (by kernel_rfl) (by simp) ?_
      refine AllReadyIn.cons rfl (fun K hK => ?_) ?_
      · go_simp
        gi_wp2_with (refine ⟨trivial, ?_⟩; gi_at_call 9; refine (callsIn_wide.2 (div_at _ _ (X * Y) Y X 0 W hv (hy.below acc) BP hY EZ ES)).mono ?_; rintro e W2 ⟨z, s, rfl, hz, hs, hb⟩; obtain ⟨za, zp, zl, zc, rfl⟩ := hz.shape; obtain ⟨sa, sp, sl, sc, rfl⟩ := hs.shape)
        have h := H11111000011000 W2 (below_acc acc acc.size hb) va vp vl vc (hv.below hb) za zp zl zc sa sp sl sc hz hs c (hc.below hb hc.lt) hcn d (hd.below hb hd.lt) hdn hcd
        rw [← hR] at h
        exact h
      exact AllReadyIn.nil
    have H11110000010000 : ∀ (W : World) (acc : Below w4.heap.size w4 W) (va : Int) (vp : Option Addr) (vl vc : Nat) (hv : IsNat W (.agg #[.int .u64 va, .slice vp vl vc]) (X * Y)) (c : Nat) (hc : Var W c (.int .u64 0) (.slice none 0 0)) (hcn : w4.heap.size ≤ c), R 9 #[true, true, true, true, false, false, false, false, false, true, false, false, false, false] { tmps := #[a, b, undef, undef, .bool false, .pointer (some ⟨w1.heap.size, 0, none⟩), .pointer (some ⟨w1.heap.size + 1, 0, none⟩), s1, s2, .pointer (some ⟨w3.heap.size, 0, none⟩), .pointer (some ⟨w3.heap.size + 1, 0, none⟩), .bool true, .pointer (some ⟨c, 0, none⟩), undef, undef, .tuple #[.agg #[.int .u64 x1, .slice xp xl xc], .agg #[.int .u64 y1, .slice yp yl yc], s1, s2], a, b, .tuple #[.agg #[.int .u64 x1, .slice xp xl xc], .agg #[.int .u64 y1, .slice yp yl yc], s1, s2], .agg #[.int .u64 x1, .slice xp xl xc], .agg #[.int .u64 y1, .slice yp yl yc], s1, s2, .tuple #[.agg #[.int .u64 qa, .slice qp ql qc], .agg #[.int .u64 ra, .slice rp rl rc], .bool true], .agg #[.int .u64 x1, .slice xp xl xc], .agg #[.int .u64 y1, .slice yp yl yc], .tuple #[.agg #[.int .u64 qa, .slice qp ql qc], .agg #[.int .u64 ra, .slice rp rl rc], .bool true], .agg #[.int .u64 qa, .slice qp ql qc], .agg #[.int .u64 ra, .slice rp rl rc], .bool true, .bool true, .bool false, undef, undef, undef, undef, undef, undef, undef, .agg #[.int .u64 x1, .slice xp xl xc], .agg #[.int .u64 y1, .slice yp yl yc], .agg #[.int .u64 va, .slice vp vl vc], .agg #[.int .u64 y1, .slice yp yl yc], undef, undef, undef, undef, undef, undef, undef, undef, undef, undef, undef, undef, undef, undef, undef, undef, undef, undef, undef, undef, undef, undef, undef, undef, undef, undef, undef, undef, undef, undef, undef, undef, undef, undef, undef], defers := [] } W := by
      intro W acc va vp vl vc hv c hc hcn
      rw [← hR]
      have c00 := (u0.below acc l0).c0
      have c01 := (u0.below acc l0).c1
      have c10 := (u1.below acc l1).c0
      have c11 := (u1.below acc l1).c1
      have kc0 := hc.c0
      have kc1 := hc.c1
      have fc0 := hc.free 0
      have fc1 := hc.free 1
      refine wpAnyIn_ready (rs := [4, 10]) (by kernel_rfl) (by simp) ?_
      refine AllReadyIn.cons rfl (fun K hK => ?_) ?_
      · go_simp
        gi_wp2_with (refine ⟨trivial, ?_⟩; gi_at_call 9; refine (callsIn_wide.2 (div_at _ _ (X * Y) Y X 0 W hv (hy.below acc) BP hY EZ ES)).mono ?_; rintro e W2 ⟨z, s, rfl, hz, hs, hb⟩; obtain ⟨za, zp, zl, zc, rfl⟩ := hz.shape; obtain ⟨sa, sp, sl, sc, rfl⟩ := hs.shape)
        have h := H11111000010000 W2 (below_acc acc acc.size hb) va vp vl vc (hv.below hb) za zp zl zc sa sp sl sc hz hs c (hc.below hb hc.lt) hcn
        rw [← hR] at h
        exact h
      refine AllReadyIn.cons rfl (fun K hK => ?_) ?_
      · go_simp
        refine hK _ _ ?_
        have h := H11110000011000 (W.alloc (.cells #[.int .u64 0, .slice none 0 0] 25)) (acc.alloc acc.size _) va vp vl vc (hv.below ((Below.refl _ W).alloc (Nat.le_refl _) _)) c (hc.alloc _) hcn W.heap.size (Var.new W W.heap.size _ _ _ _ rfl) acc.size (Nat.ne_of_lt hc.lt)
        rw [← hR] at h
        exact h
      exact AllReadyIn.nil
    have H11110000001000 : ∀ (W : World) (acc : Below w4.heap.size w4 W) (va : Int) (vp : Option Addr) (vl vc : Nat) (hv : IsNat W (.agg #[.int .u64 va, .slice vp vl vc]) (X * Y)) (d : Nat) (hd : Var W d (.int .u64 0) (.slice none 0 0)) (hdn : w4.heap.size ≤ d), R 9 #[true, true, true, true, false, false, false, false, false, false, true, false, false, false] { tmps := #[a, b, undef, undef, .bool false, .pointer (some ⟨w1.heap.size, 0, none⟩), .pointer (some ⟨w1.heap.size + 1, 0, none⟩), s1, s2, .pointer (some ⟨w3.heap.size, 0, none⟩), .pointer (some ⟨w3.heap.size + 1, 0, none⟩), .bool true, undef, .pointer (some ⟨d, 0, none⟩), undef, .tuple #[.agg #[.int .u64 x1, .slice xp xl xc], .agg #[.int .u64 y1, .slice yp yl yc], s1, s2], a, b, .tuple #[.agg #[.int .u64 x1, .slice xp xl xc], .agg #[.int .u64 y1, .slice yp yl yc], s1, s2], .agg #[.int .u64 x1, .slice xp xl xc], .agg #[.int .u64 y1, .slice yp yl yc], s1, s2, .tuple #[.agg #[.int .u64 qa, .slice qp ql qc], .agg #[.int .u64 ra, .slice rp rl rc], .bool true], .agg #[.int .u64 x1, .slice xp xl xc], .agg #[.int .u64 y1, .slice yp yl yc], .tuple #[.agg #[.int .u64 qa, .slice qp ql qc], .agg #[.int .u64 ra, .slice rp rl rc], .bool true], .agg #[.int .u64 qa, .slice qp ql qc], .agg #[.int .u64 ra, .slice rp rl rc], .bool true, .bool true, .bool false, undef, undef, undef, undef, undef, undef, undef, .agg #[.int .u64 x1, .slice xp xl xc], .agg #[.int .u64 y1, .slice yp yl yc], .agg #[.int .u64 va, .slice vp vl vc], .agg #[.int .u64 y1, .slice yp yl yc], undef, undef, undef, undef, undef, undef, undef, undef, undef, undef, undef, undef, undef, undef, undef, undef, undef, undef, undef, undef, undef, undef, undef, undef, undef, undef, undef, undef, undef, undef, undef, undef, undef, undef, undef], defers := [] } W := by
      intro W acc va vp vl vc hv d hd hdn
      rw [← hR]
      have c00 := (u0.below acc l0).c0
      have c01 := (u0.below acc l0).c1
      have c10 := (u1.below acc l1).c0
      have c11 := (u1.below acc l1).c1
      have kd0 := hd.c0
      have kd1 := hd.c1
      have fd0 := hd.free 0
      have fd1 := hd.free 1
      refine wpAnyIn_ready (rs := [4, 9]) (by kernel_rfl) (by simp) ?_
      refine AllReadyIn.cons rfl (fun K hK => ?_) ?_
      · go_simp
        gi_wp2_with (refine ⟨trivial, ?_⟩; gi_at_call 9; refine (callsIn_wide.2 (div_at _ _ (X * Y) Y X 0 W hv (hy.below acc) BP hY EZ ES)).mono ?_; rintro e W2 ⟨z, s, rfl, hz, hs, hb⟩; obtain ⟨za, zp, zl, zc, rfl⟩ := hz.shape; obtain ⟨sa, sp, sl, sc, rfl⟩ := hs.shape)
        have h := H11111000001000 W2 (below_acc acc acc.size hb) va vp vl vc (hv.below hb) za zp zl zc sa sp sl sc hz hs d (hd.below hb hd.lt) hdn
        rw [← hR] at h
        exact h
      refine AllReadyIn.cons rfl (fun K hK => ?_) ?_
      · go_simp
        refine hK _ _ ?_
        have h := H11110000011000 (W.alloc (.cells #[.int .u64 0, .slice none 0 0] 25)) (acc.alloc acc.size _) va vp vl vc (hv.below ((Below.refl _ W).alloc (Nat.le_refl _) _)) W.heap.size (Var.new W W.heap.size _ _ _ _ rfl) acc.size d (hd.alloc _) hdn (Nat.ne_of_gt hd.lt)
        rw [← hR] at h
        exact h
      exact AllReadyIn.nil
    have H11110000000000 : ∀ (W : World) (acc : Below w4.heap.size w4 W) (va : Int) (vp : Option Addr) (vl vc : Nat) (hv : IsNat W (.agg #[.int .u64 va, .slice vp vl vc]) (X * Y)), R 10 #[true, true, true, true, false, false, false, false, false, false, false, false, false, false] { tmps := #[a, b, undef, undef, .bool false, .pointer (some ⟨w1.heap.size, 0, none⟩), .pointer (some ⟨w1.heap.size + 1, 0, none⟩), s1, s2, .pointer (some ⟨w3.heap.size, 0, none⟩), .pointer (some ⟨w3.heap.size + 1, 0, none⟩), .bool true, undef, undef, undef, .tuple #[.agg #[.int .u64 x1, .slice xp xl xc], .agg #[.int .u64 y1, .slice yp yl yc], s1, s2], a, b, .tuple #[.agg #[.int .u64 x1, .slice xp xl xc], .agg #[.int .u64 y1, .slice yp yl yc], s1, s2], .agg #[.int .u64 x1, .slice xp xl xc], .agg #[.int .u64 y1, .slice yp yl yc], s1, s2, .tuple #[.agg #[.int .u64 qa, .slice qp ql qc], .agg #[.int .u64 ra, .slice rp rl rc], .bool true], .agg #[.int .u64 x1, .slice xp xl xc], .agg #[.int .u64 y1, .slice yp yl yc], .tuple #[.agg #[.int .u64 qa, .slice qp ql qc], .agg #[.int .u64 ra, .slice rp rl rc], .bool true], .agg #[.int .u64 qa, .slice qp ql qc], .agg #[.int .u64 ra, .slice rp rl rc], .bool true, .bool true, .bool false, undef, undef, undef, undef, undef, undef, undef, .agg #[.int .u64 x1, .slice xp xl xc], .agg #[.int .u64 y1, .slice yp yl yc], .agg #[.int .u64 va, .slice vp vl vc], .agg #[.int .u64 y1, .slice yp yl yc], undef, undef, undef, undef, undef, undef, undef, undef, undef, undef, undef, undef, undef, undef, undef, undef, undef, undef, undef, undef, undef, undef, undef, undef, undef, undef, undef, undef, undef, undef, undef, undef, undef, undef, undef], defers := [] } W := by
      intro W acc va vp vl vc hv
      rw [← hR]
      have c00 := (u0.below acc l0).c0
      have c01 := (u0.below acc l0).c1
      have c10 := (u1.below acc l1).c0
      have c11 := (u1.below acc l1).c1
      refine wpAnyIn_ready (rs := [4, 9, 10]) (by kernel_rfl) (by simp) ?_
      refine AllReadyIn.cons rfl (fun K hK => ?_) ?_
      · go_simp
        gi_wp2_with (refine ⟨trivial, ?_⟩; gi_at_call 9; refine (callsIn_wide.2 (div_at _ _ (X * Y) Y X 0 W hv (hy.below acc) BP hY EZ ES)).mono ?_; rintro e W2 ⟨z, s, rfl, hz, hs, hb⟩; obtain ⟨za, zp, zl, zc, rfl⟩ := hz.shape; obtain ⟨sa, sp, sl, sc, rfl⟩ := hs.shape)
        have h := H11111000000000 W2 (below_acc acc acc.size hb) va vp vl vc (hv.below hb) za zp zl zc sa sp sl sc hz hs
        rw [← hR] at h
        exact h
      refine AllReadyIn.cons rfl (fun K hK => ?_) ?_
      · go_simp
        refine hK _ _ ?_
        have h := H11110000010000 (W.alloc (.cells #[.int .u64 0, .slice none 0 0] 25)) (acc.alloc acc.size _) va vp vl vc (hv.below ((Below.refl _ W).alloc (Nat.le_refl _) _)) W.heap.size (Var.new W W.heap.size _ _ _ _ rfl) acc.size
        rw [← hR] at h
        exact h
      refine AllReadyIn.cons rfl (fun K hK => ?_) ?_
      · go_simp
        refine hK _ _ ?_
        have h := H11110000001000 (W.alloc (.cells #[.int .u64 0, .slice none 0 0] 25)) (acc.alloc acc.size _) va vp vl vc (hv.below ((Below.refl _ W).alloc (Nat.le_refl _) _)) W.heap.size (Var.new W W.heap.size _ _ _ _ rfl) acc.size
        rw [← hR] at h
        exact h
      exact AllReadyIn.nil
    have H11100000011000 : ∀ (W : World) (acc : Below w4.heap.size w4 W) (va : Int) (vp : Option Addr) (vl vc : Nat) (hv : IsNat W (.agg #[.int .u64 va, .slice vp vl vc]) (X * Y)) (c : Nat) (hc : Var W c (.int .u64 0) (.slice none 0 0)) (hcn : w4.heap.size ≤ c) (d : Nat) (hd : Var W d (.int .u64 0) (.slice none 0 0)) (hdn : w4.heap.size ≤ d) (hcd : c ≠ d), R 9 #[true, true, true, false, false, false, false, false, false, true, true, false, false, false] { tmps := #[a, b, undef, undef, .bool false, .pointer (some ⟨w1.heap.size, 0, none⟩), .pointer (some ⟨w1.heap.size + 1, 0, none⟩), s1, s2, .pointer (some ⟨w3.heap.size, 0, none⟩), .pointer (some ⟨w3.heap.size + 1, 0, none⟩), .bool true, .pointer (some ⟨c, 0, none⟩), .pointer (some ⟨d, 0, none⟩), undef, .tuple #[.agg #[.int .u64 x1, .slice xp xl xc], .agg #[.int .u64 y1, .slice yp yl yc], s1, s2], a, b, .tuple #[.agg #[.int .u64 x1, .slice xp xl xc], .agg #[.int .u64 y1, .slice yp yl yc], s1, s2], .agg #[.int .u64 x1, .slice xp xl xc], .agg #[.int .u64 y1, .slice yp yl yc], s1, s2, .tuple #[.agg #[.int .u64 qa, .slice qp ql qc], .agg #[.int .u64 ra, .slice rp rl rc], .bool true], .agg #[.int .u64 x1, .slice xp xl xc], .agg #[.int .u64 y1, .slice yp yl yc], .tuple #[.agg #[.int .u64 qa, .slice qp ql qc], .agg #[.int .u64 ra, .slice rp rl rc], .bool true], .agg #[.int .u64 qa, .slice qp ql qc], .agg #[.int .u64 ra, .slice rp rl rc], .bool true, .bool true, .bool false, undef, undef, undef, undef, undef, undef, undef, .agg #[.int .u64 x1, .slice xp xl xc], .agg #[.int .u64 y1, .slice yp yl yc], .agg #[.int .u64 va, .slice vp vl vc], undef, undef, undef, undef, undef, undef, undef, undef, undef, undef, undef, undef, undef, undef, undef, undef, undef, undef, undef, undef, undef, undef, undef, undef, undef, undef, undef, undef, undef, undef, undef, undef, undef, undef, undef, undef], defers := [] } W := by
      intro W acc va vp vl vc hv c hc hcn d hd hdn hcd
      rw [← hR]
      have c00 := (u0.below acc l0).c0
      have c01 := (u0.below acc l0).c1
      have c10 := (u1.below acc l1).c0
      have c11 := (u1.below acc l1).c1
      have kc0 := hc.c0
      have kc1 := hc.c1
      have fc0 := hc.free 0
      have fc1 := hc.free 1
      have kd0 := hd.c0
      have kd1 := hd.c1
      have fd0 := hd.free 0
      have fd1 := hd.free 1
      refine wpAnyIn_ready (rs := [3]) (by kernel_rfl) (by simp) ?_
      refine AllReadyIn.cons rfl (fun K hK => ?_) ?_
      · go_simp
        refine hK _ _ ?_
        have h := H11110000011000 W acc va vp vl vc hv c hc hcn d hd hdn hcd
        rw [← hR] at h
        exact h
      exact AllReadyIn.nil
    have H11100000010000 : ∀ (W : World) (acc : Below w4.heap.size w4 W) (va : Int) (vp : Option Addr) (vl vc : Nat) (hv : IsNat W (.agg #[.int .u64 va, .slice vp vl vc]) (X * Y)) (c : Nat) (hc : Var W c (.int .u64 0) (.slice none 0 0)) (hcn : w4.heap.size ≤ c), R 10 #[true, true, true, false, false, false, false, false, false, true, false, false, false, false] { tmps := #[a, b, undef, undef, .bool false, .pointer (some ⟨w1.heap.size, 0, none⟩), .pointer (some ⟨w1.heap.size + 1, 0, none⟩), s1, s2, .pointer (some ⟨w3.heap.size, 0, none⟩), .pointer (some ⟨w3.heap.size + 1, 0, none⟩), .bool true, .pointer (some ⟨c, 0, none⟩), undef, undef, .tuple #[.agg #[.int .u64 x1, .slice xp xl xc], .agg #[.int .u64 y1, .slice yp yl yc], s1, s2], a, b, .tuple #[.agg #[.int .u64 x1, .slice xp xl xc], .agg #[.int .u64 y1, .slice yp yl yc], s1, s2], .agg #[.int .u64 x1, .slice xp xl xc], .agg #[.int .u64 y1, .slice yp yl yc], s1, s2, .tuple #[.agg #[.int .u64 qa, .slice qp ql qc], .agg #[.int .u64 ra, .slice rp rl rc], .bool true], .agg #[.int .u64 x1, .slice xp xl xc], .agg #[.int .u64 y1, .slice yp yl yc], .tuple #[.agg #[.int .u64 qa, .slice qp ql qc], .agg #[.int .u64 ra, .slice rp rl rc], .bool true], .agg #[.int .u64 qa, .slice qp ql qc], .agg #[.int .u64 ra, .slice rp rl rc], .bool true, .bool true, .bool false, undef, undef, undef, undef, undef, undef, undef, .agg #[.int .u64 x1, .slice xp xl xc], .agg #[.int .u64 y1, .slice yp yl yc], .agg #[.int .u64 va, .slice vp vl vc], undef, undef, undef, undef, undef, undef, undef, undef, undef, undef, undef, undef, undef, undef, undef, undef, undef, undef, undef, undef, undef, undef, undef, undef, undef, undef, undef, undef, undef, undef, undef, undef, undef, undef, undef, undef], defers := [] } W := by
      intro W acc va vp vl vc hv c hc hcn
      rw [← hR]
      have c00 := (u0.below acc l0).c0
      have c01 := (u0.below acc l0).c1
      have c10 := (u1.below acc l1).c0
      have c11 := (u1.below acc l1).c1
      have kc0 := hc.c0
      have kc1 := hc.c1
      have fc0 := hc.free 0
      have fc1 := hc.free 1
      refine wpAnyIn_ready (rs := [3, 10]) (by kernel_rfl) (by simp) ?_
      refine AllReadyIn.cons rfl (fun K hK => ?_) ?_
      · go_simp
        refine hK _ _ ?_
        have h := H11110000010000 W acc va vp vl vc hv c hc hcn
        rw [← hR] at h
        exact h
      refine AllReadyIn.cons rfl (fun K hK => ?_) ?_
      · go_simp
        refine hK _ _ ?_
        have h := H11100000011000 (W.alloc (.cells #[.int .u64 0, .slice none 0 0] 25)) (acc.alloc acc.size _) va vp vl vc (hv.below ((Below.refl _ W).alloc (Nat.le_refl _) _)) c (hc.alloc _) hcn W.heap.size (Var.new W W.heap.size _ _ _ _ rfl) acc.size (Nat.ne_of_lt hc.lt)
        rw [← hR] at h
        exact h
      exact AllReadyIn.nil
    have H11100000001000 : ∀ (W : World) (acc : Below w4.heap.size w4 W) (va : Int) (vp : Option Addr) (vl vc : Nat) (hv : IsNat W (.agg #[.int .u64 va, .slice vp vl vc]) (X * Y)) (d : Nat) (hd : Var W d (.int .u64 0) (.slice none 0 0)) (hdn : w4.heap.size ≤ d), R 10 #[true, true, true, false, false, false, false, false, false, false, true, false, false, false] { tmps := #[a, b, undef, undef, .bool false, .pointer (some ⟨w1.heap.size, 0, none⟩), .pointer (some ⟨w1.heap.size + 1, 0, none⟩), s1, s2, .pointer (some ⟨w3.heap.size, 0, none⟩), .pointer (some ⟨w3.heap.size + 1, 0, none⟩), .bool true, undef, .pointer (some ⟨d, 0, none⟩), undef, .tuple #[.agg #[.int .u64 x1, .slice xp xl xc], .agg #[.int .u64 y1, .slice yp yl yc], s1, s2], a, b, .tuple #[.agg #[.int .u64 x1, .slice xp xl xc], .agg #[.int .u64 y1, .slice yp yl yc], s1, s2], .agg #[.int .u64 x1, .slice xp xl xc], .agg #[.int .u64 y1, .slice yp yl yc], s1, s2, .tuple #[.agg #[.int .u64 qa, .slice qp ql qc], .agg #[.int .u64 ra, .slice rp rl rc], .bool true], .agg #[.int .u64 x1, .slice xp xl xc], .agg #[.int .u64 y1, .slice yp yl yc], .tuple #[.agg #[.int .u64 qa, .slice qp ql qc], .agg #[.int .u64 ra, .slice rp rl rc], .bool true], .agg #[.int .u64 qa, .slice qp ql qc], .agg #[.int .u64 ra, .slice rp rl rc], .bool true, .bool true, .bool false, undef, undef, undef, undef, undef, undef, undef, .agg #[.int .u64 x1, .slice xp xl xc], .agg #[.int .u64 y1, .slice yp yl yc], .agg #[.int .u64 va, .slice vp vl vc], undef, undef, undef, undef, undef, undef, undef, undef, undef, undef, undef, undef, undef, undef, undef, undef, undef, undef, undef, undef, undef, undef, undef, undef, undef, undef, undef, undef, undef, undef, undef, undef, undef, undef, undef, undef], defers := [] } W := by
      intro W acc va vp vl vc hv d hd hdn
      rw [← hR]
      have c00 := (u0.below acc l0).c0
      have c01 := (u0.below acc l0).c1
      have c10 := (u1.below acc l1).c0
      have c11 := (u1.below acc l1).c1
      have kd0 := hd.c0
      have kd1 := hd.c1
      have fd0 := hd.free 0
      have fd1 := hd.free 1
      refine wpAnyIn_ready (rs := [3, 9]) (by kernel_rfl) (by simp) ?_
      refine AllReadyIn.cons rfl (fun K hK => ?_) ?_
      · go_simp
        refine hK _ _ ?_
        have h := H11110000001000 W acc va vp vl vc hv d hd hdn
        rw [← hR] at h
        exact h
      refine AllReadyIn.cons rfl (fun K hK => ?_) ?_
      · go_simp
        refine hK _ _ ?_
        have h := H11100000011000 (W.alloc (.cells #[.int .u64 0, .slice none 0 0] 25)) (acc.alloc acc.size _) va vp vl vc (hv.below ((Below.refl _ W).alloc (Nat.le_refl _) _)) W.heap.size (Var.new W W.heap.size _ _ _ _ rfl) acc.size d (hd.alloc _) hdn (Nat.ne_of_gt hd.lt)
        rw [← hR] at h
        exact h
      exact AllReadyIn.nil
    have H11100000000000 : ∀ (W : World) (acc : Below w4.heap.size w4 W) (va : Int) (vp : Option Addr) (vl vc : Nat) (hv : IsNat W (.agg #[.int .u64 va, .slice vp vl vc]) (X * Y)), R 11 #[true, true, true, false, false, false, false, false, false, false, false, false, false, false] { tmps := #[a, b, undef, undef, .bool false, .pointer (some ⟨w1.heap.size, 0, none⟩), .pointer (some ⟨w1.heap.size + 1, 0, none⟩), s1, s2, .pointer (some ⟨w3.heap.size, 0, none⟩), .pointer (some ⟨w3.heap.size + 1, 0, none⟩), .bool true, undef, undef, undef, .tuple #[.agg #[.int .u64 x1, .slice xp xl xc], .agg #[.int .u64 y1, .slice yp yl yc], s1, s2], a, b, .tuple #[.agg #[.int .u64 x1, .slice xp xl xc], .agg #[.int .u64 y1, .slice yp yl yc], s1, s2], .agg #[.int .u64 x1, .slice xp xl xc], .agg #[.int .u64 y1, .slice yp yl yc], s1, s2, .tuple #[.agg #[.int .u64 qa, .slice qp ql qc], .agg #[.int .u64 ra, .slice rp rl rc], .bool true], .agg #[.int .u64 x1, .slice xp xl xc], .agg #[.int .u64 y1, .slice yp yl yc], .tuple #[.agg #[.int .u64 qa, .slice qp ql qc], .agg #[.int .u64 ra, .slice rp rl rc], .bool true], .agg #[.int .u64 qa, .slice qp ql qc], .agg #[.int .u64 ra, .slice rp rl rc], .bool true, .bool true, .bool false, undef, undef, undef, undef, undef, undef, undef, .agg #[.int .u64 x1, .slice xp xl xc], .agg #[.int .u64 y1, .slice yp yl yc], .agg #[.int .u64 va, .slice vp vl vc], undef, undef, undef, undef, undef, undef, undef, undef, undef, undef, undef, undef, undef, undef, undef, undef, undef, undef, undef, undef, undef, undef, undef, undef, undef, undef, undef, undef, undef, undef, undef, undef, undef, undef, undef, undef], defers := [] } W := by
      intro W acc va vp vl vc hv
      rw [← hR]
      have c00 := (u0.below acc l0).c0
      have c01 := (u0.below acc l0).c1
      have c10 := (u1.below acc l1).c0
      have c11 := (u1.below acc l1).c1
      refine wpAnyIn_ready (rs := [3, 9, 10]) (by kernel_rfl) (by simp) ?_
      refine AllReadyIn.cons rfl (fun K hK => ?_) ?_
      · go_simp
        refine hK _ _ ?_
        have h := H11110000000000 W acc va vp vl vc hv
        rw [← hR] at h
        exact h
      refine AllReadyIn.cons rfl (fun K hK => ?_) ?_
      · go_simp
        refine hK _ _ ?_
        have h := H11100000010000 (W.alloc (.cells #[.int .u64 0, .slice none 0 0] 25)) (acc.alloc acc.size _) va vp vl vc (hv.below ((Below.refl _ W).alloc (Nat.le_refl _) _)) W.heap.size (Var.new W W.heap.size _ _ _ _ rfl) acc.size
        rw [← hR] at h
        exact h
      refine AllReadyIn.cons rfl (fun K hK => ?_) ?_
      · go_simp
        refine hK _ _ ?_
        have h := H11100000001000 (W.alloc (.cells #[.int .u64 0, .slice none 0 0] 25)) (acc.alloc acc.size _) va vp vl vc (hv.below ((Below.refl _ W).alloc (Nat.le_refl _) _)) W.heap.size (Var.new W W.heap.size _ _ _ _ rfl) acc.size
        rw [← hR] at h
        exact h
      exact AllReadyIn.nil
    have H11010000011000 : ∀ (W : World) (acc : Below w4.heap.size w4 W) (c : Nat) (hc : Var W c (.int .u64 0) (.slice none 0 0)) (hcn : w4.heap.size ≤ c) (d : Nat) (hd : Var W d (.int .u64 0) (.slice none 0 0)) (hdn : w4.heap.size ≤ d) (hcd : c ≠ d), R 9 #[true, true, false, true, false, false, false, false, false, true, true, false, false, false] { tmps := #[a, b, undef, undef, .bool false, .pointer (some ⟨w1.heap.size, 0, none⟩), .pointer (some ⟨w1.heap.size + 1, 0, none⟩), s1, s2, .pointer (some ⟨w3.heap.size, 0, none⟩), .pointer (some ⟨w3.heap.size + 1, 0, none⟩), .bool true, .pointer (some ⟨c, 0, none⟩), .pointer (some ⟨d, 0, none⟩), undef, .tuple #[.agg #[.int .u64 x1, .slice xp xl xc], .agg #[.int .u64 y1, .slice yp yl yc], s1, s2], a, b, .tuple #[.agg #[.int .u64 x1, .slice xp xl xc], .agg #[.int .u64 y1, .slice yp yl yc], s1, s2], .agg #[.int .u64 x1, .slice xp xl xc], .agg #[.int .u64 y1, .slice yp yl yc], s1, s2, .tuple #[.agg #[.int .u64 qa, .slice qp ql qc], .agg #[.int .u64 ra, .slice rp rl rc], .bool true], .agg #[.int .u64 x1, .slice xp xl xc], .agg #[.int .u64 y1, .slice yp yl yc], .tuple #[.agg #[.int .u64 qa, .slice qp ql qc], .agg #[.int .u64 ra, .slice rp rl rc], .bool true], .agg #[.int .u64 qa, .slice qp ql qc], .agg #[.int .u64 ra, .slice rp rl rc], .bool true, .bool true, .bool false, undef, undef, undef, undef, undef, undef, undef, .agg #[.int .u64 x1, .slice xp xl xc], .agg #[.int .u64 y1, .slice yp yl yc], undef, .agg #[.int .u64 y1, .slice yp yl yc], undef, undef, undef, undef, undef, undef, undef, undef, undef, undef, undef, undef, undef, undef, undef, undef, undef, undef, undef, undef, undef, undef, undef, undef, undef, undef, undef, undef, undef, undef, undef, undef, undef, undef, undef], defers := [] } W := by
      intro W acc c hc hcn d hd hdn hcd
      rw [← hR]
      have c00 := (u0.below acc l0).c0
      have c01 := (u0.below acc l0).c1
      have c10 := (u1.below acc l1).c0
      have c11 := (u1.below acc l1).c1
      have kc0 := hc.c0
      have kc1 := hc.c1
      have fc0 := hc.free 0
      have fc1 := hc.free 1
      have kd0 := hd.c0
      have kd1 := hd.c1
      have fd0 := hd.free 0
      have fd1 := hd.free 1
      refine wpAnyIn_ready (rs := [2]) (by kernel_rfl) (by simp) ?_
      refine AllReadyIn.cons rfl (fun K hK => ?_) ?_
      · go_simp
        gi_wp2_with (refine ⟨trivial, ?_⟩; gi_at_call 20; refine (callsIn_wide.2 (mul_any 20 (by decide) (by decide) _ _ X Y W (hx.below acc) (hy.below acc) BX BY)).mono ?_; rintro e W2 ⟨v, rfl, hv, hb⟩; obtain ⟨va, vp, vl, vc, rfl⟩ := hv.shape)
        have h := H11110000011000 W2 (below_acc acc acc.size hb) va vp vl vc hv c (hc.below hb hc.lt) hcn d (hd.below hb hd.lt) hdn hcd
        rw [← hR] at h
        exact h
      exact AllReadyIn.nil
    have H11010000010000 : ∀ (W : World) (acc : Below w4.heap.size w4 W) (c : Nat) (hc : Var W c (.int .u64 0) (.slice none 0 0)) (hcn : w4.heap.size ≤ c), R 10 #[true, true, false, true, false, false, false, false, false, true, false, false, false, false] { tmps := #[a, b, undef, undef, .bool false, .pointer (some ⟨w1.heap.size, 0, none⟩), .pointer (some ⟨w1.heap.size + 1, 0, none⟩), s1, s2, .pointer (some ⟨w3.heap.size, 0, none⟩), .pointer (some ⟨w3.heap.size + 1, 0, none⟩), .bool true, .pointer (some ⟨c, 0, none⟩), undef, undef, .tuple #[.agg #[.int .u64 x1, .slice xp xl xc], .agg #[.int .u64 y1, .slice yp yl yc], s1, s2], a, b, .tuple #[.agg #[.int .u64 x1, .slice xp xl xc], .agg #[.int .u64 y1, .slice yp yl yc], s1, s2], .agg #[.int .u64 x1, .slice xp xl xc], .agg #[.int .u64 y1, .slice yp yl yc], s1, s2, .tuple #[.agg #[.int .u64 qa, .slice qp ql qc], .agg #[.int .u64 ra, .slice rp rl rc], .bool true], .agg #[.int .u64 x1, .slice xp xl xc], .agg #[.int .u64 y1, .slice yp yl yc], .tuple #[.agg #[.int .u64 qa, .slice qp ql qc], .agg #[.int .u64 ra, .slice rp rl rc], .bool true], .agg #[.int .u64 qa, .slice qp ql qc], .agg #[.int .u64 ra, .slice rp rl rc], .bool true, .bool true, .bool false, undef, undef, undef, undef, undef, undef, undef, .agg #[.int .u64 x1, .slice xp xl xc], .agg #[.int .u64 y1, .slice yp yl yc], undef, .agg #[.int .u64 y1, .slice yp yl yc], undef, undef, undef, undef, undef, undef, undef, undef, undef, undef, undef, undef, undef, undef, undef, undef, undef, undef, undef, undef, undef, undef, undef, undef, undef, undef, undef, undef, undef, undef, undef, undef, undef, undef, undef], defers := [] } W := by
      intro W acc c hc hcn
      rw [← hR]
      have c00 := (u0.below acc l0).c0
      have c01 := (u0.below acc l0).c1
      have c10 := (u1.below acc l1).c0
      have c11 := (u1.below acc l1).c1
      have kc0 := hc.c0
      have kc1 := hc.c1
      have fc0 := hc.free 0
      have fc1 := hc.free 1
      refine wpAnyIn_ready (rs := [2, 10]) (by kernel_rfl) (by simp) ?_
      refine AllReadyIn.cons rfl (fun K hK => ?_) ?_
      · go_simp
        gi_wp2_with (refine ⟨trivial, ?_⟩; gi_at_call 20; refine (callsIn_wide.2 (mul_any 20 (by decide) (by decide) _ _ X Y W (hx.below acc) (hy.below acc) BX BY)).mono ?_; rintro e W2 ⟨v, rfl, hv, hb⟩; obtain ⟨va, vp, vl, vc, rfl⟩ := hv.shape)
        have h := H11110000010000 W2 (below_acc acc acc.size hb) va vp vl vc hv c (hc.below hb hc.lt) hcn
        rw [← hR] at h
        exact h
      refine AllReadyIn.cons rfl (fun K hK => ?_) ?_
      · go_simp
        refine hK _ _ ?_
        have h := H11010000011000 (W.alloc (.cells #[.int .u64 0, .slice none 0 0] 25)) (acc.alloc acc.size _) c (hc.alloc _) hcn W.heap.size (Var.new W W.heap.size _ _ _ _ rfl) acc.size (Nat.ne_of_lt hc.lt)
        rw [← hR] at h
        exact h
      exact AllReadyIn.nil
    have H11010000001000 : ∀ (W : World) (acc : Below w4.heap.size w4 W) (d : Nat) (hd : Var W d (.int .u64 0) (.slice none 0 0)) (hdn : w4.heap.size ≤ d), R 10 #[true, true, false, true, false, false, false, false, false, false, true, false, false, false] { tmps := #[a, b, undef, undef, .bool false, .pointer (some ⟨w1.heap.size, 0, none⟩), .pointer (some ⟨w1.heap.size + 1, 0, none⟩), s1, s2, .pointer (some ⟨w3.heap.size, 0, none⟩), .pointer (some ⟨w3.heap.size + 1, 0, none⟩), .bool true, undef, .pointer (some ⟨d, 0, none⟩), undef, .tuple #[.agg #[.int .u64 x1, .slice xp xl xc], .agg #[.int .u64 y1, .slice yp yl yc], s1, s2], a, b, .tuple #[.agg #[.int .u64 x1, .slice xp xl xc], .agg #[.int .u64 y1, .slice yp yl yc], s1, s2], .agg #[.int .u64 x1, .slice xp xl xc], .agg #[.int .u64 y1, .slice yp yl yc], s1, s2, .tuple #[.agg #[.int .u64 qa, .slice qp ql qc], .agg #[.int .u64 ra, .slice rp rl rc], .bool true], .agg #[.int .u64 x1, .slice xp xl xc], .agg #[.int .u64 y1, .slice yp yl yc], .tuple #[.agg #[.int .u64 qa, .slice qp ql qc], .agg #[.int .u64 ra, .slice rp rl rc], .bool true], .agg #[.int .u64 qa, .slice qp ql qc], .agg #[.int .u64 ra, .slice rp rl rc], .bool true, .bool true, .bool false, undef, undef, undef, undef, undef, undef, undef, .agg #[.int .u64 x1, .slice xp xl xc], .agg #[.int .u64 y1, .slice yp yl yc], undef, .agg #[.int .u64 y1, .slice yp yl yc], undef, undef, undef, undef, undef, undef, undef, undef, undef, undef, undef, undef, undef, undef, undef, undef, undef, undef, undef, undef, undef, undef, undef, undef, undef, undef, undef, undef, undef, undef, undef, undef, undef, undef, undef], defers := [] } W := by
      intro W acc d hd hdn
      rw [← hR]
      have c00 := (u0.below acc l0).c0
      have c01 := (u0.below acc l0).c1
      have c10 := (u1.below acc l1).c0
      have c11 := (u1.below acc l1).c1
      have kd0 := hd.c0
      have kd1 := hd.c1
      have fd0 := hd.free 0
      have fd1 := hd.free 1
      refine wpAnyIn_ready (rs := [2, 9]) (by kernel_rfl) (by simp) ?_
      refine AllReadyIn.cons rfl (fun K hK => ?_) ?_
      · go_simp
        gi_wp2_with (refine ⟨trivial, ?_⟩; gi_at_call 20; refine (callsIn_wide.2 (mul_any 20 (by decide) (by decide) _ _ X Y W (hx.below acc) (hy.below acc) BX BY)).mono ?_; rintro e W2 ⟨v, rfl, hv, hb⟩; obtain ⟨va, vp, vl, vc, rfl⟩ := hv.shape)
        have h := H11110000001000 W2 (below_acc acc acc.size hb) va vp vl vc hv d (hd.below hb hd.lt) hdn
        rw [← hR] at h
        exact h
      refine AllReadyIn.cons rfl (fun K hK => ?_) ?_
      · go_simp
        refine hK _ _ ?_
        have h := H11010000011000 (W.alloc (.cells #[.int .u64 0, .slice none 0 0] 25)) (acc.alloc acc.size _) W.heap.size (Var.new W W.heap.size _ _ _ _ rfl) acc.size d (hd.alloc _) hdn (Nat.ne_of_gt hd.lt)
        rw [← hR] at h
        exact h
      exact AllReadyIn.nil
    have H11010000000000 : ∀ (W : World) (acc : Below w4.heap.size w4 W), R 11 #[true, true, false, true, false, false, false, false, false, false, false, false, false, false] { tmps := #[a, b, undef, undef, .bool false, .pointer (some ⟨w1.heap.size, 0, none⟩), .pointer (some ⟨w1.heap.size + 1, 0, none⟩), s1, s2, .pointer (some ⟨w3.heap.size, 0, none⟩), .pointer (some ⟨w3.heap.size + 1, 0, none⟩), .bool true, undef, undef, undef, .tuple #[.agg #[.int .u64 x1, .slice xp xl xc], .agg #[.int .u64 y1, .slice yp yl yc], s1, s2], a, b, .tuple #[.agg #[.int .u64 x1, .slice xp xl xc], .agg #[.int .u64 y1, .slice yp yl yc], s1, s2], .agg #[.int .u64 x1, .slice xp xl xc], .agg #[.int .u64 y1, .slice yp yl yc], s1, s2, .tuple #[.agg #[.int .u64 qa, .slice qp ql qc], .agg #[.int .u64 ra, .slice rp rl rc], .bool true], .agg #[.int .u64 x1, .slice xp xl xc], .agg #[.int .u64 y1, .slice yp yl yc], .tuple #[.agg #[.int .u64 qa, .slice qp ql qc], .agg #[.int .u64 ra, .slice rp rl rc], .bool true], .agg #[.int .u64 qa, .slice qp ql qc], .agg #[.int .u64 ra, .slice rp rl rc], .bool true, .bool true, .bool false, undef, undef, undef, undef, undef, undef, undef, .agg #[.int .u64 x1, .slice xp xl xc], .agg #[.int .u64 y1, .slice yp yl yc], undef, .agg #[.int .u64 y1, .slice yp yl yc], undef, undef, undef, undef, undef, undef, undef, undef, undef, undef, undef, undef, undef, undef, undef, undef, undef, undef, undef, undef, undef, undef, undef, undef, undef, undef, undef, undef, undef, undef, undef, undef, undef, undef, undef], defers := [] } W := by
      intro W acc
      rw [← hR]
      have c00 := (u0.below acc l0).c0
      have c01 := (u0.below acc l0).c1
      have c10 := (u1.below acc l1).c0
      have c11 := (u1.below acc l1).c1
      refine wpAnyIn_ready (rs := [2, 9, 10]) (by kernel_rfl) (by simp) ?_
      refine AllReadyIn.cons rfl (fun K hK => ?_) ?_
      · go_simp
        gi_wp2_with (refine ⟨trivial, ?_⟩; gi_at_call 20; refine (callsIn_wide.2 (mul_any 20 (by decide) (by decide) _ _ X Y W (hx.below acc) (hy.below acc) BX BY)).mono ?_; rintro e W2 ⟨v, rfl, hv, hb⟩; obtain ⟨va, vp, vl, vc, rfl⟩ := hv.shape)
        have h := H11110000000000 W2 (below_acc acc acc.size hb) va vp vl vc hv
        rw [← hR] at h
        exact h
      refine AllReadyIn.cons rfl (fun K hK => ?_) ?_
      · go_simp
        refine hK _ _ ?_
        have h := H11010000010000 (W.alloc (.cells #[.int .u64 0, .slice none 0 0] 25)) (acc.alloc acc.size _) W.heap.size (Var.new W W.heap.size _ _ _ _ rfl) acc.size
        rw [← hR] at h
        exact h
      refine AllReadyIn.cons rfl (fun K hK => ?_) ?_
      · go_simp
        refine hK _ _ ?_
        have h := H11010000001000 (W.alloc (.cells #[.int .u64 0, .slice none 0 0] 25)) (acc.alloc acc.size _) W.heap.size (Var.new W W.heap.size _ _ _ _ rfl) acc.size
        rw [← hR] at h
        exact h
      exact AllReadyIn.nil
    have H11000000011000 : ∀ (W : World) (acc : Below w4.heap.size w4 W) (c : Nat) (hc : Var W c (.int .u64 0) (.slice none 0 0)) (hcn : w4.heap.size ≤ c) (d : Nat) (hd : Var W d (.int .u64 0) (.slice none 0 0)) (hdn : w4.heap.size ≤ d) (hcd : c ≠ d), R 10 #[true, true, false, false, false, false, false, false, false, true, true, false, false, false] { tmps := #[a, b, undef, undef, .bool false, .pointer (some ⟨w1.heap.size, 0, none⟩), .pointer (some ⟨w1.heap.size + 1, 0, none⟩), s1, s2, .pointer (some ⟨w3.heap.size, 0, none⟩), .pointer (some ⟨w3.heap.size + 1, 0, none⟩), .bool true, .pointer (some ⟨c, 0, none⟩), .pointer (some ⟨d, 0, none⟩), undef, .tuple #[.agg #[.int .u64 x1, .slice xp xl xc], .agg #[.int .u64 y1, .slice yp yl yc], s1, s2], a, b, .tuple #[.agg #[.int .u64 x1, .slice xp xl xc], .agg #[.int .u64 y1, .slice yp yl yc], s1, s2], .agg #[.int .u64 x1, .slice xp xl xc], .agg #[.int .u64 y1, .slice yp yl yc], s1, s2, .tuple #[.agg #[.int .u64 qa, .slice qp ql qc], .agg #[.int .u64 ra, .slice rp rl rc], .bool true], .agg #[.int .u64 x1, .slice xp xl xc], .agg #[.int .u64 y1, .slice yp yl yc], .tuple #[.agg #[.int .u64 qa, .slice qp ql qc], .agg #[.int .u64 ra, .slice rp rl rc], .bool true], .agg #[.int .u64 qa, .slice qp ql qc], .agg #[.int .u64 ra, .slice rp rl rc], .bool true, .bool true, .bool false, undef, undef, undef, undef, undef, undef, undef, .agg #[.int .u64 x1, .slice xp xl xc], .agg #[.int .u64 y1, .slice yp yl yc], undef, undef, undef, undef, undef, undef, undef, undef, undef, undef, undef, undef, undef, undef, undef, undef, undef, undef, undef, undef, undef, undef, undef, undef, undef, undef, undef, undef, undef, undef, undef, undef, undef, undef, undef, undef, undef], defers := [] } W := by
      intro W acc c hc hcn d hd hdn hcd
      rw [← hR]
      have c00 := (u0.below acc l0).c0
      have c01 := (u0.below acc l0).c1
      have c10 := (u1.below acc l1).c0
      have c11 := (u1.below acc l1).c1
      have kc0 := hc.c0
      have kc1 := hc.c1
      have fc0 := hc.free 0
      have fc1 := hc.free 1
      have kd0 := hd.c0
      have kd1 := hd.c1
      have fd0 := hd.free 0
      have fd1 := hd.free 1
      refine wpAnyIn_ready (rs := [2, 3]) (by kernel_rfl) (by simp) ?_
      refine AllReadyIn.cons rfl (fun K hK => ?_) ?_
      · go_simp
        gi_wp2_with (refine ⟨trivial, ?_⟩; gi_at_call 20; refine (callsIn_wide.2 (mul_any 20 (by decide) (by decide) _ _ X Y W (hx.below acc) (hy.below acc) BX BY)).mono ?_; rintro e W2 ⟨v, rfl, hv, hb⟩; obtain ⟨va, vp, vl, vc, rfl⟩ := hv.shape)
        have h := H11100000011000 W2 (below_acc acc acc.size hb) va vp vl vc hv c (hc.below hb hc.lt) hcn d (hd.below hb hd.lt) hdn hcd
        rw [← hR] at h
        exact h
      refine AllReadyIn.cons rfl (fun K hK => ?_) ?_
      · go_simp
        refine hK _ _ ?_
        have h := H11010000011000 W acc c hc hcn d hd hdn hcd
        rw [← hR] at h
        exact h
      exact AllReadyIn.nil
    have H11000000010000 : ∀ (W : World) (acc : Below w4.heap.size w4 W) (c : Nat) (hc : Var W c (.int .u64 0) (.slice none 0 0)) (hcn : w4.heap.size ≤ c), R 11 #[true, true, false, false, false, false, false, false, false, true, false, false, false, false] { tmps := #[a, b, undef, undef, .bool false, .pointer (some ⟨w1.heap.size, 0, none⟩), .pointer (some ⟨w1.heap.size + 1, 0, none⟩), s1, s2, .pointer (some ⟨w3.heap.size, 0, none⟩), .pointer (some ⟨w3.heap.size + 1, 0, none⟩), .bool true, .pointer (some ⟨c, 0, none⟩), undef, undef, .tuple #[.agg #[.int .u64 x1, .slice xp xl xc], .agg #[.int .u64 y1, .slice yp yl yc], s1, s2], a, b, .tuple #[.agg #[.int .u64 x1, .slice xp xl xc], .agg #[.int .u64 y1, .slice yp yl yc], s1, s2], .agg #[.int .u64 x1, .slice xp xl xc], .agg #[.int .u64 y1, .slice yp yl yc], s1, s2, .tuple #[.agg #[.int .u64 qa, .slice qp ql qc], .agg #[.int .u64 ra, .slice rp rl rc], .bool true], .agg #[.int .u64 x1, .slice xp xl xc], .agg #[.int .u64 y1, .slice yp yl yc], .tuple #[.agg #[.int .u64 qa, .slice qp ql qc], .agg #[.int .u64 ra, .slice rp rl rc], .bool true], .agg #[.int .u64 qa, .slice qp ql qc], .agg #[.int .u64 ra, .slice rp rl rc], .bool true, .bool true, .bool false, undef, undef, undef, undef, undef, undef, undef, .agg #[.int .u64 x1, .slice xp xl xc], .agg #[.int .u64 y1, .slice yp yl yc], undef, undef, undef, undef, undef, undef, undef, undef, undef, undef, undef, undef, undef, undef, undef, undef, undef, undef, undef, undef, undef, undef, undef, undef, undef, undef, undef, undef, undef, undef, undef, undef, undef, undef, undef, undef, undef], defers := [] } W := by
      intro W acc c hc hcn
      rw [← hR]
      have c00 := (u0.below acc l0).c0
      have c01 := (u0.below acc l0).c1
      have c10 := (u1.below acc l1).c0
      have c11 := (u1.below acc l1).c1
      have kc0 := hc.c0
      have kc1 := hc.c1
      have fc0 := hc.free 0
      have fc1 := hc.free 1
      refine wpAnyIn_ready (rs := [2, 3, 10]) (by kernel_rfl) (by simp) ?_
      refine AllReadyIn.cons rfl (fun K hK => ?_) ?_
      · go_simp
        gi_wp2_with (refine ⟨trivial, ?_⟩; gi_at_call 20; refine (callsIn_wide.2 (mul_any 20 (by decide) (by decide) _ _ X Y W (hx.below acc) (hy.below acc) BX BY)).mono ?_; rintro e W2 ⟨v, rfl, hv, hb⟩; obtain ⟨va, vp, vl, vc, rfl⟩ := hv.shape)
        have h := H11100000010000 W2 (below_acc acc acc.size hb) va vp vl vc hv c (hc.below hb hc.lt) hcn
        rw [← hR] at h
        exact h
      refine AllReadyIn.cons rfl (fun K hK => ?_) ?_
      · go_simp
        refine hK _ _ ?_
        have h := H11010000010000 W acc c hc hcn
        rw [← hR] at h
        exact h
      refine AllReadyIn.cons rfl (fun K hK => ?_) ?_
      · go_simp
        refine hK _ _ ?_
        have h := H11000000011000 (W.alloc (.cells #[.int .u64 0, .slice none 0 0] 25)) (acc.alloc acc.size _) c (hc.alloc _) hcn W.heap.size (Var.new W W.heap.size _ _ _ _ rfl) acc.size (Nat.ne_of_lt hc.lt)
        rw [← hR] at h
        exact h
      exact AllReadyIn.nil
    have H11000000001000 : ∀ (W : World) (acc : Below w4.heap.size w4 W) (d : Nat) (hd : Var W d (.int .u64 0) (.slice none 0 0)) (hdn : w4.heap.size ≤ d), R 11 #[true, true, false, false, false, false, false, false, false, false, true, false, false, false] { tmps := #[a, b, undef, undef, .bool false, .pointer (some ⟨w1.heap.size, 0, none⟩), .pointer (some ⟨w1.heap.size + 1, 0, none⟩), s1, s2, .pointer (some ⟨w3.heap.size, 0, none⟩), .pointer (some ⟨w3.heap.size + 1, 0, none⟩), .bool true, undef, .pointer (some ⟨d, 0, none⟩), undef, .tuple #[.agg #[.int .u64 x1, .slice xp xl xc], .agg #[.int .u64 y1, .slice yp yl yc], s1, s2], a, b, .tuple #[.agg #[.int .u64 x1, .slice xp xl xc], .agg #[.int .u64 y1, .slice yp yl yc], s1, s2], .agg #[.int .u64 x1, .slice xp xl xc], .agg #[.int .u64 y1, .slice yp yl yc], s1, s2, .tuple #[.agg #[.int .u64 qa, .slice qp ql qc], .agg #[.int .u64 ra, .slice rp rl rc], .bool true], .agg #[.int .u64 x1, .slice xp xl xc], .agg #[.int .u64 y1, .slice yp yl yc], .tuple #[.agg #[.int .u64 qa, .slice qp ql qc], .agg #[.int .u64 ra, .slice rp rl rc], .bool true], .agg #[.int .u64 qa, .slice qp ql qc], .agg #[.int .u64 ra, .slice rp rl rc], .bool true, .bool true, .bool false, undef, undef, undef, undef, undef, undef, undef, .agg #[.int .u64 x1, .slice xp xl xc], .agg #[.int .u64 y1, .slice yp yl yc], undef, undef, undef, undef, undef, undef, undef, undef, undef, undef, undef, undef, undef, undef, undef, undef, undef, undef, undef, undef, undef, undef, undef, undef, undef, undef, undef, undef, undef, undef, undef, undef, undef, undef, undef, undef, undef], defers := [] } W := by
      intro W acc d hd hdn
      rw [← hR]
      have c00 := (u0.below acc l0).c0
      have c01 := (u0.below acc l0).c1
      have c10 := (u1.below acc l1).c0
      have c11 := (u1.below acc l1).c1
      have kd0 := hd.c0
      have kd1 := hd.c1
      have fd0 := hd.free 0
      have fd1 := hd.free 1
      refine wpAnyIn_ready (rs := [2, 3, 9]) (by kernel_rfl) (by simp) ?_
      refine AllReadyIn.cons rfl (fun K hK => ?_) ?_
      · go_simp
        gi_wp2_with (refine ⟨trivial, ?_⟩; gi_at_call 20; refine (callsIn_wide.2 (mul_any 20 (by decide) (by decide) _ _ X Y W (hx.below acc) (hy.below acc) BX BY)).mono ?_; rintro e W2 ⟨v, rfl, hv, hb⟩; obtain ⟨va, vp, vl, vc, rfl⟩ := hv.shape)
        have h := H11100000001000 W2 (below_acc acc acc.size hb) va vp vl vc hv d (hd.below hb hd.lt) hdn
        rw [← hR] at h
        exact h
      refine AllReadyIn.cons rfl (fun K hK => ?_) ?_
      · go_simp
        refine hK _ _ ?_
        have h := H11010000001000 W acc d hd hdn
        rw [← hR] at h
        exact h
      refine AllReadyIn.cons rfl (fun K hK => ?_) ?_
      · go_simp
        refine hK _ _ ?_
        have h := H11000000011000 (W.alloc (.cells #[.int .u64 0, .slice none 0 0] 25)) (acc.alloc acc.size _) W.heap.size (Var.new W W.heap.size _ _ _ _ rfl) acc.size d (hd.alloc _) hdn (Nat.ne_of_gt hd.lt)
        rw [← hR] at h
        exact h
      exact AllReadyIn.nil
    have H11000000000000 : ∀ (W : World) (acc : Below w4.heap.size w4 W), R 12 #[true, true, false, false, false, false, false, false, false, false, false, false, false, false] { tmps := #[a, b, undef, undef, .bool false, .pointer (some ⟨w1.heap.size, 0, none⟩), .pointer (some ⟨w1.heap.size + 1, 0, none⟩), s1, s2, .pointer (some ⟨w3.heap.size, 0, none⟩), .pointer (some ⟨w3.heap.size + 1, 0, none⟩), .bool true, undef, undef, undef, .tuple #[.agg #[.int .u64 x1, .slice xp xl xc], .agg #[.int .u64 y1, .slice yp yl yc], s1, s2], a, b, .tuple #[.agg #[.int .u64 x1, .slice xp xl xc], .agg #[.int .u64 y1, .slice yp yl yc], s1, s2], .agg #[.int .u64 x1, .slice xp xl xc], .agg #[.int .u64 y1, .slice yp yl yc], s1, s2, .tuple #[.agg #[.int .u64 qa, .slice qp ql qc], .agg #[.int .u64 ra, .slice rp rl rc], .bool true], .agg #[.int .u64 x1, .slice xp xl xc], .agg #[.int .u64 y1, .slice yp yl yc], .tuple #[.agg #[.int .u64 qa, .slice qp ql qc], .agg #[.int .u64 ra, .slice rp rl rc], .bool true], .agg #[.int .u64 qa, .slice qp ql qc], .agg #[.int .u64 ra, .slice rp rl rc], .bool true, .bool true, .bool false, undef, undef, undef, undef, undef, undef, undef, .agg #[.int .u64 x1, .slice xp xl xc], .agg #[.int .u64 y1, .slice yp yl yc], undef, undef, undef, undef, undef, undef, undef, undef, undef, undef, undef, undef, undef, undef, undef, undef, undef, undef, undef, undef, undef, undef, undef, undef, undef, undef, undef, undef, undef, undef, undef, undef, undef, undef, undef, undef, undef], defers := [] } W := by
      intro W acc
      rw [← hR]
      have c00 := (u0.below acc l0).c0
      have c01 := (u0.below acc l0).c1
      have c10 := (u1.below acc l1).c0
      have c11 := (u1.below acc l1).c1
      refine wpAnyIn_ready (rs := [2, 3, 9, 10]) (by kernel_rfl) (by simp) ?_
      refine AllReadyIn.cons rfl (fun K hK => ?_) ?_
      · go_simp
        gi_wp2_with (refine ⟨trivial, ?_⟩; gi_at_call 20; refine (callsIn_wide.2 (mul_any 20 (by decide) (by decide) _ _ X Y W (hx.below acc) (hy.below acc) BX BY)).mono ?_; rintro e W2 ⟨v, rfl, hv, hb⟩; obtain ⟨va, vp, vl, vc, rfl⟩ := hv.shape)
        have h := H11100000000000 W2 (below_acc acc acc.size hb) va vp vl vc hv
        rw [← hR] at h
        exact h
      refine AllReadyIn.cons rfl (fun K hK => ?_) ?_
      · go_simp
        refine hK _ _ ?_
        have h := H11010000000000 W acc
        rw [← hR] at h
        exact h
      refine AllReadyIn.cons rfl (fun K hK => ?_) ?_
      · go_simp
        refine hK _ _ ?_
        have h := H11000000010000 (W.alloc (.cells #[.int .u64 0, .slice none 0 0] 25)) (acc.alloc acc.size _) W.heap.size (Var.new W W.heap.size _ _ _ _ rfl) acc.size
        rw [← hR] at h
        exact h
      refine AllReadyIn.cons rfl (fun K hK => ?_) ?_
      · go_simp
        refine hK _ _ ?_
        have h := H11000000001000 (W.alloc (.cells #[.int .u64 0, .slice none 0 0] 25)) (acc.alloc acc.size _) W.heap.size (Var.new W W.heap.size _ _ _ _ rfl) acc.size
        rw [← hR] at h
        exact h
      exact AllReadyIn.nil
    have H10010000011000 : ∀ (W : World) (acc : Below w4.heap.size w4 W) (c : Nat) (hc : Var W c (.int .u64 0) (.slice none 0 0)) (hcn : w4.heap.size ≤ c) (d : Nat) (hd : Var W d (.int .u64 0) (.slice none 0 0)) (hdn : w4.heap.size ≤ d) (hcd : c ≠ d), R 10 #[true, false, false, true, false, false, false, false, false, true, true, false, false, false] { tmps := #[a, b, undef, undef, .bool false, .pointer (some ⟨w1.heap.size, 0, none⟩), .pointer (some ⟨w1.heap.size + 1, 0, none⟩), s1, s2, .pointer (some ⟨w3.heap.size, 0, none⟩), .pointer (some ⟨w3.heap.size + 1, 0, none⟩), .bool true, .pointer (some ⟨c, 0, none⟩), .pointer (some ⟨d, 0, none⟩), undef, .tuple #[.agg #[.int .u64 x1, .slice xp xl xc], .agg #[.int .u64 y1, .slice yp yl yc], s1, s2], a, b, .tuple #[.agg #[.int .u64 x1, .slice xp xl xc], .agg #[.int .u64 y1, .slice yp yl yc], s1, s2], .agg #[.int .u64 x1, .slice xp xl xc], .agg #[.int .u64 y1, .slice yp yl yc], s1, s2, .tuple #[.agg #[.int .u64 qa, .slice qp ql qc], .agg #[.int .u64 ra, .slice rp rl rc], .bool true], .agg #[.int .u64 x1, .slice xp xl xc], .agg #[.int .u64 y1, .slice yp yl yc], .tuple #[.agg #[.int .u64 qa, .slice qp ql qc], .agg #[.int .u64 ra, .slice rp rl rc], .bool true], .agg #[.int .u64 qa, .slice qp ql qc], .agg #[.int .u64 ra, .slice rp rl rc], .bool true, .bool true, .bool false, undef, undef, undef, undef, undef, undef, undef, .agg #[.int .u64 x1, .slice xp xl xc], undef, undef, .agg #[.int .u64 y1, .slice yp yl yc], undef, undef, undef, undef, undef, undef, undef, undef, undef, undef, undef, undef, undef, undef, undef, undef, undef, undef, undef, undef, undef, undef, undef, undef, undef, undef, undef, undef, undef, undef, undef, undef, undef, undef, undef], defers := [] } W := by
      intro W acc c hc hcn d hd hdn hcd
      rw [← hR]
      have c00 := (u0.below acc l0).c0
      have c01 := (u0.below acc l0).c1
      have c10 := (u1.below acc l1).c0
      have c11 := (u1.below acc l1).c1
      have kc0 := hc.c0
      have kc1 := hc.c1
      have fc0 := hc.free 0
      have fc1 := hc.free 1
      have kd0 := hd.c0
      have kd1 := hd.c1
      have fd0 := hd.free 0
      have fd1 := hd.free 1
      refine wpAnyIn_ready (rs := [1]) (by kernel_rfl) (by simp) ?_
      refine AllReadyIn.cons rfl (fun K hK => ?_) ?_
      · go_simp
        refine hK _ _ ?_
        have h := H11010000011000 W acc c hc hcn d hd hdn hcd
        rw [← hR] at h
        exact h
      exact AllReadyIn.nil
    have H10010000010000 : ∀ (W : World) (acc : Below w4.heap.size w4 W) (c : Nat) (hc : Var W c (.int .u64 0) (.slice none 0 0)) (hcn : w4.heap.size ≤ c), R 11 #[true, false, false, true, false, false, false, false, false, true, false, false, false, false] { tmps := #[a, b, undef, undef, .bool false, .pointer (some ⟨w1.heap.size, 0, none⟩), .pointer (some ⟨w1.heap.size + 1, 0, none⟩), s1, s2, .pointer (some ⟨w3.heap.size, 0, none⟩), .pointer (some ⟨w3.heap.size + 1, 0, none⟩), .bool true, .pointer (some ⟨c, 0, none⟩), undef, undef, .tuple #[.agg #[.int .u64 x1, .slice xp xl xc], .agg #[.int .u64 y1, .slice yp yl yc], s1, s2], a, b, .tuple #[.agg #[.int .u64 x1, .slice xp xl xc], .agg #[.int .u64 y1, .slice yp yl yc], s1, s2], .agg #[.int .u64 x1, .slice xp xl xc], .agg #[.int .u64 y1, .slice yp yl yc], s1, s2, .tuple #[.agg #[.int .u64 qa, .slice qp ql qc], .agg #[.int .u64 ra, .slice rp rl rc], .bool true], .agg #[.int .u64 x1, .slice xp xl xc], .agg #[.int .u64 y1, .slice yp yl yc], .tuple #[.agg #[.int .u64 qa, .slice qp ql qc], .agg #[.int .u64 ra, .slice rp rl rc], .bool true], .agg #[.int .u64 qa, .slice qp ql qc], .agg #[.int .u64 ra, .slice rp rl rc], .bool true, .bool true, .bool false, undef, undef, undef, undef, undef, undef, undef, .agg #[.int .u64 x1, .slice xp xl xc], undef, undef, .agg #[.int .u64 y1, .slice yp yl yc], undef, undef, undef, undef, undef, undef, undef, undef, undef, undef, undef, undef, undef, undef, undef, undef, undef, undef, undef, undef, undef, undef, undef, undef, undef, undef, undef, undef, undef, undef, undef, undef, undef, undef, undef], defers := [] } W := by
      intro W acc c hc hcn
      rw [← hR]
      have c00 := (u0.below acc l0).c0
      have c01 := (u0.below acc l0).c1
      have c10 := (u1.below acc l1).c0
      have c11 := (u1.below acc l1).c1
      have kc0 := hc.c0
      have kc1 := hc.c1
      have fc0 := hc.free 0
      have fc1 := hc.free 1
      refine wpAnyIn_ready (rs := [1, 10]) (by kernel_rfl) (by simp) ?_
      refine AllReadyIn.cons rfl (fun K hK => ?_) ?_
      · go_simp
        refine hK _ _ ?_
        have h := H11010000010000 W acc c hc hcn
        rw [← hR] at h
        exact h
      refine AllReadyIn.cons rfl (fun K hK => ?_) ?_
      · go_simp
        refine hK _ _ ?_
        have h := H10010000011000 (W.alloc (.cells #[.int .u64 0, .slice none 0 0] 25)) (acc.alloc acc.size _) c (hc.alloc _) hcn W.heap.size (Var.new W W.heap.size _ _ _ _ rfl) acc.size (Nat.ne_of_lt hc.lt)
        rw [← hR] at h
        exact h
      exact AllReadyIn.nil
    have H10010000001000 : ∀ (W : World) (acc : Below w4.heap.size w4 W) (d : Nat) (hd : Var W d (.int .u64 0) (.slice none 0 0)) (hdn : w4.heap.size ≤ d), R 11 #[true, false, false, true, false, false, false, false, false, false, true, false, false, false] { tmps := #[a, b, undef, undef, .bool false, .pointer (some ⟨w1.heap.size, 0, none⟩), .pointer (some ⟨w1.heap.size + 1, 0, none⟩), s1, s2, .pointer (some ⟨w3.heap.size, 0, none⟩), .pointer (some ⟨w3.heap.size + 1, 0, none⟩), .bool true, undef, .pointer (some ⟨d, 0, none⟩), undef, .tuple #[.agg #[.int .u64 x1, .slice xp xl xc], .agg #[.int .u64 y1, .slice yp yl yc], s1, s2], a, b, .tuple #[.agg #[.int .u64 x1, .slice xp xl xc], .agg #[.int .u64 y1, .slice yp yl yc], s1, s2], .agg #[.int .u64 x1, .slice xp xl xc], .agg #[.int .u64 y1, .slice yp yl yc], s1, s2, .tuple #[.agg #[.int .u64 qa, .slice qp ql qc], .agg #[.int .u64 ra, .slice rp rl rc], .bool true], .agg #[.int .u64 x1, .slice xp xl xc], .agg #[.int .u64 y1, .slice yp yl yc], .tuple #[.agg #[.int .u64 qa, .slice qp ql qc], .agg #[.int .u64 ra, .slice rp rl rc], .bool true], .agg #[.int .u64 qa, .slice qp ql qc], .agg #[.int .u64 ra, .slice rp rl rc], .bool true, .bool true, .bool false, undef, undef, undef, undef, undef, undef, undef, .agg #[.int .u64 x1, .slice xp xl xc], undef, undef, .agg #[.int .u64 y1, .slice yp yl yc], undef, undef, undef, undef, undef, undef, undef, undef, undef, undef, undef, undef, undef, undef, undef, undef, undef, undef, undef, undef, undef, undef, undef, undef, undef, undef, undef, undef, undef, undef, undef, undef, undef, undef, undef], defers := [] } W := by
      intro W acc d hd hdn
      rw [← hR]
      have c00 := (u0.below acc l0).c0
      have c01 := (u0.below acc l0).c1
      have c10 := (u1.below acc l1).c0
      have c11 := (u1.below acc l1).c1
      have kd0 := hd.c0
      have kd1 := hd.c1
      have fd0 := hd.free 0
      have fd1 := hd.free 1
      refine wpAnyIn_ready (rs := [1, 9]) (by kernel_rfl) (by simp) ?_
      refine AllReadyIn.cons rfl (fun K hK => ?_) ?_
      · go_simp
        refine hK _ _ ?_
        have h := H11010000001000 W acc d hd hdn
        rw [← hR] at h
        exact h
      refine AllReadyIn.cons rfl (fun K hK => ?_) ?_
      · go_simp
        refine hK _ _ ?_
        have h := H10010000011000 (W.alloc (.cells #[.int .u64 0, .slice none 0 0] 25)) (acc.alloc acc.size _) W.heap.size (Var.new W W.heap.size _ _ _ _ rfl) acc.size d (hd.alloc _) hdn (Nat.ne_of_gt hd.lt)
        rw [← hR] at h
        exact h
      exact AllReadyIn.nil
    have H10010000000000 : ∀ (W : World) (acc : Below w4.heap.size w4 W), R 12 #[true, false, false, true, false, false, false, false, false, false, false, false, false, false] { tmps := #[a, b, undef, undef, .bool false, .pointer (some ⟨w1.heap.size, 0, none⟩), .pointer (some ⟨w1.heap.size + 1, 0, none⟩), s1, s2, .pointer (some ⟨w3.heap.size, 0, none⟩), .pointer (some ⟨w3.heap.size + 1, 0, none⟩), .bool true, undef, undef, undef, .tuple #[.agg #[.int .u64 x1, .slice xp xl xc], .agg #[.int .u64 y1, .slice yp yl yc], s1, s2], a, b, .tuple #[.agg #[.int .u64 x1, .slice xp xl xc], .agg #[.int .u64 y1, .slice yp yl yc], s1, s2], .agg #[.int .u64 x1, .slice xp xl xc], .agg #[.int .u64 y1, .slice yp yl yc], s1, s2, .tuple #[.agg #[.int .u64 qa, .slice qp ql qc], .agg #[.int .u64 ra, .slice rp rl rc], .bool true], .agg #[.int .u64 x1, .slice xp xl xc], .agg #[.int .u64 y1, .slice yp yl yc], .tuple #[.agg #[.int .u64 qa, .slice qp ql qc], .agg #[.int .u64 ra, .slice rp rl rc], .bool true], .agg #[.int .u64 qa, .slice qp ql qc], .agg #[.int .u64 ra, .slice rp rl rc], .bool true, .bool true, .bool false, undef, undef, undef, undef, undef, undef, undef, .agg #[.int .u64 x1, .slice xp xl xc], undef, undef, .agg #[.int .u64 y1, .slice yp yl yc], undef, undef, undef, undef, undef, undef, undef, undef, undef, undef, undef, undef, undef, undef, undef, undef, undef, undef, undef, undef, undef, undef, undef, undef, undef, undef, undef, undef, undef, undef, undef, undef, undef, undef, undef], defers := [] } W := by
      intro W acc
      rw [← hR]
      have c00 := (u0.below acc l0).c0
      have c01 := (u0.below acc l0).c1
      have c10 := (u1.below acc l1).c0
      have c11 := (u1.below acc l1).c1
      refine wpAnyIn_ready (rs := [1, 9, 10]) (by kernel_rfl) (by simp) ?_
      refine AllReadyIn.cons rfl (fun K hK => ?_) ?_
      · go_simp
        refine hK _ _ ?_
        have h := H11010000000000 W acc
        rw [← hR] at h
        exact h
      refine AllReadyIn.cons rfl (fun K hK => ?_) ?_
      · go_simp
        refine hK _ _ ?_
        have h := H10010000010000 (W.alloc (.cells #[.int .u64 0, .slice none 0 0] 25)) (acc.alloc acc.size _) W.heap.size (Var.new W W.heap.size _ _ _ _ rfl) acc.size
        rw [← hR] at h
        exact h
      refine AllReadyIn.cons rfl (fun K hK => ?_) ?_
      · go_simp
        refine hK _ _ ?_
        have h := H10010000001000 (W.alloc (.cells #[.int .u64 0, .slice none 0 0] 25)) (acc.alloc acc.size _) W.heap.size (Var.new W W.heap.size _ _ _ _ rfl) acc.size
        rw [← hR] at h
        exact h
      exact AllReadyIn.nil
    have H10000000011000 : ∀ (W : World) (acc : Below w4.heap.size w4 W) (c : Nat) (hc : Var W c (.int .u64 0) (.slice none 0 0)) (hcn : w4.heap.size ≤ c) (d : Nat) (hd : Var W d (.int .u64 0) (.slice none 0 0)) (hdn : w4.heap.size ≤ d) (hcd : c ≠ d), R 11 #[true, false, false, false, false, false, false, false, false, true, true, false, false, false] { tmps := #[a, b, undef, undef, .bool false, .pointer (some ⟨w1.heap.size, 0, none⟩), .pointer (some ⟨w1.heap.size + 1, 0, none⟩), s1, s2, .pointer (some ⟨w3.heap.size, 0, none⟩), .pointer (some ⟨w3.heap.size + 1, 0, none⟩), .bool true, .pointer (some ⟨c, 0, none⟩), .pointer (some ⟨d, 0, none⟩), undef, .tuple #[.agg #[.int .u64 x1, .slice xp xl xc], .agg #[.int .u64 y1, .slice yp yl yc], s1, s2], a, b, .tuple #[.agg #[.int .u64 x1, .slice xp xl xc], .agg #[.int .u64 y1, .slice yp yl yc], s1, s2], .agg #[.int .u64 x1, .slice xp xl xc], .agg #[.int .u64 y1, .slice yp yl yc], s1, s2, .tuple #[.agg #[.int .u64 qa, .slice qp ql qc], .agg #[.int .u64 ra, .slice rp rl rc], .bool true], .agg #[.int .u64 x1, .slice xp xl xc], .agg #[.int .u64 y1, .slice yp yl yc], .tuple #[.agg #[.int .u64 qa, .slice qp ql qc], .agg #[.int .u64 ra, .slice rp rl rc], .bool true], .agg #[.int .u64 qa, .slice qp ql qc], .agg #[.int .u64 ra, .slice rp rl rc], .bool true, .bool true, .bool false, undef, undef, undef, undef, undef, undef, undef, .agg #[.int .u64 x1, .slice xp xl xc], undef, undef, undef, undef, undef, undef, undef, undef, undef, undef, undef, undef, undef, undef, undef, undef, undef, undef, undef, undef, undef, undef, undef, undef, undef, undef, undef, undef, undef, undef, undef, undef, undef, undef, undef, undef, undef, undef], defers := [] } W := by
      intro W acc c hc hcn d hd hdn hcd
      rw [← hR]
      have c00 := (u0.below acc l0).c0
      have c01 := (u0.below acc l0).c1
      have c10 := (u1.below acc l1).c0
      have c11 := (u1.below acc l1).c1
      have kc0 := hc.c0
      have kc1 := hc.c1
      have fc0 := hc.free 0
      have fc1 := hc.free 1
      have kd0 := hd.c0
      have kd1 := hd.c1
      have fd0 := hd.free 0
      have fd1 := hd.free 1
      refine wpAnyIn_ready (rs := [1, 3]) (by kernel_rfl) (by simp) ?_
      refine AllReadyIn.cons rfl (fun K hK => ?_) ?_
      · go_simp
        refine hK _ _ ?_
        have h := H11000000011000 W acc c hc hcn d hd hdn hcd
        rw [← hR] at h
        exact h
      refine AllReadyIn.cons rfl (fun K hK => ?_) ?_
      · go_simp
        refine hK _ _ ?_
        have h := H10010000011000 W acc c hc hcn d hd hdn hcd
        rw [← hR] at h
        exact h
      exact AllReadyIn.nil
    have H10000000010000 : ∀ (W : World) (acc : Below w4.heap.size w4 W) (c : Nat) (hc : Var W c (.int .u64 0) (.slice none 0 0)) (hcn : w4.heap.size ≤ c), R 12 #[true, false, false, false, false, false, false, false, false, true, false, false, false, false] { tmps := #[a, b, undef, undef, .bool false, .pointer (some ⟨w1.heap.size, 0, none⟩), .pointer (some ⟨w1.heap.size + 1, 0, none⟩), s1, s2, .pointer (some ⟨w3.heap.size, 0, none⟩), .pointer (some ⟨w3.heap.size + 1, 0, none⟩), .bool true, .pointer (some ⟨c, 0, none⟩), undef, undef, .tuple #[.agg #[.int .u64 x1, .slice xp xl xc], .agg #[.int .u64 y1, .slice yp yl yc], s1, s2], a, b, .tuple #[.agg #[.int .u64 x1, .slice xp xl xc], .agg #[.int .u64 y1, .slice yp yl yc], s1, s2], .agg #[.int .u64 x1, .slice xp xl xc], .agg #[.int .u64 y1, .slice yp yl yc], s1, s2, .tuple #[.agg #[.int .u64 qa, .slice qp ql qc], .agg #[.int .u64 ra, .slice rp rl rc], .bool true], .agg #[.int .u64 x1, .slice xp xl xc], .agg #[.int .u64 y1, .slice yp yl yc], .tuple #[.agg #[.int .u64 qa, .slice qp ql qc], .agg #[.int .u64 ra, .slice rp rl rc], .bool true], .agg #[.int .u64 qa, .slice qp ql qc], .agg #[.int .u64 ra, .slice rp rl rc], .bool true, .bool true, .bool false, undef, undef, undef, undef, undef, undef, undef, .agg #[.int .u64 x1, .slice xp xl xc], undef, undef, undef, undef, undef, undef, undef, undef, undef, undef, undef, undef, undef, undef, undef, undef, undef, undef, undef, undef, undef, undef, undef, undef, undef, undef, undef, undef, undef, undef, undef, undef, undef, undef, undef, undef, undef, undef], defers := [] } W := by
      intro W acc c hc hcn
      rw [← hR]
      have c00 := (u0.below acc l0).c0
      have c01 := (u0.below acc l0).c1
      have c10 := (u1.below acc l1).c0
      have c11 := (u1.below acc l1).c1
      have kc0 := hc.c0
      have kc1 := hc.c1
      have fc0 := hc.free 0
      have fc1 := hc.free 1
      refine wpAnyIn_ready (rs := [1, 3, 10]) (by kernel_rfl) (by simp) ?_
      refine AllReadyIn.cons rfl (fun K hK => ?_) ?_
      · go_simp
        refine hK _ _ ?_
        have h := H11000000010000 W acc c hc hcn
        rw [← hR] at h
        exact h
      refine AllReadyIn.cons rfl (fun K hK => ?_) ?_
      · go_simp
        refine hK _ _ ?_
        have h := H10010000010000 W acc c hc hcn
        rw [← hR] at h
        exact h
      refine AllReadyIn.cons rfl (fun K hK => ?_) ?_
      · go_simp
        refine hK _ _ ?_
        have h := H10000000011000 (W.alloc (.cells #[.int .u64 0, .slice none 0 0] 25)) (acc.alloc acc.size _) c (hc.alloc _) hcn W.heap.size (Var.new W W.heap.size _ _ _ _ rfl) acc.size (Nat.ne_of_lt hc.lt)
        rw [← hR] at h
        exact h
      exact AllReadyIn.nil
    have H10000000001000 : ∀ (W : World) (acc : Below w4.heap.size w4 W) (d : Nat) (hd : Var W d (.int .u64 0) (.slice none 0 0)) (hdn : w4.heap.size ≤ d), R 12 #[true, false, false, false, false, false, false, false, false, false, true, false, false, false] { tmps := #[a, b, undef, undef, .bool false, .pointer (some ⟨w1.heap.size, 0, none⟩), .pointer (some ⟨w1.heap.size + 1, 0, none⟩), s1, s2, .pointer (some ⟨w3.heap.size, 0, none⟩), .pointer (some ⟨w3.heap.size + 1, 0, none⟩), .bool true, undef, .pointer (some ⟨d, 0, none⟩), undef, .tuple #[.agg #[.int .u64 x1, .slice xp xl xc], .agg #[.int .u64 y1, .slice yp yl yc], s1, s2], a, b, .tuple #[.agg #[.int .u64 x1, .slice xp xl xc], .agg #[.int .u64 y1, .slice yp yl yc], s1, s2], .agg #[.int .u64 x1, .slice xp xl xc], .agg #[.int .u64 y1, .slice yp yl yc], s1, s2, .tuple #[.agg #[.int .u64 qa, .slice qp ql qc], .agg #[.int .u64 ra, .slice rp rl rc], .bool true], .agg #[.int .u64 x1, .slice xp xl xc], .agg #[.int .u64 y1, .slice yp yl yc], .tuple #[.agg #[.int .u64 qa, .slice qp ql qc], .agg #[.int .u64 ra, .slice rp rl rc], .bool true], .agg #[.int .u64 qa, .slice qp ql qc], .agg #[.int .u64 ra, .slice rp rl rc], .bool true, .bool true, .bool false, undef, undef, undef, undef, undef, undef, undef, .agg #[.int .u64 x1, .slice xp xl xc], undef, undef, undef, undef, undef, undef, undef, undef, undef, undef, undef, undef, undef, undef, undef, undef, undef, undef, undef, undef, undef, undef, undef, undef, undef, undef, undef, undef, undef, undef, undef, undef, undef, undef, undef, undef, undef, undef], defers := [] } W := by
      intro W acc d hd hdn
      rw [← hR]
      have c00 := (u0.below acc l0).c0
      have c01 := (u0.below acc l0).c1
      have c10 := (u1.below acc l1).c0
      have c11 := (u1.below acc l1).c1
      have kd0 := hd.c0
      have kd1 := hd.c1
      have fd0 := hd.free 0
      have fd1 := hd.free 1
      refine wpAnyIn_ready (rs := [1, 3, 9]) (by kernel_rfl) (by simp) ?_
      refine AllReadyIn.cons rfl (fun K hK => ?_) ?_
      · go_simp
        refine hK _ _ ?_
        have h := H11000000001000 W acc d hd hdn
        rw [← hR] at h
        exact h
      refine AllReadyIn.cons rfl (fun K hK => ?_) ?_
      · go_simp
        refine hK _ _ ?_
        have h := H10010000001000 W acc d hd hdn
        rw [← hR] at h
        exact h
      refine AllReadyIn.cons rfl (fun K hK => ?_) ?_
      · go_simp
        refine hK _ _ ?_
        have h := H10000000011000 (W.alloc (.cells #[.int .u64 0, .slice none 0 0] 25)) (acc.alloc acc.size _) W.heap.size (Var.new W W.heap.size _ _ _ _ rfl) acc.size d (hd.alloc _) hdn (Nat.ne_of_gt hd.lt)
        rw [← hR] at h
        exact h
      exact AllReadyIn.nil
    have H10000000000000 : ∀ (W : World) (acc : Below w4.heap.size w4 W), R 13 #[true, false, false, false, false, false, false, false, false, false, false, false, false, false] { tmps := #[a, b, undef, undef, .bool false, .pointer (some ⟨w1.heap.size, 0, none⟩), .pointer (some ⟨w1.heap.size + 1, 0, none⟩), s1, s2, .pointer (some ⟨w3.heap.size, 0, none⟩), .pointer (some ⟨w3.heap.size + 1, 0, none⟩), .bool true, undef, undef, undef, .tuple #[.agg #[.int .u64 x1, .slice xp xl xc], .agg #[.int .u64 y1, .slice yp yl yc], s1, s2], a, b, .tuple #[.agg #[.int .u64 x1, .slice xp xl xc], .agg #[.int .u64 y1, .slice yp yl yc], s1, s2], .agg #[.int .u64 x1, .slice xp xl xc], .agg #[.int .u64 y1, .slice yp yl yc], s1, s2, .tuple #[.agg #[.int .u64 qa, .slice qp ql qc], .agg #[.int .u64 ra, .slice rp rl rc], .bool true], .agg #[.int .u64 x1, .slice xp xl xc], .agg #[.int .u64 y1, .slice yp yl yc], .tuple #[.agg #[.int .u64 qa, .slice qp ql qc], .agg #[.int .u64 ra, .slice rp rl rc], .bool true], .agg #[.int .u64 qa, .slice qp ql qc], .agg #[.int .u64 ra, .slice rp rl rc], .bool true, .bool true, .bool false, undef, undef, undef, undef, undef, undef, undef, .agg #[.int .u64 x1, .slice xp xl xc], undef, undef, undef, undef, undef, undef, undef, undef, undef, undef, undef, undef, undef, undef, undef, undef, undef, undef, undef, undef, undef, undef, undef, undef, undef, undef, undef, undef, undef, undef, undef, undef, undef, undef, undef, undef, undef, undef], defers := [] } W := by
      intro W acc
      rw [← hR]
      have c00 := (u0.below acc l0).c0
      have c01 := (u0.below acc l0).c1
      have c10 := (u1.below acc l1).c0
      have c11 := (u1.below acc l1).c1
      refine wpAnyIn_ready (rs := [1, 3, 9, 10]) (by kernel_rfl) (by simp) ?_
      refine AllReadyIn.cons rfl (fun K hK => ?_) ?_
      · go_simp
        refine hK _ _ ?_
        have h := H11000000000000 W acc
        rw [← hR] at h
        exact h
      refine AllReadyIn.cons rfl (fun K hK => ?_) ?_
      · go_simp
        refine hK _ _ ?_
        have h := H10010000000000 W acc
        rw [← hR] at h
        exact h
      refine AllReadyIn.cons rfl (fun K hK => ?_) ?_
      · go_simp
        refine hK _ _ ?_
        have h := H10000000010000 (W.alloc (.cells #[.int .u64 0, .slice none 0 0] 25)) (acc.alloc acc.size _) W.heap.size (Var.new W W.heap.size _ _ _ _ rfl) acc.size
        rw [← hR] at h
        exact h
      refine AllReadyIn.cons rfl (fun K hK => ?_) ?_
      · go_simp
        refine hK _ _ ?_
        have h := H10000000001000 (W.alloc (.cells #[.int .u64 0, .slice none 0 0] 25)) (acc.alloc acc.size _) W.heap.size (Var.new W W.heap.size _ _ _ _ rfl) acc.size
        rw [← hR] at h
        exact h
      exact AllReadyIn.nil
    have H01010000011000 : ∀ (W : World) (acc : Below w4.heap.size w4 W) (c : Nat) (hc : Var W c (.int .u64 0) (.slice none 0 0)) (hcn : w4.heap.size ≤ c) (d : Nat) (hd : Var W d (.int .u64 0) (.slice none 0 0)) (hdn : w4.heap.size ≤ d) (hcd : c ≠ d), R 10 #[false, true, false, true, false, false, false, false, false, true, true, false, false, false] { tmps := #[a, b, undef, undef, .bool false, .pointer (some ⟨w1.heap.size, 0, none⟩), .pointer (some ⟨w1.heap.size + 1, 0, none⟩), s1, s2, .pointer (some ⟨w3.heap.size, 0, none⟩), .pointer (some ⟨w3.heap.size + 1, 0, none⟩), .bool true, .pointer (some ⟨c, 0, none⟩), .pointer (some ⟨d, 0, none⟩), undef, .tuple #[.agg #[.int .u64 x1, .slice xp xl xc], .agg #[.int .u64 y1, .slice yp yl yc], s1, s2], a, b, .tuple #[.agg #[.int .u64 x1, .slice xp xl xc], .agg #[.int .u64 y1, .slice yp yl yc], s1, s2], .agg #[.int .u64 x1, .slice xp xl xc], .agg #[.int .u64 y1, .slice yp yl yc], s1, s2, .tuple #[.agg #[.int .u64 qa, .slice qp ql qc], .agg #[.int .u64 ra, .slice rp rl rc], .bool true], .agg #[.int .u64 x1, .slice xp xl xc], .agg #[.int .u64 y1, .slice yp yl yc], .tuple #[.agg #[.int .u64 qa, .slice qp ql qc], .agg #[.int .u64 ra, .slice rp rl rc], .bool true], .agg #[.int .u64 qa, .slice qp ql qc], .agg #[.int .u64 ra, .slice rp rl rc], .bool true, .bool true, .bool false, undef, undef, undef, undef, undef, undef, undef, undef, .agg #[.int .u64 y1, .slice yp yl yc], undef, .agg #[.int .u64 y1, .slice yp yl yc], undef, undef, undef, undef, undef, undef, undef, undef, undef, undef, undef, undef, undef, undef, undef, undef, undef, undef, undef, undef, undef, undef, undef, undef, undef, undef, undef, undef, undef, undef, undef, undef, undef, undef, undef], defers := [] } W := by
      intro W acc c hc hcn d hd hdn hcd
      rw [← hR]
      have c00 := (u0.below acc l0).c0
      have c01 := (u0.below acc l0).c1
      have c10 := (u1.below acc l1).c0
      have c11 := (u1.below acc l1).c1
      have kc0 := hc.c0
      have kc1 := hc.c1
      have fc0 := hc.free 0
      have fc1 := hc.free 1
      have kd0 := hd.c0
      have kd1 := hd.c1
      have fd0 := hd.free 0
      have fd1 := hd.free 1
      refine wpAnyIn_ready (rs := [0]) (by kernel_rfl) (by simp) ?_
      refine AllReadyIn.cons rfl (fun K hK => ?_) ?_
      · go_simp
        refine hK _ _ ?_
        have h := H11010000011000 W acc c hc hcn d hd hdn hcd
        rw [← hR] at h
        exact h
      exact AllReadyIn.nil
    have H01010000010000 : ∀ (W : World) (acc : Below w4.heap.size w4 W) (c : Nat) (hc : Var W c (.int .u64 0) (.slice none 0 0)) (hcn : w4.heap.size ≤ c), R 11 #[false, true, false, true, false, false, false, false, false, true, false, false, false, false] { tmps := #[a, b, undef, undef, .bool false, .pointer (some ⟨w1.heap.size, 0, none⟩), .pointer (some ⟨w1.heap.size + 1, 0, none⟩), s1, s2, .pointer (some ⟨w3.heap.size, 0, none⟩), .pointer (some ⟨w3.heap.size + 1, 0, none⟩), .bool true, .pointer (some ⟨c, 0, none⟩), undef, undef, .tuple #[.agg #[.int .u64 x1, .slice xp xl xc], .agg #[.int .u64 y1, .slice yp yl yc], s1, s2], a, b, .tuple #[.agg #[.int .u64 x1, .slice xp xl xc], .agg #[.int .u64 y1, .slice yp yl yc], s1, s2], .agg #[.int .u64 x1, .slice xp xl xc], .agg #[.int .u64 y1, .slice yp yl yc], s1, s2, .tuple #[.agg #[.int .u64 qa, .slice qp ql qc], .agg #[.int .u64 ra, .slice rp rl rc], .bool true], .agg #[.int .u64 x1, .slice xp xl xc], .agg #[.int .u64 y1, .slice yp yl yc], .tuple #[.agg #[.int .u64 qa, .slice qp ql qc], .agg #[.int .u64 ra, .slice rp rl rc], .bool true], .agg #[.int .u64 qa, .slice qp ql qc], .agg #[.int .u64 ra, .slice rp rl rc], .bool true, .bool true, .bool false, undef, undef, undef, undef, undef, undef, undef, undef, .agg #[.int .u64 y1, .slice yp yl yc], undef, .agg #[.int .u64 y1, .slice yp yl yc], undef, undef, undef, undef, undef, undef, undef, undef, undef, undef, undef, undef, undef, undef, undef, undef, undef, undef, undef, undef, undef, undef, undef, undef, undef, undef, undef, undef, undef, undef, undef, undef, undef, undef, undef], defers := [] } W := by
      intro W acc c hc hcn
      rw [← hR]
      have c00 := (u0.below acc l0).c0
      have c01 := (u0.below acc l0).c1
      have c10 := (u1.below acc l1).c0
      have c11 := (u1.below acc l1).c1
      have kc0 := hc.c0
      have kc1 := hc.c1
      have fc0 := hc.free 0
      have fc1 := hc.free 1
      refine wpAnyIn_ready (rs := [0, 10]) (by kernel_rfl) (by simp) ?_
      refine AllReadyIn.cons rfl (fun K hK => ?_) ?_
      · go_simp
        refine hK _ _ ?_
        have h := H11010000010000 W acc c hc hcn
        rw [← hR] at h
        exact h
      refine AllReadyIn.cons rfl (fun K hK => ?_) ?_
      · go_simp
        refine hK _ _ ?_
        have h := H01010000011000 (W.alloc (.cells #[.int .u64 0, .slice none 0 0] 25)) (acc.alloc acc.size _) c (hc.alloc _) hcn W.heap.size (Var.new W W.heap.size _ _ _ _ rfl) acc.size (Nat.ne_of_lt hc.lt)
        rw [← hR] at h
        exact h
      exact AllReadyIn.nil
    have H01010000001000 : ∀ (W : World) (acc : Below w4.heap.size w4 W) (d : Nat) (hd : Var W d (.int .u64 0) (.slice none 0 0)) (hdn : w4.heap.size ≤ d), R 11 #[false, true, false, true, false, false, false, false, false, false, true, false, false, false] { tmps := #[a, b, undef, undef, .bool false, .pointer (some ⟨w1.heap.size, 0, none⟩), .pointer (some ⟨w1.heap.size + 1, 0, none⟩), s1, s2, .pointer (some ⟨w3.heap.size, 0, none⟩), .pointer (some ⟨w3.heap.size + 1, 0, none⟩), .bool true, undef, .pointer (some ⟨d, 0, none⟩), undef, .tuple #[.agg #[.int .u64 x1, .slice xp xl xc], .agg #[.int .u64 y1, .slice yp yl yc], s1, s2], a, b, .tuple #[.agg #[.int .u64 x1, .slice xp xl xc], .agg #[.int .u64 y1, .slice yp yl yc], s1, s2], .agg #[.int .u64 x1, .slice xp xl xc], .agg #[.int .u64 y1, .slice yp yl yc], s1, s2, .tuple #[.agg #[.int .u64 qa, .slice qp ql qc], .agg #[.int .u64 ra, .slice rp rl rc], .bool true], .agg #[.int .u64 x1, .slice xp xl xc], .agg #[.int .u64 y1, .slice yp yl yc], .tuple #[.agg #[.int .u64 qa, .slice qp ql qc], .agg #[.int .u64 ra, .slice rp rl rc], .bool true], .agg #[.int .u64 qa, .slice qp ql qc], .agg #[.int .u64 ra, .slice rp rl rc], .bool true, .bool true, .bool false, undef, undef, undef, undef, undef, undef, undef, undef, .agg #[.int .u64 y1, .slice yp yl yc], undef, .agg #[.int .u64 y1, .slice yp yl yc], undef, undef, undef, undef, undef, undef, undef, undef, undef, undef, undef, undef, undef, undef, undef, undef, undef, undef, undef, undef, undef, undef, undef, undef, undef, undef, undef, undef, undef, undef, undef, undef, undef, undef, undef], defers := [] } W := by
      intro W acc d hd hdn
      rw [← hR]
      have c00 := (u0.below acc l0).c0
      have c01 := (u0.below acc l0).c1
      have c10 := (u1.below acc l1).c0
      have c11 := (u1.below acc l1).c1
      have kd0 := hd.c0
      have kd1 := hd.c1
      have fd0 := hd.free 0
      have fd1 := hd.free 1
      refine wpAnyIn_ready (rs := [0, 9]) (by kernel_rfl) (by simp) ?_
      refine AllReadyIn.cons rfl (fun K hK => ?_) ?_
      · go_simp
        refine hK _ _ ?_
        have h := H11010000001000 W acc d hd hdn
        rw [← hR] at h
        exact h
      refine AllReadyIn.cons rfl (fun K hK => ?_) ?_
      · go_simp
        refine hK _ _ ?_
        have h := H01010000011000 (W.alloc (.cells #[.int .u64 0, .slice none 0 0] 25)) (acc.alloc acc.size _) W.heap.size (Var.new W W.heap.size _ _ _ _ rfl) acc.size d (hd.alloc _) hdn (Nat.ne_of_gt hd.lt)
        rw [← hR] at h
        exact h
      exact AllReadyIn.nil
    have H01010000000000 : ∀ (W : World) (acc : Below w4.heap.size w4 W), R 12 #[false, true, false, true, false, false, false, false, false, false, false, false, false, false] { tmps := #[a, b, undef, undef, .bool false, .pointer (some ⟨w1.heap.size, 0, none⟩), .pointer (some ⟨w1.heap.size + 1, 0, none⟩), s1, s2, .pointer (some ⟨w3.heap.size, 0, none⟩), .pointer (some ⟨w3.heap.size + 1, 0, none⟩), .bool true, undef, undef, undef, .tuple #[.agg #[.int .u64 x1, .slice xp xl xc], .agg #[.int .u64 y1, .slice yp yl yc], s1, s2], a, b, .tuple #[.agg #[.int .u64 x1, .slice xp xl xc], .agg #[.int .u64 y1, .slice yp yl yc], s1, s2], .agg #[.int .u64 x1, .slice xp xl xc], .agg #[.int .u64 y1, .slice yp yl yc], s1, s2, .tuple #[.agg #[.int .u64 qa, .slice qp ql qc], .agg #[.int .u64 ra, .slice rp rl rc], .bool true], .agg #[.int .u64 x1, .slice xp xl xc], .agg #[.int .u64 y1, .slice yp yl yc], .tuple #[.agg #[.int .u64 qa, .slice qp ql qc], .agg #[.int .u64 ra, .slice rp rl rc], .bool true], .agg #[.int .u64 qa, .slice qp ql qc], .agg #[.int .u64 ra, .slice rp rl rc], .bool true, .bool true, .bool false, undef, undef, undef, undef, undef, undef, undef, undef, .agg #[.int .u64 y1, .slice yp yl yc], undef, .agg #[.int .u64 y1, .slice yp yl yc], undef, undef, undef, undef, undef, undef, undef, undef, undef, undef, undef, undef, undef, undef, undef, undef, undef, undef, undef, undef, undef, undef, undef, undef, undef, undef, undef, undef, undef, undef, undef, undef, undef, undef, undef], defers := [] } W := by
      intro W acc
      rw [← hR]
      have c00 := (u0.below acc l0).c0
      have c01 := (u0.below acc l0).c1
      have c10 := (u1.below acc l1).c0
      have c11 := (u1.below acc l1).c1
      refine wpAnyIn_ready (rs := [0, 9, 10]) (by kernel_rfl) (by simp) ?_
      refine AllReadyIn.cons rfl (fun K hK => ?_) ?_
      · go_simp
        refine hK _ _ ?_
        have h := H11010000000000 W acc
        rw [← hR] at h
        exact h
      refine AllReadyIn.cons rfl (fun K hK => ?_) ?_
      · go_simp
        refine hK _ _ ?_
        have h := H01010000010000 (W.alloc (.cells #[.int .u64 0, .slice none 0 0] 25)) (acc.alloc acc.size _) W.heap.size (Var.new W W.heap.size _ _ _ _ rfl) acc.size
        rw [← hR] at h
        exact h
      refine AllReadyIn.cons rfl (fun K hK => ?_) ?_
      · go_simp
        refine hK _ _ ?_
        have h := H01010000001000 (W.alloc (.cells #[.int .u64 0, .slice none 0 0] 25)) (acc.alloc acc.size _) W.heap.size (Var.new W W.heap.size _ _ _ _ rfl) acc.size
        rw [← hR] at h
        exact h
      exact AllReadyIn.nil
    have H01000000011000 : ∀ (W : World) (acc : Below w4.heap.size w4 W) (c : Nat) (hc : Var W c (.int .u64 0) (.slice none 0 0)) (hcn : w4.heap.size ≤ c) (d : Nat) (hd : Var W d (.int .u64 0) (.slice none 0 0)) (hdn : w4.heap.size ≤ d) (hcd : c ≠ d), R 11 #[false, true, false, false, false, false, false, false, false, true, true, false, false, false] { tmps := #[a, b, undef, undef, .bool false, .pointer (some ⟨w1.heap.size, 0, none⟩), .pointer (some ⟨w1.heap.size + 1, 0, none⟩), s1, s2, .pointer (some ⟨w3.heap.size, 0, none⟩), .pointer (some ⟨w3.heap.size + 1, 0, none⟩), .bool true, .pointer (some ⟨c, 0, none⟩), .pointer (some ⟨d, 0, none⟩), undef, .tuple #[.agg #[.int .u64 x1, .slice xp xl xc], .agg #[.int .u64 y1, .slice yp yl yc], s1, s2], a, b, .tuple #[.agg #[.int .u64 x1, .slice xp xl xc], .agg #[.int .u64 y1, .slice yp yl yc], s1, s2], .agg #[.int .u64 x1, .slice xp xl xc], .agg #[.int .u64 y1, .slice yp yl yc], s1, s2, .tuple #[.agg #[.int .u64 qa, .slice qp ql qc], .agg #[.int .u64 ra, .slice rp rl rc], .bool true], .agg #[.int .u64 x1, .slice xp xl xc], .agg #[.int .u64 y1, .slice yp yl yc], .tuple #[.agg #[.int .u64 qa, .slice qp ql qc], .agg #[.int .u64 ra, .slice rp rl rc], .bool true], .agg #[.int .u64 qa, .slice qp ql qc], .agg #[.int .u64 ra, .slice rp rl rc], .bool true, .bool true, .bool false, undef, undef, undef, undef, undef, undef, undef, undef, .agg #[.int .u64 y1, .slice yp yl yc], undef, undef, undef, undef, undef, undef, undef, undef, undef, undef, undef, undef, undef, undef, undef, undef, undef, undef, undef, undef, undef, undef, undef, undef, undef, undef, undef, undef, undef, undef, undef, undef, undef, undef, undef, undef, undef], defers := [] } W := by
      intro W acc c hc hcn d hd hdn hcd
      rw [← hR]
      have c00 := (u0.below acc l0).c0
      have c01 := (u0.below acc l0).c1
      have c10 := (u1.below acc l1).c0
      have c11 := (u1.below acc l1).c1
      have kc0 := hc.c0
      have kc1 := hc.c1
      have fc0 := hc.free 0
      have fc1 := hc.free 1
      have kd0 := hd.c0
      have kd1 := hd.c1
      have fd0 := hd.free 0
      have fd1 := hd.free 1
      refine wpAnyIn_ready (rs := [0, 3]) (by kernel_rfl) (by simp) ?_
      refine AllReadyIn.cons rfl (fun K hK => ?_) ?_
      · go_simp
        refine hK _ _ ?_
        have h := H11000000011000 W acc c hc hcn d hd hdn hcd
        rw [← hR] at h
        exact h
      refine AllReadyIn.cons rfl (fun K hK => ?_) ?_
      · go_simp
        refine hK _ _ ?_
        have h := H01010000011000 W acc c hc hcn d hd hdn hcd
        rw [← hR] at h
        exact h
      exact AllReadyIn.nil
    have H01000000010000 : ∀ (W : World) (acc : Below w4.heap.size w4 W) (c : Nat) (hc : Var W c (.int .u64 0) (.slice none 0 0)) (hcn : w4.heap.size ≤ c), R 12 #[false, true, false, false, false, false, false, false, false, true, false, false, false, false] { tmps := #[a, b, undef, undef, .bool false, .pointer (some ⟨w1.heap.size, 0, none⟩), .pointer (some ⟨w1.heap.size + 1, 0, none⟩), s1, s2, .pointer (some ⟨w3.heap.size, 0, none⟩), .pointer (some ⟨w3.heap.size + 1, 0, none⟩), .bool true, .pointer (some ⟨c, 0, none⟩), undef, undef, .tuple #[.agg #[.int .u64 x1, .slice xp xl xc], .agg #[.int .u64 y1, .slice yp yl yc], s1, s2], a, b, .tuple #[.agg #[.int .u64 x1, .slice xp xl xc], .agg #[.int .u64 y1, .slice yp yl yc], s1, s2], .agg #[.int .u64 x1, .slice xp xl xc], .agg #[.int .u64 y1, .slice yp yl yc], s1, s2, .tuple #[.agg #[.int .u64 qa, .slice qp ql qc], .agg #[.int .u64 ra, .slice rp rl rc], .bool true], .agg #[.int .u64 x1, .slice xp xl xc], .agg #[.int .u64 y1, .slice yp yl yc], .tuple #[.agg #[.int .u64 qa, .slice qp ql qc], .agg #[.int .u64 ra, .slice rp rl rc], .bool true], .agg #[.int .u64 qa, .slice qp ql qc], .agg #[.int .u64 ra, .slice rp rl rc], .bool true, .bool true, .bool false, undef, undef, undef, undef, undef, undef, undef, undef, .agg #[.int .u64 y1, .slice yp yl yc], undef, undef, undef, undef, undef, undef, undef, undef, undef, undef, undef, undef, undef, undef, undef, undef, undef, undef, undef, undef, undef, undef, undef, undef, undef, undef, undef, undef, undef, undef, undef, undef, undef, undef, undef, undef, undef], defers := [] } W := by
      intro W acc c hc hcn
      rw [← hR]
      have c00 := (u0.below acc l0).c0
      have c01 := (u0.below acc l0).c1
      have c10 := (u1.below acc l1).c0
      have c11 := (u1.below acc l1).c1
      have kc0 := hc.c0
      have kc1 := hc.c1
      have fc0 := hc.free 0
      have fc1 := hc.free 1
      refine wpAnyIn_ready (rs := [0, 3, 10]) (by kernel_rfl) (by simp) ?_
      refine AllReadyIn.cons rfl (fun K hK => ?_) ?_
      · go_simp
        refine hK _ _ ?_
        have h := H11000000010000 W acc c hc hcn
        rw [← hR] at h
        exact h
      refine AllReadyIn.cons rfl (fun K hK => ?_) ?_
      · go_simp
        refine hK _ _ ?_
        have h := H01010000010000 W acc c hc hcn
        rw [← hR] at h
        exact h
      refine AllReadyIn.cons rfl (fun K hK => ?_) ?_
      · go_simp
        refine hK _ _ ?_
        have h := H01000000011000 (W.alloc (.cells #[.int .u64 0, .slice none 0 0] 25)) (acc.alloc acc.size _) c (hc.alloc _) hcn W.heap.size (Var.new W W.heap.size _ _ _ _ rfl) acc.size (Nat.ne_of_lt hc.lt)
        rw [← hR] at h
        exact h
      exact AllReadyIn.nil
    have H01000000001000 : ∀ (W : World) (acc : Below w4.heap.size w4 W) (d : Nat) (hd : Var W d (.int .u64 0) (.slice none 0 0)) (hdn : w4.heap.size ≤ d), R 12 #[false, true, false, false, false, false, false, false, false, false, true, false, false, false] { tmps := #[a, b, undef, undef, .bool false, .pointer (some ⟨w1.heap.size, 0, none⟩), .pointer (some ⟨w1.heap.size + 1, 0, none⟩), s1, s2, .pointer (some ⟨w3.heap.size, 0, none⟩), .pointer (some ⟨w3.heap.size + 1, 0, none⟩), .bool true, undef, .pointer (some ⟨d, 0, none⟩), undef, .tuple #[.agg #[.int .u64 x1, .slice xp xl xc], .agg #[.int .u64 y1, .slice yp yl yc], s1, s2], a, b, .tuple #[.agg #[.int .u64 x1, .slice xp xl xc], .agg #[.int .u64 y1, .slice yp yl yc], s1, s2], .agg #[.int .u64 x1, .slice xp xl xc], .agg #[.int .u64 y1, .slice yp yl yc], s1, s2, .tuple #[.agg #[.int .u64 qa, .slice qp ql qc], .agg #[.int .u64 ra, .slice rp rl rc], .bool true], .agg #[.int .u64 x1, .slice xp xl xc], .agg #[.int .u64 y1, .slice yp yl yc], .tuple #[.agg #[.int .u64 qa, .slice qp ql qc], .agg #[.int .u64 ra, .slice rp rl rc], .bool true], .agg #[.int .u64 qa, .slice qp ql qc], .agg #[.int .u64 ra, .slice rp rl rc], .bool true, .bool true, .bool false, undef, undef, undef, undef, undef, undef, undef, undef, .agg #[.int .u64 y1, .slice yp yl yc], undef, undef, undef, undef, undef, undef, undef, undef, undef, undef, undef, undef, undef, undef, undef, undef, undef, undef, undef, undef, undef, undef, undef, undef, undef, undef, undef, undef, undef, undef, undef, undef, undef, undef, undef, undef, undef], defers := [] } W := by
      intro W acc d hd hdn
      rw [← hR]
      have c00 := (u0.below acc l0).c0
      have c01 := (u0.below acc l0).c1
      have c10 := (u1.below acc l1).c0
      have c11 := (u1.below acc l1).c1
      have kd0 := hd.c0
      have kd1 := hd.c1
      have fd0 := hd.free 0
      have fd1 := hd.free 1
      refine wpAnyIn_ready (rs := [0, 3, 9]) (by kernel_rfl) (by simp) ?_
      refine AllReadyIn.cons rfl (fun K hK => ?_) ?_
      · go_simp
        refine hK _ _ ?_
        have h := H11000000001000 W acc d hd hdn
        rw [← hR] at h
        exact h
      refine AllReadyIn.cons rfl (fun K hK => ?_) ?_
      · go_simp
        refine hK _ _ ?_
        have h := H01010000001000 W acc d hd hdn
        rw [← hR] at h
        exact h
      refine AllReadyIn.cons rfl (fun K hK => ?_) ?_
      · go_simp
        refine hK _ _ ?_
        have h := H01000000011000 (W.alloc (.cells #[.int .u64 0, .slice none 0 0] 25)) (acc.alloc acc.size _) W.heap.size (Var.new W W.heap.size _ _ _ _ rfl) acc.size d (hd.alloc _) hdn (Nat.ne_of_gt hd.lt)
        rw [← hR] at h
        exact h
      exact AllReadyIn.nil
    have H01000000000000 : ∀ (W : World) (acc : Below w4.heap.size w4 W), R 13 #[false, true, false, false, false, false, false, false, false, false, false, false, false, false] { tmps := #[a, b, undef, undef, .bool false, .pointer (some ⟨w1.heap.size, 0, none⟩), .pointer (some ⟨w1.heap.size + 1, 0, none⟩), s1, s2, .pointer (some ⟨w3.heap.size, 0, none⟩), .pointer (some ⟨w3.heap.size + 1, 0, none⟩), .bool true, undef, undef, undef, .tuple #[.agg #[.int .u64 x1, .slice xp xl xc], .agg #[.int .u64 y1, .slice yp yl yc], s1, s2], a, b, .tuple #[.agg #[.int .u64 x1, .slice xp xl xc], .agg #[.int .u64 y1, .slice yp yl yc], s1, s2], .agg #[.int .u64 x1, .slice xp xl xc], .agg #[.int .u64 y1, .slice yp yl yc], s1, s2, .tuple #[.agg #[.int .u64 qa, .slice qp ql qc], .agg #[.int .u64 ra, .slice rp rl rc], .bool true], .agg #[.int .u64 x1, .slice xp xl xc], .agg #[.int .u64 y1, .slice yp yl yc], .tuple #[.agg #[.int .u64 qa, .slice qp ql qc], .agg #[.int .u64 ra, .slice rp rl rc], .bool true], .agg #[.int .u64 qa, .slice qp ql qc], .agg #[.int .u64 ra, .slice rp rl rc], .bool true, .bool true, .bool false, undef, undef, undef, undef, undef, undef, undef, undef, .agg #[.int .u64 y1, .slice yp yl yc], undef, undef, undef, undef, undef, undef, undef, undef, undef, undef, undef, undef, undef, undef, undef, undef, undef, undef, undef, undef, undef, undef, undef, undef, undef, undef, undef, undef, undef, undef, undef, undef, undef, undef, undef, undef, undef], defers := [] } W := by
      intro W acc
      rw [← hR]
      have c00 := (u0.below acc l0).c0
      have c01 := (u0.below acc l0).c1
      have c10 := (u1.below acc l1).c0
      have c11 := (u1.below acc l1).c1
      refine wpAnyIn_ready (rs := [0, 3, 9, 10]) (by kernel_rfl) (by simp) ?_
      refine AllReadyIn.cons rfl (fun K hK => ?_) ?_
      · go_simp
        refine hK _ _ ?_
        have h := H11000000000000 W acc
        rw [← hR] at h
        exact h
      refine AllReadyIn.cons rfl (fun K hK => ?_) ?_
      · go_simp
        refine hK _ _ ?_
        have h := H01010000000000 W acc
        rw [← hR] at h
        exact h
      refine AllReadyIn.cons rfl (fun K hK => ?_) ?_
      · go_simp
        refine hK _ _ ?_
        have h := H01000000010000 (W.alloc (.cells #[.int .u64 0, .slice none 0 0] 25)) (acc.alloc acc.size _) W.heap.size (Var.new W W.heap.size _ _ _ _ rfl) acc.size
        rw [← hR] at h
        exact h
      refine AllReadyIn.cons rfl (fun K hK => ?_) ?_
      · go_simp
        refine hK _ _ ?_
        have h := H01000000001000 (W.alloc (.cells #[.int .u64 0, .slice none 0 0] 25)) (acc.alloc acc.size _) W.heap.size (Var.new W W.heap.size _ _ _ _ rfl) acc.size
        rw [← hR] at h
        exact h
      exact AllReadyIn.nil
    have H00010000011000 : ∀ (W : World) (acc : Below w4.heap.size w4 W) (c : Nat) (hc : Var W c (.int .u64 0) (.slice none 0 0)) (hcn : w4.heap.size ≤ c) (d : Nat) (hd : Var W d (.int .u64 0) (.slice none 0 0)) (hdn : w4.heap.size ≤ d) (hcd : c ≠ d), R 11 #[false, false, false, true, false, false, false, false, false, true, true, false, false, false] { tmps := #[a, b, undef, undef, .bool false, .pointer (some ⟨w1.heap.size, 0, none⟩), .pointer (some ⟨w1.heap.size + 1, 0, none⟩), s1, s2, .pointer (some ⟨w3.heap.size, 0, none⟩), .pointer (some ⟨w3.heap.size + 1, 0, none⟩), .bool true, .pointer (some ⟨c, 0, none⟩), .pointer (some ⟨d, 0, none⟩), undef, .tuple #[.agg #[.int .u64 x1, .slice xp xl xc], .agg #[.int .u64 y1, .slice yp yl yc], s1, s2], a, b, .tuple #[.agg #[.int .u64 x1, .slice xp xl xc], .agg #[.int .u64 y1, .slice yp yl yc], s1, s2], .agg #[.int .u64 x1, .slice xp xl xc], .agg #[.int .u64 y1, .slice yp yl yc], s1, s2, .tuple #[.agg #[.int .u64 qa, .slice qp ql qc], .agg #[.int .u64 ra, .slice rp rl rc], .bool true], .agg #[.int .u64 x1, .slice xp xl xc], .agg #[.int .u64 y1, .slice yp yl yc], .tuple #[.agg #[.int .u64 qa, .slice qp ql qc], .agg #[.int .u64 ra, .slice rp rl rc], .bool true], .agg #[.int .u64 qa, .slice qp ql qc], .agg #[.int .u64 ra, .slice rp rl rc], .bool true, .bool true, .bool false, undef, undef, undef, undef, undef, undef, undef, undef, undef, undef, .agg #[.int .u64 y1, .slice yp yl yc], undef, undef, undef, undef, undef, undef, undef, undef, undef, undef, undef, undef, undef, undef, undef, undef, undef, undef, undef, undef, undef, undef, undef, undef, undef, undef, undef, undef, undef, undef, undef, undef, undef, undef, undef], defers := [] } W := by
      intro W acc c hc hcn d hd hdn hcd
      rw [← hR]
      have c00 := (u0.below acc l0).c0
      have c01 := (u0.below acc l0).c1
      have c10 := (u1.below acc l1).c0
      have c11 := (u1.below acc l1).c1
      have kc0 := hc.c0
      have kc1 := hc.c1
      have fc0 := hc.free 0
      have fc1 := hc.free 1
      have kd0 := hd.c0
      have kd1 := hd.c1
      have fd0 := hd.free 0
      have fd1 := hd.free 1
      refine wpAnyIn_ready (rs := [0, 1]) (by kernel_rfl) (by simp) ?_
      refine AllReadyIn.cons rfl (fun K hK => ?_) ?_
      · go_simp
        refine hK _ _ ?_
        have h := H10010000011000 W acc c hc hcn d hd hdn hcd
        rw [← hR] at h
        exact h
      refine AllReadyIn.cons rfl (fun K hK => ?_) ?_
      · go_simp
        refine hK _ _ ?_
        have h := H01010000011000 W acc c hc hcn d hd hdn hcd
        rw [← hR] at h
        exact h
      exact AllReadyIn.nil
    have H00010000010000 : ∀ (W : World) (acc : Below w4.heap.size w4 W) (c : Nat) (hc : Var W c (.int .u64 0) (.slice none 0 0)) (hcn : w4.heap.size ≤ c), R 12 #[false, false, false, true, false, false, false, false, false, true, false, false, false, false] { tmps := #[a, b, undef, undef, .bool false, .pointer (some ⟨w1.heap.size, 0, none⟩), .pointer (some ⟨w1.heap.size + 1, 0, none⟩), s1, s2, .pointer (some ⟨w3.heap.size, 0, none⟩), .pointer (some ⟨w3.heap.size + 1, 0, none⟩), .bool true, .pointer (some ⟨c, 0, none⟩), undef, undef, .tuple #[.agg #[.int .u64 x1, .slice xp xl xc], .agg #[.int .u64 y1, .slice yp yl yc], s1, s2], a, b, .tuple #[.agg #[.int .u64 x1, .slice xp xl xc], .agg #[.int .u64 y1, .slice yp yl yc], s1, s2], .agg #[.int .u64 x1, .slice xp xl xc], .agg #[.int .u64 y1, .slice yp yl yc], s1, s2, .tuple #[.agg #[.int .u64 qa, .slice qp ql qc], .agg #[.int .u64 ra, .slice rp rl rc], .bool true], .agg #[.int .u64 x1, .slice xp xl xc], .agg #[.int .u64 y1, .slice yp yl yc], .tuple #[.agg #[.int .u64 qa, .slice qp ql qc], .agg #[.int .u64 ra, .slice rp rl rc], .bool true], .agg #[.int .u64 qa, .slice qp ql qc], .agg #[.int .u64 ra, .slice rp rl rc], .bool true, .bool true, .bool false, undef, undef, undef, undef, undef, undef, undef, undef, undef, undef, .agg #[.int .u64 y1, .slice yp yl yc], undef, undef, undef, undef, undef, undef, undef, undef, undef, undef, undef, undef, undef, undef, undef, undef, undef, undef, undef, undef, undef, undef, undef, undef, undef, undef, undef, undef, undef, undef, undef, undef, undef, undef, undef], defers := [] } W := by
      intro W acc c hc hcn
      rw [← hR]
      have c00 := (u0.below acc l0).c0
      have c01 := (u0.below acc l0).c1
      have c10 := (u1.below acc l1).c0
      have c11 := (u1.below acc l1).c1
      have kc0 := hc.c0
      have kc1 := hc.c1
      have fc0 := hc.free 0
      have fc1 := hc.free 1
      refine wpAnyIn_ready (rs := [0, 1, 10]) (by kernel_rfl) (by simp) ?_
      refine AllReadyIn.cons rfl (fun K hK => ?_) ?_
      · go_simp
        refine hK _ _ ?_
        have h := H10010000010000 W acc c hc hcn
        rw [← hR] at h
        exact h
      refine AllReadyIn.cons rfl (fun K hK => ?_) ?_
      · go_simp
        refine hK _ _ ?_
        have h := H01010000010000 W acc c hc hcn
        rw [← hR] at h
        exact h
      refine AllReadyIn.cons rfl (fun K hK => ?_) ?_
      · go_simp
        refine hK _ _ ?_
        have h := H00010000011000 (W.alloc (.cells #[.int .u64 0, .slice none 0 0] 25)) (acc.alloc acc.size _) c (hc.alloc _) hcn W.heap.size (Var.new W W.heap.size _ _ _ _ rfl) acc.size (Nat.ne_of_lt hc.lt)
        rw [← hR] at h
        exact h
      exact AllReadyIn.nil
    have H00010000001000 : ∀ (W : World) (acc : Below w4.heap.size w4 W) (d : Nat) (hd : Var W d (.int .u64 0) (.slice none 0 0)) (hdn : w4.heap.size ≤ d), R 12 #[false, false, false, true, false, false, false, false, false, false, true, false, false, false] { tmps := #[a, b, undef, undef, .bool false, .pointer (some ⟨w1.heap.size, 0, none⟩), .pointer (some ⟨w1.heap.size + 1, 0, none⟩), s1, s2, .pointer (some ⟨w3.heap.size, 0, none⟩), .pointer (some ⟨w3.heap.size + 1, 0, none⟩), .bool true, undef, .pointer (some ⟨d, 0, none⟩), undef, .tuple #[.agg #[.int .u64 x1, .slice xp xl xc], .agg #[.int .u64 y1, .slice yp yl yc], s1, s2], a, b, .tuple #[.agg #[.int .u64 x1, .slice xp xl xc], .agg #[.int .u64 y1, .slice yp yl yc], s1, s2], .agg #[.int .u64 x1, .slice xp xl xc], .agg #[.int .u64 y1, .slice yp yl yc], s1, s2, .tuple #[.agg #[.int .u64 qa, .slice qp ql qc], .agg #[.int .u64 ra, .slice rp rl rc], .bool true], .agg #[.int .u64 x1, .slice xp xl xc], .agg #[.int .u64 y1, .slice yp yl yc], .tuple #[.agg #[.int .u64 qa, .slice qp ql qc], .agg #[.int .u64 ra, .slice rp rl rc], .bool true], .agg #[.int .u64 qa, .slice qp ql qc], .agg #[.int .u64 ra, .slice rp rl rc], .bool true, .bool true, .bool false, undef, undef, undef, undef, undef, undef, undef, undef, undef, undef, .agg #[.int .u64 y1, .slice yp yl yc], undef, undef, undef, undef, undef, undef, undef, undef, undef, undef, undef, undef, undef, undef, undef, undef, undef, undef, undef, undef, undef, undef, undef, undef, undef, undef, undef, undef, undef, undef, undef, undef, undef, undef, undef], defers := [] } W := by
      intro W acc d hd hdn
      rw [← hR]
      have c00 := (u0.below acc l0).c0
      have c01 := (u0.below acc l0).c1
      have c10 := (u1.below acc l1).c0
      have c11 := (u1.below acc l1).c1
      have kd0 := hd.c0
      have kd1 := hd.c1
      have fd0 := hd.free 0
      have fd1 := hd.free 1
      refine wpAnyIn_ready (rs := [0, 1, 9]) (by kernel_rfl) (by simp) ?_
      refine AllReadyIn.cons rfl (fun K hK => ?_) ?_
      · go_simp
        refine hK _ _ ?_
        have h := H10010000001000 W acc d hd hdn
        rw [← hR] at h
        exact h
      refine AllReadyIn.cons rfl (fun K hK => ?_) ?_
      · go_simp
        refine hK _ _ ?_
        have h := H01010000001000 W acc d hd hdn
        rw [← hR] at h
        exact h
      refine AllReadyIn.cons rfl (fun K hK => ?_) ?_
      · go_simp
        refine hK _ _ ?_
        have h := H00010000011000 (W.alloc (.cells #[.int .u64 0, .slice none 0 0] 25)) (acc.alloc acc.size _) W.heap.size (Var.new W W.heap.size _ _ _ _ rfl) acc.size d (hd.alloc _) hdn (Nat.ne_of_gt hd.lt)
        rw [← hR] at h
        exact h
      exact AllReadyIn.nil
    have H00010000000000 : ∀ (W : World) (acc : Below w4.heap.size w4 W), R 13 #[false, false, false, true, false, false, false, false, false, false, false, false, false, false] { tmps := #[a, b, undef, undef, .bool false, .pointer (some ⟨w1.heap.size, 0, none⟩), .pointer (some ⟨w1.heap.size + 1, 0, none⟩), s1, s2, .pointer (some ⟨w3.heap.size, 0, none⟩), .pointer (some ⟨w3.heap.size + 1, 0, none⟩), .bool true, undef, undef, undef, .tuple #[.agg #[.int .u64 x1, .slice xp xl xc], .agg #[.int .u64 y1, .slice yp yl yc], s1, s2], a, b, .tuple #[.agg #[.int .u64 x1, .slice xp xl xc], .agg #[.int .u64 y1, .slice yp yl yc], s1, s2], .agg #[.int .u64 x1, .slice xp xl xc], .agg #[.int .u64 y1, .slice yp yl yc], s1, s2, .tuple #[.agg #[.int .u64 qa, .slice qp ql qc], .agg #[.int .u64 ra, .slice rp rl rc], .bool true], .agg #[.int .u64 x1, .slice xp xl xc], .agg #[.int .u64 y1, .slice yp yl yc], .tuple #[.agg #[.int .u64 qa, .slice qp ql qc], .agg #[.int .u64 ra, .slice rp rl rc], .bool true], .agg #[.int .u64 qa, .slice qp ql qc], .agg #[.int .u64 ra, .slice rp rl rc], .bool true, .bool true, .bool false, undef, undef, undef, undef, undef, undef, undef, undef, undef, undef, .agg #[.int .u64 y1, .slice yp yl yc], undef, undef, undef, undef, undef, undef, undef, undef, undef, undef, undef, undef, undef, undef, undef, undef, undef, undef, undef, undef, undef, undef, undef, undef, undef, undef, undef, undef, undef, undef, undef, undef, undef, undef, undef], defers := [] } W := by
      intro W acc
      rw [← hR]
      have c00 := (u0.below acc l0).c0
      have c01 := (u0.below acc l0).c1
      have c10 := (u1.below acc l1).c0
      have c11 := (u1.below acc l1).c1
      refine wpAnyIn_ready (rs := [0, 1, 9, 10]) (by kernel_rfl) (by simp) ?_
      refine AllReadyIn.cons rfl (fun K hK => ?_) ?_
      · go_simp
        refine hK _ _ ?_
        have h := H10010000000000 W acc
        rw [← hR] at h
        exact h
      refine AllReadyIn.cons rfl (fun K hK => ?_) ?_
      · go_simp
        refine hK _ _ ?_
        have h := H01010000000000 W acc
        rw [← hR] at h
        exact h
      refine AllReadyIn.cons rfl (fun K hK => ?_) ?_
      · go_simp
        refine hK _ _ ?_
        have h := H00010000010000 (W.alloc (.cells #[.int .u64 0, .slice none 0 0] 25)) (acc.alloc acc.size _) W.heap.size (Var.new W W.heap.size _ _ _ _ rfl) acc.size
        rw [← hR] at h
        exact h
      refine AllReadyIn.cons rfl (fun K hK => ?_) ?_
      · go_simp
        refine hK _ _ ?_
        have h := H00010000001000 (W.alloc (.cells #[.int .u64 0, .slice none 0 0] 25)) (acc.alloc acc.size _) W.heap.size (Var.new W W.heap.size _ _ _ _ rfl) acc.size
        rw [← hR] at h
        exact h
      exact AllReadyIn.nil
    have H00000000011000 : ∀ (W : World) (acc : Below w4.heap.size w4 W) (c : Nat) (hc : Var W c (.int .u64 0) (.slice none 0 0)) (hcn : w4.heap.size ≤ c) (d : Nat) (hd : Var W d (.int .u64 0) (.slice none 0 0)) (hdn : w4.heap.size ≤ d) (hcd : c ≠ d), R 12 #[false, false, false, false, false, false, false, false, false, true, true, false, false, false] { tmps := #[a, b, undef, undef, .bool false, .pointer (some ⟨w1.heap.size, 0, none⟩), .pointer (some ⟨w1.heap.size + 1, 0, none⟩), s1, s2, .pointer (some ⟨w3.heap.size, 0, none⟩), .pointer (some ⟨w3.heap.size + 1, 0, none⟩), .bool true, .pointer (some ⟨c, 0, none⟩), .pointer (some ⟨d, 0, none⟩), undef, .tuple #[.agg #[.int .u64 x1, .slice xp xl xc], .agg #[.int .u64 y1, .slice yp yl yc], s1, s2], a, b, .tuple #[.agg #[.int .u64 x1, .slice xp xl xc], .agg #[.int .u64 y1, .slice yp yl yc], s1, s2], .agg #[.int .u64 x1, .slice xp xl xc], .agg #[.int .u64 y1, .slice yp yl yc], s1, s2, .tuple #[.agg #[.int .u64 qa, .slice qp ql qc], .agg #[.int .u64 ra, .slice rp rl rc], .bool true], .agg #[.int .u64 x1, .slice xp xl xc], .agg #[.int .u64 y1, .slice yp yl yc], .tuple #[.agg #[.int .u64 qa, .slice qp ql qc], .agg #[.int .u64 ra, .slice rp rl rc], .bool true], .agg #[.int .u64 qa, .slice qp ql qc], .agg #[.int .u64 ra, .slice rp rl rc], .bool true, .bool true, .bool false, undef, undef, undef, undef, undef, undef, undef, undef, undef, undef, undef, undef, undef, undef, undef, undef, undef, undef, undef, undef, undef, undef, undef, undef, undef, undef, undef, undef, undef, undef, undef, undef, undef, undef, undef, undef, undef, undef, undef, undef, undef, undef, undef, undef, undef, undef], defers := [] } W := by
      intro W acc c hc hcn d hd hdn hcd
      rw [← hR]
      have c00 := (u0.below acc l0).c0
      have c01 := (u0.below acc l0).c1
      have c10 := (u1.below acc l1).c0
      have c11 := (u1.below acc l1).c1
      have kc0 := hc.c0
      have kc1 := hc.c1
      have fc0 := hc.free 0
      have fc1 := hc.free 1
      have kd0 := hd.c0
      have kd1 := hd.c1
      have fd0 := hd.free 0
      have fd1 := hd.free 1
      refine wpAnyIn_ready (rs := [0, 1, 3]) (by kernel_rfl) (by simp) ?_
      refine AllReadyIn.cons rfl (fun K hK => ?_) ?_
      · go_simp
        refine hK _ _ ?_
        have h := H10000000011000 W acc c hc hcn d hd hdn hcd
        rw [← hR] at h
        exact h
      refine AllReadyIn.cons rfl (fun K hK => ?_) ?_
      · go_simp
        refine hK _ _ ?_
        have h := H01000000011000 W acc c hc hcn d hd hdn hcd
        rw [← hR] at h
        exact h
      refine AllReadyIn.cons rfl (fun K hK => ?_) ?_
      · go_simp
        refine hK _ _ ?_
        have h := H00010000011000 W acc c hc hcn d hd hdn hcd
        rw [← hR] at h
        exact h
      exact AllReadyIn.nil
    have H00000000010000 : ∀ (W : World) (acc : Below w4.heap.size w4 W) (c : Nat) (hc : Var W c (.int .u64 0) (.slice none 0 0)) (hcn : w4.heap.size ≤ c), R 13 #[false, false, false, false, false, false, false, false, false, true, false, false, false, false] { tmps := #[a, b, undef, undef, .bool false, .pointer (some ⟨w1.heap.size, 0, none⟩), .pointer (some ⟨w1.heap.size + 1, 0, none⟩), s1, s2, .pointer (some ⟨w3.heap.size, 0, none⟩), .pointer (some ⟨w3.heap.size + 1, 0, none⟩), .bool true, .pointer (some ⟨c, 0, none⟩), undef, undef, .tuple #[.agg #[.int .u64 x1, .slice xp xl xc], .agg #[.int .u64 y1, .slice yp yl yc], s1, s2], a, b, .tuple #[.agg #[.int .u64 x1, .slice xp xl xc], .agg #[.int .u64 y1, .slice yp yl yc], s1, s2], .agg #[.int .u64 x1, .slice xp xl xc], .agg #[.int .u64 y1, .slice yp yl yc], s1, s2, .tuple #[.agg #[.int .u64 qa, .slice qp ql qc], .agg #[.int .u64 ra, .slice rp rl rc], .bool true], .agg #[.int .u64 x1, .slice xp xl xc], .agg #[.int .u64 y1, .slice yp yl yc], .tuple #[.agg #[.int .u64 qa, .slice qp ql qc], .agg #[.int .u64 ra, .slice rp rl rc], .bool true], .agg #[.int .u64 qa, .slice qp ql qc], .agg #[.int .u64 ra, .slice rp rl rc], .bool true, .bool true, .bool false, undef, undef, undef, undef, undef, undef, undef, undef, undef, undef, undef, undef, undef, undef, undef, undef, undef, undef, undef, undef, undef, undef, undef, undef, undef, undef, undef, undef, undef, undef, undef, undef, undef, undef, undef, undef, undef, undef, undef, undef, undef, undef, undef, undef, undef, undef], defers := [] } W := by
      intro W acc c hc hcn
      rw [← hR]
      have c00 := (u0.below acc l0).c0
      have c01 := (u0.below acc l0).c1
      have c10 := (u1.below acc l1).c0
      have c11 := (u1.below acc l1).c1
      have kc0 := hc.c0
      have kc1 := hc.c1
      have fc0 := hc.free 0
      have fc1 := hc.free 1
      refine wpAnyIn_ready (rs := [0, 1, 3, 10]) (by kernel_rfl) (by simp) ?_
      refine AllReadyIn.cons rfl (fun K hK => ?_) ?_
      · go_simp
        refine hK _ _ ?_
        have h := H10000000010000 W acc c hc hcn
        rw [← hR] at h
        exact h
      refine AllReadyIn.cons rfl (fun K hK => ?_) ?_
      · go_simp
        refine hK _ _ ?_
        have h := H01000000010000 W acc c hc hcn
        rw [← hR] at h
        exact h
      refine AllReadyIn.cons rfl (fun K hK => ?_) ?_
      · go_simp
        refine hK _ _ ?_
        have h := H00010000010000 W acc c hc hcn
        rw [← hR] at h
        exact h
      refine AllReadyIn.cons rfl (fun K hK => ?_) ?_
      · go_simp
        refine hK _ _ ?_
        have h := H00000000011000 (W.alloc (.cells #[.int .u64 0, .slice none 0 0] 25)) (acc.alloc acc.size _) c (hc.alloc _) hcn W.heap.size (Var.new W W.heap.size _ _ _ _ rfl) acc.size (Nat.ne_of_lt hc.lt)
        rw [← hR] at h
        exact h
      exact AllReadyIn.nil
    have H00000000001000 : ∀ (W : World) (acc : Below w4.heap.size w4 W) (d : Nat) (hd : Var W d (.int .u64 0) (.slice none 0 0)) (hdn : w4.heap.size ≤ d), R 13 #[false, false, false, false, false, false, false, false, false, false, true, false, false, false] { tmps := #[a, b, undef, undef, .bool false, .pointer (some ⟨w1.heap.size, 0, none⟩), .pointer (some ⟨w1.heap.size + 1, 0, none⟩), s1, s2, .pointer (some ⟨w3.heap.size, 0, none⟩), .pointer (some ⟨w3.heap.size + 1, 0, none⟩), .bool true, undef, .pointer (some ⟨d, 0, none⟩), undef, .tuple #[.agg #[.int .u64 x1, .slice xp xl xc], .agg #[.int .u64 y1, .slice yp yl yc], s1, s2], a, b, .tuple #[.agg #[.int .u64 x1, .slice xp xl xc], .agg #[.int .u64 y1, .slice yp yl yc], s1, s2], .agg #[.int .u64 x1, .slice xp xl xc], .agg #[.int .u64 y1, .slice yp yl yc], s1, s2, .tuple #[.agg #[.int .u64 qa, .slice qp ql qc], .agg #[.int .u64 ra, .slice rp rl rc], .bool true], .agg #[.int .u64 x1, .slice xp xl xc], .agg #[.int .u64 y1, .slice yp yl yc], .tuple #[.agg #[.int .u64 qa, .slice qp ql qc], .agg #[.int .u64 ra, .slice rp rl rc], .bool true], .agg #[.int .u64 qa, .slice qp ql qc], .agg #[.int .u64 ra, .slice rp rl rc], .bool true, .bool true, .bool false, undef, undef, undef, undef, undef, undef, undef, undef, undef, undef, undef, undef, undef, undef, undef, undef, undef, undef, undef, undef, undef, undef, undef, undef, undef, undef, undef, undef, undef, undef, undef, undef, undef, undef, undef, undef, undef, undef, undef, undef, undef, undef, undef, undef, undef, undef], defers := [] } W := by
      intro W acc d hd hdn
      rw [← hR]
      have c00 := (u0.below acc l0).c0
      have c01 := (u0.below acc l0).c1
      have c10 := (u1.below acc l1).c0
      have c11 := (u1.below acc l1).c1
      have kd0 := hd.c0
      have kd1 := hd.c1
      have fd0 := hd.free 0
      have fd1 := hd.free 1
      refine wpAnyIn_ready (rs := [0, 1, 3, 9]) (by kernel_rfl) (by simp) ?_
      refine AllReadyIn.cons rfl (fun K hK => ?_) ?_
      · go_simp
        refine hK _ _ ?_
        have h := H10000000001000 W acc d hd hdn
        rw [← hR] at h
        exact h
      refine AllReadyIn.cons rfl (fun K hK => ?_) ?_
      · go_simp
        refine hK _ _ ?_
        have h := H01000000001000 W acc d hd hdn
        rw [← hR] at h
        exact h
      refine AllReadyIn.cons rfl (fun K hK => ?_) ?_
      · go_simp
        refine hK _ _ ?_
        have h := H00010000001000 W acc d hd hdn
        rw [← hR] at h
        exact h
      refine AllReadyIn.cons rfl (fun K hK => ?_) ?_
      · go_simp
        refine hK _ _ ?_
        have h := H00000000011000 (W.alloc (.cells #[.int .u64 0, .slice none 0 0] 25)) (acc.alloc acc.size _) W.heap.size (Var.new W W.heap.size _ _ _ _ rfl) acc.size d (hd.alloc _) hdn (Nat.ne_of_gt hd.lt)
        rw [← hR] at h
        exact h
      exact AllReadyIn.nil
    have H00000000000000 : ∀ (W : World) (acc : Below w4.heap.size w4 W), R 14 #[false, false, false, false, false, false, false, false, false, false, false, false, false, false] { tmps := #[a, b, undef, undef, .bool false, .pointer (some ⟨w1.heap.size, 0, none⟩), .pointer (some ⟨w1.heap.size + 1, 0, none⟩), s1, s2, .pointer (some ⟨w3.heap.size, 0, none⟩), .pointer (some ⟨w3.heap.size + 1, 0, none⟩), .bool true, undef, undef, undef, .tuple #[.agg #[.int .u64 x1, .slice xp xl xc], .agg #[.int .u64 y1, .slice yp yl yc], s1, s2], a, b, .tuple #[.agg #[.int .u64 x1, .slice xp xl xc], .agg #[.int .u64 y1, .slice yp yl yc], s1, s2], .agg #[.int .u64 x1, .slice xp xl xc], .agg #[.int .u64 y1, .slice yp yl yc], s1, s2, .tuple #[.agg #[.int .u64 qa, .slice qp ql qc], .agg #[.int .u64 ra, .slice rp rl rc], .bool true], .agg #[.int .u64 x1, .slice xp xl xc], .agg #[.int .u64 y1, .slice yp yl yc], .tuple #[.agg #[.int .u64 qa, .slice qp ql qc], .agg #[.int .u64 ra, .slice rp rl rc], .bool true], .agg #[.int .u64 qa, .slice qp ql qc], .agg #[.int .u64 ra, .slice rp rl rc], .bool true, .bool true, .bool false, undef, undef, undef, undef, undef, undef, undef, undef, undef, undef, undef, undef, undef, undef, undef, undef, undef, undef, undef, undef, undef, undef, undef, undef, undef, undef, undef, undef, undef, undef, undef, undef, undef, undef, undef, undef, undef, undef, undef, undef, undef, undef, undef, undef, undef, undef], defers := [] } W := by
      intro W acc
      rw [← hR]
      have c00 := (u0.below acc l0).c0
      have c01 := (u0.below acc l0).c1
      have c10 := (u1.below acc l1).c0
      have c11 := (u1.below acc l1).c1
      refine wpAnyIn_ready (rs := [0, 1, 3, 9, 10]) (by kernel_rfl) (by simp) ?_
      refine AllReadyIn.cons rfl (fun K hK => ?_) ?_
      · go_simp
        refine hK _ _ ?_
        have h := H10000000000000 W acc
        rw [← hR] at h
        exact h
      refine AllReadyIn.cons rfl (fun K hK => ?_) ?_
      · go_simp
        refine hK _ _ ?_
        have h := H01000000000000 W acc
        rw [← hR] at h
        exact h
      refine AllReadyIn.cons rfl (fun K hK => ?_) ?_
      · go_simp
        refine hK _ _ ?_
        have h := H00010000000000 W acc
        rw [← hR] at h
        exact h
      refine AllReadyIn.cons rfl (fun K hK => ?_) ?_
      · go_simp
        refine hK _ _ ?_
        have h := H00000000010000 (W.alloc (.cells #[.int .u64 0, .slice none 0 0] 25)) (acc.alloc acc.size _) W.heap.size (Var.new W W.heap.size _ _ _ _ rfl) acc.size
        rw [← hR] at h
        exact h
      refine AllReadyIn.cons rfl (fun K hK => ?_) ?_
      · go_simp
        refine hK _ _ ?_
        have h := H00000000001000 (W.alloc (.cells #[.int .u64 0, .slice none 0 0] 25)) (acc.alloc acc.size _) W.heap.size (Var.new W W.heap.size _ _ _ _ rfl) acc.size
        rw [← hR] at h
        exact h
      exact AllReadyIn.nil
    exact H00000000000000 w4.drew (Below.refl _ w4).drew
end Go.Proofs.YtjaepdjidfhamaaDoor
