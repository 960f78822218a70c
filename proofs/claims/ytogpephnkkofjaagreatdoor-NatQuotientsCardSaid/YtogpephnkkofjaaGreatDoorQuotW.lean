/- NatQuotients, walked. -/
import Derived.Test.YtogpephnkkofjaaGreatDoorRefDivAny
import Derived.Test.YtogpephnkkofjaaGreatDoorShiftsKit
import Derived.Test.YtogpephnkkofjaaGreatDoorBArg
namespace Go.Proofs.YtogpephnkkofjaaGreatDoor
open Go.RowKit
set_option linter.unusedVariables false

theorem barg_cut {w : World} {a : Option Addr} {len cap : Nat} (h : BArg w (.slice a len cap)) (p : Nat) (hp : p ≤ len) : BArg w (.slice a p cap) := by
  rcases h with h | ⟨b, c, h, hc⟩ | ⟨b, off, l, c, zs, h, h1, h2, h3, h4, h5, h6, hc⟩
  · simp only [Value.slice.injEq] at h
    obtain ⟨rfl, rfl, rfl⟩ := h
    exact .inl (by rw [show p = 0 by omega])
  · simp only [Value.slice.injEq] at h
    obtain ⟨rfl, rfl, rfl⟩ := h
    exact .inr (.inl ⟨b, cap, by rw [show p = 0 by omega], hc⟩)
  · simp only [Value.slice.injEq] at h
    obtain ⟨rfl, rfl, rfl⟩ := h
    by_cases h0 : p = 0
    · exact .inr (.inl ⟨_, _, by rw [h0], h5⟩)
    · exact .inr (.inr ⟨b, off, p, cap, zs, rfl, by omega, by omega, by omega, by omega, h5, h6, hc⟩)
theorem num_zero_len {w : World} {p : Option Addr} {l c : Nat} (h : IsNum w (.slice p l c) 0) : l = 0 := by
  obtain ⟨L, h1, h2, h3⟩ := h
  obtain ⟨p', c', e⟩ := h1.shape
  simp only [Value.slice.injEq] at e
  have := num_len (K := 0) h1 h2 (by rw [h3]; decide)
  omega
theorem num_some_len {w : World} {p : Option Addr} {l c : Nat} {n : Int} (h : IsNum w (.slice p l c) n) (hn : n ≠ 0) : ((l : Int) == 0) = false := by
  obtain ⟨L, h1, h2, h3⟩ := h
  obtain ⟨p', c', e⟩ := h1.shape
  simp only [Value.slice.injEq] at e
  have : L ≠ [] := by
    rintro rfl
    exact hn (by rw [← h3]; rfl)
  have : L.length ≠ 0 := fun e => this (List.eq_nil_of_length_eq_zero e)
  simp; omega

set_option maxRecDepth 100000 in
set_option maxHeartbeats 4000000 in
theorem natQuotients_walk (a : Value) (ba : Option Addr) (len cap : Nat) (n : Int) (w : World) (ha : BArg w a) (hb : BArg w (.slice ba len cap)) (hlc : len ≤ cap) (hcap : cap ≤ 140737488355328) (hna : ba = none → len = 0 ∧ cap = 0) (bn : -9223372036854775808 ≤ n ∧ n ≤ 9223372036854775807) :
    Calls Tryz.prog 3 #[a, .slice ba len cap, .int .i64 n] w fun e w' => e = .returned (.bool true) ∧ Below w.heap.size w w' := by
  have hl0 : (0 : Int) ≤ (len : Int) := by omega
  have hl1 : (len : Int) ≤ 140737488355328 := by omega
  go_enter Tryz.func3, Tryz.ntmps3
  go_wp2_with fail
  refine (pick_any n ((len : Int) + 1) bn.1 bn.2 (by omega) (by omega) w).mono ?_
  rintro e w3 ⟨⟨pn, hpn, rfl⟩, rfl⟩
  have hp1 : pn ≤ len := by omega
  have hp2 : pn ≤ cap := by omega
  have hp3 : (pn : Int) ≤ (cap : Int) := by omega
  have hb2 := barg_cut hb pn hp1
  clear hpn
  go_wp2_with fail
  refine (two_any a _ w ha hb2).mono ?_
  rintro e w1 ⟨x, y, s1, s2, X, Y, rfl, hx, hy, hr1, hr2, hb1⟩
  obtain ⟨X0, XB⟩ := ref_pw hr1
  obtain ⟨Y0, YB⟩ := ref_pw hr2
  have hp := hr1.num
  have hq := hr2.num
  obtain ⟨gp, gl, gc, rfl⟩ := hp.shape
  obtain ⟨kp, kl, kc, rfl⟩ := hq.shape
  clear hr1 hr2 ha hb hb2 hp1 hp2 hp3 hl0 hl1 hlc hcap hna bn
  obtain ⟨x1, xp, xl, xc, rfl⟩ := hx.shape
  obtain ⟨y1, yp, yl, yc, rfl⟩ := hy.shape
  have z0 := hb1.size
  have u0 : Var ((w1.alloc (.cells #[.int .u64 x1, .slice xp xl xc] 26)).alloc (.cells #[.int .u64 y1, .slice yp yl yc] 26)) w1.heap.size (.int .u64 x1) (.slice xp xl xc) := (Var.new w1 w1.heap.size _ _ _ _ rfl).alloc _
  have u1 : Var ((w1.alloc (.cells #[.int .u64 x1, .slice xp xl xc] 26)).alloc (.cells #[.int .u64 y1, .slice yp yl yc] 26)) (w1.heap.size + 1) (.int .u64 y1) (.slice yp yl yc) := Var.new (w1.alloc _) _ _ _ _ _ (by simp)
  have hB2 : Below w1.heap.size w1 ((w1.alloc (.cells #[.int .u64 x1, .slice xp xl xc] 26)).alloc (.cells #[.int .u64 y1, .slice yp yl yc] 26)) := by go_grown
  go_wp2_with fail
  generalize ((w1.alloc (.cells #[.int .u64 x1, .slice xp xl xc] 26)).alloc (.cells #[.int .u64 y1, .slice yp yl yc] 26)) = w2 at u0 u1 hB2 ⊢
  replace hx := hx.below hB2
  replace hy := hy.below hB2
  replace hp := hp.below hB2
  replace hq := hq.below hB2
  have hBw2 := hb1.trans (hB2.mono z0)
  have z2 := hBw2.size
  have XL : X < lpw 12 := by rw [lpw_two]; rw [pw_two] at XB; exact XB
  have YL : Y < lpw 12 := by rw [lpw_two]; rw [pw_two] at YB; exact YB
  clear hB2 hb1 u0 u1
  by_cases hY : Y = 0
  · subst hY
    have hone := hy.one (by decide)
    simp only [Value.agg.injEq, Array.mk.injEq, List.cons.injEq, Value.int.injEq, Value.slice.injEq, and_true, true_and] at hone
    obtain ⟨rfl, rfl, rfl, rfl⟩ := hone
    obtain rfl : kl = 0 := num_zero_len hq
    refine (div_zero _ X w2 hx).mono ?_
    rintro e w3 ⟨rfl, hb3⟩
    have hB4 : Below w3.heap.size w3 ((w3.alloc (.cells #[.int .u64 0, .slice none 0 0] 26)).alloc (.cells #[.int .u64 0, .slice none 0 0] 26)) := by go_grown
    have um : Var ((w3.alloc (.cells #[.int .u64 0, .slice none 0 0] 26)).alloc (.cells #[.int .u64 0, .slice none 0 0] 26)) w3.heap.size (.int .u64 0) (.slice none 0 0) := (Var.new w3 _ _ _ _ _ rfl).alloc _
    have ur : Var ((w3.alloc (.cells #[.int .u64 0, .slice none 0 0] 26)).alloc (.cells #[.int .u64 0, .slice none 0 0] 26)) (w3.heap.size + 1) (.int .u64 0) (.slice none 0 0) := Var.new (w3.alloc _) _ _ _ _ _ (by simp)
    have hBw4 : Below w.heap.size w _ := (hBw2.trans (hb3.mono z2)).trans (hB4.mono (Nat.le_trans z2 hb3.size))
    clear hb3
    go_wp2_with fail
    generalize ((w3.alloc (.cells #[.int .u64 0, .slice none 0 0] 26)).alloc (.cells #[.int .u64 0, .slice none 0 0] 26)) = w4 at *
    have lm := um.lt
    have lr := ur.lt
    have acc := Below.refl w4.heap.size w4
    go_wp2_with fail
    have q := known_true w4
    (with_reducible refine q.mono ?_); clear q
    rintro e r0 ⟨rfl, hb0⟩
    replace acc := below_acc acc acc.size hb0
    clear hb0
    have cm0 := (um.below acc lm).c0
    have cm1 := (um.below acc lm).c1
    have cr0 := (ur.below acc lr).c0
    have cr1 := (ur.below acc lr).c1
    go_wp2_with fail
    have q := bits_none0 r0
    (with_reducible refine q.mono ?_); clear q
    rintro e r1 ⟨rfl, hb1⟩
    replace acc := below_acc acc acc.size hb1
    clear hb1
    have cm0 := (um.below acc lm).c0
    have cm1 := (um.below acc lm).c1
    have cr0 := (ur.below acc lr).c0
    have cr1 := (ur.below acc lr).c1
    go_wp2_with fail
    have q := bits_none0 r1
    (with_reducible refine q.mono ?_); clear q
    rintro e r2 ⟨rfl, hb2⟩
    replace acc := below_acc acc acc.size hb2
    clear hb2
    have cm0 := (um.below acc lm).c0
    have cm1 := (um.below acc lm).c1
    have cr0 := (ur.below acc lr).c0
    have cr1 := (ur.below acc lr).c1
    go_wp2_with fail
    go_ret
    exact ⟨rfl, hBw4.trans (acc.mono hBw4.size)⟩
  · have hkl := num_some_len hq hY
    have hQ0 : 0 ≤ X / Y := Int.ediv_nonneg X0 Y0
    have hQX : X / Y ≤ X := Int.ediv_le_self _ X0
    have hR0 := Int.emod_nonneg X hY
    have hRY := Int.emod_lt_of_pos X (show 0 < Y by omega)
    refine (div_any 200 (Nat.le_refl _) _ _ X Y w2 hx hy (Int.lt_of_lt_of_le XB (pw_mono (by decide))) hY).mono ?_
    rintro e w3 ⟨q, r, rfl, hqn, hrn, hb3⟩
    obtain ⟨qa, qp, ql, qc, rfl⟩ := hqn.shape
    obtain ⟨ra, rp, rl, rc, rfl⟩ := hrn.shape
    have BQ : X / Y < pw 6 := by omega
    have BR : X % Y < pw 6 := by omega
    have nd := fun W (g : Below w2.heap.size w2 W) => natDiv_num 12 (by decide) _ _ X Y W (hp.below g) (hq.below g) hY XL YL
    obtain ⟨Q, hQ⟩ : ∃ Q, X / Y = Q := ⟨_, rfl⟩
    obtain ⟨Rm, hRm⟩ : ∃ Rm, X % Y = Rm := ⟨_, rfl⟩
    rw [hQ] at BQ hqn nd
    rw [hRm] at BR hrn nd
    have Nd := Lib.hid nd
    have HBQ := Lib.hid BQ
    have HBR := Lib.hid BR
    clear hQ0 hQX hR0 hRY nd hQ hRm BQ BR XB YB XL YL
    have hB4 : Below w3.heap.size w3 ((w3.alloc (.cells #[.int .u64 qa, .slice qp ql qc] 26)).alloc (.cells #[.int .u64 ra, .slice rp rl rc] 26)) := by go_grown
    have um : Var ((w3.alloc (.cells #[.int .u64 qa, .slice qp ql qc] 26)).alloc (.cells #[.int .u64 ra, .slice rp rl rc] 26)) w3.heap.size (.int .u64 qa) (.slice qp ql qc) := (Var.new w3 _ _ _ _ _ rfl).alloc _
    have ur : Var ((w3.alloc (.cells #[.int .u64 qa, .slice qp ql qc] 26)).alloc (.cells #[.int .u64 ra, .slice rp rl rc] 26)) (w3.heap.size + 1) (.int .u64 ra) (.slice rp rl rc) := Var.new (w3.alloc _) _ _ _ _ _ (by simp)
    have B24 : Below w2.heap.size w2 _ := hb3.trans (hB4.mono hb3.size)
    have hBw4 := hBw2.trans (B24.mono z2)
    replace hqn := hqn.below hB4
    replace hrn := hrn.below hB4
    clear hb3 hB4 hx hy hp hq
    go_wp2_with fail
    generalize ((w3.alloc (.cells #[.int .u64 qa, .slice qp ql qc] 26)).alloc (.cells #[.int .u64 ra, .slice rp rl rc] 26)) = w4 at *
    have lm := um.lt
    have lr := ur.lt
    refine ((Nd.out) w4 B24).mono ?_
    rintro e w5 ⟨sq, sr, rfl, hsq, hsr, hb5⟩
    obtain ⟨pq, kq, cq, rfl⟩ := hsq.shape
    obtain ⟨pr, kr, cr, rfl⟩ := hsr.shape
    replace hqn := hqn.below hb5
    replace hrn := hrn.below hb5
    replace um := um.below hb5 lm
    replace ur := ur.below hb5 lr
    replace hBw4 := hBw4.trans (hb5.mono hBw4.size)
    clear lm lr hb5 B24
    have lm := um.lt
    have lr := ur.lt
    have acc := Below.refl w5.heap.size w5
    go_wp2_with fail
    have q := known_true w5
    (with_reducible refine q.mono ?_); clear q
    rintro e r0 ⟨rfl, hb0⟩
    replace acc := below_acc acc acc.size hb0
    clear hb0
    have cm0 := (um.below acc lm).c0
    have cm1 := (um.below acc lm).c1
    have cr0 := (ur.below acc lr).c0
    have cr1 := (ur.below acc lr).c1
    go_wp2_with fail
    have q := is_num 6 (by decide) _ _ Q HBQ.out r0 (hqn.below acc) (hsq.below acc)
    (with_reducible refine q.mono ?_); clear q
    rintro e r1 ⟨rfl, hb1⟩
    replace acc := below_acc acc acc.size hb1
    clear hb1
    have cm0 := (um.below acc lm).c0
    have cm1 := (um.below acc lm).c1
    have cr0 := (ur.below acc lr).c0
    have cr1 := (ur.below acc lr).c1
    go_wp2_with fail
    have q := is_num 6 (by decide) _ _ Rm HBR.out r1 (hrn.below acc) (hsr.below acc)
    (with_reducible refine q.mono ?_); clear q
    rintro e r2 ⟨rfl, hb2⟩
    replace acc := below_acc acc acc.size hb2
    clear hb2
    have cm0 := (um.below acc lm).c0
    have cm1 := (um.below acc lm).c1
    have cr0 := (ur.below acc lr).c0
    have cr1 := (ur.below acc lr).c1
    go_wp2_with fail
    go_ret
    exact ⟨rfl, hBw4.trans (acc.mono hBw4.size)⟩
end Go.Proofs.YtogpephnkkofjaaGreatDoor
