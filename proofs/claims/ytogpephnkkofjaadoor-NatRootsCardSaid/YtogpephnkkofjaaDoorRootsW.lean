/- NatRoots, walked. -/
import Derived.Test.YtogpephnkkofjaaDoorRootAny
import Derived.Test.YtogpephnkkofjaaDoorKnown
import Derived.Test.YtogpephnkkofjaaDoorBack
import Derived.Deep.RegionHeld3
namespace Go.Proofs.YtogpephnkkofjaaDoor
open Go.RowKit
set_option linter.unusedVariables false

theorem cmp_upto (v1 v2 : Value) (n m : Int) (w : World) (h1 : IsNat w v1 n) (h2 : IsNat w v2 m) (hle : n ≤ m) :
    Calls Tryd.prog 15 #[v1, v2] w fun e w' => (∃ d : Int, e = .returned (.int .i64 d) ∧ decide (d ≤ 0) = true) ∧ Below w.heap.size w w' := by
  refine (cmp_any v1 v2 n m w h1 h2).mono ?_
  rintro e w' ⟨rfl, hb⟩
  refine ⟨⟨_, rfl, ?_⟩, hb⟩
  unfold cmpI
  split
  · rfl
  · rw [if_neg (by omega)]; rfl
theorem cmp_over (v1 v2 : Value) (n m : Int) (w : World) (h1 : IsNat w v1 n) (h2 : IsNat w v2 m) (hlt : m < n) :
    Calls Tryd.prog 15 #[v1, v2] w fun e w' => e = .returned (.int .i64 1) ∧ Below w.heap.size w w' := by
  have := cmp_any v1 v2 n m w h1 h2
  unfold cmpI at this
  rw [if_neg (by omega), if_pos hlt] at this
  exact this
theorem shift_7 (v : Value) (n : Int) (w : World) (h : IsNat w v n) (hn : n < pw 20) : Calls Tryd.prog 17 #[v, .int .i64 7] w (RetNat (n * 2 ^ 7) w) := shift_pos 20 (by decide) (by decide) v n 7 (by decide) w h hn
theorem shift_1 (v : Value) (n : Int) (w : World) (h : IsNat w v n) (hn : n < pw 20) : Calls Tryd.prog 17 #[v, .int .i64 1] w (RetNat (n * 2 ^ 1) w) := shift_pos 20 (by decide) (by decide) v n 1 (by decide) w h hn
theorem shift_b7 (v : Value) (n m : Int) (w : World) (h : IsNat w v m) (hm : m = n * 2 ^ 7) (hn : m < pw 20) : Calls Tryd.prog 17 #[v, .int .i64 (-7)] w (RetNat n w) := by
  have := shift_neg 20 (by decide) v m 7 (by decide) (by decide) w h hn
  rw [hm, Int.mul_ediv_cancel _ (by decide)] at this
  exact this
theorem root_square (v : Value) (n m : Int) (w : World) (h0 : 0 ≤ n) (h : IsNat w v m) (hm : m = n * n) (hn : m < pw 20) : Calls Tryd.prog 13 #[v] w (RetNat n w) := by
  refine (root_any 20 (by decide) (by decide) v m w h hn).mono ?_
  rintro e w' ⟨r, hr, hp⟩
  rw [hm] at hr
  rw [← (hr.uniq (IsRoot.square h0))]
  exact hp

set_option maxRecDepth 100000 in
set_option maxHeartbeats 4000000 in
theorem natRoots_walk (a : Value) (w : World) (ha : BArg w a) :
    Calls Tryd.prog 4 #[a] w fun e w' => e = .returned (.bool true) ∧ Below w.heap.size w w' := by
  go_enter Tryd.func4, Tryd.ntmps4
  go_wp2_with fail
  refine (two_any a (.slice none 0 0) w ha (.inl rfl)).mono ?_
  rintro e w1 ⟨x, o, s1, s2, X, O, rfl, hx, ho, hr1, hr2, hb1⟩
  obtain ⟨X0, XB⟩ := ref_pw hr1
  clear hr1 hr2 ha
  obtain ⟨x1, xp, xl, xc, rfl⟩ := hx.shape
  obtain ⟨o1, op, ol, oc, rfl⟩ := ho.shape
  have z0 := hb1.size
  have u0 : Var ((w1.alloc (.cells #[.int .u64 x1, .slice xp xl xc] 25)).alloc (.cells #[.int .u64 o1, .slice op ol oc] 25)) w1.heap.size (.int .u64 x1) (.slice xp xl xc) := (Var.new w1 w1.heap.size _ _ _ _ rfl).alloc _
  have hB2 : Below w1.heap.size w1 ((w1.alloc (.cells #[.int .u64 x1, .slice xp xl xc] 25)).alloc (.cells #[.int .u64 o1, .slice op ol oc] 25)) := by go_grown
  go_wp2_with fail
  generalize ((w1.alloc (.cells #[.int .u64 x1, .slice xp xl xc] 25)).alloc (.cells #[.int .u64 o1, .slice op ol oc] 25)) = w2 at u0 hB2 ⊢
  replace hx := hx.below hB2
  have hBw2 := hb1.trans (hB2.mono z0)
  have z2 := hBw2.size
  clear ho hB2 hb1
  have BX := pw_up XB (by decide)
  refine (root_any 6 (by decide) (by decide) _ X w2 hx XB).mono ?_
  rintro e w3 ⟨Rt, hR, r, rfl, hr, hb3⟩
  have hRX := hR.le
  obtain ⟨R0, RS, RN⟩ := hR
  have BR : Rt < pw 6 := by omega
  have BR20 := pw_up BR (by decide)
  have BN : Rt + 1 < pw 7 := by have := pw_sum BR (show (1 : Int) < pw 6 by decide); omega
  have BN20 := pw_up BN (by decide)
  have BRR : Rt * Rt < pw 20 := by omega
  have BNN : (Rt + 1) * (Rt + 1) < pw 20 := pw_up (pw_prod (by omega) BN (by omega) BN) (by decide)
  have BXX : X * X < pw 20 := pw_up (pw_prod X0 XB X0 XB) (by decide)
  have BX7 : X * 2 ^ 7 < pw 20 := pw_up (pw_prod X0 XB (by decide) (show (2 : Int) ^ 7 < pw 6 by decide)) (by decide)
  have E1 : X * 2 ^ 1 = X + X := by omega
  obtain ⟨ra, rp, rl, rc, rfl⟩ := hr.shape
  have hB4 : Below w3.heap.size w3 (w3.alloc (.cells #[.int .u64 ra, .slice rp rl rc] 25)) := by go_grown
  have ur : Var (w3.alloc (.cells #[.int .u64 ra, .slice rp rl rc] 25)) w3.heap.size (.int .u64 ra) (.slice rp rl rc) := Var.new w3 _ _ _ _ _ rfl
  replace hx := (hx.below hb3).below hB4
  replace hr := hr.below hB4
  replace u0 := u0.below hb3 u0.lt
  replace u0 := u0.below hB4 u0.lt
  have hBw4 : Below w.heap.size w _ := (hBw2.trans (hb3.mono z2)).trans (hB4.mono (Nat.le_trans z2 hb3.size))
  have l0 := u0.lt
  have lr := ur.lt
  clear hb3
  go_wp2_with fail
  generalize (w3.alloc (.cells #[.int .u64 ra, .slice rp rl rc] 25)) = w4 at *
  refine wpIn_wide (n := 5) |>.1 ?_
  refine region_ways (by kernel_rfl) fun R hR => ?_
  have H11111 : ∀ (W : World) (acc : Below w4.heap.size w4 W) (na : Int) (np : Option Addr) (nl nc : Nat) (hn : IsNat W (.agg #[.int .u64 na, .slice np nl nc]) (Rt + 1)) (c : Nat) (hc : Var W c (.int .u64 na) (.slice np nl nc)) (hcn : w4.heap.size ≤ c), R 0 #[true, true, true, true, true] { tmps := #[a, undef, .bool false, .pointer (some ⟨w1.heap.size, 0, none⟩), .pointer (some ⟨w1.heap.size + 1, 0, none⟩), s1, s2, .pointer (some ⟨w3.heap.size, 0, none⟩), .pointer (some ⟨c, 0, none⟩), .tuple #[.agg #[.int .u64 x1, .slice xp xl xc], .agg #[.int .u64 o1, .slice op ol oc], s1, s2], a, .tuple #[.agg #[.int .u64 x1, .slice xp xl xc], .agg #[.int .u64 o1, .slice op ol oc], s1, s2], .agg #[.int .u64 x1, .slice xp xl xc], .agg #[.int .u64 o1, .slice op ol oc], s1, s2, .agg #[.int .u64 x1, .slice xp xl xc], .agg #[.int .u64 ra, .slice rp rl rc], .agg #[.int .u64 ra, .slice rp rl rc], .agg #[.int .u64 1, .slice none 0 0], .agg #[.int .u64 na, .slice np nl nc], undef, undef, undef, undef, undef, undef, undef, undef, undef, undef, undef, undef, undef, undef, undef, undef, undef, undef, undef, undef, undef, undef, undef, undef, undef, undef, undef, undef, undef, undef, undef, undef, undef, undef, undef, undef, undef, undef, undef, undef, undef, undef, undef], defers := [] } W := by
    intro W acc na np nl nc hn c hc hcn
    rw [← hR]
    refine wpAnyIn_done (by kernel_rfl) ?_ _
    have hBwW := hBw4.trans (acc.mono hBw4.size)
    replace hx := hx.below acc
    replace hr := hr.below acc
    have u0W := u0.below acc l0
    have urW := ur.below acc lr
    have l0W := u0W.lt
    have lrW := urW.lt
    have lcW := hc.lt
    clear acc
    have acc := Below.refl W.heap.size W
    have c00 := u0W.c0
    have c01 := u0W.c1
    have cr0 := urW.c0
    have cr1 := urW.c1
    have cn0 := hc.c0
    have cn1 := hc.c1
    go_wp2_with fail
    go_region_held3 (fun w' => w'.cell? ⟨w1.heap.size, 0, none⟩ = some (.int .u64 x1) ∧ w'.cell? ⟨w1.heap.size, 1, none⟩ = some (.slice xp xl xc) ∧ w'.cell? ⟨w3.heap.size, 0, none⟩ = some (.int .u64 ra) ∧ w'.cell? ⟨w3.heap.size, 1, none⟩ = some (.slice rp rl rc) ∧ w'.cell? ⟨c, 0, none⟩ = some (.int .u64 na) ∧ w'.cell? ⟨c, 1, none⟩ = some (.slice np nl nc))
          (first | with_reducible exact ⟨(u0W.below acc l0W).c0, (u0W.below acc l0W).c1, (urW.below acc lrW).c0, (urW.below acc lrW).c1, (hc.below acc lcW).c0, (hc.below acc lcW).c1⟩ | with_reducible exact ⟨(u0W.below acc l0W).drew.c0, (u0W.below acc l0W).drew.c1, (urW.below acc lrW).drew.c0, (urW.below acc lrW).drew.c1, (hc.below acc lcW).drew.c0, (hc.below acc lcW).drew.c1⟩)
          (first
            | (go_at_call 11; (first | (have q := known_true W; (with_reducible refine q.mono ?_); clear q) | (have q := known_true W.drew; (with_reducible refine q.mono ?_); clear q)); rintro e r0 ⟨rfl, hb0⟩; (first | replace hb0 : Below W.heap.size W r0 := hb0 | replace hb0 := below_undrew (w := W) hb0); replace acc := below_acc acc acc.size hb0; clear hb0; have c00 := (u0W.below acc l0W).c0; have c01 := (u0W.below acc l0W).c1; have cr0 := (urW.below acc lrW).c0; have cr1 := (urW.below acc lrW).c1; have cn0 := (hc.below acc lcW).c0; have cn1 := (hc.below acc lcW).c1)
            | (go_at_call 20; (first | (have q := mul_any 20 (by decide) (by decide) _ _ Rt Rt r0 (hr.below acc) (hr.below acc) BR20 BR20; (with_reducible refine q.mono ?_); clear q) | (have q := mul_any 20 (by decide) (by decide) _ _ Rt Rt r0.drew (hr.below acc.drew) (hr.below acc.drew) BR20 BR20; (with_reducible refine q.mono ?_); clear q)); rintro e r1 ⟨vs1, rfl, hs1, hb1⟩; obtain ⟨as1, ps1, ms1, qs1, rfl⟩ := hs1.shape; (first | replace hb1 : Below r0.heap.size r0 r1 := hb1 | replace hb1 := below_undrew (w := r0) hb1); replace acc := below_acc acc acc.size hb1; clear hb1; have c00 := (u0W.below acc l0W).c0; have c01 := (u0W.below acc l0W).c1; have cr0 := (urW.below acc lrW).c0; have cr1 := (urW.below acc lrW).c1; have cn0 := (hc.below acc lcW).c0; have cn1 := (hc.below acc lcW).c1)
            | (go_at_call 15; (first | (have q := cmp_upto _ _ (Rt * Rt) X r1 hs1 (hx.below acc) RS; (with_reducible refine q.mono ?_); clear q) | (have q := cmp_upto _ _ (Rt * Rt) X r1.drew (hs1.drew) (hx.below acc.drew) RS; (with_reducible refine q.mono ?_); clear q)); rintro e r2 ⟨⟨d1, rfl, hd1⟩, hb2⟩; (first | replace hb2 : Below r1.heap.size r1 r2 := hb2 | replace hb2 := below_undrew (w := r1) hb2); replace acc := below_acc acc acc.size hb2; clear hb2 hs1; have c00 := (u0W.below acc l0W).c0; have c01 := (u0W.below acc l0W).c1; have cr0 := (urW.below acc lrW).c0; have cr1 := (urW.below acc lrW).c1; have cn0 := (hc.below acc lcW).c0; have cn1 := (hc.below acc lcW).c1)
            | (go_at_call 20; (first | (have q := mul_any 20 (by decide) (by decide) _ _ (Rt + 1) (Rt + 1) r2 (hn.below acc) (hn.below acc) BN20 BN20; (with_reducible refine q.mono ?_); clear q) | (have q := mul_any 20 (by decide) (by decide) _ _ (Rt + 1) (Rt + 1) r2.drew (hn.below acc.drew) (hn.below acc.drew) BN20 BN20; (with_reducible refine q.mono ?_); clear q)); rintro e r3 ⟨vs2, rfl, hs2, hb3⟩; obtain ⟨as2, ps2, ms2, qs2, rfl⟩ := hs2.shape; (first | replace hb3 : Below r2.heap.size r2 r3 := hb3 | replace hb3 := below_undrew (w := r2) hb3); replace acc := below_acc acc acc.size hb3; clear hb3; have c00 := (u0W.below acc l0W).c0; have c01 := (u0W.below acc l0W).c1; have cr0 := (urW.below acc lrW).c0; have cr1 := (urW.below acc lrW).c1; have cn0 := (hc.below acc lcW).c0; have cn1 := (hc.below acc lcW).c1)
            | (go_at_call 15; (first | (have q := cmp_over _ _ ((Rt + 1) * (Rt + 1)) X r3 hs2 (hx.below acc) RN; (with_reducible refine q.mono ?_); clear q) | (have q := cmp_over _ _ ((Rt + 1) * (Rt + 1)) X r3.drew (hs2.drew) (hx.below acc.drew) RN; (with_reducible refine q.mono ?_); clear q)); rintro e r4 ⟨rfl, hb4⟩; (first | replace hb4 : Below r3.heap.size r3 r4 := hb4 | replace hb4 := below_undrew (w := r3) hb4); replace acc := below_acc acc acc.size hb4; clear hb4 hs2; have c00 := (u0W.below acc l0W).c0; have c01 := (u0W.below acc l0W).c1; have cr0 := (urW.below acc lrW).c0; have cr1 := (urW.below acc lrW).c1; have cn0 := (hc.below acc lcW).c0; have cn1 := (hc.below acc lcW).c1)
            | (go_at_call 20; (first | (have q := mul_any 20 (by decide) (by decide) _ _ X X r4 (hx.below acc) (hx.below acc) BX BX; (with_reducible refine q.mono ?_); clear q) | (have q := mul_any 20 (by decide) (by decide) _ _ X X r4.drew (hx.below acc.drew) (hx.below acc.drew) BX BX; (with_reducible refine q.mono ?_); clear q)); rintro e r5 ⟨vs3, rfl, hs3, hb5⟩; obtain ⟨as3, ps3, ms3, qs3, rfl⟩ := hs3.shape; (first | replace hb5 : Below r4.heap.size r4 r5 := hb5 | replace hb5 := below_undrew (w := r4) hb5); replace acc := below_acc acc acc.size hb5; clear hb5; have c00 := (u0W.below acc l0W).c0; have c01 := (u0W.below acc l0W).c1; have cr0 := (urW.below acc lrW).c0; have cr1 := (urW.below acc lrW).c1; have cn0 := (hc.below acc lcW).c0; have cn1 := (hc.below acc lcW).c1)
            | (go_at_call 13; (first | (have q := root_square _ X (X * X) r5 X0 hs3 rfl BXX; (with_reducible refine q.mono ?_); clear q) | (have q := root_square _ X (X * X) r5.drew X0 (hs3.drew) rfl BXX; (with_reducible refine q.mono ?_); clear q)); rintro e r6 ⟨vs4, rfl, hs4, hb6⟩; obtain ⟨as4, ps4, ms4, qs4, rfl⟩ := hs4.shape; (first | replace hb6 : Below r5.heap.size r5 r6 := hb6 | replace hb6 := below_undrew (w := r5) hb6); replace acc := below_acc acc acc.size hb6; clear hb6 hs3; have c00 := (u0W.below acc l0W).c0; have c01 := (u0W.below acc l0W).c1; have cr0 := (urW.below acc lrW).c0; have cr1 := (urW.below acc lrW).c1; have cn0 := (hc.below acc lcW).c0; have cn1 := (hc.below acc lcW).c1)
            | (go_at_call 15; (first | (have q := cmp_alike _ _ X X r6 hs4 (hx.below acc) rfl; (with_reducible refine q.mono ?_); clear q) | (have q := cmp_alike _ _ X X r6.drew (hs4.drew) (hx.below acc.drew) rfl; (with_reducible refine q.mono ?_); clear q)); rintro e r7 ⟨rfl, hb7⟩; (first | replace hb7 : Below r6.heap.size r6 r7 := hb7 | replace hb7 := below_undrew (w := r6) hb7); replace acc := below_acc acc acc.size hb7; clear hb7 hs4; have c00 := (u0W.below acc l0W).c0; have c01 := (u0W.below acc l0W).c1; have cr0 := (urW.below acc lrW).c0; have cr1 := (urW.below acc lrW).c1; have cn0 := (hc.below acc lcW).c0; have cn1 := (hc.below acc lcW).c1)
            | (go_at_call 17; (first | (have q := shift_7 _ X r7 (hx.below acc) BX; (with_reducible refine q.mono ?_); clear q) | (have q := shift_7 _ X r7.drew (hx.below acc.drew) BX; (with_reducible refine q.mono ?_); clear q)); rintro e r8 ⟨vs5, rfl, hs5, hb8⟩; obtain ⟨as5, ps5, ms5, qs5, rfl⟩ := hs5.shape; (first | replace hb8 : Below r7.heap.size r7 r8 := hb8 | replace hb8 := below_undrew (w := r7) hb8); replace acc := below_acc acc acc.size hb8; clear hb8; have c00 := (u0W.below acc l0W).c0; have c01 := (u0W.below acc l0W).c1; have cr0 := (urW.below acc lrW).c0; have cr1 := (urW.below acc lrW).c1; have cn0 := (hc.below acc lcW).c0; have cn1 := (hc.below acc lcW).c1)
            | (go_at_call 17; (first | (have q := shift_b7 _ X (X * 2 ^ 7) r8 hs5 rfl BX7; (with_reducible refine q.mono ?_); clear q) | (have q := shift_b7 _ X (X * 2 ^ 7) r8.drew (hs5.drew) rfl BX7; (with_reducible refine q.mono ?_); clear q)); rintro e r9 ⟨vs6, rfl, hs6, hb9⟩; obtain ⟨as6, ps6, ms6, qs6, rfl⟩ := hs6.shape; (first | replace hb9 : Below r8.heap.size r8 r9 := hb9 | replace hb9 := below_undrew (w := r8) hb9); replace acc := below_acc acc acc.size hb9; clear hb9 hs5; have c00 := (u0W.below acc l0W).c0; have c01 := (u0W.below acc l0W).c1; have cr0 := (urW.below acc lrW).c0; have cr1 := (urW.below acc lrW).c1; have cn0 := (hc.below acc lcW).c0; have cn1 := (hc.below acc lcW).c1)
            | (go_at_call 15; (first | (have q := cmp_alike _ _ X X r9 hs6 (hx.below acc) rfl; (with_reducible refine q.mono ?_); clear q) | (have q := cmp_alike _ _ X X r9.drew (hs6.drew) (hx.below acc.drew) rfl; (with_reducible refine q.mono ?_); clear q)); rintro e r10 ⟨rfl, hb10⟩; (first | replace hb10 : Below r9.heap.size r9 r10 := hb10 | replace hb10 := below_undrew (w := r9) hb10); replace acc := below_acc acc acc.size hb10; clear hb10 hs6; have c00 := (u0W.below acc l0W).c0; have c01 := (u0W.below acc l0W).c1; have cr0 := (urW.below acc lrW).c0; have cr1 := (urW.below acc lrW).c1; have cn0 := (hc.below acc lcW).c0; have cn1 := (hc.below acc lcW).c1)
            | (go_at_call 17; (first | (have q := shift_1 _ X r10 (hx.below acc) BX; (with_reducible refine q.mono ?_); clear q) | (have q := shift_1 _ X r10.drew (hx.below acc.drew) BX; (with_reducible refine q.mono ?_); clear q)); rintro e r11 ⟨vs7, rfl, hs7, hb11⟩; obtain ⟨as7, ps7, ms7, qs7, rfl⟩ := hs7.shape; (first | replace hb11 : Below r10.heap.size r10 r11 := hb11 | replace hb11 := below_undrew (w := r10) hb11); replace acc := below_acc acc acc.size hb11; clear hb11; have c00 := (u0W.below acc l0W).c0; have c01 := (u0W.below acc l0W).c1; have cr0 := (urW.below acc lrW).c0; have cr1 := (urW.below acc lrW).c1; have cn0 := (hc.below acc lcW).c0; have cn1 := (hc.below acc lcW).c1)
            | (go_at_call 19; (first | (have q := add_any 20 (by decide) _ _ X X r11 (hx.below acc) (hx.below acc) BX BX; (with_reducible refine q.mono ?_); clear q) | (have q := add_any 20 (by decide) _ _ X X r11.drew (hx.below acc.drew) (hx.below acc.drew) BX BX; (with_reducible refine q.mono ?_); clear q)); rintro e r12 ⟨vs8, rfl, hs8, hb12⟩; obtain ⟨as8, ps8, ms8, qs8, rfl⟩ := hs8.shape; (first | replace hb12 : Below r11.heap.size r11 r12 := hb12 | replace hb12 := below_undrew (w := r11) hb12); replace acc := below_acc acc acc.size hb12; replace hs7 := hs7.below hb12; clear hb12; have c00 := (u0W.below acc l0W).c0; have c01 := (u0W.below acc l0W).c1; have cr0 := (urW.below acc lrW).c0; have cr1 := (urW.below acc lrW).c1; have cn0 := (hc.below acc lcW).c0; have cn1 := (hc.below acc lcW).c1)
            | (go_at_call 15; (first | (have q := cmp_alike _ _ (X * 2 ^ 1) (X + X) r12 hs7 hs8 E1; (with_reducible refine q.mono ?_); clear q) | (have q := cmp_alike _ _ (X * 2 ^ 1) (X + X) r12.drew (hs7.drew) (hs8.drew) E1; (with_reducible refine q.mono ?_); clear q)); rintro e r13 ⟨rfl, hb13⟩; (first | replace hb13 : Below r12.heap.size r12 r13 := hb13 | replace hb13 := below_undrew (w := r12) hb13); replace acc := below_acc acc acc.size hb13; clear hb13 hs7 hs8; have c00 := (u0W.below acc l0W).c0; have c01 := (u0W.below acc l0W).c1; have cr0 := (urW.below acc lrW).c0; have cr1 := (urW.below acc lrW).c1; have cn0 := (hc.below acc lcW).c0; have cn1 := (hc.below acc lcW).c1))
    all_goals
      go_wp2
      go_ret
      exact ⟨rfl, hBwW.trans (acc.mono hBwW.size)⟩
  have H11110 : ∀ (W : World) (acc : Below w4.heap.size w4 W) (na : Int) (np : Option Addr) (nl nc : Nat) (hn : IsNat W (.agg #[.int .u64 na, .slice np nl nc]) (Rt + 1)) (c : Nat) (hc : Var W c (.int .u64 0) (.slice none 0 0)) (hcn : w4.heap.size ≤ c), R 1 #[true, true, true, true, false] { tmps := #[a, undef, .bool false, .pointer (some ⟨w1.heap.size, 0, none⟩), .pointer (some ⟨w1.heap.size + 1, 0, none⟩), s1, s2, .pointer (some ⟨w3.heap.size, 0, none⟩), .pointer (some ⟨c, 0, none⟩), .tuple #[.agg #[.int .u64 x1, .slice xp xl xc], .agg #[.int .u64 o1, .slice op ol oc], s1, s2], a, .tuple #[.agg #[.int .u64 x1, .slice xp xl xc], .agg #[.int .u64 o1, .slice op ol oc], s1, s2], .agg #[.int .u64 x1, .slice xp xl xc], .agg #[.int .u64 o1, .slice op ol oc], s1, s2, .agg #[.int .u64 x1, .slice xp xl xc], .agg #[.int .u64 ra, .slice rp rl rc], .agg #[.int .u64 ra, .slice rp rl rc], .agg #[.int .u64 1, .slice none 0 0], .agg #[.int .u64 na, .slice np nl nc], undef, undef, undef, undef, undef, undef, undef, undef, undef, undef, undef, undef, undef, undef, undef, undef, undef, undef, undef, undef, undef, undef, undef, undef, undef, undef, undef, undef, undef, undef, undef, undef, undef, undef, undef, undef, undef, undef, undef, undef, undef, undef, undef], defers := [] } W := by
    intro W acc na np nl nc hn c hc hcn
    rw [← hR]
    have cr0 := (ur.below acc lr).c0
    have cr1 := (ur.below acc lr).c1
    have kc0 := hc.c0
    have kc1 := hc.c1
    have fc0 := hc.free 0
    have fc1 := hc.free 1
    refine wpAnyIn_ready (rs := [4]) (by kernel_rfl) (by simp) ?_
    refine AllReadyIn.cons rfl (fun K hK => ?_) ?_
    · go_simp
      refine hK _ _ ?_
      have h := H11111 ((W.setCell ⟨c, 0, none⟩ (.int .u64 na)).setCell ⟨c, 1, none⟩ (.slice np nl nc)) (below_two acc hcn _ _) na np nl nc (hn.two hc _ _) c (hc.set (.int .u64 na) np nl nc) hcn
      rw [← hR] at h
      exact h
    exact AllReadyIn.nil
  have H11100 : ∀ (W : World) (acc : Below w4.heap.size w4 W) (na : Int) (np : Option Addr) (nl nc : Nat) (hn : IsNat W (.agg #[.int .u64 na, .slice np nl nc]) (Rt + 1)), R 2 #[true, true, true, false, false] { tmps := #[a, undef, .bool false, .pointer (some ⟨w1.heap.size, 0, none⟩), .pointer (some ⟨w1.heap.size + 1, 0, none⟩), s1, s2, .pointer (some ⟨w3.heap.size, 0, none⟩), undef, .tuple #[.agg #[.int .u64 x1, .slice xp xl xc], .agg #[.int .u64 o1, .slice op ol oc], s1, s2], a, .tuple #[.agg #[.int .u64 x1, .slice xp xl xc], .agg #[.int .u64 o1, .slice op ol oc], s1, s2], .agg #[.int .u64 x1, .slice xp xl xc], .agg #[.int .u64 o1, .slice op ol oc], s1, s2, .agg #[.int .u64 x1, .slice xp xl xc], .agg #[.int .u64 ra, .slice rp rl rc], .agg #[.int .u64 ra, .slice rp rl rc], .agg #[.int .u64 1, .slice none 0 0], .agg #[.int .u64 na, .slice np nl nc], undef, undef, undef, undef, undef, undef, undef, undef, undef, undef, undef, undef, undef, undef, undef, undef, undef, undef, undef, undef, undef, undef, undef, undef, undef, undef, undef, undef, undef, undef, undef, undef, undef, undef, undef, undef, undef, undef, undef, undef, undef, undef, undef], defers := [] } W := by
    intro W acc na np nl nc hn
    rw [← hR]
    have cr0 := (ur.below acc lr).c0
    have cr1 := (ur.below acc lr).c1
    refine wpAnyIn_ready (rs := [3]) (by kernel_rfl) (by simp) ?_
    refine AllReadyIn.cons rfl (fun K hK => ?_) ?_
    · go_simp
      refine hK _ _ ?_
      have h := H11110 (W.alloc (.cells #[.int .u64 0, .slice none 0 0] 25)) (acc.alloc acc.size _) na np nl nc (hn.below ((Below.refl _ W).alloc (Nat.le_refl _) _)) W.heap.size (Var.new W W.heap.size _ _ _ _ rfl) acc.size
      rw [← hR] at h
      exact h
    exact AllReadyIn.nil
  have H11010 : ∀ (W : World) (acc : Below w4.heap.size w4 W) (c : Nat) (hc : Var W c (.int .u64 0) (.slice none 0 0)) (hcn : w4.heap.size ≤ c), R 2 #[true, true, false, true, false] { tmps := #[a, undef, .bool false, .pointer (some ⟨w1.heap.size, 0, none⟩), .pointer (some ⟨w1.heap.size + 1, 0, none⟩), s1, s2, .pointer (some ⟨w3.heap.size, 0, none⟩), .pointer (some ⟨c, 0, none⟩), .tuple #[.agg #[.int .u64 x1, .slice xp xl xc], .agg #[.int .u64 o1, .slice op ol oc], s1, s2], a, .tuple #[.agg #[.int .u64 x1, .slice xp xl xc], .agg #[.int .u64 o1, .slice op ol oc], s1, s2], .agg #[.int .u64 x1, .slice xp xl xc], .agg #[.int .u64 o1, .slice op ol oc], s1, s2, .agg #[.int .u64 x1, .slice xp xl xc], .agg #[.int .u64 ra, .slice rp rl rc], .agg #[.int .u64 ra, .slice rp rl rc], .agg #[.int .u64 1, .slice none 0 0], undef, undef, undef, undef, undef, undef, undef, undef, undef, undef, undef, undef, undef, undef, undef, undef, undef, undef, undef, undef, undef, undef, undef, undef, undef, undef, undef, undef, undef, undef, undef, undef, undef, undef, undef, undef, undef, undef, undef, undef, undef, undef, undef, undef], defers := [] } W := by
    intro W acc c hc hcn
    rw [← hR]
    have cr0 := (ur.below acc lr).c0
    have cr1 := (ur.below acc lr).c1
    have kc0 := hc.c0
    have kc1 := hc.c1
    have fc0 := hc.free 0
    have fc1 := hc.free 1
    refine wpAnyIn_ready (rs := [2]) (by kernel_rfl) (by simp) ?_
    refine AllReadyIn.cons rfl (fun K hK => ?_) ?_
    · go_simp
      gi_wp2_with (refine ⟨trivial, ?_⟩; gi_at_call 19; refine (callsIn_wide.2 (add_any 20 (by decide) _ _ Rt 1 W (hr.below acc) (IsNat.word ⟨by decide, by decide⟩) BR20 (by decide))).mono ?_; rintro e W2 ⟨v, rfl, hn, hb⟩; obtain ⟨na, np, nl, nc, rfl⟩ := hn.shape)
      have h := H11110 W2 (below_acc acc acc.size hb) na np nl nc hn c (hc.below hb hc.lt) hcn
      rw [← hR] at h
      exact h
    exact AllReadyIn.nil
  have H11000 : ∀ (W : World) (acc : Below w4.heap.size w4 W), R 3 #[true, true, false, false, false] { tmps := #[a, undef, .bool false, .pointer (some ⟨w1.heap.size, 0, none⟩), .pointer (some ⟨w1.heap.size + 1, 0, none⟩), s1, s2, .pointer (some ⟨w3.heap.size, 0, none⟩), undef, .tuple #[.agg #[.int .u64 x1, .slice xp xl xc], .agg #[.int .u64 o1, .slice op ol oc], s1, s2], a, .tuple #[.agg #[.int .u64 x1, .slice xp xl xc], .agg #[.int .u64 o1, .slice op ol oc], s1, s2], .agg #[.int .u64 x1, .slice xp xl xc], .agg #[.int .u64 o1, .slice op ol oc], s1, s2, .agg #[.int .u64 x1, .slice xp xl xc], .agg #[.int .u64 ra, .slice rp rl rc], .agg #[.int .u64 ra, .slice rp rl rc], .agg #[.int .u64 1, .slice none 0 0], undef, undef, undef, undef, undef, undef, undef, undef, undef, undef, undef, undef, undef, undef, undef, undef, undef, undef, undef, undef, undef, undef, undef, undef, undef, undef, undef, undef, undef, undef, undef, undef, undef, undef, undef, undef, undef, undef, undef, undef, undef, undef, undef, undef], defers := [] } W := by
    intro W acc
    rw [← hR]
    have cr0 := (ur.below acc lr).c0
    have cr1 := (ur.below acc lr).c1
    refine wpAnyIn_ready (rs := [2, 3]) (by kernel_rfl) (by simp) ?_
    refine AllReadyIn.cons rfl (fun K hK => ?_) ?_
    · go_simp
      gi_wp2_with (refine ⟨trivial, ?_⟩; gi_at_call 19; refine (callsIn_wide.2 (add_any 20 (by decide) _ _ Rt 1 W (hr.below acc) (IsNat.word ⟨by decide, by decide⟩) BR20 (by decide))).mono ?_; rintro e W2 ⟨v, rfl, hn, hb⟩; obtain ⟨na, np, nl, nc, rfl⟩ := hn.shape)
      have h := H11100 W2 (below_acc acc acc.size hb) na np nl nc hn
      rw [← hR] at h
      exact h
    refine AllReadyIn.cons rfl (fun K hK => ?_) ?_
    · go_simp
      refine hK _ _ ?_
      have h := H11010 (W.alloc (.cells #[.int .u64 0, .slice none 0 0] 25)) (acc.alloc acc.size _) W.heap.size (Var.new W W.heap.size _ _ _ _ rfl) acc.size
      rw [← hR] at h
      exact h
    exact AllReadyIn.nil
  have H10010 : ∀ (W : World) (acc : Below w4.heap.size w4 W) (c : Nat) (hc : Var W c (.int .u64 0) (.slice none 0 0)) (hcn : w4.heap.size ≤ c), R 3 #[true, false, false, true, false] { tmps := #[a, undef, .bool false, .pointer (some ⟨w1.heap.size, 0, none⟩), .pointer (some ⟨w1.heap.size + 1, 0, none⟩), s1, s2, .pointer (some ⟨w3.heap.size, 0, none⟩), .pointer (some ⟨c, 0, none⟩), .tuple #[.agg #[.int .u64 x1, .slice xp xl xc], .agg #[.int .u64 o1, .slice op ol oc], s1, s2], a, .tuple #[.agg #[.int .u64 x1, .slice xp xl xc], .agg #[.int .u64 o1, .slice op ol oc], s1, s2], .agg #[.int .u64 x1, .slice xp xl xc], .agg #[.int .u64 o1, .slice op ol oc], s1, s2, .agg #[.int .u64 x1, .slice xp xl xc], .agg #[.int .u64 ra, .slice rp rl rc], .agg #[.int .u64 ra, .slice rp rl rc], undef, undef, undef, undef, undef, undef, undef, undef, undef, undef, undef, undef, undef, undef, undef, undef, undef, undef, undef, undef, undef, undef, undef, undef, undef, undef, undef, undef, undef, undef, undef, undef, undef, undef, undef, undef, undef, undef, undef, undef, undef, undef, undef, undef, undef], defers := [] } W := by
    intro W acc c hc hcn
    rw [← hR]
    have cr0 := (ur.below acc lr).c0
    have cr1 := (ur.below acc lr).c1
    have kc0 := hc.c0
    have kc1 := hc.c1
    have fc0 := hc.free 0
    have fc1 := hc.free 1
    refine wpAnyIn_ready (rs := [1]) (by kernel_rfl) (by simp) ?_
    refine AllReadyIn.cons rfl (fun K hK => ?_) ?_
    · go_simp
      gi_wp2_with (refine ⟨trivial, ?_⟩; gi_at_call 6; refine (callsIn_wide.2 (of_any 1 W)).mono ?_; rintro e W2 ⟨rfl, hb⟩; skip)
      have h := H11010 W2 (below_acc acc acc.size hb) c (hc.below hb hc.lt) hcn
      rw [← hR] at h
      exact h
    exact AllReadyIn.nil
  have H10000 : ∀ (W : World) (acc : Below w4.heap.size w4 W), R 4 #[true, false, false, false, false] { tmps := #[a, undef, .bool false, .pointer (some ⟨w1.heap.size, 0, none⟩), .pointer (some ⟨w1.heap.size + 1, 0, none⟩), s1, s2, .pointer (some ⟨w3.heap.size, 0, none⟩), undef, .tuple #[.agg #[.int .u64 x1, .slice xp xl xc], .agg #[.int .u64 o1, .slice op ol oc], s1, s2], a, .tuple #[.agg #[.int .u64 x1, .slice xp xl xc], .agg #[.int .u64 o1, .slice op ol oc], s1, s2], .agg #[.int .u64 x1, .slice xp xl xc], .agg #[.int .u64 o1, .slice op ol oc], s1, s2, .agg #[.int .u64 x1, .slice xp xl xc], .agg #[.int .u64 ra, .slice rp rl rc], .agg #[.int .u64 ra, .slice rp rl rc], undef, undef, undef, undef, undef, undef, undef, undef, undef, undef, undef, undef, undef, undef, undef, undef, undef, undef, undef, undef, undef, undef, undef, undef, undef, undef, undef, undef, undef, undef, undef, undef, undef, undef, undef, undef, undef, undef, undef, undef, undef, undef, undef, undef, undef], defers := [] } W := by
    intro W acc
    rw [← hR]
    have cr0 := (ur.below acc lr).c0
    have cr1 := (ur.below acc lr).c1
    refine wpAnyIn_ready (rs := [1, 3]) (by kernel_rfl) (by simp) ?_
    refine AllReadyIn.cons rfl (fun K hK => ?_) ?_
    · go_simp
      gi_wp2_with (refine ⟨trivial, ?_⟩; gi_at_call 6; refine (callsIn_wide.2 (of_any 1 W)).mono ?_; rintro e W2 ⟨rfl, hb⟩; skip)
      have h := H11000 W2 (below_acc acc acc.size hb)
      rw [← hR] at h
      exact h
    refine AllReadyIn.cons rfl (fun K hK => ?_) ?_
    · go_simp
      refine hK _ _ ?_
      have h := H10010 (W.alloc (.cells #[.int .u64 0, .slice none 0 0] 25)) (acc.alloc acc.size _) W.heap.size (Var.new W W.heap.size _ _ _ _ rfl) acc.size
      rw [← hR] at h
      exact h
    exact AllReadyIn.nil
  have H01010 : ∀ (W : World) (acc : Below w4.heap.size w4 W) (c : Nat) (hc : Var W c (.int .u64 0) (.slice none 0 0)) (hcn : w4.heap.size ≤ c), R 3 #[false, true, false, true, false] { tmps := #[a, undef, .bool false, .pointer (some ⟨w1.heap.size, 0, none⟩), .pointer (some ⟨w1.heap.size + 1, 0, none⟩), s1, s2, .pointer (some ⟨w3.heap.size, 0, none⟩), .pointer (some ⟨c, 0, none⟩), .tuple #[.agg #[.int .u64 x1, .slice xp xl xc], .agg #[.int .u64 o1, .slice op ol oc], s1, s2], a, .tuple #[.agg #[.int .u64 x1, .slice xp xl xc], .agg #[.int .u64 o1, .slice op ol oc], s1, s2], .agg #[.int .u64 x1, .slice xp xl xc], .agg #[.int .u64 o1, .slice op ol oc], s1, s2, .agg #[.int .u64 x1, .slice xp xl xc], .agg #[.int .u64 ra, .slice rp rl rc], undef, .agg #[.int .u64 1, .slice none 0 0], undef, undef, undef, undef, undef, undef, undef, undef, undef, undef, undef, undef, undef, undef, undef, undef, undef, undef, undef, undef, undef, undef, undef, undef, undef, undef, undef, undef, undef, undef, undef, undef, undef, undef, undef, undef, undef, undef, undef, undef, undef, undef, undef, undef], defers := [] } W := by
    intro W acc c hc hcn
    rw [← hR]
    have cr0 := (ur.below acc lr).c0
    have cr1 := (ur.below acc lr).c1
    have kc0 := hc.c0
    have kc1 := hc.c1
    have fc0 := hc.free 0
    have fc1 := hc.free 1
    refine wpAnyIn_ready (rs := [0]) (by kernel_rfl) (by simp) ?_
    refine AllReadyIn.cons rfl (fun K hK => ?_) ?_
    · go_simp
      refine hK _ _ ?_
      have h := H11010 W acc c hc hcn
      rw [← hR] at h
      exact h
    exact AllReadyIn.nil
  have H01000 : ∀ (W : World) (acc : Below w4.heap.size w4 W), R 4 #[false, true, false, false, false] { tmps := #[a, undef, .bool false, .pointer (some ⟨w1.heap.size, 0, none⟩), .pointer (some ⟨w1.heap.size + 1, 0, none⟩), s1, s2, .pointer (some ⟨w3.heap.size, 0, none⟩), undef, .tuple #[.agg #[.int .u64 x1, .slice xp xl xc], .agg #[.int .u64 o1, .slice op ol oc], s1, s2], a, .tuple #[.agg #[.int .u64 x1, .slice xp xl xc], .agg #[.int .u64 o1, .slice op ol oc], s1, s2], .agg #[.int .u64 x1, .slice xp xl xc], .agg #[.int .u64 o1, .slice op ol oc], s1, s2, .agg #[.int .u64 x1, .slice xp xl xc], .agg #[.int .u64 ra, .slice rp rl rc], undef, .agg #[.int .u64 1, .slice none 0 0], undef, undef, undef, undef, undef, undef, undef, undef, undef, undef, undef, undef, undef, undef, undef, undef, undef, undef, undef, undef, undef, undef, undef, undef, undef, undef, undef, undef, undef, undef, undef, undef, undef, undef, undef, undef, undef, undef, undef, undef, undef, undef, undef, undef], defers := [] } W := by
    intro W acc
    rw [← hR]
    have cr0 := (ur.below acc lr).c0
    have cr1 := (ur.below acc lr).c1
    refine wpAnyIn_ready (rs := [0, 3]) (by kernel_rfl) (by simp) ?_
    refine AllReadyIn.cons rfl (fun K hK => ?_) ?_
    · go_simp
      refine hK _ _ ?_
      have h := H11000 W acc
      rw [← hR] at h
      exact h
    refine AllReadyIn.cons rfl (fun K hK => ?_) ?_
    · go_simp
      refine hK _ _ ?_
      have h := H01010 (W.alloc (.cells #[.int .u64 0, .slice none 0 0] 25)) (acc.alloc acc.size _) W.heap.size (Var.new W W.heap.size _ _ _ _ rfl) acc.size
      rw [← hR] at h
      exact h
    exact AllReadyIn.nil
  have H00010 : ∀ (W : World) (acc : Below w4.heap.size w4 W) (c : Nat) (hc : Var W c (.int .u64 0) (.slice none 0 0)) (hcn : w4.heap.size ≤ c), R 4 #[false, false, false, true, false] { tmps := #[a, undef, .bool false, .pointer (some ⟨w1.heap.size, 0, none⟩), .pointer (some ⟨w1.heap.size + 1, 0, none⟩), s1, s2, .pointer (some ⟨w3.heap.size, 0, none⟩), .pointer (some ⟨c, 0, none⟩), .tuple #[.agg #[.int .u64 x1, .slice xp xl xc], .agg #[.int .u64 o1, .slice op ol oc], s1, s2], a, .tuple #[.agg #[.int .u64 x1, .slice xp xl xc], .agg #[.int .u64 o1, .slice op ol oc], s1, s2], .agg #[.int .u64 x1, .slice xp xl xc], .agg #[.int .u64 o1, .slice op ol oc], s1, s2, .agg #[.int .u64 x1, .slice xp xl xc], .agg #[.int .u64 ra, .slice rp rl rc], undef, undef, undef, undef, undef, undef, undef, undef, undef, undef, undef, undef, undef, undef, undef, undef, undef, undef, undef, undef, undef, undef, undef, undef, undef, undef, undef, undef, undef, undef, undef, undef, undef, undef, undef, undef, undef, undef, undef, undef, undef, undef, undef, undef, undef, undef], defers := [] } W := by
    intro W acc c hc hcn
    rw [← hR]
    have cr0 := (ur.below acc lr).c0
    have cr1 := (ur.below acc lr).c1
    have kc0 := hc.c0
    have kc1 := hc.c1
    have fc0 := hc.free 0
    have fc1 := hc.free 1
    refine wpAnyIn_ready (rs := [0, 1]) (by kernel_rfl) (by simp) ?_
    refine AllReadyIn.cons rfl (fun K hK => ?_) ?_
    · go_simp
      refine hK _ _ ?_
      have h := H10010 W acc c hc hcn
      rw [← hR] at h
      exact h
    refine AllReadyIn.cons rfl (fun K hK => ?_) ?_
    · go_simp
      gi_wp2_with (refine ⟨trivial, ?_⟩; gi_at_call 6; refine (callsIn_wide.2 (of_any 1 W)).mono ?_; rintro e W2 ⟨rfl, hb⟩; skip)
      have h := H01010 W2 (below_acc acc acc.size hb) c (hc.below hb hc.lt) hcn
      rw [← hR] at h
      exact h
    exact AllReadyIn.nil
  have H00000 : ∀ (W : World) (acc : Below w4.heap.size w4 W), R 5 #[false, false, false, false, false] { tmps := #[a, undef, .bool false, .pointer (some ⟨w1.heap.size, 0, none⟩), .pointer (some ⟨w1.heap.size + 1, 0, none⟩), s1, s2, .pointer (some ⟨w3.heap.size, 0, none⟩), undef, .tuple #[.agg #[.int .u64 x1, .slice xp xl xc], .agg #[.int .u64 o1, .slice op ol oc], s1, s2], a, .tuple #[.agg #[.int .u64 x1, .slice xp xl xc], .agg #[.int .u64 o1, .slice op ol oc], s1, s2], .agg #[.int .u64 x1, .slice xp xl xc], .agg #[.int .u64 o1, .slice op ol oc], s1, s2, .agg #[.int .u64 x1, .slice xp xl xc], .agg #[.int .u64 ra, .slice rp rl rc], undef, undef, undef, undef, undef, undef, undef, undef, undef, undef, undef, undef, undef, undef, undef, undef, undef, undef, undef, undef, undef, undef, undef, undef, undef, undef, undef, undef, undef, undef, undef, undef, undef, undef, undef, undef, undef, undef, undef, undef, undef, undef, undef, undef, undef, undef], defers := [] } W := by
    intro W acc
    rw [← hR]
    have cr0 := (ur.below acc lr).c0
    have cr1 := (ur.below acc lr).c1
    refine wpAnyIn_ready (rs := [0, 1, 3]) (by kernel_rfl) (by simp) ?_
    refine AllReadyIn.cons rfl (fun K hK => ?_) ?_
    · go_simp
      refine hK _ _ ?_
      have h := H10000 W acc
      rw [← hR] at h
      exact h
    refine AllReadyIn.cons rfl (fun K hK => ?_) ?_
    · go_simp
      gi_wp2_with (refine ⟨trivial, ?_⟩; gi_at_call 6; refine (callsIn_wide.2 (of_any 1 W)).mono ?_; rintro e W2 ⟨rfl, hb⟩; skip)
      have h := H01000 W2 (below_acc acc acc.size hb)
      rw [← hR] at h
      exact h
    refine AllReadyIn.cons rfl (fun K hK => ?_) ?_
    · go_simp
      refine hK _ _ ?_
      have h := H00010 (W.alloc (.cells #[.int .u64 0, .slice none 0 0] 25)) (acc.alloc acc.size _) W.heap.size (Var.new W W.heap.size _ _ _ _ rfl) acc.size
      rw [← hR] at h
      exact h
    exact AllReadyIn.nil
  exact H00000 w4.drew (Below.refl _ w4).drew
end Go.Proofs.YtogpephnkkofjaaDoor
