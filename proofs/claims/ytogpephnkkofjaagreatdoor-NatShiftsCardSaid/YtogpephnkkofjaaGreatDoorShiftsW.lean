/- NatShifts, walked. -/
import Derived.Test.YtogpephnkkofjaaGreatDoorShiftsKit
import Derived.Test.YtogpephnkkofjaaGreatDoorBArg
import Derived.Deep.RegionHeld3
import Derived.Test.YtogpephnkkofjaaGreatDoorBack
namespace Go.Proofs.YtogpephnkkofjaaGreatDoor
open Go.RowKit
set_option linter.unusedVariables false

set_option maxRecDepth 100000 in
set_option maxHeartbeats 4000000 in
theorem natShifts_walk (a : Value) (n k : Int) (w : World) (ha : BArg w a) (bn : -9223372036854775808 ≤ n ∧ n ≤ 9223372036854775807) (bk : -9223372036854775808 ≤ k ∧ k ≤ 9223372036854775807) :
    Calls Tryz.prog 5 #[a, .int .i64 n, .int .i64 k] w fun e w' => e = .returned (.bool true) ∧ Below w.heap.size w w' := by
  go_enter Tryz.func5, Tryz.ntmps5
  go_wp2_with fail
  refine (two_any a (.slice none 0 0) w ha (.inl rfl)).mono ?_
  rintro e w1 ⟨x, o, s1, s2, X, O, rfl, hx, ho, hr1, hr2, hb1⟩
  obtain ⟨X0, XB⟩ := ref_pw hr1
  have hp := hr1.num
  obtain ⟨gp, gl, gc, rfl⟩ := hp.shape
  obtain ⟨sp2, sl2, sc2, rfl⟩ := hr2.num.shape
  clear hr1 hr2 ha
  obtain ⟨x1, xp, xl, xc, rfl⟩ := hx.shape
  obtain ⟨o1, op, ol, oc, rfl⟩ := ho.shape
  have z0 := hb1.size
  have u0 : Var ((w1.alloc (.cells #[.int .u64 x1, .slice xp xl xc] 26)).alloc (.cells #[.int .u64 o1, .slice op ol oc] 26)) w1.heap.size (.int .u64 x1) (.slice xp xl xc) := (Var.new w1 w1.heap.size _ _ _ _ rfl).alloc _
  have hB2 : Below w1.heap.size w1 ((w1.alloc (.cells #[.int .u64 x1, .slice xp xl xc] 26)).alloc (.cells #[.int .u64 o1, .slice op ol oc] 26)) := by go_grown
  go_wp2_with fail
  generalize ((w1.alloc (.cells #[.int .u64 x1, .slice xp xl xc] 26)).alloc (.cells #[.int .u64 o1, .slice op ol oc] 26)) = w2 at u0 hB2 ⊢
  replace hx := hx.below hB2
  replace hp := hp.below hB2
  have hBw2 := hb1.trans (hB2.mono z0)
  have z2 := hBw2.size
  clear ho hB2 hb1
  obtain ⟨R, hR⟩ := isRoot_exists X0
  have hRX := hR.le
  have XL : X < lpw 12 := by rw [lpw_two]; rw [pw_two] at XB; exact XB
  have BR : R < pw 6 := by omega
  refine (pick_any n 600 bn.1 bn.2 (by decide) (by decide) w2).mono ?_
  rintro e w3 ⟨⟨pn, hpn, rfl⟩, rfl⟩
  obtain ⟨z, hz⟩ : ∃ z, (pn : Int) - 300 = z := ⟨_, rfl⟩
  have hz1 : -65536 ≤ z := by omega
  have hz2 : z ≤ 65536 := by omega
  have BS := shiftZ_lt X0 XB (show z ≤ 300 by omega)
  go_wp2_with fail
  refine (pick_any k 9 bk.1 bk.2 (by decide) (by decide) w2).mono ?_
  rintro e w3 ⟨⟨q, hq, rfl⟩, rfl⟩
  obtain ⟨y, hy⟩ : ∃ y, (q : Int) - 1 = y := ⟨_, rfl⟩
  have c00 := u0.c0
  have c01 := u0.c1
  have l0 := u0.lt
  have HX := Lib.hid XB
  have HXL := Lib.hid XL
  have HR := Lib.hid hR
  have HBR := Lib.hid BR
  have HBS := Lib.hid BS
  clear bn bk hR XB XL BR BS
  by_cases hq0 : q = 0
  · obtain rfl : y = -1 := by omega
    have hy0 : (-1 : Int) < 0 := by decide
    clear hq0
    go_wp2_with fail
    refine (pow_neg _ X (-1) hy0 w2 hx).mono ?_
    rintro e w3 ⟨rfl, hb3⟩
    have hB4 : Below w3.heap.size w3 (w3.alloc (.cells #[.int .u64 0, .slice none 0 0] 26)) := by go_grown
    have u1 : Var (w3.alloc (.cells #[.int .u64 0, .slice none 0 0] 26)) w3.heap.size (.int .u64 0) (.slice none 0 0) := Var.new w3 _ _ _ _ _ rfl
    replace hx := (hx.below hb3).below hB4
    replace hp := (hp.below hb3).below hB4
    replace u0 := (u0.below hb3 l0).below hB4 (u0.below hb3 l0).lt
    have hBw4 : Below w.heap.size w _ := (hBw2.trans (hb3.mono z2)).trans (hB4.mono (Nat.le_trans z2 hb3.size))
    clear c00 c01 l0 hb3
    go_wp2_with fail
    generalize (w3.alloc (.cells #[.int .u64 0, .slice none 0 0] 26)) = w4 at *
    have l0 := u0.lt
    have l1 := u1.lt
    have acc := Below.refl w4.heap.size w4
    refine (known_true w4).mono ?_
    rintro e r0 ⟨rfl, hb0⟩
    replace acc := below_acc acc acc.size hb0
    clear hb0
    have c00 := (u0.below acc l0).c0
    have c01 := (u0.below acc l0).c1
    go_wp2_with fail
    have q := shift_z 6 (by decide) (by decide) _ X z hz1 hz2 r0 (hx.below acc) HX.out
    (with_reducible refine q.mono ?_); clear q
    rintro e t0 ⟨vs1, rfl, hs1, hb0⟩
    obtain ⟨as1, ps1, ms1, qs1, rfl⟩ := hs1.shape
    replace acc := below_acc acc acc.size hb0
    clear hb0
    have c00 := (u0.below acc l0).c0
    have c01 := (u0.below acc l0).c1
    go_wp2_with fail
    have q := natShift_z _ X z hz1 hz2 t0 (K := 12) (hp.below acc) HXL.out (by decide)
    (with_reducible refine q.mono ?_); clear q
    rintro e t1 ⟨vs2, rfl, hs2, hb1⟩
    obtain ⟨ps2, ms2, qs2, rfl⟩ := hs2.shape
    replace acc := below_acc acc acc.size hb1
    replace hs1 := hs1.below hb1
    clear hb1
    have c00 := (u0.below acc l0).c0
    have c01 := (u0.below acc l0).c1
    go_wp2_with fail
    have q := is_num 11 (by decide) _ _ (shiftZ X z) HBS.out t1 hs1 hs2
    (with_reducible refine q.mono ?_); clear q
    rintro e t2 ⟨rfl, hb2⟩
    replace acc := below_acc acc acc.size hb2
    clear hb2 hs1 hs2
    have c00 := (u0.below acc l0).c0
    have c01 := (u0.below acc l0).c1
    go_wp2_with fail
    have q := root_at 6 (by decide) (by decide) _ X R t2 (hx.below acc) HX.out HR.out
    (with_reducible refine q.mono ?_); clear q
    rintro e t3 ⟨vs3, rfl, hs3, hb3⟩
    obtain ⟨as3, ps3, ms3, qs3, rfl⟩ := hs3.shape
    replace acc := below_acc acc acc.size hb3
    clear hb3
    have c00 := (u0.below acc l0).c0
    have c01 := (u0.below acc l0).c1
    go_wp2_with fail
    have q := natRoot_at 12 (by decide) (by decide) _ X R t3 (hp.below acc) HXL.out HR.out
    (with_reducible refine q.mono ?_); clear q
    rintro e t4 ⟨vs4, rfl, hs4, hb4⟩
    obtain ⟨ps4, ms4, qs4, rfl⟩ := hs4.shape
    replace acc := below_acc acc acc.size hb4
    replace hs3 := hs3.below hb4
    clear hb4
    have c00 := (u0.below acc l0).c0
    have c01 := (u0.below acc l0).c1
    go_wp2_with fail
    have q := is_num 6 (by decide) _ _ R HBR.out t4 hs3 hs4
    (with_reducible refine q.mono ?_); clear q
    rintro e t5 ⟨rfl, hb5⟩
    replace acc := below_acc acc acc.size hb5
    clear hb5 hs3 hs4
    have c00 := (u0.below acc l0).c0
    have c01 := (u0.below acc l0).c1
    go_wp2_with fail
    have hBwW := hBw4.trans (acc.mono hBw4.size)
    replace hx := hx.below acc
    replace hp := hp.below acc
    have uW := u1.below acc l1
    have lW := uW.lt
    clear c00 c01 acc
    have acc := Below.refl t5.heap.size t5
    have c10 := uW.c0
    have c11 := uW.c1
    refine wpIn_wide (n := 5) |>.1 ?_
    refine region_ways (by kernel_rfl) fun R hR => ?_
    have H1111111111111111111 : ∀ (W : World) (acc : Below t5.heap.size t5 W), R 0 #[true, true, true, true, true, true, true, true, true, true, true, true, true, true, true, true, true, true, true] { tmps := #[a, .int .i64 z, .int .i64 (-1), undef, undef, undef, .bool true, .pointer (some ⟨w1.heap.size, 0, none⟩), .pointer (some ⟨w1.heap.size + 1, 0, none⟩), .slice gp gl gc, .slice sp2 sl2 sc2, .pointer (some ⟨w3.heap.size, 0, none⟩), .bool false, .tuple #[.agg #[.int .u64 x1, .slice xp xl xc], .agg #[.int .u64 o1, .slice op ol oc], .slice gp gl gc, .slice sp2 sl2 sc2], a, .tuple #[.agg #[.int .u64 x1, .slice xp xl xc], .agg #[.int .u64 o1, .slice op ol oc], .slice gp gl gc, .slice sp2 sl2 sc2], .agg #[.int .u64 x1, .slice xp xl xc], .agg #[.int .u64 o1, .slice op ol oc], .slice gp gl gc, .slice sp2 sl2 sc2, .int .i64 n, .int .i64 ↑pn, .int .i64 z, .int .i64 k, .int .i64 ↑q, .int .i64 (-1), .tuple #[.agg #[.int .u64 0, .slice none 0 0], .bool false], .agg #[.int .u64 x1, .slice xp xl xc], .int .i64 (-1), .tuple #[.agg #[.int .u64 0, .slice none 0 0], .bool false], .agg #[.int .u64 0, .slice none 0 0], .bool false, .bool true, .bool false, .bool false, .agg #[.int .u64 x1, .slice xp xl xc], .int .i64 z, .agg #[.int .u64 as1, .slice ps1 ms1 qs1], .slice gp gl gc, .int .i64 z, .slice ps2 ms2 qs2, .bool true, .bool false, .bool false, .bool false, .agg #[.int .u64 x1, .slice xp xl xc], .agg #[.int .u64 as3, .slice ps3 ms3 qs3], .slice gp gl gc, .slice ps4 ms4 qs4, .bool true, .bool false, .bool false, .bool false, .bool false, .int .i64 (-1), .bool false, .bool false, .bool false, .int .i64 (-1), .bool true, .bool true, .agg #[.int .u64 0, .slice none 0 0], .int .i64 0, .bool true, .bool true, .bool true, undef, undef, undef, undef, undef, undef, undef, undef, undef, .bool true], defers := [] } W := by
      intro W acc
      rw [← hR]
      refine wpAnyIn_done (by kernel_rfl) ?_ _
      go_wp2_with fail
      go_ret
      exact ⟨rfl, hBwW.trans (acc.mono hBwW.size)⟩
    have H1111111111111111110 : ∀ (W : World) (acc : Below t5.heap.size t5 W), R 1 #[true, true, true, true, true, true, true, true, true, true, true, true, true, true, true, true, true, true, false] { tmps := #[a, .int .i64 z, .int .i64 (-1), undef, undef, undef, .bool false, .pointer (some ⟨w1.heap.size, 0, none⟩), .pointer (some ⟨w1.heap.size + 1, 0, none⟩), .slice gp gl gc, .slice sp2 sl2 sc2, .pointer (some ⟨w3.heap.size, 0, none⟩), .bool false, .tuple #[.agg #[.int .u64 x1, .slice xp xl xc], .agg #[.int .u64 o1, .slice op ol oc], .slice gp gl gc, .slice sp2 sl2 sc2], a, .tuple #[.agg #[.int .u64 x1, .slice xp xl xc], .agg #[.int .u64 o1, .slice op ol oc], .slice gp gl gc, .slice sp2 sl2 sc2], .agg #[.int .u64 x1, .slice xp xl xc], .agg #[.int .u64 o1, .slice op ol oc], .slice gp gl gc, .slice sp2 sl2 sc2, .int .i64 n, .int .i64 ↑pn, .int .i64 z, .int .i64 k, .int .i64 ↑q, .int .i64 (-1), .tuple #[.agg #[.int .u64 0, .slice none 0 0], .bool false], .agg #[.int .u64 x1, .slice xp xl xc], .int .i64 (-1), .tuple #[.agg #[.int .u64 0, .slice none 0 0], .bool false], .agg #[.int .u64 0, .slice none 0 0], .bool false, .bool true, .bool false, .bool false, .agg #[.int .u64 x1, .slice xp xl xc], .int .i64 z, .agg #[.int .u64 as1, .slice ps1 ms1 qs1], .slice gp gl gc, .int .i64 z, .slice ps2 ms2 qs2, .bool true, .bool false, .bool false, .bool false, .agg #[.int .u64 x1, .slice xp xl xc], .agg #[.int .u64 as3, .slice ps3 ms3 qs3], .slice gp gl gc, .slice ps4 ms4 qs4, .bool true, .bool false, .bool false, .bool false, .bool false, .int .i64 (-1), .bool false, .bool false, .bool false, .int .i64 (-1), .bool true, .bool true, .agg #[.int .u64 0, .slice none 0 0], .int .i64 0, .bool true, .bool true, .bool true, undef, undef, undef, undef, undef, undef, undef, undef, undef, .bool true], defers := [] } W := by
      intro W acc
      rw [← hR]
      have c10 := (uW.below acc lW).c0
      have c11 := (uW.below acc lW).c1
      refine wpAnyIn_ready (rs := [18]) (by kernel_rfl) (by simp) ?_
      refine AllReadyIn.cons rfl (fun K hK => ?_) ?_
      · go_simp
        refine hK _ _ ?_
        have h := H1111111111111111111 W acc
        rw [← hR] at h
        exact h
      exact AllReadyIn.nil
    have H1111111111111111100 : ∀ (W : World) (acc : Below t5.heap.size t5 W), R 2 #[true, true, true, true, true, true, true, true, true, true, true, true, true, true, true, true, true, false, false] { tmps := #[a, .int .i64 z, .int .i64 (-1), undef, undef, undef, .bool false, .pointer (some ⟨w1.heap.size, 0, none⟩), .pointer (some ⟨w1.heap.size + 1, 0, none⟩), .slice gp gl gc, .slice sp2 sl2 sc2, .pointer (some ⟨w3.heap.size, 0, none⟩), .bool false, .tuple #[.agg #[.int .u64 x1, .slice xp xl xc], .agg #[.int .u64 o1, .slice op ol oc], .slice gp gl gc, .slice sp2 sl2 sc2], a, .tuple #[.agg #[.int .u64 x1, .slice xp xl xc], .agg #[.int .u64 o1, .slice op ol oc], .slice gp gl gc, .slice sp2 sl2 sc2], .agg #[.int .u64 x1, .slice xp xl xc], .agg #[.int .u64 o1, .slice op ol oc], .slice gp gl gc, .slice sp2 sl2 sc2, .int .i64 n, .int .i64 ↑pn, .int .i64 z, .int .i64 k, .int .i64 ↑q, .int .i64 (-1), .tuple #[.agg #[.int .u64 0, .slice none 0 0], .bool false], .agg #[.int .u64 x1, .slice xp xl xc], .int .i64 (-1), .tuple #[.agg #[.int .u64 0, .slice none 0 0], .bool false], .agg #[.int .u64 0, .slice none 0 0], .bool false, .bool true, .bool false, .bool false, .agg #[.int .u64 x1, .slice xp xl xc], .int .i64 z, .agg #[.int .u64 as1, .slice ps1 ms1 qs1], .slice gp gl gc, .int .i64 z, .slice ps2 ms2 qs2, .bool true, .bool false, .bool false, .bool false, .agg #[.int .u64 x1, .slice xp xl xc], .agg #[.int .u64 as3, .slice ps3 ms3 qs3], .slice gp gl gc, .slice ps4 ms4 qs4, .bool true, .bool false, .bool false, .bool false, .bool false, .int .i64 (-1), .bool false, .bool false, .bool false, .int .i64 (-1), .bool true, .bool true, .agg #[.int .u64 0, .slice none 0 0], .int .i64 0, .bool true, .bool true, .bool true, undef, undef, undef, undef, undef, undef, undef, undef, undef, undef], defers := [] } W := by
      intro W acc
      rw [← hR]
      have c10 := (uW.below acc lW).c0
      have c11 := (uW.below acc lW).c1
      refine wpAnyIn_ready (rs := [17]) (by kernel_rfl) (by simp) ?_
      refine AllReadyIn.cons rfl (fun K hK => ?_) ?_
      · go_simp
        refine hK _ _ ?_
        have h := H1111111111111111110 W acc
        rw [← hR] at h
        exact h
      exact AllReadyIn.nil
    have H1111111111111111000 : ∀ (W : World) (acc : Below t5.heap.size t5 W), R 3 #[true, true, true, true, true, true, true, true, true, true, true, true, true, true, true, true, false, false, false] { tmps := #[a, .int .i64 z, .int .i64 (-1), undef, undef, undef, .bool false, .pointer (some ⟨w1.heap.size, 0, none⟩), .pointer (some ⟨w1.heap.size + 1, 0, none⟩), .slice gp gl gc, .slice sp2 sl2 sc2, .pointer (some ⟨w3.heap.size, 0, none⟩), .bool false, .tuple #[.agg #[.int .u64 x1, .slice xp xl xc], .agg #[.int .u64 o1, .slice op ol oc], .slice gp gl gc, .slice sp2 sl2 sc2], a, .tuple #[.agg #[.int .u64 x1, .slice xp xl xc], .agg #[.int .u64 o1, .slice op ol oc], .slice gp gl gc, .slice sp2 sl2 sc2], .agg #[.int .u64 x1, .slice xp xl xc], .agg #[.int .u64 o1, .slice op ol oc], .slice gp gl gc, .slice sp2 sl2 sc2, .int .i64 n, .int .i64 ↑pn, .int .i64 z, .int .i64 k, .int .i64 ↑q, .int .i64 (-1), .tuple #[.agg #[.int .u64 0, .slice none 0 0], .bool false], .agg #[.int .u64 x1, .slice xp xl xc], .int .i64 (-1), .tuple #[.agg #[.int .u64 0, .slice none 0 0], .bool false], .agg #[.int .u64 0, .slice none 0 0], .bool false, .bool true, .bool false, .bool false, .agg #[.int .u64 x1, .slice xp xl xc], .int .i64 z, .agg #[.int .u64 as1, .slice ps1 ms1 qs1], .slice gp gl gc, .int .i64 z, .slice ps2 ms2 qs2, .bool true, .bool false, .bool false, .bool false, .agg #[.int .u64 x1, .slice xp xl xc], .agg #[.int .u64 as3, .slice ps3 ms3 qs3], .slice gp gl gc, .slice ps4 ms4 qs4, .bool true, .bool false, .bool false, .bool false, .bool false, .int .i64 (-1), .bool false, .bool false, .bool false, .int .i64 (-1), .bool true, .bool true, .agg #[.int .u64 0, .slice none 0 0], .int .i64 0, .bool true, .bool true, .bool true, undef, undef, undef, undef, undef, undef, undef, undef, undef, undef], defers := [] } W := by
      intro W acc
      rw [← hR]
      have c10 := (uW.below acc lW).c0
      have c11 := (uW.below acc lW).c1
      refine wpAnyIn_ready (rs := [16]) (by kernel_rfl) (by simp) ?_
      refine AllReadyIn.cons rfl (fun K hK => ?_) ?_
      · go_simp
        try rw [if_neg (fun h => by cases h)]
        try refine ⟨trivial, ?_⟩
        refine hK _ _ ?_
        have h := H1111111111111111100 W acc
        rw [← hR] at h
        exact h
      exact AllReadyIn.nil
    have H1111111111111110000 : ∀ (W : World) (acc : Below t5.heap.size t5 W), R 4 #[true, true, true, true, true, true, true, true, true, true, true, true, true, true, true, false, false, false, false] { tmps := #[a, .int .i64 z, .int .i64 (-1), undef, undef, undef, .bool false, .pointer (some ⟨w1.heap.size, 0, none⟩), .pointer (some ⟨w1.heap.size + 1, 0, none⟩), .slice gp gl gc, .slice sp2 sl2 sc2, .pointer (some ⟨w3.heap.size, 0, none⟩), .bool false, .tuple #[.agg #[.int .u64 x1, .slice xp xl xc], .agg #[.int .u64 o1, .slice op ol oc], .slice gp gl gc, .slice sp2 sl2 sc2], a, .tuple #[.agg #[.int .u64 x1, .slice xp xl xc], .agg #[.int .u64 o1, .slice op ol oc], .slice gp gl gc, .slice sp2 sl2 sc2], .agg #[.int .u64 x1, .slice xp xl xc], .agg #[.int .u64 o1, .slice op ol oc], .slice gp gl gc, .slice sp2 sl2 sc2, .int .i64 n, .int .i64 ↑pn, .int .i64 z, .int .i64 k, .int .i64 ↑q, .int .i64 (-1), .tuple #[.agg #[.int .u64 0, .slice none 0 0], .bool false], .agg #[.int .u64 x1, .slice xp xl xc], .int .i64 (-1), .tuple #[.agg #[.int .u64 0, .slice none 0 0], .bool false], .agg #[.int .u64 0, .slice none 0 0], .bool false, .bool true, .bool false, .bool false, .agg #[.int .u64 x1, .slice xp xl xc], .int .i64 z, .agg #[.int .u64 as1, .slice ps1 ms1 qs1], .slice gp gl gc, .int .i64 z, .slice ps2 ms2 qs2, .bool true, .bool false, .bool false, .bool false, .agg #[.int .u64 x1, .slice xp xl xc], .agg #[.int .u64 as3, .slice ps3 ms3 qs3], .slice gp gl gc, .slice ps4 ms4 qs4, .bool true, .bool false, .bool false, .bool false, .bool false, .int .i64 (-1), .bool false, .bool false, .bool false, .int .i64 (-1), .bool true, .bool true, .agg #[.int .u64 0, .slice none 0 0], .int .i64 0, .bool true, .bool true, .bool true, undef, undef, undef, undef, undef, undef, undef, undef, undef, undef], defers := [] } W := by
      intro W acc
      rw [← hR]
      have c10 := (uW.below acc lW).c0
      have c11 := (uW.below acc lW).c1
      refine wpAnyIn_ready (rs := [15]) (by kernel_rfl) (by simp) ?_
      refine AllReadyIn.cons rfl (fun K hK => ?_) ?_
      · go_simp
        try rw [if_neg (fun h => by cases h)]
        try refine ⟨trivial, ?_⟩
        refine hK _ _ ?_
        have h := H1111111111111111000 W acc
        rw [← hR] at h
        exact h
      exact AllReadyIn.nil
    have H1111111111111100000 : ∀ (W : World) (acc : Below t5.heap.size t5 W), R 5 #[true, true, true, true, true, true, true, true, true, true, true, true, true, true, false, false, false, false, false] { tmps := #[a, .int .i64 z, .int .i64 (-1), undef, undef, undef, .bool false, .pointer (some ⟨w1.heap.size, 0, none⟩), .pointer (some ⟨w1.heap.size + 1, 0, none⟩), .slice gp gl gc, .slice sp2 sl2 sc2, .pointer (some ⟨w3.heap.size, 0, none⟩), .bool false, .tuple #[.agg #[.int .u64 x1, .slice xp xl xc], .agg #[.int .u64 o1, .slice op ol oc], .slice gp gl gc, .slice sp2 sl2 sc2], a, .tuple #[.agg #[.int .u64 x1, .slice xp xl xc], .agg #[.int .u64 o1, .slice op ol oc], .slice gp gl gc, .slice sp2 sl2 sc2], .agg #[.int .u64 x1, .slice xp xl xc], .agg #[.int .u64 o1, .slice op ol oc], .slice gp gl gc, .slice sp2 sl2 sc2, .int .i64 n, .int .i64 ↑pn, .int .i64 z, .int .i64 k, .int .i64 ↑q, .int .i64 (-1), .tuple #[.agg #[.int .u64 0, .slice none 0 0], .bool false], .agg #[.int .u64 x1, .slice xp xl xc], .int .i64 (-1), .tuple #[.agg #[.int .u64 0, .slice none 0 0], .bool false], .agg #[.int .u64 0, .slice none 0 0], .bool false, .bool true, .bool false, .bool false, .agg #[.int .u64 x1, .slice xp xl xc], .int .i64 z, .agg #[.int .u64 as1, .slice ps1 ms1 qs1], .slice gp gl gc, .int .i64 z, .slice ps2 ms2 qs2, .bool true, .bool false, .bool false, .bool false, .agg #[.int .u64 x1, .slice xp xl xc], .agg #[.int .u64 as3, .slice ps3 ms3 qs3], .slice gp gl gc, .slice ps4 ms4 qs4, .bool true, .bool false, .bool false, .bool false, .bool false, .int .i64 (-1), .bool false, .bool false, .bool false, .int .i64 (-1), .bool true, .bool true, .agg #[.int .u64 0, .slice none 0 0], .int .i64 0, .bool true, .bool true, .bool true, undef, undef, undef, undef, undef, undef, undef, undef, undef, undef], defers := [] } W := by
      intro W acc
      rw [← hR]
      have c10 := (uW.below acc lW).c0
      have c11 := (uW.below acc lW).c1
      refine wpAnyIn_ready (rs := [14]) (by kernel_rfl) (by simp) ?_
      refine AllReadyIn.cons rfl (fun K hK => ?_) ?_
      · go_simp
        try rw [if_neg (fun h => by cases h)]
        try refine ⟨trivial, ?_⟩
        refine hK _ _ ?_
        have h := H1111111111111110000 W acc
        rw [← hR] at h
        exact h
      exact AllReadyIn.nil
    have H1111111111111000000 : ∀ (W : World) (acc : Below t5.heap.size t5 W), R 6 #[true, true, true, true, true, true, true, true, true, true, true, true, true, false, false, false, false, false, false] { tmps := #[a, .int .i64 z, .int .i64 (-1), undef, undef, undef, .bool false, .pointer (some ⟨w1.heap.size, 0, none⟩), .pointer (some ⟨w1.heap.size + 1, 0, none⟩), .slice gp gl gc, .slice sp2 sl2 sc2, .pointer (some ⟨w3.heap.size, 0, none⟩), .bool false, .tuple #[.agg #[.int .u64 x1, .slice xp xl xc], .agg #[.int .u64 o1, .slice op ol oc], .slice gp gl gc, .slice sp2 sl2 sc2], a, .tuple #[.agg #[.int .u64 x1, .slice xp xl xc], .agg #[.int .u64 o1, .slice op ol oc], .slice gp gl gc, .slice sp2 sl2 sc2], .agg #[.int .u64 x1, .slice xp xl xc], .agg #[.int .u64 o1, .slice op ol oc], .slice gp gl gc, .slice sp2 sl2 sc2, .int .i64 n, .int .i64 ↑pn, .int .i64 z, .int .i64 k, .int .i64 ↑q, .int .i64 (-1), .tuple #[.agg #[.int .u64 0, .slice none 0 0], .bool false], .agg #[.int .u64 x1, .slice xp xl xc], .int .i64 (-1), .tuple #[.agg #[.int .u64 0, .slice none 0 0], .bool false], .agg #[.int .u64 0, .slice none 0 0], .bool false, .bool true, .bool false, .bool false, .agg #[.int .u64 x1, .slice xp xl xc], .int .i64 z, .agg #[.int .u64 as1, .slice ps1 ms1 qs1], .slice gp gl gc, .int .i64 z, .slice ps2 ms2 qs2, .bool true, .bool false, .bool false, .bool false, .agg #[.int .u64 x1, .slice xp xl xc], .agg #[.int .u64 as3, .slice ps3 ms3 qs3], .slice gp gl gc, .slice ps4 ms4 qs4, .bool true, .bool false, .bool false, .bool false, .bool false, .int .i64 (-1), .bool false, .bool false, .bool false, .int .i64 (-1), .bool true, .bool true, .agg #[.int .u64 0, .slice none 0 0], .int .i64 0, .bool true, .bool true, .bool true, undef, undef, undef, undef, undef, undef, undef, undef, undef, undef], defers := [] } W := by
      intro W acc
      rw [← hR]
      have c10 := (uW.below acc lW).c0
      have c11 := (uW.below acc lW).c1
      refine wpAnyIn_ready (rs := [13]) (by kernel_rfl) (by simp) ?_
      refine AllReadyIn.cons rfl (fun K hK => ?_) ?_
      · go_simp
        try rw [if_neg (fun h => by cases h)]
        try refine ⟨trivial, ?_⟩
        refine hK _ _ ?_
        have h := H1111111111111100000 W acc
        rw [← hR] at h
        exact h
      exact AllReadyIn.nil
    have H1111111111110100000 : ∀ (W : World) (acc : Below t5.heap.size t5 W), R 6 #[true, true, true, true, true, true, true, true, true, true, true, true, false, true, false, false, false, false, false] { tmps := #[a, .int .i64 z, .int .i64 (-1), undef, undef, undef, .bool false, .pointer (some ⟨w1.heap.size, 0, none⟩), .pointer (some ⟨w1.heap.size + 1, 0, none⟩), .slice gp gl gc, .slice sp2 sl2 sc2, .pointer (some ⟨w3.heap.size, 0, none⟩), .bool false, .tuple #[.agg #[.int .u64 x1, .slice xp xl xc], .agg #[.int .u64 o1, .slice op ol oc], .slice gp gl gc, .slice sp2 sl2 sc2], a, .tuple #[.agg #[.int .u64 x1, .slice xp xl xc], .agg #[.int .u64 o1, .slice op ol oc], .slice gp gl gc, .slice sp2 sl2 sc2], .agg #[.int .u64 x1, .slice xp xl xc], .agg #[.int .u64 o1, .slice op ol oc], .slice gp gl gc, .slice sp2 sl2 sc2, .int .i64 n, .int .i64 ↑pn, .int .i64 z, .int .i64 k, .int .i64 ↑q, .int .i64 (-1), .tuple #[.agg #[.int .u64 0, .slice none 0 0], .bool false], .agg #[.int .u64 x1, .slice xp xl xc], .int .i64 (-1), .tuple #[.agg #[.int .u64 0, .slice none 0 0], .bool false], .agg #[.int .u64 0, .slice none 0 0], .bool false, .bool true, .bool false, .bool false, .agg #[.int .u64 x1, .slice xp xl xc], .int .i64 z, .agg #[.int .u64 as1, .slice ps1 ms1 qs1], .slice gp gl gc, .int .i64 z, .slice ps2 ms2 qs2, .bool true, .bool false, .bool false, .bool false, .agg #[.int .u64 x1, .slice xp xl xc], .agg #[.int .u64 as3, .slice ps3 ms3 qs3], .slice gp gl gc, .slice ps4 ms4 qs4, .bool true, .bool false, .bool false, .bool false, .bool false, .int .i64 (-1), .bool false, .bool false, .bool false, .int .i64 (-1), .bool true, .bool true, .agg #[.int .u64 0, .slice none 0 0], .int .i64 0, .bool true, .bool true, .bool true, undef, undef, undef, undef, undef, undef, undef, undef, undef, undef], defers := [] } W := by
      intro W acc
      rw [← hR]
      have c10 := (uW.below acc lW).c0
      have c11 := (uW.below acc lW).c1
      refine wpAnyIn_ready (rs := [12]) (by kernel_rfl) (by simp) ?_
      refine AllReadyIn.cons rfl (fun K hK => ?_) ?_
      · go_simp
        try rw [if_neg (fun h => by cases h)]
        try refine ⟨trivial, ?_⟩
        refine hK _ _ ?_
        have h := H1111111111111100000 W acc
        rw [← hR] at h
        exact h
      exact AllReadyIn.nil
    have H1111111111110000000 : ∀ (W : World) (acc : Below t5.heap.size t5 W), R 7 #[true, true, true, true, true, true, true, true, true, true, true, true, false, false, false, false, false, false, false] { tmps := #[a, .int .i64 z, .int .i64 (-1), undef, undef, undef, .bool false, .pointer (some ⟨w1.heap.size, 0, none⟩), .pointer (some ⟨w1.heap.size + 1, 0, none⟩), .slice gp gl gc, .slice sp2 sl2 sc2, .pointer (some ⟨w3.heap.size, 0, none⟩), .bool false, .tuple #[.agg #[.int .u64 x1, .slice xp xl xc], .agg #[.int .u64 o1, .slice op ol oc], .slice gp gl gc, .slice sp2 sl2 sc2], a, .tuple #[.agg #[.int .u64 x1, .slice xp xl xc], .agg #[.int .u64 o1, .slice op ol oc], .slice gp gl gc, .slice sp2 sl2 sc2], .agg #[.int .u64 x1, .slice xp xl xc], .agg #[.int .u64 o1, .slice op ol oc], .slice gp gl gc, .slice sp2 sl2 sc2, .int .i64 n, .int .i64 ↑pn, .int .i64 z, .int .i64 k, .int .i64 ↑q, .int .i64 (-1), .tuple #[.agg #[.int .u64 0, .slice none 0 0], .bool false], .agg #[.int .u64 x1, .slice xp xl xc], .int .i64 (-1), .tuple #[.agg #[.int .u64 0, .slice none 0 0], .bool false], .agg #[.int .u64 0, .slice none 0 0], .bool false, .bool true, .bool false, .bool false, .agg #[.int .u64 x1, .slice xp xl xc], .int .i64 z, .agg #[.int .u64 as1, .slice ps1 ms1 qs1], .slice gp gl gc, .int .i64 z, .slice ps2 ms2 qs2, .bool true, .bool false, .bool false, .bool false, .agg #[.int .u64 x1, .slice xp xl xc], .agg #[.int .u64 as3, .slice ps3 ms3 qs3], .slice gp gl gc, .slice ps4 ms4 qs4, .bool true, .bool false, .bool false, .bool false, .bool false, .int .i64 (-1), .bool false, .bool false, .bool false, .int .i64 (-1), .bool true, .bool true, .agg #[.int .u64 0, .slice none 0 0], .int .i64 0, .bool true, .bool true, .bool true, undef, undef, undef, undef, undef, undef, undef, undef, undef, undef], defers := [] } W := by
      intro W acc
      rw [← hR]
      have c10 := (uW.below acc lW).c0
      have c11 := (uW.below acc lW).c1
      refine wpAnyIn_ready (rs := [12, 13]) (by kernel_rfl) (by simp) ?_
      refine AllReadyIn.cons rfl (fun K hK => ?_) ?_
      · go_simp
        try rw [if_neg (fun h => by cases h)]
        try refine ⟨trivial, ?_⟩
        refine hK _ _ ?_
        have h := H1111111111111000000 W acc
        rw [← hR] at h
        exact h
      refine AllReadyIn.cons rfl (fun K hK => ?_) ?_
      · go_simp
        try rw [if_neg (fun h => by cases h)]
        try refine ⟨trivial, ?_⟩
        refine hK _ _ ?_
        have h := H1111111111110100000 W acc
        rw [← hR] at h
        exact h
      exact AllReadyIn.nil
    have H1111111111101110000 : ∀ (W : World) (acc : Below t5.heap.size t5 W), R 5 #[true, true, true, true, true, true, true, true, true, true, true, false, true, true, true, false, false, false, false] { tmps := #[a, .int .i64 z, .int .i64 (-1), undef, undef, undef, .bool false, .pointer (some ⟨w1.heap.size, 0, none⟩), .pointer (some ⟨w1.heap.size + 1, 0, none⟩), .slice gp gl gc, .slice sp2 sl2 sc2, .pointer (some ⟨w3.heap.size, 0, none⟩), .bool false, .tuple #[.agg #[.int .u64 x1, .slice xp xl xc], .agg #[.int .u64 o1, .slice op ol oc], .slice gp gl gc, .slice sp2 sl2 sc2], a, .tuple #[.agg #[.int .u64 x1, .slice xp xl xc], .agg #[.int .u64 o1, .slice op ol oc], .slice gp gl gc, .slice sp2 sl2 sc2], .agg #[.int .u64 x1, .slice xp xl xc], .agg #[.int .u64 o1, .slice op ol oc], .slice gp gl gc, .slice sp2 sl2 sc2, .int .i64 n, .int .i64 ↑pn, .int .i64 z, .int .i64 k, .int .i64 ↑q, .int .i64 (-1), .tuple #[.agg #[.int .u64 0, .slice none 0 0], .bool false], .agg #[.int .u64 x1, .slice xp xl xc], .int .i64 (-1), .tuple #[.agg #[.int .u64 0, .slice none 0 0], .bool false], .agg #[.int .u64 0, .slice none 0 0], .bool false, .bool true, .bool false, .bool false, .agg #[.int .u64 x1, .slice xp xl xc], .int .i64 z, .agg #[.int .u64 as1, .slice ps1 ms1 qs1], .slice gp gl gc, .int .i64 z, .slice ps2 ms2 qs2, .bool true, .bool false, .bool false, .bool false, .agg #[.int .u64 x1, .slice xp xl xc], .agg #[.int .u64 as3, .slice ps3 ms3 qs3], .slice gp gl gc, .slice ps4 ms4 qs4, .bool true, .bool false, .bool false, .bool false, .bool false, .int .i64 (-1), .bool false, .bool false, .bool false, .int .i64 (-1), .bool true, .bool true, .agg #[.int .u64 0, .slice none 0 0], .int .i64 0, .bool true, .bool true, .bool true, undef, undef, undef, undef, undef, undef, undef, undef, undef, undef], defers := [] } W := by
      intro W acc
      rw [← hR]
      have c10 := (uW.below acc lW).c0
      have c11 := (uW.below acc lW).c1
      refine wpAnyIn_ready (rs := [11]) (by kernel_rfl) (by simp) ?_
      refine AllReadyIn.cons rfl (fun K hK => ?_) ?_
      · go_simp
        try rw [if_neg (fun h => by cases h)]
        try refine ⟨trivial, ?_⟩
        refine hK _ _ ?_
        have h := H1111111111111110000 W acc
        rw [← hR] at h
        exact h
      exact AllReadyIn.nil
    have H1111111111101100000 : ∀ (W : World) (acc : Below t5.heap.size t5 W), R 6 #[true, true, true, true, true, true, true, true, true, true, true, false, true, true, false, false, false, false, false] { tmps := #[a, .int .i64 z, .int .i64 (-1), undef, undef, undef, .bool false, .pointer (some ⟨w1.heap.size, 0, none⟩), .pointer (some ⟨w1.heap.size + 1, 0, none⟩), .slice gp gl gc, .slice sp2 sl2 sc2, .pointer (some ⟨w3.heap.size, 0, none⟩), .bool false, .tuple #[.agg #[.int .u64 x1, .slice xp xl xc], .agg #[.int .u64 o1, .slice op ol oc], .slice gp gl gc, .slice sp2 sl2 sc2], a, .tuple #[.agg #[.int .u64 x1, .slice xp xl xc], .agg #[.int .u64 o1, .slice op ol oc], .slice gp gl gc, .slice sp2 sl2 sc2], .agg #[.int .u64 x1, .slice xp xl xc], .agg #[.int .u64 o1, .slice op ol oc], .slice gp gl gc, .slice sp2 sl2 sc2, .int .i64 n, .int .i64 ↑pn, .int .i64 z, .int .i64 k, .int .i64 ↑q, .int .i64 (-1), .tuple #[.agg #[.int .u64 0, .slice none 0 0], .bool false], .agg #[.int .u64 x1, .slice xp xl xc], .int .i64 (-1), .tuple #[.agg #[.int .u64 0, .slice none 0 0], .bool false], .agg #[.int .u64 0, .slice none 0 0], .bool false, .bool true, .bool false, .bool false, .agg #[.int .u64 x1, .slice xp xl xc], .int .i64 z, .agg #[.int .u64 as1, .slice ps1 ms1 qs1], .slice gp gl gc, .int .i64 z, .slice ps2 ms2 qs2, .bool true, .bool false, .bool false, .bool false, .agg #[.int .u64 x1, .slice xp xl xc], .agg #[.int .u64 as3, .slice ps3 ms3 qs3], .slice gp gl gc, .slice ps4 ms4 qs4, .bool true, .bool false, .bool false, .bool false, .bool false, .int .i64 (-1), .bool false, .bool false, .bool false, .int .i64 (-1), .bool true, .bool true, .agg #[.int .u64 0, .slice none 0 0], .int .i64 0, .bool true, .bool true, .bool true, undef, undef, undef, undef, undef, undef, undef, undef, undef, undef], defers := [] } W := by
      intro W acc
      rw [← hR]
      have c10 := (uW.below acc lW).c0
      have c11 := (uW.below acc lW).c1
      refine wpAnyIn_ready (rs := [11, 14]) (by kernel_rfl) (by simp) ?_
      refine AllReadyIn.cons rfl (fun K hK => ?_) ?_
      · go_simp
        try rw [if_neg (fun h => by cases h)]
        try refine ⟨trivial, ?_⟩
        refine hK _ _ ?_
        have h := H1111111111111100000 W acc
        rw [← hR] at h
        exact h
      refine AllReadyIn.cons rfl (fun K hK => ?_) ?_
      · go_simp
        try rw [if_neg (fun h => by cases h)]
        try refine ⟨trivial, ?_⟩
        refine hK _ _ ?_
        have h := H1111111111101110000 W acc
        rw [← hR] at h
        exact h
      exact AllReadyIn.nil
    have H1111111111101000000 : ∀ (W : World) (acc : Below t5.heap.size t5 W), R 7 #[true, true, true, true, true, true, true, true, true, true, true, false, true, false, false, false, false, false, false] { tmps := #[a, .int .i64 z, .int .i64 (-1), undef, undef, undef, .bool false, .pointer (some ⟨w1.heap.size, 0, none⟩), .pointer (some ⟨w1.heap.size + 1, 0, none⟩), .slice gp gl gc, .slice sp2 sl2 sc2, .pointer (some ⟨w3.heap.size, 0, none⟩), .bool false, .tuple #[.agg #[.int .u64 x1, .slice xp xl xc], .agg #[.int .u64 o1, .slice op ol oc], .slice gp gl gc, .slice sp2 sl2 sc2], a, .tuple #[.agg #[.int .u64 x1, .slice xp xl xc], .agg #[.int .u64 o1, .slice op ol oc], .slice gp gl gc, .slice sp2 sl2 sc2], .agg #[.int .u64 x1, .slice xp xl xc], .agg #[.int .u64 o1, .slice op ol oc], .slice gp gl gc, .slice sp2 sl2 sc2, .int .i64 n, .int .i64 ↑pn, .int .i64 z, .int .i64 k, .int .i64 ↑q, .int .i64 (-1), .tuple #[.agg #[.int .u64 0, .slice none 0 0], .bool false], .agg #[.int .u64 x1, .slice xp xl xc], .int .i64 (-1), .tuple #[.agg #[.int .u64 0, .slice none 0 0], .bool false], .agg #[.int .u64 0, .slice none 0 0], .bool false, .bool true, .bool false, .bool false, .agg #[.int .u64 x1, .slice xp xl xc], .int .i64 z, .agg #[.int .u64 as1, .slice ps1 ms1 qs1], .slice gp gl gc, .int .i64 z, .slice ps2 ms2 qs2, .bool true, .bool false, .bool false, .bool false, .agg #[.int .u64 x1, .slice xp xl xc], .agg #[.int .u64 as3, .slice ps3 ms3 qs3], .slice gp gl gc, .slice ps4 ms4 qs4, .bool true, .bool false, .bool false, .bool false, .bool false, .int .i64 (-1), .bool false, .bool false, .bool false, .int .i64 (-1), .bool true, .bool true, .agg #[.int .u64 0, .slice none 0 0], .int .i64 0, .bool true, .bool true, .bool true, undef, undef, undef, undef, undef, undef, undef, undef, undef, undef], defers := [] } W := by
      intro W acc
      rw [← hR]
      have c10 := (uW.below acc lW).c0
      have c11 := (uW.below acc lW).c1
      refine wpAnyIn_ready (rs := [11, 13]) (by kernel_rfl) (by simp) ?_
      refine AllReadyIn.cons rfl (fun K hK => ?_) ?_
      · go_simp
        try rw [if_neg (fun h => by cases h)]
        try refine ⟨trivial, ?_⟩
        refine hK _ _ ?_
        have h := H1111111111111000000 W acc
        rw [← hR] at h
        exact h
      refine AllReadyIn.cons rfl (fun K hK => ?_) ?_
      · go_simp
        try rw [if_neg (fun h => by cases h)]
        try refine ⟨trivial, ?_⟩
        refine hK _ _ ?_
        have h := H1111111111101100000 W acc
        rw [← hR] at h
        exact h
      exact AllReadyIn.nil
    have H1111111111100100000 : ∀ (W : World) (acc : Below t5.heap.size t5 W), R 7 #[true, true, true, true, true, true, true, true, true, true, true, false, false, true, false, false, false, false, false] { tmps := #[a, .int .i64 z, .int .i64 (-1), undef, undef, undef, .bool false, .pointer (some ⟨w1.heap.size, 0, none⟩), .pointer (some ⟨w1.heap.size + 1, 0, none⟩), .slice gp gl gc, .slice sp2 sl2 sc2, .pointer (some ⟨w3.heap.size, 0, none⟩), .bool false, .tuple #[.agg #[.int .u64 x1, .slice xp xl xc], .agg #[.int .u64 o1, .slice op ol oc], .slice gp gl gc, .slice sp2 sl2 sc2], a, .tuple #[.agg #[.int .u64 x1, .slice xp xl xc], .agg #[.int .u64 o1, .slice op ol oc], .slice gp gl gc, .slice sp2 sl2 sc2], .agg #[.int .u64 x1, .slice xp xl xc], .agg #[.int .u64 o1, .slice op ol oc], .slice gp gl gc, .slice sp2 sl2 sc2, .int .i64 n, .int .i64 ↑pn, .int .i64 z, .int .i64 k, .int .i64 ↑q, .int .i64 (-1), .tuple #[.agg #[.int .u64 0, .slice none 0 0], .bool false], .agg #[.int .u64 x1, .slice xp xl xc], .int .i64 (-1), .tuple #[.agg #[.int .u64 0, .slice none 0 0], .bool false], .agg #[.int .u64 0, .slice none 0 0], .bool false, .bool true, .bool false, .bool false, .agg #[.int .u64 x1, .slice xp xl xc], .int .i64 z, .agg #[.int .u64 as1, .slice ps1 ms1 qs1], .slice gp gl gc, .int .i64 z, .slice ps2 ms2 qs2, .bool true, .bool false, .bool false, .bool false, .agg #[.int .u64 x1, .slice xp xl xc], .agg #[.int .u64 as3, .slice ps3 ms3 qs3], .slice gp gl gc, .slice ps4 ms4 qs4, .bool true, .bool false, .bool false, .bool false, .bool false, .int .i64 (-1), .bool false, .bool false, .bool false, .int .i64 (-1), .bool true, .bool true, .agg #[.int .u64 0, .slice none 0 0], .int .i64 0, .bool true, .bool true, .bool true, undef, undef, undef, undef, undef, undef, undef, undef, undef, undef], defers := [] } W := by
      intro W acc
      rw [← hR]
      have c10 := (uW.below acc lW).c0
      have c11 := (uW.below acc lW).c1
      refine wpAnyIn_ready (rs := [11, 12]) (by kernel_rfl) (by simp) ?_
      refine AllReadyIn.cons rfl (fun K hK => ?_) ?_
      · go_simp
        try rw [if_neg (fun h => by cases h)]
        try refine ⟨trivial, ?_⟩
        refine hK _ _ ?_
        have h := H1111111111110100000 W acc
        rw [← hR] at h
        exact h
      refine AllReadyIn.cons rfl (fun K hK => ?_) ?_
      · go_simp
        try rw [if_neg (fun h => by cases h)]
        try refine ⟨trivial, ?_⟩
        refine hK _ _ ?_
        have h := H1111111111101100000 W acc
        rw [← hR] at h
        exact h
      exact AllReadyIn.nil
    have H1111111111100000000 : ∀ (W : World) (acc : Below t5.heap.size t5 W), R 8 #[true, true, true, true, true, true, true, true, true, true, true, false, false, false, false, false, false, false, false] { tmps := #[a, .int .i64 z, .int .i64 (-1), undef, undef, undef, .bool false, .pointer (some ⟨w1.heap.size, 0, none⟩), .pointer (some ⟨w1.heap.size + 1, 0, none⟩), .slice gp gl gc, .slice sp2 sl2 sc2, .pointer (some ⟨w3.heap.size, 0, none⟩), .bool false, .tuple #[.agg #[.int .u64 x1, .slice xp xl xc], .agg #[.int .u64 o1, .slice op ol oc], .slice gp gl gc, .slice sp2 sl2 sc2], a, .tuple #[.agg #[.int .u64 x1, .slice xp xl xc], .agg #[.int .u64 o1, .slice op ol oc], .slice gp gl gc, .slice sp2 sl2 sc2], .agg #[.int .u64 x1, .slice xp xl xc], .agg #[.int .u64 o1, .slice op ol oc], .slice gp gl gc, .slice sp2 sl2 sc2, .int .i64 n, .int .i64 ↑pn, .int .i64 z, .int .i64 k, .int .i64 ↑q, .int .i64 (-1), .tuple #[.agg #[.int .u64 0, .slice none 0 0], .bool false], .agg #[.int .u64 x1, .slice xp xl xc], .int .i64 (-1), .tuple #[.agg #[.int .u64 0, .slice none 0 0], .bool false], .agg #[.int .u64 0, .slice none 0 0], .bool false, .bool true, .bool false, .bool false, .agg #[.int .u64 x1, .slice xp xl xc], .int .i64 z, .agg #[.int .u64 as1, .slice ps1 ms1 qs1], .slice gp gl gc, .int .i64 z, .slice ps2 ms2 qs2, .bool true, .bool false, .bool false, .bool false, .agg #[.int .u64 x1, .slice xp xl xc], .agg #[.int .u64 as3, .slice ps3 ms3 qs3], .slice gp gl gc, .slice ps4 ms4 qs4, .bool true, .bool false, .bool false, .bool false, .bool false, .int .i64 (-1), .bool false, .bool false, .bool false, .int .i64 (-1), .bool true, .bool true, .agg #[.int .u64 0, .slice none 0 0], .int .i64 0, .bool true, .bool true, .bool true, undef, undef, undef, undef, undef, undef, undef, undef, undef, undef], defers := [] } W := by
      intro W acc
      rw [← hR]
      have c10 := (uW.below acc lW).c0
      have c11 := (uW.below acc lW).c1
      refine wpAnyIn_ready (rs := [11, 12, 13]) (by kernel_rfl) (by simp) ?_
      refine AllReadyIn.cons rfl (fun K hK => ?_) ?_
      · go_simp
        try rw [if_neg (fun h => by cases h)]
        try refine ⟨trivial, ?_⟩
        refine hK _ _ ?_
        have h := H1111111111110000000 W acc
        rw [← hR] at h
        exact h
      refine AllReadyIn.cons rfl (fun K hK => ?_) ?_
      · go_simp
        try rw [if_neg (fun h => by cases h)]
        try refine ⟨trivial, ?_⟩
        refine hK _ _ ?_
        have h := H1111111111101000000 W acc
        rw [← hR] at h
        exact h
      refine AllReadyIn.cons rfl (fun K hK => ?_) ?_
      · go_simp
        try rw [if_neg (fun h => by cases h)]
        try refine ⟨trivial, ?_⟩
        refine hK _ _ ?_
        have h := H1111111111100100000 W acc
        rw [← hR] at h
        exact h
      exact AllReadyIn.nil
    have H1111111111000000000 : ∀ (W : World) (acc : Below t5.heap.size t5 W), R 9 #[true, true, true, true, true, true, true, true, true, true, false, false, false, false, false, false, false, false, false] { tmps := #[a, .int .i64 z, .int .i64 (-1), undef, undef, undef, .bool false, .pointer (some ⟨w1.heap.size, 0, none⟩), .pointer (some ⟨w1.heap.size + 1, 0, none⟩), .slice gp gl gc, .slice sp2 sl2 sc2, .pointer (some ⟨w3.heap.size, 0, none⟩), .bool false, .tuple #[.agg #[.int .u64 x1, .slice xp xl xc], .agg #[.int .u64 o1, .slice op ol oc], .slice gp gl gc, .slice sp2 sl2 sc2], a, .tuple #[.agg #[.int .u64 x1, .slice xp xl xc], .agg #[.int .u64 o1, .slice op ol oc], .slice gp gl gc, .slice sp2 sl2 sc2], .agg #[.int .u64 x1, .slice xp xl xc], .agg #[.int .u64 o1, .slice op ol oc], .slice gp gl gc, .slice sp2 sl2 sc2, .int .i64 n, .int .i64 ↑pn, .int .i64 z, .int .i64 k, .int .i64 ↑q, .int .i64 (-1), .tuple #[.agg #[.int .u64 0, .slice none 0 0], .bool false], .agg #[.int .u64 x1, .slice xp xl xc], .int .i64 (-1), .tuple #[.agg #[.int .u64 0, .slice none 0 0], .bool false], .agg #[.int .u64 0, .slice none 0 0], .bool false, .bool true, .bool false, .bool false, .agg #[.int .u64 x1, .slice xp xl xc], .int .i64 z, .agg #[.int .u64 as1, .slice ps1 ms1 qs1], .slice gp gl gc, .int .i64 z, .slice ps2 ms2 qs2, .bool true, .bool false, .bool false, .bool false, .agg #[.int .u64 x1, .slice xp xl xc], .agg #[.int .u64 as3, .slice ps3 ms3 qs3], .slice gp gl gc, .slice ps4 ms4 qs4, .bool true, .bool false, .bool false, .bool false, .bool false, .int .i64 (-1), .bool false, .bool false, .bool false, .int .i64 (-1), .bool true, .bool true, .agg #[.int .u64 0, .slice none 0 0], .int .i64 0, .bool true, .bool true, .bool true, undef, undef, undef, undef, undef, undef, undef, undef, undef, undef], defers := [] } W := by
      intro W acc
      rw [← hR]
      have c10 := (uW.below acc lW).c0
      have c11 := (uW.below acc lW).c1
      refine wpAnyIn_ready (rs := [10]) (by kernel_rfl) (by simp) ?_
      refine AllReadyIn.cons rfl (fun K hK => ?_) ?_
      · go_simp
        try rw [if_neg (fun h => by cases h)]
        try refine ⟨trivial, ?_⟩
        refine hK _ _ ?_
        have h := H1111111111100000000 W acc
        rw [← hR] at h
        exact h
      exact AllReadyIn.nil
    have H1111111110000000000 : ∀ (W : World) (acc : Below t5.heap.size t5 W), R 10 #[true, true, true, true, true, true, true, true, true, false, false, false, false, false, false, false, false, false, false] { tmps := #[a, .int .i64 z, .int .i64 (-1), undef, undef, undef, .bool false, .pointer (some ⟨w1.heap.size, 0, none⟩), .pointer (some ⟨w1.heap.size + 1, 0, none⟩), .slice gp gl gc, .slice sp2 sl2 sc2, .pointer (some ⟨w3.heap.size, 0, none⟩), .bool false, .tuple #[.agg #[.int .u64 x1, .slice xp xl xc], .agg #[.int .u64 o1, .slice op ol oc], .slice gp gl gc, .slice sp2 sl2 sc2], a, .tuple #[.agg #[.int .u64 x1, .slice xp xl xc], .agg #[.int .u64 o1, .slice op ol oc], .slice gp gl gc, .slice sp2 sl2 sc2], .agg #[.int .u64 x1, .slice xp xl xc], .agg #[.int .u64 o1, .slice op ol oc], .slice gp gl gc, .slice sp2 sl2 sc2, .int .i64 n, .int .i64 ↑pn, .int .i64 z, .int .i64 k, .int .i64 ↑q, .int .i64 (-1), .tuple #[.agg #[.int .u64 0, .slice none 0 0], .bool false], .agg #[.int .u64 x1, .slice xp xl xc], .int .i64 (-1), .tuple #[.agg #[.int .u64 0, .slice none 0 0], .bool false], .agg #[.int .u64 0, .slice none 0 0], .bool false, .bool true, .bool false, .bool false, .agg #[.int .u64 x1, .slice xp xl xc], .int .i64 z, .agg #[.int .u64 as1, .slice ps1 ms1 qs1], .slice gp gl gc, .int .i64 z, .slice ps2 ms2 qs2, .bool true, .bool false, .bool false, .bool false, .agg #[.int .u64 x1, .slice xp xl xc], .agg #[.int .u64 as3, .slice ps3 ms3 qs3], .slice gp gl gc, .slice ps4 ms4 qs4, .bool true, .bool false, .bool false, .bool false, .bool false, .int .i64 (-1), .bool false, .bool false, .bool false, .int .i64 (-1), .bool true, .bool true, .agg #[.int .u64 0, .slice none 0 0], .int .i64 0, .bool true, .bool true, .bool true, undef, undef, undef, undef, undef, undef, undef, undef, undef, undef], defers := [] } W := by
      intro W acc
      rw [← hR]
      have c10 := (uW.below acc lW).c0
      have c11 := (uW.below acc lW).c1
      refine wpAnyIn_ready (rs := [9]) (by kernel_rfl) (by simp) ?_
      refine AllReadyIn.cons rfl (fun K hK => ?_) ?_
      · go_simp
        try rw [if_neg (fun h => by cases h)]
        try refine ⟨trivial, ?_⟩
        refine hK _ _ ?_
        have h := H1111111111000000000 W acc
        rw [← hR] at h
        exact h
      exact AllReadyIn.nil
    have H1111111100000000000 : ∀ (W : World) (acc : Below t5.heap.size t5 W), R 11 #[true, true, true, true, true, true, true, true, false, false, false, false, false, false, false, false, false, false, false] { tmps := #[a, .int .i64 z, .int .i64 (-1), undef, undef, undef, .bool false, .pointer (some ⟨w1.heap.size, 0, none⟩), .pointer (some ⟨w1.heap.size + 1, 0, none⟩), .slice gp gl gc, .slice sp2 sl2 sc2, .pointer (some ⟨w3.heap.size, 0, none⟩), .bool false, .tuple #[.agg #[.int .u64 x1, .slice xp xl xc], .agg #[.int .u64 o1, .slice op ol oc], .slice gp gl gc, .slice sp2 sl2 sc2], a, .tuple #[.agg #[.int .u64 x1, .slice xp xl xc], .agg #[.int .u64 o1, .slice op ol oc], .slice gp gl gc, .slice sp2 sl2 sc2], .agg #[.int .u64 x1, .slice xp xl xc], .agg #[.int .u64 o1, .slice op ol oc], .slice gp gl gc, .slice sp2 sl2 sc2, .int .i64 n, .int .i64 ↑pn, .int .i64 z, .int .i64 k, .int .i64 ↑q, .int .i64 (-1), .tuple #[.agg #[.int .u64 0, .slice none 0 0], .bool false], .agg #[.int .u64 x1, .slice xp xl xc], .int .i64 (-1), .tuple #[.agg #[.int .u64 0, .slice none 0 0], .bool false], .agg #[.int .u64 0, .slice none 0 0], .bool false, .bool true, .bool false, .bool false, .agg #[.int .u64 x1, .slice xp xl xc], .int .i64 z, .agg #[.int .u64 as1, .slice ps1 ms1 qs1], .slice gp gl gc, .int .i64 z, .slice ps2 ms2 qs2, .bool true, .bool false, .bool false, .bool false, .agg #[.int .u64 x1, .slice xp xl xc], .agg #[.int .u64 as3, .slice ps3 ms3 qs3], .slice gp gl gc, .slice ps4 ms4 qs4, .bool true, .bool false, .bool false, .bool false, .bool false, .int .i64 (-1), .bool false, .bool false, .bool false, .int .i64 (-1), .bool true, .bool true, .agg #[.int .u64 0, .slice none 0 0], .int .i64 0, .bool true, .bool true, .bool true, undef, undef, undef, undef, undef, undef, undef, undef, undef, undef], defers := [] } W := by
      intro W acc
      rw [← hR]
      have c10 := (uW.below acc lW).c0
      have c11 := (uW.below acc lW).c1
      refine wpAnyIn_ready (rs := [8]) (by kernel_rfl) (by simp) ?_
      refine AllReadyIn.cons rfl (fun K hK => ?_) ?_
      · go_simp
        try rw [if_neg (fun h => by cases h)]
        try refine ⟨trivial, ?_⟩
        refine hK _ _ ?_
        have h := H1111111110000000000 W acc
        rw [← hR] at h
        exact h
      exact AllReadyIn.nil
    have H1111111000000000000 : ∀ (W : World) (acc : Below t5.heap.size t5 W), R 12 #[true, true, true, true, true, true, true, false, false, false, false, false, false, false, false, false, false, false, false] { tmps := #[a, .int .i64 z, .int .i64 (-1), undef, undef, undef, .bool false, .pointer (some ⟨w1.heap.size, 0, none⟩), .pointer (some ⟨w1.heap.size + 1, 0, none⟩), .slice gp gl gc, .slice sp2 sl2 sc2, .pointer (some ⟨w3.heap.size, 0, none⟩), .bool false, .tuple #[.agg #[.int .u64 x1, .slice xp xl xc], .agg #[.int .u64 o1, .slice op ol oc], .slice gp gl gc, .slice sp2 sl2 sc2], a, .tuple #[.agg #[.int .u64 x1, .slice xp xl xc], .agg #[.int .u64 o1, .slice op ol oc], .slice gp gl gc, .slice sp2 sl2 sc2], .agg #[.int .u64 x1, .slice xp xl xc], .agg #[.int .u64 o1, .slice op ol oc], .slice gp gl gc, .slice sp2 sl2 sc2, .int .i64 n, .int .i64 ↑pn, .int .i64 z, .int .i64 k, .int .i64 ↑q, .int .i64 (-1), .tuple #[.agg #[.int .u64 0, .slice none 0 0], .bool false], .agg #[.int .u64 x1, .slice xp xl xc], .int .i64 (-1), .tuple #[.agg #[.int .u64 0, .slice none 0 0], .bool false], .agg #[.int .u64 0, .slice none 0 0], .bool false, .bool true, .bool false, .bool false, .agg #[.int .u64 x1, .slice xp xl xc], .int .i64 z, .agg #[.int .u64 as1, .slice ps1 ms1 qs1], .slice gp gl gc, .int .i64 z, .slice ps2 ms2 qs2, .bool true, .bool false, .bool false, .bool false, .agg #[.int .u64 x1, .slice xp xl xc], .agg #[.int .u64 as3, .slice ps3 ms3 qs3], .slice gp gl gc, .slice ps4 ms4 qs4, .bool true, .bool false, .bool false, .bool false, .bool false, .int .i64 (-1), .bool false, .bool false, .bool false, .int .i64 (-1), .bool true, .bool true, .agg #[.int .u64 0, .slice none 0 0], .int .i64 0, .bool true, .bool true, undef, undef, undef, undef, undef, undef, undef, undef, undef, undef, undef], defers := [] } W := by
      intro W acc
      rw [← hR]
      have c10 := (uW.below acc lW).c0
      have c11 := (uW.below acc lW).c1
      refine wpAnyIn_ready (rs := [7]) (by kernel_rfl) (by simp) ?_
      refine AllReadyIn.cons rfl (fun K hK => ?_) ?_
      · go_simp
        refine hK _ _ ?_
        have h := H1111111100000000000 W acc
        rw [← hR] at h
        exact h
      exact AllReadyIn.nil
    have H1111110000000000000 : ∀ (W : World) (acc : Below t5.heap.size t5 W), R 13 #[true, true, true, true, true, true, false, false, false, false, false, false, false, false, false, false, false, false, false] { tmps := #[a, .int .i64 z, .int .i64 (-1), undef, undef, undef, .bool false, .pointer (some ⟨w1.heap.size, 0, none⟩), .pointer (some ⟨w1.heap.size + 1, 0, none⟩), .slice gp gl gc, .slice sp2 sl2 sc2, .pointer (some ⟨w3.heap.size, 0, none⟩), .bool false, .tuple #[.agg #[.int .u64 x1, .slice xp xl xc], .agg #[.int .u64 o1, .slice op ol oc], .slice gp gl gc, .slice sp2 sl2 sc2], a, .tuple #[.agg #[.int .u64 x1, .slice xp xl xc], .agg #[.int .u64 o1, .slice op ol oc], .slice gp gl gc, .slice sp2 sl2 sc2], .agg #[.int .u64 x1, .slice xp xl xc], .agg #[.int .u64 o1, .slice op ol oc], .slice gp gl gc, .slice sp2 sl2 sc2, .int .i64 n, .int .i64 ↑pn, .int .i64 z, .int .i64 k, .int .i64 ↑q, .int .i64 (-1), .tuple #[.agg #[.int .u64 0, .slice none 0 0], .bool false], .agg #[.int .u64 x1, .slice xp xl xc], .int .i64 (-1), .tuple #[.agg #[.int .u64 0, .slice none 0 0], .bool false], .agg #[.int .u64 0, .slice none 0 0], .bool false, .bool true, .bool false, .bool false, .agg #[.int .u64 x1, .slice xp xl xc], .int .i64 z, .agg #[.int .u64 as1, .slice ps1 ms1 qs1], .slice gp gl gc, .int .i64 z, .slice ps2 ms2 qs2, .bool true, .bool false, .bool false, .bool false, .agg #[.int .u64 x1, .slice xp xl xc], .agg #[.int .u64 as3, .slice ps3 ms3 qs3], .slice gp gl gc, .slice ps4 ms4 qs4, .bool true, .bool false, .bool false, .bool false, .bool false, .int .i64 (-1), .bool false, .bool false, .bool false, .int .i64 (-1), .bool true, .bool true, .agg #[.int .u64 0, .slice none 0 0], .int .i64 0, .bool true, undef, undef, undef, undef, undef, undef, undef, undef, undef, undef, undef, undef], defers := [] } W := by
      intro W acc
      rw [← hR]
      have c10 := (uW.below acc lW).c0
      have c11 := (uW.below acc lW).c1
      refine wpAnyIn_ready (rs := [6]) (by kernel_rfl) (by simp) ?_
      refine AllReadyIn.cons rfl (fun K hK => ?_) ?_
      · go_simp
        refine hK _ _ ?_
        have h := H1111111000000000000 W acc
        rw [← hR] at h
        exact h
      exact AllReadyIn.nil
    have H1111100000000000000 : ∀ (W : World) (acc : Below t5.heap.size t5 W), R 14 #[true, true, true, true, true, false, false, false, false, false, false, false, false, false, false, false, false, false, false] { tmps := #[a, .int .i64 z, .int .i64 (-1), undef, undef, undef, .bool false, .pointer (some ⟨w1.heap.size, 0, none⟩), .pointer (some ⟨w1.heap.size + 1, 0, none⟩), .slice gp gl gc, .slice sp2 sl2 sc2, .pointer (some ⟨w3.heap.size, 0, none⟩), .bool false, .tuple #[.agg #[.int .u64 x1, .slice xp xl xc], .agg #[.int .u64 o1, .slice op ol oc], .slice gp gl gc, .slice sp2 sl2 sc2], a, .tuple #[.agg #[.int .u64 x1, .slice xp xl xc], .agg #[.int .u64 o1, .slice op ol oc], .slice gp gl gc, .slice sp2 sl2 sc2], .agg #[.int .u64 x1, .slice xp xl xc], .agg #[.int .u64 o1, .slice op ol oc], .slice gp gl gc, .slice sp2 sl2 sc2, .int .i64 n, .int .i64 ↑pn, .int .i64 z, .int .i64 k, .int .i64 ↑q, .int .i64 (-1), .tuple #[.agg #[.int .u64 0, .slice none 0 0], .bool false], .agg #[.int .u64 x1, .slice xp xl xc], .int .i64 (-1), .tuple #[.agg #[.int .u64 0, .slice none 0 0], .bool false], .agg #[.int .u64 0, .slice none 0 0], .bool false, .bool true, .bool false, .bool false, .agg #[.int .u64 x1, .slice xp xl xc], .int .i64 z, .agg #[.int .u64 as1, .slice ps1 ms1 qs1], .slice gp gl gc, .int .i64 z, .slice ps2 ms2 qs2, .bool true, .bool false, .bool false, .bool false, .agg #[.int .u64 x1, .slice xp xl xc], .agg #[.int .u64 as3, .slice ps3 ms3 qs3], .slice gp gl gc, .slice ps4 ms4 qs4, .bool true, .bool false, .bool false, .bool false, .bool false, .int .i64 (-1), .bool false, .bool false, .bool false, .int .i64 (-1), .bool true, .bool true, .agg #[.int .u64 0, .slice none 0 0], .int .i64 0, undef, undef, undef, undef, undef, undef, undef, undef, undef, undef, undef, undef, undef], defers := [] } W := by
      intro W acc
      rw [← hR]
      have c10 := (uW.below acc lW).c0
      have c11 := (uW.below acc lW).c1
      refine wpAnyIn_ready (rs := [5]) (by kernel_rfl) (by simp) ?_
      refine AllReadyIn.cons rfl (fun K hK => ?_) ?_
      · go_simp
        refine hK _ _ ?_
        have h := H1111110000000000000 W acc
        rw [← hR] at h
        exact h
      exact AllReadyIn.nil
    have H1111000000000000000 : ∀ (W : World) (acc : Below t5.heap.size t5 W), R 15 #[true, true, true, true, false, false, false, false, false, false, false, false, false, false, false, false, false, false, false] { tmps := #[a, .int .i64 z, .int .i64 (-1), undef, undef, undef, .bool false, .pointer (some ⟨w1.heap.size, 0, none⟩), .pointer (some ⟨w1.heap.size + 1, 0, none⟩), .slice gp gl gc, .slice sp2 sl2 sc2, .pointer (some ⟨w3.heap.size, 0, none⟩), .bool false, .tuple #[.agg #[.int .u64 x1, .slice xp xl xc], .agg #[.int .u64 o1, .slice op ol oc], .slice gp gl gc, .slice sp2 sl2 sc2], a, .tuple #[.agg #[.int .u64 x1, .slice xp xl xc], .agg #[.int .u64 o1, .slice op ol oc], .slice gp gl gc, .slice sp2 sl2 sc2], .agg #[.int .u64 x1, .slice xp xl xc], .agg #[.int .u64 o1, .slice op ol oc], .slice gp gl gc, .slice sp2 sl2 sc2, .int .i64 n, .int .i64 ↑pn, .int .i64 z, .int .i64 k, .int .i64 ↑q, .int .i64 (-1), .tuple #[.agg #[.int .u64 0, .slice none 0 0], .bool false], .agg #[.int .u64 x1, .slice xp xl xc], .int .i64 (-1), .tuple #[.agg #[.int .u64 0, .slice none 0 0], .bool false], .agg #[.int .u64 0, .slice none 0 0], .bool false, .bool true, .bool false, .bool false, .agg #[.int .u64 x1, .slice xp xl xc], .int .i64 z, .agg #[.int .u64 as1, .slice ps1 ms1 qs1], .slice gp gl gc, .int .i64 z, .slice ps2 ms2 qs2, .bool true, .bool false, .bool false, .bool false, .agg #[.int .u64 x1, .slice xp xl xc], .agg #[.int .u64 as3, .slice ps3 ms3 qs3], .slice gp gl gc, .slice ps4 ms4 qs4, .bool true, .bool false, .bool false, .bool false, .bool false, .int .i64 (-1), .bool false, .bool false, .bool false, .int .i64 (-1), .bool true, .bool true, .agg #[.int .u64 0, .slice none 0 0], undef, undef, undef, undef, undef, undef, undef, undef, undef, undef, undef, undef, undef, undef], defers := [] } W := by
      intro W acc
      rw [← hR]
      have c10 := (uW.below acc lW).c0
      have c11 := (uW.below acc lW).c1
      refine wpAnyIn_ready (rs := [4]) (by kernel_rfl) (by simp) ?_
      refine AllReadyIn.cons rfl (fun K hK => ?_) ?_
      · go_simp
        gi_wp2_with (refine ⟨trivial, ?_⟩; gi_at_call 10; refine (callsIn_wide.2 (bits_none0 W)).mono ?_; rintro e W2 ⟨rfl, hb⟩; skip)
        have h := H1111100000000000000 W2 (below_acc acc acc.size hb)
        rw [← hR] at h
        exact h
      exact AllReadyIn.nil
    have H1110000000000000000 : ∀ (W : World) (acc : Below t5.heap.size t5 W), R 16 #[true, true, true, false, false, false, false, false, false, false, false, false, false, false, false, false, false, false, false] { tmps := #[a, .int .i64 z, .int .i64 (-1), undef, undef, undef, .bool false, .pointer (some ⟨w1.heap.size, 0, none⟩), .pointer (some ⟨w1.heap.size + 1, 0, none⟩), .slice gp gl gc, .slice sp2 sl2 sc2, .pointer (some ⟨w3.heap.size, 0, none⟩), .bool false, .tuple #[.agg #[.int .u64 x1, .slice xp xl xc], .agg #[.int .u64 o1, .slice op ol oc], .slice gp gl gc, .slice sp2 sl2 sc2], a, .tuple #[.agg #[.int .u64 x1, .slice xp xl xc], .agg #[.int .u64 o1, .slice op ol oc], .slice gp gl gc, .slice sp2 sl2 sc2], .agg #[.int .u64 x1, .slice xp xl xc], .agg #[.int .u64 o1, .slice op ol oc], .slice gp gl gc, .slice sp2 sl2 sc2, .int .i64 n, .int .i64 ↑pn, .int .i64 z, .int .i64 k, .int .i64 ↑q, .int .i64 (-1), .tuple #[.agg #[.int .u64 0, .slice none 0 0], .bool false], .agg #[.int .u64 x1, .slice xp xl xc], .int .i64 (-1), .tuple #[.agg #[.int .u64 0, .slice none 0 0], .bool false], .agg #[.int .u64 0, .slice none 0 0], .bool false, .bool true, .bool false, .bool false, .agg #[.int .u64 x1, .slice xp xl xc], .int .i64 z, .agg #[.int .u64 as1, .slice ps1 ms1 qs1], .slice gp gl gc, .int .i64 z, .slice ps2 ms2 qs2, .bool true, .bool false, .bool false, .bool false, .agg #[.int .u64 x1, .slice xp xl xc], .agg #[.int .u64 as3, .slice ps3 ms3 qs3], .slice gp gl gc, .slice ps4 ms4 qs4, .bool true, .bool false, .bool false, .bool false, .bool false, .int .i64 (-1), .bool false, .bool false, .bool false, .int .i64 (-1), .bool true, .bool true, undef, undef, undef, undef, undef, undef, undef, undef, undef, undef, undef, undef, undef, undef, undef], defers := [] } W := by
      intro W acc
      rw [← hR]
      have c10 := (uW.below acc lW).c0
      have c11 := (uW.below acc lW).c1
      refine wpAnyIn_ready (rs := [3]) (by kernel_rfl) (by simp) ?_
      refine AllReadyIn.cons rfl (fun K hK => ?_) ?_
      · go_simp
        refine hK _ _ ?_
        have h := H1111000000000000000 W acc
        rw [← hR] at h
        exact h
      exact AllReadyIn.nil
    have H1100000000000000000 : ∀ (W : World) (acc : Below t5.heap.size t5 W), R 17 #[true, true, false, false, false, false, false, false, false, false, false, false, false, false, false, false, false, false, false] { tmps := #[a, .int .i64 z, .int .i64 (-1), undef, undef, undef, .bool false, .pointer (some ⟨w1.heap.size, 0, none⟩), .pointer (some ⟨w1.heap.size + 1, 0, none⟩), .slice gp gl gc, .slice sp2 sl2 sc2, .pointer (some ⟨w3.heap.size, 0, none⟩), .bool false, .tuple #[.agg #[.int .u64 x1, .slice xp xl xc], .agg #[.int .u64 o1, .slice op ol oc], .slice gp gl gc, .slice sp2 sl2 sc2], a, .tuple #[.agg #[.int .u64 x1, .slice xp xl xc], .agg #[.int .u64 o1, .slice op ol oc], .slice gp gl gc, .slice sp2 sl2 sc2], .agg #[.int .u64 x1, .slice xp xl xc], .agg #[.int .u64 o1, .slice op ol oc], .slice gp gl gc, .slice sp2 sl2 sc2, .int .i64 n, .int .i64 ↑pn, .int .i64 z, .int .i64 k, .int .i64 ↑q, .int .i64 (-1), .tuple #[.agg #[.int .u64 0, .slice none 0 0], .bool false], .agg #[.int .u64 x1, .slice xp xl xc], .int .i64 (-1), .tuple #[.agg #[.int .u64 0, .slice none 0 0], .bool false], .agg #[.int .u64 0, .slice none 0 0], .bool false, .bool true, .bool false, .bool false, .agg #[.int .u64 x1, .slice xp xl xc], .int .i64 z, .agg #[.int .u64 as1, .slice ps1 ms1 qs1], .slice gp gl gc, .int .i64 z, .slice ps2 ms2 qs2, .bool true, .bool false, .bool false, .bool false, .agg #[.int .u64 x1, .slice xp xl xc], .agg #[.int .u64 as3, .slice ps3 ms3 qs3], .slice gp gl gc, .slice ps4 ms4 qs4, .bool true, .bool false, .bool false, .bool false, .bool false, .int .i64 (-1), .bool false, .bool false, .bool false, .int .i64 (-1), .bool true, undef, undef, undef, undef, undef, undef, undef, undef, undef, undef, undef, undef, undef, undef, undef, undef], defers := [] } W := by
      intro W acc
      rw [← hR]
      have c10 := (uW.below acc lW).c0
      have c11 := (uW.below acc lW).c1
      refine wpAnyIn_ready (rs := [2]) (by kernel_rfl) (by simp) ?_
      refine AllReadyIn.cons rfl (fun K hK => ?_) ?_
      · go_simp
        refine hK _ _ ?_
        have h := H1110000000000000000 W acc
        rw [← hR] at h
        exact h
      exact AllReadyIn.nil
    have H1000000000000000000 : ∀ (W : World) (acc : Below t5.heap.size t5 W), R 18 #[true, false, false, false, false, false, false, false, false, false, false, false, false, false, false, false, false, false, false] { tmps := #[a, .int .i64 z, .int .i64 (-1), undef, undef, undef, .bool false, .pointer (some ⟨w1.heap.size, 0, none⟩), .pointer (some ⟨w1.heap.size + 1, 0, none⟩), .slice gp gl gc, .slice sp2 sl2 sc2, .pointer (some ⟨w3.heap.size, 0, none⟩), .bool false, .tuple #[.agg #[.int .u64 x1, .slice xp xl xc], .agg #[.int .u64 o1, .slice op ol oc], .slice gp gl gc, .slice sp2 sl2 sc2], a, .tuple #[.agg #[.int .u64 x1, .slice xp xl xc], .agg #[.int .u64 o1, .slice op ol oc], .slice gp gl gc, .slice sp2 sl2 sc2], .agg #[.int .u64 x1, .slice xp xl xc], .agg #[.int .u64 o1, .slice op ol oc], .slice gp gl gc, .slice sp2 sl2 sc2, .int .i64 n, .int .i64 ↑pn, .int .i64 z, .int .i64 k, .int .i64 ↑q, .int .i64 (-1), .tuple #[.agg #[.int .u64 0, .slice none 0 0], .bool false], .agg #[.int .u64 x1, .slice xp xl xc], .int .i64 (-1), .tuple #[.agg #[.int .u64 0, .slice none 0 0], .bool false], .agg #[.int .u64 0, .slice none 0 0], .bool false, .bool true, .bool false, .bool false, .agg #[.int .u64 x1, .slice xp xl xc], .int .i64 z, .agg #[.int .u64 as1, .slice ps1 ms1 qs1], .slice gp gl gc, .int .i64 z, .slice ps2 ms2 qs2, .bool true, .bool false, .bool false, .bool false, .agg #[.int .u64 x1, .slice xp xl xc], .agg #[.int .u64 as3, .slice ps3 ms3 qs3], .slice gp gl gc, .slice ps4 ms4 qs4, .bool true, .bool false, .bool false, .bool false, .bool false, .int .i64 (-1), .bool false, .bool false, .bool false, .int .i64 (-1), undef, undef, undef, undef, undef, undef, undef, undef, undef, undef, undef, undef, undef, undef, undef, undef, undef], defers := [] } W := by
      intro W acc
      rw [← hR]
      have c10 := (uW.below acc lW).c0
      have c11 := (uW.below acc lW).c1
      refine wpAnyIn_ready (rs := [1]) (by kernel_rfl) (by simp) ?_
      refine AllReadyIn.cons rfl (fun K hK => ?_) ?_
      · go_simp
        refine hK _ _ ?_
        have h := H1100000000000000000 W acc
        rw [← hR] at h
        exact h
      exact AllReadyIn.nil
    have H0000000000000000000 : ∀ (W : World) (acc : Below t5.heap.size t5 W), R 19 #[false, false, false, false, false, false, false, false, false, false, false, false, false, false, false, false, false, false, false] { tmps := #[a, .int .i64 z, .int .i64 (-1), undef, undef, undef, .bool false, .pointer (some ⟨w1.heap.size, 0, none⟩), .pointer (some ⟨w1.heap.size + 1, 0, none⟩), .slice gp gl gc, .slice sp2 sl2 sc2, .pointer (some ⟨w3.heap.size, 0, none⟩), .bool false, .tuple #[.agg #[.int .u64 x1, .slice xp xl xc], .agg #[.int .u64 o1, .slice op ol oc], .slice gp gl gc, .slice sp2 sl2 sc2], a, .tuple #[.agg #[.int .u64 x1, .slice xp xl xc], .agg #[.int .u64 o1, .slice op ol oc], .slice gp gl gc, .slice sp2 sl2 sc2], .agg #[.int .u64 x1, .slice xp xl xc], .agg #[.int .u64 o1, .slice op ol oc], .slice gp gl gc, .slice sp2 sl2 sc2, .int .i64 n, .int .i64 ↑pn, .int .i64 z, .int .i64 k, .int .i64 ↑q, .int .i64 (-1), .tuple #[.agg #[.int .u64 0, .slice none 0 0], .bool false], .agg #[.int .u64 x1, .slice xp xl xc], .int .i64 (-1), .tuple #[.agg #[.int .u64 0, .slice none 0 0], .bool false], .agg #[.int .u64 0, .slice none 0 0], .bool false, .bool true, .bool false, .bool false, .agg #[.int .u64 x1, .slice xp xl xc], .int .i64 z, .agg #[.int .u64 as1, .slice ps1 ms1 qs1], .slice gp gl gc, .int .i64 z, .slice ps2 ms2 qs2, .bool true, .bool false, .bool false, .bool false, .agg #[.int .u64 x1, .slice xp xl xc], .agg #[.int .u64 as3, .slice ps3 ms3 qs3], .slice gp gl gc, .slice ps4 ms4 qs4, .bool true, .bool false, .bool false, .bool false, .bool false, .int .i64 (-1), .bool false, .bool false, .bool false, undef, undef, undef, undef, undef, undef, undef, undef, undef, undef, undef, undef, undef, undef, undef, undef, undef, undef], defers := [] } W := by
      intro W acc
      rw [← hR]
      have c10 := (uW.below acc lW).c0
      have c11 := (uW.below acc lW).c1
      refine wpAnyIn_ready (rs := [0]) (by kernel_rfl) (by simp) ?_
      refine AllReadyIn.cons rfl (fun K hK => ?_) ?_
      · go_simp
        refine hK _ _ ?_
        have h := H1000000000000000000 W acc
        rw [← hR] at h
        exact h
      exact AllReadyIn.nil
    exact H0000000000000000000 t5.drew (Below.refl _ t5).drew
  · obtain ⟨N, rfl⟩ := Int.eq_ofNat_of_zero_le (show 0 ≤ y by omega)
    have hN : N ≤ 7 := by omega
    have hy0 : (0 : Int) ≤ (N : Int) := by omega
    have BP : X ^ N < pw 48 := pow_lt_pw X0 HX.out (by omega)
    have HBP := Lib.hid BP
    clear hq0 BP
    go_wp2_with fail
    refine (pow_any 6 (by decide) N (by omega) (by decide) (by omega) _ X w2 hx HX.out).mono ?_
    rintro e w3 ⟨yv, rfl, hyv, hb3⟩
    obtain ⟨ya, yp, yl, yc, rfl⟩ := hyv.shape
    have hB4 : Below w3.heap.size w3 (w3.alloc (.cells #[.int .u64 ya, .slice yp yl yc] 26)) := by go_grown
    have u1 : Var (w3.alloc (.cells #[.int .u64 ya, .slice yp yl yc] 26)) w3.heap.size (.int .u64 ya) (.slice yp yl yc) := Var.new w3 _ _ _ _ _ rfl
    replace hx := (hx.below hb3).below hB4
    replace hp := (hp.below hb3).below hB4
    replace u0 := (u0.below hb3 l0).below hB4 (u0.below hb3 l0).lt
    replace hyv := hyv.below hB4
    have hBw4 : Below w.heap.size w _ := (hBw2.trans (hb3.mono z2)).trans (hB4.mono (Nat.le_trans z2 hb3.size))
    clear c00 c01 l0 hb3
    go_wp2_with fail
    generalize (w3.alloc (.cells #[.int .u64 ya, .slice yp yl yc] 26)) = w4 at *
    have l0 := u0.lt
    have l1 := u1.lt
    have acc := Below.refl w4.heap.size w4
    refine (known_true w4).mono ?_
    rintro e r0 ⟨rfl, hb0⟩
    replace acc := below_acc acc acc.size hb0
    clear hb0
    have c00 := (u0.below acc l0).c0
    have c01 := (u0.below acc l0).c1
    go_wp2_with fail
    have q := shift_z 6 (by decide) (by decide) _ X z hz1 hz2 r0 (hx.below acc) HX.out
    (with_reducible refine q.mono ?_); clear q
    rintro e t0 ⟨vs1, rfl, hs1, hb0⟩
    obtain ⟨as1, ps1, ms1, qs1, rfl⟩ := hs1.shape
    replace acc := below_acc acc acc.size hb0
    clear hb0
    have c00 := (u0.below acc l0).c0
    have c01 := (u0.below acc l0).c1
    go_wp2_with fail
    have q := natShift_z _ X z hz1 hz2 t0 (K := 12) (hp.below acc) HXL.out (by decide)
    (with_reducible refine q.mono ?_); clear q
    rintro e t1 ⟨vs2, rfl, hs2, hb1⟩
    obtain ⟨ps2, ms2, qs2, rfl⟩ := hs2.shape
    replace acc := below_acc acc acc.size hb1
    replace hs1 := hs1.below hb1
    clear hb1
    have c00 := (u0.below acc l0).c0
    have c01 := (u0.below acc l0).c1
    go_wp2_with fail
    have q := is_num 11 (by decide) _ _ (shiftZ X z) HBS.out t1 hs1 hs2
    (with_reducible refine q.mono ?_); clear q
    rintro e t2 ⟨rfl, hb2⟩
    replace acc := below_acc acc acc.size hb2
    clear hb2 hs1 hs2
    have c00 := (u0.below acc l0).c0
    have c01 := (u0.below acc l0).c1
    go_wp2_with fail
    have q := root_at 6 (by decide) (by decide) _ X R t2 (hx.below acc) HX.out HR.out
    (with_reducible refine q.mono ?_); clear q
    rintro e t3 ⟨vs3, rfl, hs3, hb3⟩
    obtain ⟨as3, ps3, ms3, qs3, rfl⟩ := hs3.shape
    replace acc := below_acc acc acc.size hb3
    clear hb3
    have c00 := (u0.below acc l0).c0
    have c01 := (u0.below acc l0).c1
    go_wp2_with fail
    have q := natRoot_at 12 (by decide) (by decide) _ X R t3 (hp.below acc) HXL.out HR.out
    (with_reducible refine q.mono ?_); clear q
    rintro e t4 ⟨vs4, rfl, hs4, hb4⟩
    obtain ⟨ps4, ms4, qs4, rfl⟩ := hs4.shape
    replace acc := below_acc acc acc.size hb4
    replace hs3 := hs3.below hb4
    clear hb4
    have c00 := (u0.below acc l0).c0
    have c01 := (u0.below acc l0).c1
    go_wp2_with fail
    have q := is_num 6 (by decide) _ _ R HBR.out t4 hs3 hs4
    (with_reducible refine q.mono ?_); clear q
    rintro e t5 ⟨rfl, hb5⟩
    replace acc := below_acc acc acc.size hb5
    clear hb5 hs3 hs4
    have c00 := (u0.below acc l0).c0
    have c01 := (u0.below acc l0).c1
    go_wp2_with fail
    have hBwW := hBw4.trans (acc.mono hBw4.size)
    replace hx := hx.below acc
    replace hp := hp.below acc
    replace hy := hyv.below acc
    have uW := u1.below acc l1
    have lW := uW.lt
    clear c00 c01 acc
    have acc := Below.refl t5.heap.size t5
    have c10 := uW.c0
    have c11 := uW.c1
    refine wpIn_wide (n := 5) |>.1 ?_
    refine region_ways (by kernel_rfl) fun R hR => ?_
    have H1111111111111111111 : ∀ (W : World) (acc : Below t5.heap.size t5 W) (p5 : Option Addr) (m5 q5 : Nat) (hs5 : IsNum W (.slice p5 m5 q5) (X ^ N)), R 0 #[true, true, true, true, true, true, true, true, true, true, true, true, true, true, true, true, true, true, true] { tmps := #[a, .int .i64 z, .int .i64 ↑N, undef, undef, undef, .bool true, .pointer (some ⟨w1.heap.size, 0, none⟩), .pointer (some ⟨w1.heap.size + 1, 0, none⟩), .slice gp gl gc, .slice sp2 sl2 sc2, .pointer (some ⟨w3.heap.size, 0, none⟩), .bool true, .tuple #[.agg #[.int .u64 x1, .slice xp xl xc], .agg #[.int .u64 o1, .slice op ol oc], .slice gp gl gc, .slice sp2 sl2 sc2], a, .tuple #[.agg #[.int .u64 x1, .slice xp xl xc], .agg #[.int .u64 o1, .slice op ol oc], .slice gp gl gc, .slice sp2 sl2 sc2], .agg #[.int .u64 x1, .slice xp xl xc], .agg #[.int .u64 o1, .slice op ol oc], .slice gp gl gc, .slice sp2 sl2 sc2, .int .i64 n, .int .i64 ↑pn, .int .i64 z, .int .i64 k, .int .i64 ↑q, .int .i64 ↑N, .tuple #[.agg #[.int .u64 ya, .slice yp yl yc], .bool true], .agg #[.int .u64 x1, .slice xp xl xc], .int .i64 ↑N, .tuple #[.agg #[.int .u64 ya, .slice yp yl yc], .bool true], .agg #[.int .u64 ya, .slice yp yl yc], .bool true, .bool true, .bool false, .bool false, .agg #[.int .u64 x1, .slice xp xl xc], .int .i64 z, .agg #[.int .u64 as1, .slice ps1 ms1 qs1], .slice gp gl gc, .int .i64 z, .slice ps2 ms2 qs2, .bool true, .bool false, .bool false, .bool false, .agg #[.int .u64 x1, .slice xp xl xc], .agg #[.int .u64 as3, .slice ps3 ms3 qs3], .slice gp gl gc, .slice ps4 ms4 qs4, .bool true, .bool false, .bool false, .bool false, .bool true, .int .i64 ↑N, .bool true, .bool false, .bool false, .int .i64 ↑N, .bool false, .bool false, undef, undef, undef, .bool false, .bool false, .int .i64 ↑N, .bool true, .bool true, .agg #[.int .u64 ya, .slice yp yl yc], .slice gp gl gc, .int .i64 ↑N, .slice p5 m5 q5, .bool true, .bool true, .bool true], defers := [] } W := by
      intro W acc p5 m5 q5 hs5
      rw [← hR]
      refine wpAnyIn_done (by kernel_rfl) ?_ _
      go_wp2_with fail
      go_ret
      exact ⟨rfl, hBwW.trans (acc.mono hBwW.size)⟩
    have H1111111111111111110 : ∀ (W : World) (acc : Below t5.heap.size t5 W) (p5 : Option Addr) (m5 q5 : Nat) (hs5 : IsNum W (.slice p5 m5 q5) (X ^ N)), R 1 #[true, true, true, true, true, true, true, true, true, true, true, true, true, true, true, true, true, true, false] { tmps := #[a, .int .i64 z, .int .i64 ↑N, undef, undef, undef, .bool false, .pointer (some ⟨w1.heap.size, 0, none⟩), .pointer (some ⟨w1.heap.size + 1, 0, none⟩), .slice gp gl gc, .slice sp2 sl2 sc2, .pointer (some ⟨w3.heap.size, 0, none⟩), .bool true, .tuple #[.agg #[.int .u64 x1, .slice xp xl xc], .agg #[.int .u64 o1, .slice op ol oc], .slice gp gl gc, .slice sp2 sl2 sc2], a, .tuple #[.agg #[.int .u64 x1, .slice xp xl xc], .agg #[.int .u64 o1, .slice op ol oc], .slice gp gl gc, .slice sp2 sl2 sc2], .agg #[.int .u64 x1, .slice xp xl xc], .agg #[.int .u64 o1, .slice op ol oc], .slice gp gl gc, .slice sp2 sl2 sc2, .int .i64 n, .int .i64 ↑pn, .int .i64 z, .int .i64 k, .int .i64 ↑q, .int .i64 ↑N, .tuple #[.agg #[.int .u64 ya, .slice yp yl yc], .bool true], .agg #[.int .u64 x1, .slice xp xl xc], .int .i64 ↑N, .tuple #[.agg #[.int .u64 ya, .slice yp yl yc], .bool true], .agg #[.int .u64 ya, .slice yp yl yc], .bool true, .bool true, .bool false, .bool false, .agg #[.int .u64 x1, .slice xp xl xc], .int .i64 z, .agg #[.int .u64 as1, .slice ps1 ms1 qs1], .slice gp gl gc, .int .i64 z, .slice ps2 ms2 qs2, .bool true, .bool false, .bool false, .bool false, .agg #[.int .u64 x1, .slice xp xl xc], .agg #[.int .u64 as3, .slice ps3 ms3 qs3], .slice gp gl gc, .slice ps4 ms4 qs4, .bool true, .bool false, .bool false, .bool false, .bool true, .int .i64 ↑N, .bool true, .bool false, .bool false, .int .i64 ↑N, .bool false, .bool false, undef, undef, undef, .bool false, .bool false, .int .i64 ↑N, .bool true, .bool true, .agg #[.int .u64 ya, .slice yp yl yc], .slice gp gl gc, .int .i64 ↑N, .slice p5 m5 q5, .bool true, .bool true, .bool true], defers := [] } W := by
      intro W acc p5 m5 q5 hs5
      rw [← hR]
      have c10 := (uW.below acc lW).c0
      have c11 := (uW.below acc lW).c1
      refine wpAnyIn_ready (rs := [18]) (by kernel_rfl) (by simp) ?_
      refine AllReadyIn.cons rfl (fun K hK => ?_) ?_
      · go_simp
        refine hK _ _ ?_
        have h := H1111111111111111111 W acc p5 m5 q5 hs5
        rw [← hR] at h
        exact h
      exact AllReadyIn.nil
    have H1111111111111111100 : ∀ (W : World) (acc : Below t5.heap.size t5 W) (p5 : Option Addr) (m5 q5 : Nat) (hs5 : IsNum W (.slice p5 m5 q5) (X ^ N)), R 2 #[true, true, true, true, true, true, true, true, true, true, true, true, true, true, true, true, true, false, false] { tmps := #[a, .int .i64 z, .int .i64 ↑N, undef, undef, undef, .bool false, .pointer (some ⟨w1.heap.size, 0, none⟩), .pointer (some ⟨w1.heap.size + 1, 0, none⟩), .slice gp gl gc, .slice sp2 sl2 sc2, .pointer (some ⟨w3.heap.size, 0, none⟩), .bool true, .tuple #[.agg #[.int .u64 x1, .slice xp xl xc], .agg #[.int .u64 o1, .slice op ol oc], .slice gp gl gc, .slice sp2 sl2 sc2], a, .tuple #[.agg #[.int .u64 x1, .slice xp xl xc], .agg #[.int .u64 o1, .slice op ol oc], .slice gp gl gc, .slice sp2 sl2 sc2], .agg #[.int .u64 x1, .slice xp xl xc], .agg #[.int .u64 o1, .slice op ol oc], .slice gp gl gc, .slice sp2 sl2 sc2, .int .i64 n, .int .i64 ↑pn, .int .i64 z, .int .i64 k, .int .i64 ↑q, .int .i64 ↑N, .tuple #[.agg #[.int .u64 ya, .slice yp yl yc], .bool true], .agg #[.int .u64 x1, .slice xp xl xc], .int .i64 ↑N, .tuple #[.agg #[.int .u64 ya, .slice yp yl yc], .bool true], .agg #[.int .u64 ya, .slice yp yl yc], .bool true, .bool true, .bool false, .bool false, .agg #[.int .u64 x1, .slice xp xl xc], .int .i64 z, .agg #[.int .u64 as1, .slice ps1 ms1 qs1], .slice gp gl gc, .int .i64 z, .slice ps2 ms2 qs2, .bool true, .bool false, .bool false, .bool false, .agg #[.int .u64 x1, .slice xp xl xc], .agg #[.int .u64 as3, .slice ps3 ms3 qs3], .slice gp gl gc, .slice ps4 ms4 qs4, .bool true, .bool false, .bool false, .bool false, .bool true, .int .i64 ↑N, .bool true, .bool false, .bool false, .int .i64 ↑N, .bool false, .bool false, undef, undef, undef, .bool false, .bool false, .int .i64 ↑N, .bool true, .bool true, .agg #[.int .u64 ya, .slice yp yl yc], .slice gp gl gc, .int .i64 ↑N, .slice p5 m5 q5, .bool true, .bool true, undef], defers := [] } W := by
      intro W acc p5 m5 q5 hs5
      rw [← hR]
      have c10 := (uW.below acc lW).c0
      have c11 := (uW.below acc lW).c1
      refine wpAnyIn_ready (rs := [17]) (by kernel_rfl) (by simp) ?_
      refine AllReadyIn.cons rfl (fun K hK => ?_) ?_
      · go_simp
        refine hK _ _ ?_
        have h := H1111111111111111110 W acc p5 m5 q5 hs5
        rw [← hR] at h
        exact h
      exact AllReadyIn.nil
    have H1111111111111111000 : ∀ (W : World) (acc : Below t5.heap.size t5 W) (p5 : Option Addr) (m5 q5 : Nat) (hs5 : IsNum W (.slice p5 m5 q5) (X ^ N)), R 3 #[true, true, true, true, true, true, true, true, true, true, true, true, true, true, true, true, false, false, false] { tmps := #[a, .int .i64 z, .int .i64 ↑N, undef, undef, undef, .bool false, .pointer (some ⟨w1.heap.size, 0, none⟩), .pointer (some ⟨w1.heap.size + 1, 0, none⟩), .slice gp gl gc, .slice sp2 sl2 sc2, .pointer (some ⟨w3.heap.size, 0, none⟩), .bool true, .tuple #[.agg #[.int .u64 x1, .slice xp xl xc], .agg #[.int .u64 o1, .slice op ol oc], .slice gp gl gc, .slice sp2 sl2 sc2], a, .tuple #[.agg #[.int .u64 x1, .slice xp xl xc], .agg #[.int .u64 o1, .slice op ol oc], .slice gp gl gc, .slice sp2 sl2 sc2], .agg #[.int .u64 x1, .slice xp xl xc], .agg #[.int .u64 o1, .slice op ol oc], .slice gp gl gc, .slice sp2 sl2 sc2, .int .i64 n, .int .i64 ↑pn, .int .i64 z, .int .i64 k, .int .i64 ↑q, .int .i64 ↑N, .tuple #[.agg #[.int .u64 ya, .slice yp yl yc], .bool true], .agg #[.int .u64 x1, .slice xp xl xc], .int .i64 ↑N, .tuple #[.agg #[.int .u64 ya, .slice yp yl yc], .bool true], .agg #[.int .u64 ya, .slice yp yl yc], .bool true, .bool true, .bool false, .bool false, .agg #[.int .u64 x1, .slice xp xl xc], .int .i64 z, .agg #[.int .u64 as1, .slice ps1 ms1 qs1], .slice gp gl gc, .int .i64 z, .slice ps2 ms2 qs2, .bool true, .bool false, .bool false, .bool false, .agg #[.int .u64 x1, .slice xp xl xc], .agg #[.int .u64 as3, .slice ps3 ms3 qs3], .slice gp gl gc, .slice ps4 ms4 qs4, .bool true, .bool false, .bool false, .bool false, .bool true, .int .i64 ↑N, .bool true, .bool false, .bool false, .int .i64 ↑N, .bool false, .bool false, undef, undef, undef, .bool false, .bool false, .int .i64 ↑N, .bool true, .bool true, .agg #[.int .u64 ya, .slice yp yl yc], .slice gp gl gc, .int .i64 ↑N, .slice p5 m5 q5, .bool true, undef, undef], defers := [] } W := by
      intro W acc p5 m5 q5 hs5
      rw [← hR]
      have c10 := (uW.below acc lW).c0
      have c11 := (uW.below acc lW).c1
      refine wpAnyIn_ready (rs := [16]) (by kernel_rfl) (by simp) ?_
      refine AllReadyIn.cons rfl (fun K hK => ?_) ?_
      · go_simp
        refine hK _ _ ?_
        have h := H1111111111111111100 W acc p5 m5 q5 hs5
        rw [← hR] at h
        exact h
      exact AllReadyIn.nil
    have H1111111111111110000 : ∀ (W : World) (acc : Below t5.heap.size t5 W) (p5 : Option Addr) (m5 q5 : Nat) (hs5 : IsNum W (.slice p5 m5 q5) (X ^ N)), R 4 #[true, true, true, true, true, true, true, true, true, true, true, true, true, true, true, false, false, false, false] { tmps := #[a, .int .i64 z, .int .i64 ↑N, undef, undef, undef, .bool false, .pointer (some ⟨w1.heap.size, 0, none⟩), .pointer (some ⟨w1.heap.size + 1, 0, none⟩), .slice gp gl gc, .slice sp2 sl2 sc2, .pointer (some ⟨w3.heap.size, 0, none⟩), .bool true, .tuple #[.agg #[.int .u64 x1, .slice xp xl xc], .agg #[.int .u64 o1, .slice op ol oc], .slice gp gl gc, .slice sp2 sl2 sc2], a, .tuple #[.agg #[.int .u64 x1, .slice xp xl xc], .agg #[.int .u64 o1, .slice op ol oc], .slice gp gl gc, .slice sp2 sl2 sc2], .agg #[.int .u64 x1, .slice xp xl xc], .agg #[.int .u64 o1, .slice op ol oc], .slice gp gl gc, .slice sp2 sl2 sc2, .int .i64 n, .int .i64 ↑pn, .int .i64 z, .int .i64 k, .int .i64 ↑q, .int .i64 ↑N, .tuple #[.agg #[.int .u64 ya, .slice yp yl yc], .bool true], .agg #[.int .u64 x1, .slice xp xl xc], .int .i64 ↑N, .tuple #[.agg #[.int .u64 ya, .slice yp yl yc], .bool true], .agg #[.int .u64 ya, .slice yp yl yc], .bool true, .bool true, .bool false, .bool false, .agg #[.int .u64 x1, .slice xp xl xc], .int .i64 z, .agg #[.int .u64 as1, .slice ps1 ms1 qs1], .slice gp gl gc, .int .i64 z, .slice ps2 ms2 qs2, .bool true, .bool false, .bool false, .bool false, .agg #[.int .u64 x1, .slice xp xl xc], .agg #[.int .u64 as3, .slice ps3 ms3 qs3], .slice gp gl gc, .slice ps4 ms4 qs4, .bool true, .bool false, .bool false, .bool false, .bool true, .int .i64 ↑N, .bool true, .bool false, .bool false, .int .i64 ↑N, .bool false, .bool false, undef, undef, undef, .bool false, .bool false, .int .i64 ↑N, .bool true, .bool true, .agg #[.int .u64 ya, .slice yp yl yc], .slice gp gl gc, .int .i64 ↑N, .slice p5 m5 q5, undef, undef, undef], defers := [] } W := by
      intro W acc p5 m5 q5 hs5
      rw [← hR]
      have c10 := (uW.below acc lW).c0
      have c11 := (uW.below acc lW).c1
      refine wpAnyIn_ready (rs := [15]) (by kernel_rfl) (by simp) ?_
      refine AllReadyIn.cons rfl (fun K hK => ?_) ?_
      · go_simp
        gi_wp2_with (refine ⟨trivial, ?_⟩; gi_at_call 12; refine (callsIn_wide.2 (is_num 48 (by decide) _ _ (X ^ N) HBP.out W (hy.below acc) hs5)).mono ?_; rintro e W2 ⟨rfl, hb⟩; skip)
        have h := H1111111111111111000 W2 (below_acc acc acc.size hb) p5 m5 q5 (hs5.below hb)
        rw [← hR] at h
        exact h
      exact AllReadyIn.nil
    have H1111111111111100000 : ∀ (W : World) (acc : Below t5.heap.size t5 W), R 5 #[true, true, true, true, true, true, true, true, true, true, true, true, true, true, false, false, false, false, false] { tmps := #[a, .int .i64 z, .int .i64 ↑N, undef, undef, undef, .bool false, .pointer (some ⟨w1.heap.size, 0, none⟩), .pointer (some ⟨w1.heap.size + 1, 0, none⟩), .slice gp gl gc, .slice sp2 sl2 sc2, .pointer (some ⟨w3.heap.size, 0, none⟩), .bool true, .tuple #[.agg #[.int .u64 x1, .slice xp xl xc], .agg #[.int .u64 o1, .slice op ol oc], .slice gp gl gc, .slice sp2 sl2 sc2], a, .tuple #[.agg #[.int .u64 x1, .slice xp xl xc], .agg #[.int .u64 o1, .slice op ol oc], .slice gp gl gc, .slice sp2 sl2 sc2], .agg #[.int .u64 x1, .slice xp xl xc], .agg #[.int .u64 o1, .slice op ol oc], .slice gp gl gc, .slice sp2 sl2 sc2, .int .i64 n, .int .i64 ↑pn, .int .i64 z, .int .i64 k, .int .i64 ↑q, .int .i64 ↑N, .tuple #[.agg #[.int .u64 ya, .slice yp yl yc], .bool true], .agg #[.int .u64 x1, .slice xp xl xc], .int .i64 ↑N, .tuple #[.agg #[.int .u64 ya, .slice yp yl yc], .bool true], .agg #[.int .u64 ya, .slice yp yl yc], .bool true, .bool true, .bool false, .bool false, .agg #[.int .u64 x1, .slice xp xl xc], .int .i64 z, .agg #[.int .u64 as1, .slice ps1 ms1 qs1], .slice gp gl gc, .int .i64 z, .slice ps2 ms2 qs2, .bool true, .bool false, .bool false, .bool false, .agg #[.int .u64 x1, .slice xp xl xc], .agg #[.int .u64 as3, .slice ps3 ms3 qs3], .slice gp gl gc, .slice ps4 ms4 qs4, .bool true, .bool false, .bool false, .bool false, .bool true, .int .i64 ↑N, .bool true, .bool false, .bool false, .int .i64 ↑N, .bool false, .bool false, undef, undef, undef, .bool false, .bool false, .int .i64 ↑N, .bool true, .bool true, .agg #[.int .u64 ya, .slice yp yl yc], .slice gp gl gc, .int .i64 ↑N, undef, undef, undef, undef], defers := [] } W := by
      intro W acc
      rw [← hR]
      have c10 := (uW.below acc lW).c0
      have c11 := (uW.below acc lW).c1
      refine wpAnyIn_ready (rs := [14]) (by kernel_rfl) (by simp) ?_
      refine AllReadyIn.cons rfl (fun K hK => ?_) ?_
      · go_simp
        gi_wp2_with (refine ⟨trivial, ?_⟩; gi_at_call 26; refine (callsIn_wide.2 (natPow_num 12 N (by omega) (by decide) _ X W (hp.below acc) HXL.out)).mono ?_; rintro e W2 ⟨v5, rfl, hs5, hb⟩; obtain ⟨p5, m5, q5, rfl⟩ := hs5.shape)
        have h := H1111111111111110000 W2 (below_acc acc acc.size hb) p5 m5 q5 hs5
        rw [← hR] at h
        exact h
      exact AllReadyIn.nil
    have H1111111111111000000 : ∀ (W : World) (acc : Below t5.heap.size t5 W), R 6 #[true, true, true, true, true, true, true, true, true, true, true, true, true, false, false, false, false, false, false] { tmps := #[a, .int .i64 z, .int .i64 ↑N, undef, undef, undef, .bool false, .pointer (some ⟨w1.heap.size, 0, none⟩), .pointer (some ⟨w1.heap.size + 1, 0, none⟩), .slice gp gl gc, .slice sp2 sl2 sc2, .pointer (some ⟨w3.heap.size, 0, none⟩), .bool true, .tuple #[.agg #[.int .u64 x1, .slice xp xl xc], .agg #[.int .u64 o1, .slice op ol oc], .slice gp gl gc, .slice sp2 sl2 sc2], a, .tuple #[.agg #[.int .u64 x1, .slice xp xl xc], .agg #[.int .u64 o1, .slice op ol oc], .slice gp gl gc, .slice sp2 sl2 sc2], .agg #[.int .u64 x1, .slice xp xl xc], .agg #[.int .u64 o1, .slice op ol oc], .slice gp gl gc, .slice sp2 sl2 sc2, .int .i64 n, .int .i64 ↑pn, .int .i64 z, .int .i64 k, .int .i64 ↑q, .int .i64 ↑N, .tuple #[.agg #[.int .u64 ya, .slice yp yl yc], .bool true], .agg #[.int .u64 x1, .slice xp xl xc], .int .i64 ↑N, .tuple #[.agg #[.int .u64 ya, .slice yp yl yc], .bool true], .agg #[.int .u64 ya, .slice yp yl yc], .bool true, .bool true, .bool false, .bool false, .agg #[.int .u64 x1, .slice xp xl xc], .int .i64 z, .agg #[.int .u64 as1, .slice ps1 ms1 qs1], .slice gp gl gc, .int .i64 z, .slice ps2 ms2 qs2, .bool true, .bool false, .bool false, .bool false, .agg #[.int .u64 x1, .slice xp xl xc], .agg #[.int .u64 as3, .slice ps3 ms3 qs3], .slice gp gl gc, .slice ps4 ms4 qs4, .bool true, .bool false, .bool false, .bool false, .bool true, .int .i64 ↑N, .bool true, .bool false, .bool false, .int .i64 ↑N, .bool false, .bool false, undef, undef, undef, .bool false, .bool false, .int .i64 ↑N, .bool true, .bool true, .agg #[.int .u64 ya, .slice yp yl yc], .slice gp gl gc, undef, undef, undef, undef, undef], defers := [] } W := by
      intro W acc
      rw [← hR]
      have c10 := (uW.below acc lW).c0
      have c11 := (uW.below acc lW).c1
      refine wpAnyIn_ready (rs := [13]) (by kernel_rfl) (by simp) ?_
      refine AllReadyIn.cons rfl (fun K hK => ?_) ?_
      · go_simp
        refine hK _ _ ?_
        have h := H1111111111111100000 W acc
        rw [← hR] at h
        exact h
      exact AllReadyIn.nil
    have H1111111111110100000 : ∀ (W : World) (acc : Below t5.heap.size t5 W), R 6 #[true, true, true, true, true, true, true, true, true, true, true, true, false, true, false, false, false, false, false] { tmps := #[a, .int .i64 z, .int .i64 ↑N, undef, undef, undef, .bool false, .pointer (some ⟨w1.heap.size, 0, none⟩), .pointer (some ⟨w1.heap.size + 1, 0, none⟩), .slice gp gl gc, .slice sp2 sl2 sc2, .pointer (some ⟨w3.heap.size, 0, none⟩), .bool true, .tuple #[.agg #[.int .u64 x1, .slice xp xl xc], .agg #[.int .u64 o1, .slice op ol oc], .slice gp gl gc, .slice sp2 sl2 sc2], a, .tuple #[.agg #[.int .u64 x1, .slice xp xl xc], .agg #[.int .u64 o1, .slice op ol oc], .slice gp gl gc, .slice sp2 sl2 sc2], .agg #[.int .u64 x1, .slice xp xl xc], .agg #[.int .u64 o1, .slice op ol oc], .slice gp gl gc, .slice sp2 sl2 sc2, .int .i64 n, .int .i64 ↑pn, .int .i64 z, .int .i64 k, .int .i64 ↑q, .int .i64 ↑N, .tuple #[.agg #[.int .u64 ya, .slice yp yl yc], .bool true], .agg #[.int .u64 x1, .slice xp xl xc], .int .i64 ↑N, .tuple #[.agg #[.int .u64 ya, .slice yp yl yc], .bool true], .agg #[.int .u64 ya, .slice yp yl yc], .bool true, .bool true, .bool false, .bool false, .agg #[.int .u64 x1, .slice xp xl xc], .int .i64 z, .agg #[.int .u64 as1, .slice ps1 ms1 qs1], .slice gp gl gc, .int .i64 z, .slice ps2 ms2 qs2, .bool true, .bool false, .bool false, .bool false, .agg #[.int .u64 x1, .slice xp xl xc], .agg #[.int .u64 as3, .slice ps3 ms3 qs3], .slice gp gl gc, .slice ps4 ms4 qs4, .bool true, .bool false, .bool false, .bool false, .bool true, .int .i64 ↑N, .bool true, .bool false, .bool false, .int .i64 ↑N, .bool false, .bool false, undef, undef, undef, .bool false, .bool false, .int .i64 ↑N, .bool true, .bool true, .agg #[.int .u64 ya, .slice yp yl yc], undef, .int .i64 ↑N, undef, undef, undef, undef], defers := [] } W := by
      intro W acc
      rw [← hR]
      have c10 := (uW.below acc lW).c0
      have c11 := (uW.below acc lW).c1
      refine wpAnyIn_ready (rs := [12]) (by kernel_rfl) (by simp) ?_
      refine AllReadyIn.cons rfl (fun K hK => ?_) ?_
      · go_simp
        refine hK _ _ ?_
        have h := H1111111111111100000 W acc
        rw [← hR] at h
        exact h
      exact AllReadyIn.nil
    have H1111111111110000000 : ∀ (W : World) (acc : Below t5.heap.size t5 W), R 7 #[true, true, true, true, true, true, true, true, true, true, true, true, false, false, false, false, false, false, false] { tmps := #[a, .int .i64 z, .int .i64 ↑N, undef, undef, undef, .bool false, .pointer (some ⟨w1.heap.size, 0, none⟩), .pointer (some ⟨w1.heap.size + 1, 0, none⟩), .slice gp gl gc, .slice sp2 sl2 sc2, .pointer (some ⟨w3.heap.size, 0, none⟩), .bool true, .tuple #[.agg #[.int .u64 x1, .slice xp xl xc], .agg #[.int .u64 o1, .slice op ol oc], .slice gp gl gc, .slice sp2 sl2 sc2], a, .tuple #[.agg #[.int .u64 x1, .slice xp xl xc], .agg #[.int .u64 o1, .slice op ol oc], .slice gp gl gc, .slice sp2 sl2 sc2], .agg #[.int .u64 x1, .slice xp xl xc], .agg #[.int .u64 o1, .slice op ol oc], .slice gp gl gc, .slice sp2 sl2 sc2, .int .i64 n, .int .i64 ↑pn, .int .i64 z, .int .i64 k, .int .i64 ↑q, .int .i64 ↑N, .tuple #[.agg #[.int .u64 ya, .slice yp yl yc], .bool true], .agg #[.int .u64 x1, .slice xp xl xc], .int .i64 ↑N, .tuple #[.agg #[.int .u64 ya, .slice yp yl yc], .bool true], .agg #[.int .u64 ya, .slice yp yl yc], .bool true, .bool true, .bool false, .bool false, .agg #[.int .u64 x1, .slice xp xl xc], .int .i64 z, .agg #[.int .u64 as1, .slice ps1 ms1 qs1], .slice gp gl gc, .int .i64 z, .slice ps2 ms2 qs2, .bool true, .bool false, .bool false, .bool false, .agg #[.int .u64 x1, .slice xp xl xc], .agg #[.int .u64 as3, .slice ps3 ms3 qs3], .slice gp gl gc, .slice ps4 ms4 qs4, .bool true, .bool false, .bool false, .bool false, .bool true, .int .i64 ↑N, .bool true, .bool false, .bool false, .int .i64 ↑N, .bool false, .bool false, undef, undef, undef, .bool false, .bool false, .int .i64 ↑N, .bool true, .bool true, .agg #[.int .u64 ya, .slice yp yl yc], undef, undef, undef, undef, undef, undef], defers := [] } W := by
      intro W acc
      rw [← hR]
      have c10 := (uW.below acc lW).c0
      have c11 := (uW.below acc lW).c1
      refine wpAnyIn_ready (rs := [12, 13]) (by kernel_rfl) (by simp) ?_
      refine AllReadyIn.cons rfl (fun K hK => ?_) ?_
      · go_simp
        refine hK _ _ ?_
        have h := H1111111111111000000 W acc
        rw [← hR] at h
        exact h
      refine AllReadyIn.cons rfl (fun K hK => ?_) ?_
      · go_simp
        refine hK _ _ ?_
        have h := H1111111111110100000 W acc
        rw [← hR] at h
        exact h
      exact AllReadyIn.nil
    have H1111111111101110000 : ∀ (W : World) (acc : Below t5.heap.size t5 W) (p5 : Option Addr) (m5 q5 : Nat) (hs5 : IsNum W (.slice p5 m5 q5) (X ^ N)), R 5 #[true, true, true, true, true, true, true, true, true, true, true, false, true, true, true, false, false, false, false] { tmps := #[a, .int .i64 z, .int .i64 ↑N, undef, undef, undef, .bool false, .pointer (some ⟨w1.heap.size, 0, none⟩), .pointer (some ⟨w1.heap.size + 1, 0, none⟩), .slice gp gl gc, .slice sp2 sl2 sc2, .pointer (some ⟨w3.heap.size, 0, none⟩), .bool true, .tuple #[.agg #[.int .u64 x1, .slice xp xl xc], .agg #[.int .u64 o1, .slice op ol oc], .slice gp gl gc, .slice sp2 sl2 sc2], a, .tuple #[.agg #[.int .u64 x1, .slice xp xl xc], .agg #[.int .u64 o1, .slice op ol oc], .slice gp gl gc, .slice sp2 sl2 sc2], .agg #[.int .u64 x1, .slice xp xl xc], .agg #[.int .u64 o1, .slice op ol oc], .slice gp gl gc, .slice sp2 sl2 sc2, .int .i64 n, .int .i64 ↑pn, .int .i64 z, .int .i64 k, .int .i64 ↑q, .int .i64 ↑N, .tuple #[.agg #[.int .u64 ya, .slice yp yl yc], .bool true], .agg #[.int .u64 x1, .slice xp xl xc], .int .i64 ↑N, .tuple #[.agg #[.int .u64 ya, .slice yp yl yc], .bool true], .agg #[.int .u64 ya, .slice yp yl yc], .bool true, .bool true, .bool false, .bool false, .agg #[.int .u64 x1, .slice xp xl xc], .int .i64 z, .agg #[.int .u64 as1, .slice ps1 ms1 qs1], .slice gp gl gc, .int .i64 z, .slice ps2 ms2 qs2, .bool true, .bool false, .bool false, .bool false, .agg #[.int .u64 x1, .slice xp xl xc], .agg #[.int .u64 as3, .slice ps3 ms3 qs3], .slice gp gl gc, .slice ps4 ms4 qs4, .bool true, .bool false, .bool false, .bool false, .bool true, .int .i64 ↑N, .bool true, .bool false, .bool false, .int .i64 ↑N, .bool false, .bool false, undef, undef, undef, .bool false, .bool false, .int .i64 ↑N, .bool true, .bool true, undef, .slice gp gl gc, .int .i64 ↑N, .slice p5 m5 q5, undef, undef, undef], defers := [] } W := by
      intro W acc p5 m5 q5 hs5
      rw [← hR]
      have c10 := (uW.below acc lW).c0
      have c11 := (uW.below acc lW).c1
      refine wpAnyIn_ready (rs := [11]) (by kernel_rfl) (by simp) ?_
      refine AllReadyIn.cons rfl (fun K hK => ?_) ?_
      · go_simp
        refine hK _ _ ?_
        have h := H1111111111111110000 W acc p5 m5 q5 hs5
        rw [← hR] at h
        exact h
      exact AllReadyIn.nil
    have H1111111111101100000 : ∀ (W : World) (acc : Below t5.heap.size t5 W), R 6 #[true, true, true, true, true, true, true, true, true, true, true, false, true, true, false, false, false, false, false] { tmps := #[a, .int .i64 z, .int .i64 ↑N, undef, undef, undef, .bool false, .pointer (some ⟨w1.heap.size, 0, none⟩), .pointer (some ⟨w1.heap.size + 1, 0, none⟩), .slice gp gl gc, .slice sp2 sl2 sc2, .pointer (some ⟨w3.heap.size, 0, none⟩), .bool true, .tuple #[.agg #[.int .u64 x1, .slice xp xl xc], .agg #[.int .u64 o1, .slice op ol oc], .slice gp gl gc, .slice sp2 sl2 sc2], a, .tuple #[.agg #[.int .u64 x1, .slice xp xl xc], .agg #[.int .u64 o1, .slice op ol oc], .slice gp gl gc, .slice sp2 sl2 sc2], .agg #[.int .u64 x1, .slice xp xl xc], .agg #[.int .u64 o1, .slice op ol oc], .slice gp gl gc, .slice sp2 sl2 sc2, .int .i64 n, .int .i64 ↑pn, .int .i64 z, .int .i64 k, .int .i64 ↑q, .int .i64 ↑N, .tuple #[.agg #[.int .u64 ya, .slice yp yl yc], .bool true], .agg #[.int .u64 x1, .slice xp xl xc], .int .i64 ↑N, .tuple #[.agg #[.int .u64 ya, .slice yp yl yc], .bool true], .agg #[.int .u64 ya, .slice yp yl yc], .bool true, .bool true, .bool false, .bool false, .agg #[.int .u64 x1, .slice xp xl xc], .int .i64 z, .agg #[.int .u64 as1, .slice ps1 ms1 qs1], .slice gp gl gc, .int .i64 z, .slice ps2 ms2 qs2, .bool true, .bool false, .bool false, .bool false, .agg #[.int .u64 x1, .slice xp xl xc], .agg #[.int .u64 as3, .slice ps3 ms3 qs3], .slice gp gl gc, .slice ps4 ms4 qs4, .bool true, .bool false, .bool false, .bool false, .bool true, .int .i64 ↑N, .bool true, .bool false, .bool false, .int .i64 ↑N, .bool false, .bool false, undef, undef, undef, .bool false, .bool false, .int .i64 ↑N, .bool true, .bool true, undef, .slice gp gl gc, .int .i64 ↑N, undef, undef, undef, undef], defers := [] } W := by
      intro W acc
      rw [← hR]
      have c10 := (uW.below acc lW).c0
      have c11 := (uW.below acc lW).c1
      refine wpAnyIn_ready (rs := [11, 14]) (by kernel_rfl) (by simp) ?_
      refine AllReadyIn.cons rfl (fun K hK => ?_) ?_
      · go_simp
        refine hK _ _ ?_
        have h := H1111111111111100000 W acc
        rw [← hR] at h
        exact h
      refine AllReadyIn.cons rfl (fun K hK => ?_) ?_
      · go_simp
        gi_wp2_with (refine ⟨trivial, ?_⟩; gi_at_call 26; refine (callsIn_wide.2 (natPow_num 12 N (by omega) (by decide) _ X W (hp.below acc) HXL.out)).mono ?_; rintro e W2 ⟨v5, rfl, hs5, hb⟩; obtain ⟨p5, m5, q5, rfl⟩ := hs5.shape)
        have h := H1111111111101110000 W2 (below_acc acc acc.size hb) p5 m5 q5 hs5
        rw [← hR] at h
        exact h
      exact AllReadyIn.nil
    have H1111111111101000000 : ∀ (W : World) (acc : Below t5.heap.size t5 W), R 7 #[true, true, true, true, true, true, true, true, true, true, true, false, true, false, false, false, false, false, false] { tmps := #[a, .int .i64 z, .int .i64 ↑N, undef, undef, undef, .bool false, .pointer (some ⟨w1.heap.size, 0, none⟩), .pointer (some ⟨w1.heap.size + 1, 0, none⟩), .slice gp gl gc, .slice sp2 sl2 sc2, .pointer (some ⟨w3.heap.size, 0, none⟩), .bool true, .tuple #[.agg #[.int .u64 x1, .slice xp xl xc], .agg #[.int .u64 o1, .slice op ol oc], .slice gp gl gc, .slice sp2 sl2 sc2], a, .tuple #[.agg #[.int .u64 x1, .slice xp xl xc], .agg #[.int .u64 o1, .slice op ol oc], .slice gp gl gc, .slice sp2 sl2 sc2], .agg #[.int .u64 x1, .slice xp xl xc], .agg #[.int .u64 o1, .slice op ol oc], .slice gp gl gc, .slice sp2 sl2 sc2, .int .i64 n, .int .i64 ↑pn, .int .i64 z, .int .i64 k, .int .i64 ↑q, .int .i64 ↑N, .tuple #[.agg #[.int .u64 ya, .slice yp yl yc], .bool true], .agg #[.int .u64 x1, .slice xp xl xc], .int .i64 ↑N, .tuple #[.agg #[.int .u64 ya, .slice yp yl yc], .bool true], .agg #[.int .u64 ya, .slice yp yl yc], .bool true, .bool true, .bool false, .bool false, .agg #[.int .u64 x1, .slice xp xl xc], .int .i64 z, .agg #[.int .u64 as1, .slice ps1 ms1 qs1], .slice gp gl gc, .int .i64 z, .slice ps2 ms2 qs2, .bool true, .bool false, .bool false, .bool false, .agg #[.int .u64 x1, .slice xp xl xc], .agg #[.int .u64 as3, .slice ps3 ms3 qs3], .slice gp gl gc, .slice ps4 ms4 qs4, .bool true, .bool false, .bool false, .bool false, .bool true, .int .i64 ↑N, .bool true, .bool false, .bool false, .int .i64 ↑N, .bool false, .bool false, undef, undef, undef, .bool false, .bool false, .int .i64 ↑N, .bool true, .bool true, undef, .slice gp gl gc, undef, undef, undef, undef, undef], defers := [] } W := by
      intro W acc
      rw [← hR]
      have c10 := (uW.below acc lW).c0
      have c11 := (uW.below acc lW).c1
      refine wpAnyIn_ready (rs := [11, 13]) (by kernel_rfl) (by simp) ?_
      refine AllReadyIn.cons rfl (fun K hK => ?_) ?_
      · go_simp
        refine hK _ _ ?_
        have h := H1111111111111000000 W acc
        rw [← hR] at h
        exact h
      refine AllReadyIn.cons rfl (fun K hK => ?_) ?_
      · go_simp
        refine hK _ _ ?_
        have h := H1111111111101100000 W acc
        rw [← hR] at h
        exact h
      exact AllReadyIn.nil
    have H1111111111100100000 : ∀ (W : World) (acc : Below t5.heap.size t5 W), R 7 #[true, true, true, true, true, true, true, true, true, true, true, false, false, true, false, false, false, false, false] { tmps := #[a, .int .i64 z, .int .i64 ↑N, undef, undef, undef, .bool false, .pointer (some ⟨w1.heap.size, 0, none⟩), .pointer (some ⟨w1.heap.size + 1, 0, none⟩), .slice gp gl gc, .slice sp2 sl2 sc2, .pointer (some ⟨w3.heap.size, 0, none⟩), .bool true, .tuple #[.agg #[.int .u64 x1, .slice xp xl xc], .agg #[.int .u64 o1, .slice op ol oc], .slice gp gl gc, .slice sp2 sl2 sc2], a, .tuple #[.agg #[.int .u64 x1, .slice xp xl xc], .agg #[.int .u64 o1, .slice op ol oc], .slice gp gl gc, .slice sp2 sl2 sc2], .agg #[.int .u64 x1, .slice xp xl xc], .agg #[.int .u64 o1, .slice op ol oc], .slice gp gl gc, .slice sp2 sl2 sc2, .int .i64 n, .int .i64 ↑pn, .int .i64 z, .int .i64 k, .int .i64 ↑q, .int .i64 ↑N, .tuple #[.agg #[.int .u64 ya, .slice yp yl yc], .bool true], .agg #[.int .u64 x1, .slice xp xl xc], .int .i64 ↑N, .tuple #[.agg #[.int .u64 ya, .slice yp yl yc], .bool true], .agg #[.int .u64 ya, .slice yp yl yc], .bool true, .bool true, .bool false, .bool false, .agg #[.int .u64 x1, .slice xp xl xc], .int .i64 z, .agg #[.int .u64 as1, .slice ps1 ms1 qs1], .slice gp gl gc, .int .i64 z, .slice ps2 ms2 qs2, .bool true, .bool false, .bool false, .bool false, .agg #[.int .u64 x1, .slice xp xl xc], .agg #[.int .u64 as3, .slice ps3 ms3 qs3], .slice gp gl gc, .slice ps4 ms4 qs4, .bool true, .bool false, .bool false, .bool false, .bool true, .int .i64 ↑N, .bool true, .bool false, .bool false, .int .i64 ↑N, .bool false, .bool false, undef, undef, undef, .bool false, .bool false, .int .i64 ↑N, .bool true, .bool true, undef, undef, .int .i64 ↑N, undef, undef, undef, undef], defers := [] } W := by
      intro W acc
      rw [← hR]
      have c10 := (uW.below acc lW).c0
      have c11 := (uW.below acc lW).c1
      refine wpAnyIn_ready (rs := [11, 12]) (by kernel_rfl) (by simp) ?_
      refine AllReadyIn.cons rfl (fun K hK => ?_) ?_
      · go_simp
        refine hK _ _ ?_
        have h := H1111111111110100000 W acc
        rw [← hR] at h
        exact h
      refine AllReadyIn.cons rfl (fun K hK => ?_) ?_
      · go_simp
        refine hK _ _ ?_
        have h := H1111111111101100000 W acc
        rw [← hR] at h
        exact h
      exact AllReadyIn.nil
    have H1111111111100000000 : ∀ (W : World) (acc : Below t5.heap.size t5 W), R 8 #[true, true, true, true, true, true, true, true, true, true, true, false, false, false, false, false, false, false, false] { tmps := #[a, .int .i64 z, .int .i64 ↑N, undef, undef, undef, .bool false, .pointer (some ⟨w1.heap.size, 0, none⟩), .pointer (some ⟨w1.heap.size + 1, 0, none⟩), .slice gp gl gc, .slice sp2 sl2 sc2, .pointer (some ⟨w3.heap.size, 0, none⟩), .bool true, .tuple #[.agg #[.int .u64 x1, .slice xp xl xc], .agg #[.int .u64 o1, .slice op ol oc], .slice gp gl gc, .slice sp2 sl2 sc2], a, .tuple #[.agg #[.int .u64 x1, .slice xp xl xc], .agg #[.int .u64 o1, .slice op ol oc], .slice gp gl gc, .slice sp2 sl2 sc2], .agg #[.int .u64 x1, .slice xp xl xc], .agg #[.int .u64 o1, .slice op ol oc], .slice gp gl gc, .slice sp2 sl2 sc2, .int .i64 n, .int .i64 ↑pn, .int .i64 z, .int .i64 k, .int .i64 ↑q, .int .i64 ↑N, .tuple #[.agg #[.int .u64 ya, .slice yp yl yc], .bool true], .agg #[.int .u64 x1, .slice xp xl xc], .int .i64 ↑N, .tuple #[.agg #[.int .u64 ya, .slice yp yl yc], .bool true], .agg #[.int .u64 ya, .slice yp yl yc], .bool true, .bool true, .bool false, .bool false, .agg #[.int .u64 x1, .slice xp xl xc], .int .i64 z, .agg #[.int .u64 as1, .slice ps1 ms1 qs1], .slice gp gl gc, .int .i64 z, .slice ps2 ms2 qs2, .bool true, .bool false, .bool false, .bool false, .agg #[.int .u64 x1, .slice xp xl xc], .agg #[.int .u64 as3, .slice ps3 ms3 qs3], .slice gp gl gc, .slice ps4 ms4 qs4, .bool true, .bool false, .bool false, .bool false, .bool true, .int .i64 ↑N, .bool true, .bool false, .bool false, .int .i64 ↑N, .bool false, .bool false, undef, undef, undef, .bool false, .bool false, .int .i64 ↑N, .bool true, .bool true, undef, undef, undef, undef, undef, undef, undef], defers := [] } W := by
      intro W acc
      rw [← hR]
      have c10 := (uW.below acc lW).c0
      have c11 := (uW.below acc lW).c1
      refine wpAnyIn_ready (rs := [11, 12, 13]) (by kernel_rfl) (by simp) ?_
      refine AllReadyIn.cons rfl (fun K hK => ?_) ?_
      · go_simp
        refine hK _ _ ?_
        have h := H1111111111110000000 W acc
        rw [← hR] at h
        exact h
      refine AllReadyIn.cons rfl (fun K hK => ?_) ?_
      · go_simp
        refine hK _ _ ?_
        have h := H1111111111101000000 W acc
        rw [← hR] at h
        exact h
      refine AllReadyIn.cons rfl (fun K hK => ?_) ?_
      · go_simp
        refine hK _ _ ?_
        have h := H1111111111100100000 W acc
        rw [← hR] at h
        exact h
      exact AllReadyIn.nil
    have H1111111111000000000 : ∀ (W : World) (acc : Below t5.heap.size t5 W), R 9 #[true, true, true, true, true, true, true, true, true, true, false, false, false, false, false, false, false, false, false] { tmps := #[a, .int .i64 z, .int .i64 ↑N, undef, undef, undef, .bool false, .pointer (some ⟨w1.heap.size, 0, none⟩), .pointer (some ⟨w1.heap.size + 1, 0, none⟩), .slice gp gl gc, .slice sp2 sl2 sc2, .pointer (some ⟨w3.heap.size, 0, none⟩), .bool true, .tuple #[.agg #[.int .u64 x1, .slice xp xl xc], .agg #[.int .u64 o1, .slice op ol oc], .slice gp gl gc, .slice sp2 sl2 sc2], a, .tuple #[.agg #[.int .u64 x1, .slice xp xl xc], .agg #[.int .u64 o1, .slice op ol oc], .slice gp gl gc, .slice sp2 sl2 sc2], .agg #[.int .u64 x1, .slice xp xl xc], .agg #[.int .u64 o1, .slice op ol oc], .slice gp gl gc, .slice sp2 sl2 sc2, .int .i64 n, .int .i64 ↑pn, .int .i64 z, .int .i64 k, .int .i64 ↑q, .int .i64 ↑N, .tuple #[.agg #[.int .u64 ya, .slice yp yl yc], .bool true], .agg #[.int .u64 x1, .slice xp xl xc], .int .i64 ↑N, .tuple #[.agg #[.int .u64 ya, .slice yp yl yc], .bool true], .agg #[.int .u64 ya, .slice yp yl yc], .bool true, .bool true, .bool false, .bool false, .agg #[.int .u64 x1, .slice xp xl xc], .int .i64 z, .agg #[.int .u64 as1, .slice ps1 ms1 qs1], .slice gp gl gc, .int .i64 z, .slice ps2 ms2 qs2, .bool true, .bool false, .bool false, .bool false, .agg #[.int .u64 x1, .slice xp xl xc], .agg #[.int .u64 as3, .slice ps3 ms3 qs3], .slice gp gl gc, .slice ps4 ms4 qs4, .bool true, .bool false, .bool false, .bool false, .bool true, .int .i64 ↑N, .bool true, .bool false, .bool false, .int .i64 ↑N, .bool false, .bool false, undef, undef, undef, .bool false, .bool false, .int .i64 ↑N, .bool true, undef, undef, undef, undef, undef, undef, undef, undef], defers := [] } W := by
      intro W acc
      rw [← hR]
      have c10 := (uW.below acc lW).c0
      have c11 := (uW.below acc lW).c1
      refine wpAnyIn_ready (rs := [10]) (by kernel_rfl) (by simp) ?_
      refine AllReadyIn.cons rfl (fun K hK => ?_) ?_
      · go_simp
        refine hK _ _ ?_
        have h := H1111111111100000000 W acc
        rw [← hR] at h
        exact h
      exact AllReadyIn.nil
    have H1111111110000000000 : ∀ (W : World) (acc : Below t5.heap.size t5 W), R 10 #[true, true, true, true, true, true, true, true, true, false, false, false, false, false, false, false, false, false, false] { tmps := #[a, .int .i64 z, .int .i64 ↑N, undef, undef, undef, .bool false, .pointer (some ⟨w1.heap.size, 0, none⟩), .pointer (some ⟨w1.heap.size + 1, 0, none⟩), .slice gp gl gc, .slice sp2 sl2 sc2, .pointer (some ⟨w3.heap.size, 0, none⟩), .bool true, .tuple #[.agg #[.int .u64 x1, .slice xp xl xc], .agg #[.int .u64 o1, .slice op ol oc], .slice gp gl gc, .slice sp2 sl2 sc2], a, .tuple #[.agg #[.int .u64 x1, .slice xp xl xc], .agg #[.int .u64 o1, .slice op ol oc], .slice gp gl gc, .slice sp2 sl2 sc2], .agg #[.int .u64 x1, .slice xp xl xc], .agg #[.int .u64 o1, .slice op ol oc], .slice gp gl gc, .slice sp2 sl2 sc2, .int .i64 n, .int .i64 ↑pn, .int .i64 z, .int .i64 k, .int .i64 ↑q, .int .i64 ↑N, .tuple #[.agg #[.int .u64 ya, .slice yp yl yc], .bool true], .agg #[.int .u64 x1, .slice xp xl xc], .int .i64 ↑N, .tuple #[.agg #[.int .u64 ya, .slice yp yl yc], .bool true], .agg #[.int .u64 ya, .slice yp yl yc], .bool true, .bool true, .bool false, .bool false, .agg #[.int .u64 x1, .slice xp xl xc], .int .i64 z, .agg #[.int .u64 as1, .slice ps1 ms1 qs1], .slice gp gl gc, .int .i64 z, .slice ps2 ms2 qs2, .bool true, .bool false, .bool false, .bool false, .agg #[.int .u64 x1, .slice xp xl xc], .agg #[.int .u64 as3, .slice ps3 ms3 qs3], .slice gp gl gc, .slice ps4 ms4 qs4, .bool true, .bool false, .bool false, .bool false, .bool true, .int .i64 ↑N, .bool true, .bool false, .bool false, .int .i64 ↑N, .bool false, .bool false, undef, undef, undef, .bool false, .bool false, .int .i64 ↑N, undef, undef, undef, undef, undef, undef, undef, undef, undef], defers := [] } W := by
      intro W acc
      rw [← hR]
      have c10 := (uW.below acc lW).c0
      have c11 := (uW.below acc lW).c1
      refine wpAnyIn_ready (rs := [9]) (by kernel_rfl) (by simp) ?_
      refine AllReadyIn.cons rfl (fun K hK => ?_) ?_
      · go_simp
        refine hK _ _ ?_
        have h := H1111111111000000000 W acc
        rw [← hR] at h
        exact h
      exact AllReadyIn.nil
    have H1111111100000000000 : ∀ (W : World) (acc : Below t5.heap.size t5 W), R 11 #[true, true, true, true, true, true, true, true, false, false, false, false, false, false, false, false, false, false, false] { tmps := #[a, .int .i64 z, .int .i64 ↑N, undef, undef, undef, .bool false, .pointer (some ⟨w1.heap.size, 0, none⟩), .pointer (some ⟨w1.heap.size + 1, 0, none⟩), .slice gp gl gc, .slice sp2 sl2 sc2, .pointer (some ⟨w3.heap.size, 0, none⟩), .bool true, .tuple #[.agg #[.int .u64 x1, .slice xp xl xc], .agg #[.int .u64 o1, .slice op ol oc], .slice gp gl gc, .slice sp2 sl2 sc2], a, .tuple #[.agg #[.int .u64 x1, .slice xp xl xc], .agg #[.int .u64 o1, .slice op ol oc], .slice gp gl gc, .slice sp2 sl2 sc2], .agg #[.int .u64 x1, .slice xp xl xc], .agg #[.int .u64 o1, .slice op ol oc], .slice gp gl gc, .slice sp2 sl2 sc2, .int .i64 n, .int .i64 ↑pn, .int .i64 z, .int .i64 k, .int .i64 ↑q, .int .i64 ↑N, .tuple #[.agg #[.int .u64 ya, .slice yp yl yc], .bool true], .agg #[.int .u64 x1, .slice xp xl xc], .int .i64 ↑N, .tuple #[.agg #[.int .u64 ya, .slice yp yl yc], .bool true], .agg #[.int .u64 ya, .slice yp yl yc], .bool true, .bool true, .bool false, .bool false, .agg #[.int .u64 x1, .slice xp xl xc], .int .i64 z, .agg #[.int .u64 as1, .slice ps1 ms1 qs1], .slice gp gl gc, .int .i64 z, .slice ps2 ms2 qs2, .bool true, .bool false, .bool false, .bool false, .agg #[.int .u64 x1, .slice xp xl xc], .agg #[.int .u64 as3, .slice ps3 ms3 qs3], .slice gp gl gc, .slice ps4 ms4 qs4, .bool true, .bool false, .bool false, .bool false, .bool true, .int .i64 ↑N, .bool true, .bool false, .bool false, .int .i64 ↑N, .bool false, .bool false, undef, undef, undef, .bool false, .bool false, undef, undef, undef, undef, undef, undef, undef, undef, undef, undef], defers := [] } W := by
      intro W acc
      rw [← hR]
      have c10 := (uW.below acc lW).c0
      have c11 := (uW.below acc lW).c1
      refine wpAnyIn_ready (rs := [8]) (by kernel_rfl) (by simp) ?_
      refine AllReadyIn.cons rfl (fun K hK => ?_) ?_
      · go_simp
        refine hK _ _ ?_
        have h := H1111111110000000000 W acc
        rw [← hR] at h
        exact h
      exact AllReadyIn.nil
    have H1111111000000000000 : ∀ (W : World) (acc : Below t5.heap.size t5 W), R 12 #[true, true, true, true, true, true, true, false, false, false, false, false, false, false, false, false, false, false, false] { tmps := #[a, .int .i64 z, .int .i64 ↑N, undef, undef, undef, .bool false, .pointer (some ⟨w1.heap.size, 0, none⟩), .pointer (some ⟨w1.heap.size + 1, 0, none⟩), .slice gp gl gc, .slice sp2 sl2 sc2, .pointer (some ⟨w3.heap.size, 0, none⟩), .bool true, .tuple #[.agg #[.int .u64 x1, .slice xp xl xc], .agg #[.int .u64 o1, .slice op ol oc], .slice gp gl gc, .slice sp2 sl2 sc2], a, .tuple #[.agg #[.int .u64 x1, .slice xp xl xc], .agg #[.int .u64 o1, .slice op ol oc], .slice gp gl gc, .slice sp2 sl2 sc2], .agg #[.int .u64 x1, .slice xp xl xc], .agg #[.int .u64 o1, .slice op ol oc], .slice gp gl gc, .slice sp2 sl2 sc2, .int .i64 n, .int .i64 ↑pn, .int .i64 z, .int .i64 k, .int .i64 ↑q, .int .i64 ↑N, .tuple #[.agg #[.int .u64 ya, .slice yp yl yc], .bool true], .agg #[.int .u64 x1, .slice xp xl xc], .int .i64 ↑N, .tuple #[.agg #[.int .u64 ya, .slice yp yl yc], .bool true], .agg #[.int .u64 ya, .slice yp yl yc], .bool true, .bool true, .bool false, .bool false, .agg #[.int .u64 x1, .slice xp xl xc], .int .i64 z, .agg #[.int .u64 as1, .slice ps1 ms1 qs1], .slice gp gl gc, .int .i64 z, .slice ps2 ms2 qs2, .bool true, .bool false, .bool false, .bool false, .agg #[.int .u64 x1, .slice xp xl xc], .agg #[.int .u64 as3, .slice ps3 ms3 qs3], .slice gp gl gc, .slice ps4 ms4 qs4, .bool true, .bool false, .bool false, .bool false, .bool true, .int .i64 ↑N, .bool true, .bool false, .bool false, .int .i64 ↑N, .bool false, .bool false, undef, undef, undef, .bool false, undef, undef, undef, undef, undef, undef, undef, undef, undef, undef, undef], defers := [] } W := by
      intro W acc
      rw [← hR]
      have c10 := (uW.below acc lW).c0
      have c11 := (uW.below acc lW).c1
      refine wpAnyIn_ready (rs := [7]) (by kernel_rfl) (by simp) ?_
      refine AllReadyIn.cons rfl (fun K hK => ?_) ?_
      · go_simp
        refine hK _ _ ?_
        have h := H1111111100000000000 W acc
        rw [← hR] at h
        exact h
      exact AllReadyIn.nil
    have H1111110000000000000 : ∀ (W : World) (acc : Below t5.heap.size t5 W), R 13 #[true, true, true, true, true, true, false, false, false, false, false, false, false, false, false, false, false, false, false] { tmps := #[a, .int .i64 z, .int .i64 ↑N, undef, undef, undef, .bool false, .pointer (some ⟨w1.heap.size, 0, none⟩), .pointer (some ⟨w1.heap.size + 1, 0, none⟩), .slice gp gl gc, .slice sp2 sl2 sc2, .pointer (some ⟨w3.heap.size, 0, none⟩), .bool true, .tuple #[.agg #[.int .u64 x1, .slice xp xl xc], .agg #[.int .u64 o1, .slice op ol oc], .slice gp gl gc, .slice sp2 sl2 sc2], a, .tuple #[.agg #[.int .u64 x1, .slice xp xl xc], .agg #[.int .u64 o1, .slice op ol oc], .slice gp gl gc, .slice sp2 sl2 sc2], .agg #[.int .u64 x1, .slice xp xl xc], .agg #[.int .u64 o1, .slice op ol oc], .slice gp gl gc, .slice sp2 sl2 sc2, .int .i64 n, .int .i64 ↑pn, .int .i64 z, .int .i64 k, .int .i64 ↑q, .int .i64 ↑N, .tuple #[.agg #[.int .u64 ya, .slice yp yl yc], .bool true], .agg #[.int .u64 x1, .slice xp xl xc], .int .i64 ↑N, .tuple #[.agg #[.int .u64 ya, .slice yp yl yc], .bool true], .agg #[.int .u64 ya, .slice yp yl yc], .bool true, .bool true, .bool false, .bool false, .agg #[.int .u64 x1, .slice xp xl xc], .int .i64 z, .agg #[.int .u64 as1, .slice ps1 ms1 qs1], .slice gp gl gc, .int .i64 z, .slice ps2 ms2 qs2, .bool true, .bool false, .bool false, .bool false, .agg #[.int .u64 x1, .slice xp xl xc], .agg #[.int .u64 as3, .slice ps3 ms3 qs3], .slice gp gl gc, .slice ps4 ms4 qs4, .bool true, .bool false, .bool false, .bool false, .bool true, .int .i64 ↑N, .bool true, .bool false, .bool false, .int .i64 ↑N, .bool false, .bool false, undef, undef, undef, undef, undef, undef, undef, undef, undef, undef, undef, undef, undef, undef, undef], defers := [] } W := by
      intro W acc
      rw [← hR]
      have c10 := (uW.below acc lW).c0
      have c11 := (uW.below acc lW).c1
      refine wpAnyIn_ready (rs := [6]) (by kernel_rfl) (by simp) ?_
      refine AllReadyIn.cons rfl (fun K hK => ?_) ?_
      · go_simp
        refine hK _ _ ?_
        have h := H1111111000000000000 W acc
        rw [← hR] at h
        exact h
      exact AllReadyIn.nil
    have H1111100000000000000 : ∀ (W : World) (acc : Below t5.heap.size t5 W), R 14 #[true, true, true, true, true, false, false, false, false, false, false, false, false, false, false, false, false, false, false] { tmps := #[a, .int .i64 z, .int .i64 ↑N, undef, undef, undef, .bool false, .pointer (some ⟨w1.heap.size, 0, none⟩), .pointer (some ⟨w1.heap.size + 1, 0, none⟩), .slice gp gl gc, .slice sp2 sl2 sc2, .pointer (some ⟨w3.heap.size, 0, none⟩), .bool true, .tuple #[.agg #[.int .u64 x1, .slice xp xl xc], .agg #[.int .u64 o1, .slice op ol oc], .slice gp gl gc, .slice sp2 sl2 sc2], a, .tuple #[.agg #[.int .u64 x1, .slice xp xl xc], .agg #[.int .u64 o1, .slice op ol oc], .slice gp gl gc, .slice sp2 sl2 sc2], .agg #[.int .u64 x1, .slice xp xl xc], .agg #[.int .u64 o1, .slice op ol oc], .slice gp gl gc, .slice sp2 sl2 sc2, .int .i64 n, .int .i64 ↑pn, .int .i64 z, .int .i64 k, .int .i64 ↑q, .int .i64 ↑N, .tuple #[.agg #[.int .u64 ya, .slice yp yl yc], .bool true], .agg #[.int .u64 x1, .slice xp xl xc], .int .i64 ↑N, .tuple #[.agg #[.int .u64 ya, .slice yp yl yc], .bool true], .agg #[.int .u64 ya, .slice yp yl yc], .bool true, .bool true, .bool false, .bool false, .agg #[.int .u64 x1, .slice xp xl xc], .int .i64 z, .agg #[.int .u64 as1, .slice ps1 ms1 qs1], .slice gp gl gc, .int .i64 z, .slice ps2 ms2 qs2, .bool true, .bool false, .bool false, .bool false, .agg #[.int .u64 x1, .slice xp xl xc], .agg #[.int .u64 as3, .slice ps3 ms3 qs3], .slice gp gl gc, .slice ps4 ms4 qs4, .bool true, .bool false, .bool false, .bool false, .bool true, .int .i64 ↑N, .bool true, .bool false, .bool false, .int .i64 ↑N, .bool false, .bool false, undef, undef, undef, undef, undef, undef, undef, undef, undef, undef, undef, undef, undef, undef, undef], defers := [] } W := by
      intro W acc
      rw [← hR]
      have c10 := (uW.below acc lW).c0
      have c11 := (uW.below acc lW).c1
      refine wpAnyIn_ready (rs := [5]) (by kernel_rfl) (by simp) ?_
      refine AllReadyIn.cons rfl (fun K hK => ?_) ?_
      · go_simp
        try rw [if_neg (fun h => by cases h)]
        try refine ⟨trivial, ?_⟩
        refine hK _ _ ?_
        have h := H1111110000000000000 W acc
        rw [← hR] at h
        exact h
      exact AllReadyIn.nil
    have H1111000000000000000 : ∀ (W : World) (acc : Below t5.heap.size t5 W), R 15 #[true, true, true, true, false, false, false, false, false, false, false, false, false, false, false, false, false, false, false] { tmps := #[a, .int .i64 z, .int .i64 ↑N, undef, undef, undef, .bool false, .pointer (some ⟨w1.heap.size, 0, none⟩), .pointer (some ⟨w1.heap.size + 1, 0, none⟩), .slice gp gl gc, .slice sp2 sl2 sc2, .pointer (some ⟨w3.heap.size, 0, none⟩), .bool true, .tuple #[.agg #[.int .u64 x1, .slice xp xl xc], .agg #[.int .u64 o1, .slice op ol oc], .slice gp gl gc, .slice sp2 sl2 sc2], a, .tuple #[.agg #[.int .u64 x1, .slice xp xl xc], .agg #[.int .u64 o1, .slice op ol oc], .slice gp gl gc, .slice sp2 sl2 sc2], .agg #[.int .u64 x1, .slice xp xl xc], .agg #[.int .u64 o1, .slice op ol oc], .slice gp gl gc, .slice sp2 sl2 sc2, .int .i64 n, .int .i64 ↑pn, .int .i64 z, .int .i64 k, .int .i64 ↑q, .int .i64 ↑N, .tuple #[.agg #[.int .u64 ya, .slice yp yl yc], .bool true], .agg #[.int .u64 x1, .slice xp xl xc], .int .i64 ↑N, .tuple #[.agg #[.int .u64 ya, .slice yp yl yc], .bool true], .agg #[.int .u64 ya, .slice yp yl yc], .bool true, .bool true, .bool false, .bool false, .agg #[.int .u64 x1, .slice xp xl xc], .int .i64 z, .agg #[.int .u64 as1, .slice ps1 ms1 qs1], .slice gp gl gc, .int .i64 z, .slice ps2 ms2 qs2, .bool true, .bool false, .bool false, .bool false, .agg #[.int .u64 x1, .slice xp xl xc], .agg #[.int .u64 as3, .slice ps3 ms3 qs3], .slice gp gl gc, .slice ps4 ms4 qs4, .bool true, .bool false, .bool false, .bool false, .bool true, .int .i64 ↑N, .bool true, .bool false, .bool false, .int .i64 ↑N, .bool false, .bool false, undef, undef, undef, undef, undef, undef, undef, undef, undef, undef, undef, undef, undef, undef, undef], defers := [] } W := by
      intro W acc
      rw [← hR]
      have c10 := (uW.below acc lW).c0
      have c11 := (uW.below acc lW).c1
      refine wpAnyIn_ready (rs := [4]) (by kernel_rfl) (by simp) ?_
      refine AllReadyIn.cons rfl (fun K hK => ?_) ?_
      · go_simp
        try rw [if_neg (fun h => by cases h)]
        try refine ⟨trivial, ?_⟩
        refine hK _ _ ?_
        have h := H1111100000000000000 W acc
        rw [← hR] at h
        exact h
      exact AllReadyIn.nil
    have H1110000000000000000 : ∀ (W : World) (acc : Below t5.heap.size t5 W), R 16 #[true, true, true, false, false, false, false, false, false, false, false, false, false, false, false, false, false, false, false] { tmps := #[a, .int .i64 z, .int .i64 ↑N, undef, undef, undef, .bool false, .pointer (some ⟨w1.heap.size, 0, none⟩), .pointer (some ⟨w1.heap.size + 1, 0, none⟩), .slice gp gl gc, .slice sp2 sl2 sc2, .pointer (some ⟨w3.heap.size, 0, none⟩), .bool true, .tuple #[.agg #[.int .u64 x1, .slice xp xl xc], .agg #[.int .u64 o1, .slice op ol oc], .slice gp gl gc, .slice sp2 sl2 sc2], a, .tuple #[.agg #[.int .u64 x1, .slice xp xl xc], .agg #[.int .u64 o1, .slice op ol oc], .slice gp gl gc, .slice sp2 sl2 sc2], .agg #[.int .u64 x1, .slice xp xl xc], .agg #[.int .u64 o1, .slice op ol oc], .slice gp gl gc, .slice sp2 sl2 sc2, .int .i64 n, .int .i64 ↑pn, .int .i64 z, .int .i64 k, .int .i64 ↑q, .int .i64 ↑N, .tuple #[.agg #[.int .u64 ya, .slice yp yl yc], .bool true], .agg #[.int .u64 x1, .slice xp xl xc], .int .i64 ↑N, .tuple #[.agg #[.int .u64 ya, .slice yp yl yc], .bool true], .agg #[.int .u64 ya, .slice yp yl yc], .bool true, .bool true, .bool false, .bool false, .agg #[.int .u64 x1, .slice xp xl xc], .int .i64 z, .agg #[.int .u64 as1, .slice ps1 ms1 qs1], .slice gp gl gc, .int .i64 z, .slice ps2 ms2 qs2, .bool true, .bool false, .bool false, .bool false, .agg #[.int .u64 x1, .slice xp xl xc], .agg #[.int .u64 as3, .slice ps3 ms3 qs3], .slice gp gl gc, .slice ps4 ms4 qs4, .bool true, .bool false, .bool false, .bool false, .bool true, .int .i64 ↑N, .bool true, .bool false, .bool false, .int .i64 ↑N, .bool false, .bool false, undef, undef, undef, undef, undef, undef, undef, undef, undef, undef, undef, undef, undef, undef, undef], defers := [] } W := by
      intro W acc
      rw [← hR]
      have c10 := (uW.below acc lW).c0
      have c11 := (uW.below acc lW).c1
      refine wpAnyIn_ready (rs := [3]) (by kernel_rfl) (by simp) ?_
      refine AllReadyIn.cons rfl (fun K hK => ?_) ?_
      · go_simp
        try rw [if_neg (fun h => by cases h)]
        try refine ⟨trivial, ?_⟩
        refine hK _ _ ?_
        have h := H1111000000000000000 W acc
        rw [← hR] at h
        exact h
      exact AllReadyIn.nil
    have H1100000000000000000 : ∀ (W : World) (acc : Below t5.heap.size t5 W), R 17 #[true, true, false, false, false, false, false, false, false, false, false, false, false, false, false, false, false, false, false] { tmps := #[a, .int .i64 z, .int .i64 ↑N, undef, undef, undef, .bool false, .pointer (some ⟨w1.heap.size, 0, none⟩), .pointer (some ⟨w1.heap.size + 1, 0, none⟩), .slice gp gl gc, .slice sp2 sl2 sc2, .pointer (some ⟨w3.heap.size, 0, none⟩), .bool true, .tuple #[.agg #[.int .u64 x1, .slice xp xl xc], .agg #[.int .u64 o1, .slice op ol oc], .slice gp gl gc, .slice sp2 sl2 sc2], a, .tuple #[.agg #[.int .u64 x1, .slice xp xl xc], .agg #[.int .u64 o1, .slice op ol oc], .slice gp gl gc, .slice sp2 sl2 sc2], .agg #[.int .u64 x1, .slice xp xl xc], .agg #[.int .u64 o1, .slice op ol oc], .slice gp gl gc, .slice sp2 sl2 sc2, .int .i64 n, .int .i64 ↑pn, .int .i64 z, .int .i64 k, .int .i64 ↑q, .int .i64 ↑N, .tuple #[.agg #[.int .u64 ya, .slice yp yl yc], .bool true], .agg #[.int .u64 x1, .slice xp xl xc], .int .i64 ↑N, .tuple #[.agg #[.int .u64 ya, .slice yp yl yc], .bool true], .agg #[.int .u64 ya, .slice yp yl yc], .bool true, .bool true, .bool false, .bool false, .agg #[.int .u64 x1, .slice xp xl xc], .int .i64 z, .agg #[.int .u64 as1, .slice ps1 ms1 qs1], .slice gp gl gc, .int .i64 z, .slice ps2 ms2 qs2, .bool true, .bool false, .bool false, .bool false, .agg #[.int .u64 x1, .slice xp xl xc], .agg #[.int .u64 as3, .slice ps3 ms3 qs3], .slice gp gl gc, .slice ps4 ms4 qs4, .bool true, .bool false, .bool false, .bool false, .bool true, .int .i64 ↑N, .bool true, .bool false, .bool false, .int .i64 ↑N, .bool false, undef, undef, undef, undef, undef, undef, undef, undef, undef, undef, undef, undef, undef, undef, undef, undef], defers := [] } W := by
      intro W acc
      rw [← hR]
      have c10 := (uW.below acc lW).c0
      have c11 := (uW.below acc lW).c1
      refine wpAnyIn_ready (rs := [2]) (by kernel_rfl) (by simp) ?_
      refine AllReadyIn.cons rfl (fun K hK => ?_) ?_
      · go_simp
        refine hK _ _ ?_
        have h := H1110000000000000000 W acc
        rw [← hR] at h
        exact h
      exact AllReadyIn.nil
    have H1000000000000000000 : ∀ (W : World) (acc : Below t5.heap.size t5 W), R 18 #[true, false, false, false, false, false, false, false, false, false, false, false, false, false, false, false, false, false, false] { tmps := #[a, .int .i64 z, .int .i64 ↑N, undef, undef, undef, .bool false, .pointer (some ⟨w1.heap.size, 0, none⟩), .pointer (some ⟨w1.heap.size + 1, 0, none⟩), .slice gp gl gc, .slice sp2 sl2 sc2, .pointer (some ⟨w3.heap.size, 0, none⟩), .bool true, .tuple #[.agg #[.int .u64 x1, .slice xp xl xc], .agg #[.int .u64 o1, .slice op ol oc], .slice gp gl gc, .slice sp2 sl2 sc2], a, .tuple #[.agg #[.int .u64 x1, .slice xp xl xc], .agg #[.int .u64 o1, .slice op ol oc], .slice gp gl gc, .slice sp2 sl2 sc2], .agg #[.int .u64 x1, .slice xp xl xc], .agg #[.int .u64 o1, .slice op ol oc], .slice gp gl gc, .slice sp2 sl2 sc2, .int .i64 n, .int .i64 ↑pn, .int .i64 z, .int .i64 k, .int .i64 ↑q, .int .i64 ↑N, .tuple #[.agg #[.int .u64 ya, .slice yp yl yc], .bool true], .agg #[.int .u64 x1, .slice xp xl xc], .int .i64 ↑N, .tuple #[.agg #[.int .u64 ya, .slice yp yl yc], .bool true], .agg #[.int .u64 ya, .slice yp yl yc], .bool true, .bool true, .bool false, .bool false, .agg #[.int .u64 x1, .slice xp xl xc], .int .i64 z, .agg #[.int .u64 as1, .slice ps1 ms1 qs1], .slice gp gl gc, .int .i64 z, .slice ps2 ms2 qs2, .bool true, .bool false, .bool false, .bool false, .agg #[.int .u64 x1, .slice xp xl xc], .agg #[.int .u64 as3, .slice ps3 ms3 qs3], .slice gp gl gc, .slice ps4 ms4 qs4, .bool true, .bool false, .bool false, .bool false, .bool true, .int .i64 ↑N, .bool true, .bool false, .bool false, .int .i64 ↑N, undef, undef, undef, undef, undef, undef, undef, undef, undef, undef, undef, undef, undef, undef, undef, undef, undef], defers := [] } W := by
      intro W acc
      rw [← hR]
      have c10 := (uW.below acc lW).c0
      have c11 := (uW.below acc lW).c1
      refine wpAnyIn_ready (rs := [1]) (by kernel_rfl) (by simp) ?_
      refine AllReadyIn.cons rfl (fun K hK => ?_) ?_
      · go_simp
        refine hK _ _ ?_
        have h := H1100000000000000000 W acc
        rw [← hR] at h
        exact h
      exact AllReadyIn.nil
    have H0000000000000000000 : ∀ (W : World) (acc : Below t5.heap.size t5 W), R 19 #[false, false, false, false, false, false, false, false, false, false, false, false, false, false, false, false, false, false, false] { tmps := #[a, .int .i64 z, .int .i64 ↑N, undef, undef, undef, .bool false, .pointer (some ⟨w1.heap.size, 0, none⟩), .pointer (some ⟨w1.heap.size + 1, 0, none⟩), .slice gp gl gc, .slice sp2 sl2 sc2, .pointer (some ⟨w3.heap.size, 0, none⟩), .bool true, .tuple #[.agg #[.int .u64 x1, .slice xp xl xc], .agg #[.int .u64 o1, .slice op ol oc], .slice gp gl gc, .slice sp2 sl2 sc2], a, .tuple #[.agg #[.int .u64 x1, .slice xp xl xc], .agg #[.int .u64 o1, .slice op ol oc], .slice gp gl gc, .slice sp2 sl2 sc2], .agg #[.int .u64 x1, .slice xp xl xc], .agg #[.int .u64 o1, .slice op ol oc], .slice gp gl gc, .slice sp2 sl2 sc2, .int .i64 n, .int .i64 ↑pn, .int .i64 z, .int .i64 k, .int .i64 ↑q, .int .i64 ↑N, .tuple #[.agg #[.int .u64 ya, .slice yp yl yc], .bool true], .agg #[.int .u64 x1, .slice xp xl xc], .int .i64 ↑N, .tuple #[.agg #[.int .u64 ya, .slice yp yl yc], .bool true], .agg #[.int .u64 ya, .slice yp yl yc], .bool true, .bool true, .bool false, .bool false, .agg #[.int .u64 x1, .slice xp xl xc], .int .i64 z, .agg #[.int .u64 as1, .slice ps1 ms1 qs1], .slice gp gl gc, .int .i64 z, .slice ps2 ms2 qs2, .bool true, .bool false, .bool false, .bool false, .agg #[.int .u64 x1, .slice xp xl xc], .agg #[.int .u64 as3, .slice ps3 ms3 qs3], .slice gp gl gc, .slice ps4 ms4 qs4, .bool true, .bool false, .bool false, .bool false, .bool true, .int .i64 ↑N, .bool true, .bool false, .bool false, undef, undef, undef, undef, undef, undef, undef, undef, undef, undef, undef, undef, undef, undef, undef, undef, undef, undef], defers := [] } W := by
      intro W acc
      rw [← hR]
      have c10 := (uW.below acc lW).c0
      have c11 := (uW.below acc lW).c1
      refine wpAnyIn_ready (rs := [0]) (by kernel_rfl) (by simp) ?_
      refine AllReadyIn.cons rfl (fun K hK => ?_) ?_
      · go_simp
        refine hK _ _ ?_
        have h := H1000000000000000000 W acc
        rw [← hR] at h
        exact h
      exact AllReadyIn.nil
    exact H0000000000000000000 t5.drew (Below.refl _ t5).drew
end Go.Proofs.YtogpephnkkofjaaGreatDoor
