/- NatTexts, walked. -/
import Derived.Test.YtjoppmkknbpjbaaGreatDoorTextsKit
import Derived.Test.YtjoppmkknbpjbaaGreatDoorBArg
import Derived.Deep.RegionHeld3
namespace Go.Proofs.YtjoppmkknbpjbaaGreatDoor
open Go.RowKit
set_option linter.unusedVariables false

set_option maxRecDepth 100000 in
set_option maxHeartbeats 4000000 in
theorem natTexts_walk (s : ByteArray) (a : Value) (nz : Int) (w : World) (ha : BArg w a) (hs : s.size ≤ 9223372036854775807) (bn : -9223372036854775808 ≤ nz ∧ nz ≤ 9223372036854775807) (htab : Tab w) :
    Calls Tryz.prog 3 #[.string s, a, .int .i64 nz] w fun e w' => e = .returned (.bool true) ∧ Below w.heap.size w w' := by
  obtain ⟨ok, N, hN, pN, pM⟩ := parse_pair s hs
  have HN := Lib.hid hN
  have HpN := Lib.hid pN
  have HpM := Lib.hid pM
  have Hbn := Lib.hid bn
  clear hN pN pM hs bn
  go_enter Tryz.func3, Tryz.ntmps3
  go_wp2_with fail
  refine (two_any a (.slice none 0 0) w ha (.inl rfl)).mono ?_
  rintro e w1 ⟨x, o, s1, s2, X, O, rfl, hx, ho, hr1, hr2, hb1⟩
  obtain ⟨X0, XB⟩ := ref_pw hr1
  have hp := hr1.num
  obtain ⟨gp, gl, gc, rfl⟩ := hp.shape
  obtain ⟨sp2, sl2, sc2, rfl⟩ := hr2.num.shape
  clear hr1 hr2 ha
  obtain ⟨x1, xp, xl, xc, rfl⟩ := hx.shape
  obtain ⟨o1, op, ol, oc, rfl⟩ := ho.shape
  have z0 := hb1.size
  have u0 : Var ((w1.alloc (.cells #[.int .u64 x1, .slice xp xl xc] 26)).alloc (.cells #[.int .u64 o1, .slice op ol oc] 26)) w1.heap.size (.int .u64 x1) (.slice xp xl xc) := (Var.new w1 w1.heap.size _ _ _ _ rfl).alloc _
  have hB2 : Below w1.heap.size w1 ((w1.alloc (.cells #[.int .u64 x1, .slice xp xl xc] 26)).alloc (.cells #[.int .u64 o1, .slice op ol oc] 26)) := by go_grown
  have XL : X < lpw 12 := by rw [lpw_two]; rw [pw_two] at XB; exact XB
  have X39 : X < pw 39 := Int.lt_of_lt_of_le XB (pw_mono (by decide))
  have HXB := Lib.hid XB
  have HXL := Lib.hid XL
  have HX39 := Lib.hid X39
  clear XB XL X39
  go_wp2_with fail
  generalize ((w1.alloc (.cells #[.int .u64 x1, .slice xp xl xc] 26)).alloc (.cells #[.int .u64 o1, .slice op ol oc] 26)) = w2 at u0 hB2 ⊢
  replace hx := hx.below hB2
  replace hp := hp.below hB2
  have hBw := hb1.trans (hB2.mono z0)
  clear ho hB2 hb1 z0
  refine (HpN.out w2).mono ?_
  rintro e w3 ⟨v, rfl, hv, hb3⟩
  obtain ⟨va, vp, vl, vc, rfl⟩ := hv.shape
  have hB4 : Below w3.heap.size w3 (w3.alloc (.cells #[.int .u64 va, .slice vp vl vc] 26)) := by go_grown
  have u1 : Var (w3.alloc (.cells #[.int .u64 va, .slice vp vl vc] 26)) w3.heap.size (.int .u64 va) (.slice vp vl vc) := Var.new w3 _ _ _ _ _ rfl
  replace hx := (hx.below hb3).below hB4
  replace hp := (hp.below hb3).below hB4
  replace hv := hv.below hB4
  replace u0 := (u0.below hb3 u0.lt).below hB4 (u0.below hb3 u0.lt).lt
  replace hBw := (hBw.trans (hb3.mono hBw.size)).trans (hB4.mono (Nat.le_trans hBw.size hb3.size))
  clear hb3 hB4 HpN
  go_wp2_with fail
  generalize (w3.alloc (.cells #[.int .u64 va, .slice vp vl vc] 26)) = w4 at *
  refine (HpM.out w4).mono ?_
  rintro e w5 ⟨m, rfl, hm, hb5⟩
  obtain ⟨mp, ml, mc, rfl⟩ := hm.shape
  replace hx := hx.below hb5
  replace hp := hp.below hb5
  replace hv := hv.below hb5
  replace u0 := u0.below hb5 u0.lt
  replace u1 := u1.below hb5 u1.lt
  replace hBw := hBw.trans (hb5.mono hBw.size)
  replace htab := htab.below (hBw)
  clear hb5 HpM
  have l0 := u0.lt
  have l1 := u1.lt
  have acc := Below.refl w5.heap.size w5
  have c00 := u0.c0
  have c01 := u0.c1
  have c10 := u1.c0
  have c11 := u1.c1
  go_wp2_with fail
  have q := known_true w5
  (with_reducible refine q.mono ?_); clear q
  rintro e t0 ⟨rfl, hb0⟩
  replace acc := below_acc acc acc.size hb0
  clear hb0
  have c00 := (u0.below acc l0).c0
  have c01 := (u0.below acc l0).c1
  have c10 := (u1.below acc l1).c0
  have c11 := (u1.below acc l1).c1
  go_wp2_with fail
  have q := is_num 11 (by decide) _ _ N HN.out t0 (hv.below acc) (hm.below acc)
  (with_reducible refine q.mono ?_); clear q
  rintro e t1 ⟨rfl, hb1⟩
  replace acc := below_acc acc acc.size hb1
  clear hb1
  have c00 := (u0.below acc l0).c0
  have c01 := (u0.below acc l0).c1
  have c10 := (u1.below acc l1).c0
  have c11 := (u1.below acc l1).c1
  go_wp2_with fail
  have q := text_any _ X t1 (htab.below acc) (hx.below acc) HX39.out
  (with_reducible refine q.mono ?_); clear q
  rintro e t2 ⟨tx, rfl, ht1, hb2⟩
  replace acc := below_acc acc acc.size hb2
  clear hb2
  have c00 := (u0.below acc l0).c0
  have c01 := (u0.below acc l0).c1
  have c10 := (u1.below acc l1).c0
  have c11 := (u1.below acc l1).c1
  go_wp2_with fail
  have q := natText_num 12 (by decide) _ X t2 (hp.below acc) HXL.out
  (with_reducible refine q.mono ?_); clear q
  rintro e t3 ⟨tz, rfl, ht2, hb3⟩
  obtain rfl := ht2.unique ht1
  replace acc := below_acc acc acc.size hb3
  clear hb3
  have c00 := (u0.below acc l0).c0
  have c01 := (u0.below acc l0).c1
  have c10 := (u1.below acc l1).c0
  have c11 := (u1.below acc l1).c1
  go_wp2_with fail
  have q := bits_nat _ X t3 (hx.below acc)
  (with_reducible refine q.mono ?_); clear q
  rintro e t4 ⟨⟨kb, rfl, hkb⟩, hb4⟩
  replace acc := below_acc acc acc.size hb4
  clear hb4
  have c00 := (u0.below acc l0).c0
  have c01 := (u0.below acc l0).c1
  have c10 := (u1.below acc l1).c0
  have c11 := (u1.below acc l1).c1
  go_wp2_with fail
  have q := natBits_b _ X t4 (hp.below acc)
  (with_reducible refine q.mono ?_); clear q
  rintro e t5 ⟨⟨kb2, rfl, hkb2⟩, hb5⟩
  obtain rfl := hkb2.unique hkb
  replace acc := below_acc acc acc.size hb5
  clear hb5
  have c00 := (u0.below acc l0).c0
  have c01 := (u0.below acc l0).c1
  have c10 := (u1.below acc l1).c0
  have c11 := (u1.below acc l1).c1
  go_wp2_with fail
  have q := text_any _ X t5 (htab.below acc) (hx.below acc) HX39.out
  (with_reducible refine q.mono ?_); clear q
  rintro e t6 ⟨ty, rfl, ht3, hb6⟩
  replace acc := below_acc acc acc.size hb6
  clear hb6
  have c00 := (u0.below acc l0).c0
  have c01 := (u0.below acc l0).c1
  have c10 := (u1.below acc l1).c0
  have c11 := (u1.below acc l1).c1
  go_wp2_with fail
  have q := parse_text ht3 HXB.out t6
  (with_reducible refine q.mono ?_); clear q
  rintro e t7 ⟨y, rfl, hy, hb7⟩
  obtain ⟨ya, yp, yl, yc, rfl⟩ := hy.shape
  replace acc := below_acc acc acc.size hb7
  clear hb7
  have c00 := (u0.below acc l0).c0
  have c01 := (u0.below acc l0).c1
  have c10 := (u1.below acc l1).c0
  have c11 := (u1.below acc l1).c1
  have hBY : Below t7.heap.size t7 (t7.alloc (.cells #[.int .u64 ya, .slice yp yl yc] 26)) := by go_grown
  have u2 : Var (t7.alloc (.cells #[.int .u64 ya, .slice yp yl yc] 26)) t7.heap.size (.int .u64 ya) (.slice yp yl yc) := Var.new t7 _ _ _ _ _ rfl
  replace acc := below_acc acc acc.size hBY
  replace hy := hy.below hBY
  clear c00 c01 c10 c11 hBY
  have c00 := (u0.below acc l0).c0
  have c01 := (u0.below acc l0).c1
  go_wp2_with fail
  generalize (t7.alloc (.cells #[.int .u64 ya, .slice yp yl yc] 26)) = w6 at *
  generalize t7.heap.size = cy at *
  replace hBw := hBw.trans (acc.mono hBw.size)
  replace hx := hx.below acc
  replace u0 := u0.below acc l0
  have l0 := u0.lt
  have l2 := u2.lt
  have bX : ∀ k : Nat, IsBits X k → k ≤ 384 := fun k hk => bits_le hk HXB.out
  clear acc c00 c01 hp hv hm htab u1 l1 HN
  refine wpIn_wide (n := 5) |>.1 ?_
  refine region_ways (by kernel_rfl) fun R hR => ?_
  have H111111111 : ∀ (W : World) (acc : Below w6.heap.size w6 W) (p : Nat) (g : Nat) (bb : Nat) (mm : Nat) (d : Nat) (z : Nat) (xr : Int) (pr : Option Addr) (lr cr : Nat) (hr : IsNat W (.agg #[.int .u64 xr, .slice pr lr cr]) X) (c : Nat) (hc : Var W c (.int .u64 xr) (.slice pr lr cr)) (hcn : w6.heap.size ≤ c), R 0 #[true, true, true, true, true, true, true, true, true] { tmps := #[.string s, a, .int .i64 nz, undef, undef, undef, .bool false, .pointer (some ⟨w1.heap.size, 0, none⟩), .pointer (some ⟨w1.heap.size + 1, 0, none⟩), .slice gp gl gc, .slice sp2 sl2 sc2, .pointer (some ⟨w3.heap.size, 0, none⟩), .bool ok, .slice mp ml mc, .bool ok, .pointer (some ⟨cy, 0, none⟩), .bool true, .pointer (some ⟨c, 0, none⟩), .tuple #[.agg #[.int .u64 x1, .slice xp xl xc], .agg #[.int .u64 o1, .slice op ol oc], .slice gp gl gc, .slice sp2 sl2 sc2], a, .tuple #[.agg #[.int .u64 x1, .slice xp xl xc], .agg #[.int .u64 o1, .slice op ol oc], .slice gp gl gc, .slice sp2 sl2 sc2], .agg #[.int .u64 x1, .slice xp xl xc], .agg #[.int .u64 o1, .slice op ol oc], .slice gp gl gc, .slice sp2 sl2 sc2, .tuple #[.agg #[.int .u64 va, .slice vp vl vc], .bool ok], .string s, .tuple #[.agg #[.int .u64 va, .slice vp vl vc], .bool ok], .agg #[.int .u64 va, .slice vp vl vc], .bool ok, .tuple #[.slice mp ml mc, .bool ok], .string s, .tuple #[.slice mp ml mc, .bool ok], .slice mp ml mc, .bool ok, .bool true, .bool false, .bool false, .bool ok, .bool ok, .bool false, .bool false, .bool false, .agg #[.int .u64 va, .slice vp vl vc], .slice mp ml mc, .bool true, .bool false, .bool false, .bool false, .agg #[.int .u64 x1, .slice xp xl xc], .string tz, .slice gp gl gc, .string tz, .bool false, .bool false, .bool false, .agg #[.int .u64 x1, .slice xp xl xc], .int .i64 (kb2 : Int), .slice gp gl gc, .int .i64 (kb2 : Int), .bool false, .bool false, .tuple #[.agg #[.int .u64 ya, .slice yp yl yc], .bool true], .agg #[.int .u64 x1, .slice xp xl xc], .string ty, .tuple #[.agg #[.int .u64 ya, .slice yp yl yc], .bool true], .agg #[.int .u64 ya, .slice yp yl yc], .bool true, .int .i64 nz, .int .i64 (p : Int), .slice (some ⟨g, 0, none⟩) p p, .agg #[.int .u64 x1, .slice xp xl xc], .slice (some ⟨bb, 0, none⟩) mm mm, .slice (some ⟨d, 0, none⟩) (p + mm) (p + mm + z), .agg #[.int .u64 xr, .slice pr lr cr], undef, undef, undef, undef, undef, undef, undef, undef, undef, undef, undef, undef, undef], defers := [] } W := by
    intro W acc p g bb mm d z xr pr lr cr hr c hc hcn
    rw [← hR]
    refine wpAnyIn_done (by kernel_rfl) ?_ _
    have hBwW := hBw.trans (acc.mono hBw.size)
    replace hx := hx.below acc
    replace hy := hy.below acc
    have u0W := u0.below acc l0
    have u2W := u2.below acc l2
    have l0W := u0W.lt
    have l2W := u2W.lt
    have lcW := hc.lt
    clear acc
    have acc := Below.refl W.heap.size W
    have c00 := u0W.c0
    have c01 := u0W.c1
    have c20 := u2W.c0
    have c21 := u2W.c1
    have cc0 := hc.c0
    have cc1 := hc.c1
    go_wp2_with fail
    have q := cmp_alike _ _ X X W (hy.below acc) (hx.below acc) rfl
    (with_reducible refine q.mono ?_); clear q
    rintro e r0 ⟨rfl, hb0⟩
    replace acc := below_acc acc acc.size hb0
    clear hb0
    have c00 := (u0W.below acc l0W).c0
    have c01 := (u0W.below acc l0W).c1
    have c20 := (u2W.below acc l2W).c0
    have c21 := (u2W.below acc l2W).c1
    have cc0 := (hc.below acc lcW).c0
    have cc1 := (hc.below acc lcW).c1
    go_wp2_with fail
    have q := cmp_alike _ _ X X r0 (hr.below acc) (hx.below acc) rfl
    (with_reducible refine q.mono ?_); clear q
    rintro e r1 ⟨rfl, hb1⟩
    replace acc := below_acc acc acc.size hb1
    clear hb1
    have c00 := (u0W.below acc l0W).c0
    have c01 := (u0W.below acc l0W).c1
    have c20 := (u2W.below acc l2W).c0
    have c21 := (u2W.below acc l2W).c1
    have cc0 := (hc.below acc lcW).c0
    have cc1 := (hc.below acc lcW).c1
    go_wp2_with fail
    go_ret
    exact ⟨rfl, hBwW.trans (acc.mono hBwW.size)⟩
  have H111111110 : ∀ (W : World) (acc : Below w6.heap.size w6 W) (p : Nat) (hp9 : (p : Int) < 9) (g : Nat) (hg : Arr W g 5 .u8 (List.replicate p 0)) (hgn : w6.heap.size ≤ g) (bb kx mm : Nat) (hkx : IsBits X kx) (hmm : Hid (mm = (kx + 7) / 8)) (hbb : Arr W bb 5 .u8 (be X mm)) (d z : Nat) (hd : Arr W d 5 .u8 (List.replicate p 0 ++ be X mm ++ List.replicate z 0)) (hz : p + mm + z ≤ 9223372036854775807) (xr : Int) (pr : Option Addr) (lr cr : Nat) (hr : IsNat W (.agg #[.int .u64 xr, .slice pr lr cr]) X) (c : Nat) (hc : Var W c (.int .u64 0) (.slice none 0 0)) (hcn : w6.heap.size ≤ c), R 1 #[true, true, true, true, true, true, true, true, false] { tmps := #[.string s, a, .int .i64 nz, undef, undef, undef, .bool false, .pointer (some ⟨w1.heap.size, 0, none⟩), .pointer (some ⟨w1.heap.size + 1, 0, none⟩), .slice gp gl gc, .slice sp2 sl2 sc2, .pointer (some ⟨w3.heap.size, 0, none⟩), .bool ok, .slice mp ml mc, .bool ok, .pointer (some ⟨cy, 0, none⟩), .bool true, .pointer (some ⟨c, 0, none⟩), .tuple #[.agg #[.int .u64 x1, .slice xp xl xc], .agg #[.int .u64 o1, .slice op ol oc], .slice gp gl gc, .slice sp2 sl2 sc2], a, .tuple #[.agg #[.int .u64 x1, .slice xp xl xc], .agg #[.int .u64 o1, .slice op ol oc], .slice gp gl gc, .slice sp2 sl2 sc2], .agg #[.int .u64 x1, .slice xp xl xc], .agg #[.int .u64 o1, .slice op ol oc], .slice gp gl gc, .slice sp2 sl2 sc2, .tuple #[.agg #[.int .u64 va, .slice vp vl vc], .bool ok], .string s, .tuple #[.agg #[.int .u64 va, .slice vp vl vc], .bool ok], .agg #[.int .u64 va, .slice vp vl vc], .bool ok, .tuple #[.slice mp ml mc, .bool ok], .string s, .tuple #[.slice mp ml mc, .bool ok], .slice mp ml mc, .bool ok, .bool true, .bool false, .bool false, .bool ok, .bool ok, .bool false, .bool false, .bool false, .agg #[.int .u64 va, .slice vp vl vc], .slice mp ml mc, .bool true, .bool false, .bool false, .bool false, .agg #[.int .u64 x1, .slice xp xl xc], .string tz, .slice gp gl gc, .string tz, .bool false, .bool false, .bool false, .agg #[.int .u64 x1, .slice xp xl xc], .int .i64 (kb2 : Int), .slice gp gl gc, .int .i64 (kb2 : Int), .bool false, .bool false, .tuple #[.agg #[.int .u64 ya, .slice yp yl yc], .bool true], .agg #[.int .u64 x1, .slice xp xl xc], .string ty, .tuple #[.agg #[.int .u64 ya, .slice yp yl yc], .bool true], .agg #[.int .u64 ya, .slice yp yl yc], .bool true, .int .i64 nz, .int .i64 (p : Int), .slice (some ⟨g, 0, none⟩) p p, .agg #[.int .u64 x1, .slice xp xl xc], .slice (some ⟨bb, 0, none⟩) mm mm, .slice (some ⟨d, 0, none⟩) (p + mm) (p + mm + z), .agg #[.int .u64 xr, .slice pr lr cr], undef, undef, undef, undef, undef, undef, undef, undef, undef, undef, undef, undef, undef], defers := [] } W := by
    intro W acc p hp9 g hg hgn bb kx mm hkx hmm hbb d z hd hz xr pr lr cr hr c hc hcn
    rw [← hR]
    have c00 := (u0.below acc l0).c0
    have c01 := (u0.below acc l0).c1
    have hmk := fun w => make8 p (p : Int) rfl (by omega) w
    have k0 := hc.c0
    have k1 := hc.c1
    have f0 := hc.free 0
    have f1 := hc.free 1
    refine wpAnyIn_ready (rs := [8]) (by kernel_rfl) (by simp) ?_
    refine AllReadyIn.cons rfl (fun K hK => ?_) ?_
    · go_simp
      refine hK _ _ ?_
      have h := H111111111 ((W.setCell ⟨c, 0, none⟩ (.int .u64 xr)).setCell ⟨c, 1, none⟩ (.slice pr lr cr)) (below_two acc hcn _ _) p g bb mm d z xr pr lr cr (hr.two hc _ _) c (hc.set (.int .u64 xr) pr lr cr) hcn
      rw [← hR] at h
      exact h
    exact AllReadyIn.nil
  have H111111100 : ∀ (W : World) (acc : Below w6.heap.size w6 W) (p : Nat) (hp9 : (p : Int) < 9) (g : Nat) (hg : Arr W g 5 .u8 (List.replicate p 0)) (hgn : w6.heap.size ≤ g) (bb kx mm : Nat) (hkx : IsBits X kx) (hmm : Hid (mm = (kx + 7) / 8)) (hbb : Arr W bb 5 .u8 (be X mm)) (d z : Nat) (hd : Arr W d 5 .u8 (List.replicate p 0 ++ be X mm ++ List.replicate z 0)) (hz : p + mm + z ≤ 9223372036854775807) (xr : Int) (pr : Option Addr) (lr cr : Nat) (hr : IsNat W (.agg #[.int .u64 xr, .slice pr lr cr]) X), R 2 #[true, true, true, true, true, true, true, false, false] { tmps := #[.string s, a, .int .i64 nz, undef, undef, undef, .bool false, .pointer (some ⟨w1.heap.size, 0, none⟩), .pointer (some ⟨w1.heap.size + 1, 0, none⟩), .slice gp gl gc, .slice sp2 sl2 sc2, .pointer (some ⟨w3.heap.size, 0, none⟩), .bool ok, .slice mp ml mc, .bool ok, .pointer (some ⟨cy, 0, none⟩), .bool true, undef, .tuple #[.agg #[.int .u64 x1, .slice xp xl xc], .agg #[.int .u64 o1, .slice op ol oc], .slice gp gl gc, .slice sp2 sl2 sc2], a, .tuple #[.agg #[.int .u64 x1, .slice xp xl xc], .agg #[.int .u64 o1, .slice op ol oc], .slice gp gl gc, .slice sp2 sl2 sc2], .agg #[.int .u64 x1, .slice xp xl xc], .agg #[.int .u64 o1, .slice op ol oc], .slice gp gl gc, .slice sp2 sl2 sc2, .tuple #[.agg #[.int .u64 va, .slice vp vl vc], .bool ok], .string s, .tuple #[.agg #[.int .u64 va, .slice vp vl vc], .bool ok], .agg #[.int .u64 va, .slice vp vl vc], .bool ok, .tuple #[.slice mp ml mc, .bool ok], .string s, .tuple #[.slice mp ml mc, .bool ok], .slice mp ml mc, .bool ok, .bool true, .bool false, .bool false, .bool ok, .bool ok, .bool false, .bool false, .bool false, .agg #[.int .u64 va, .slice vp vl vc], .slice mp ml mc, .bool true, .bool false, .bool false, .bool false, .agg #[.int .u64 x1, .slice xp xl xc], .string tz, .slice gp gl gc, .string tz, .bool false, .bool false, .bool false, .agg #[.int .u64 x1, .slice xp xl xc], .int .i64 (kb2 : Int), .slice gp gl gc, .int .i64 (kb2 : Int), .bool false, .bool false, .tuple #[.agg #[.int .u64 ya, .slice yp yl yc], .bool true], .agg #[.int .u64 x1, .slice xp xl xc], .string ty, .tuple #[.agg #[.int .u64 ya, .slice yp yl yc], .bool true], .agg #[.int .u64 ya, .slice yp yl yc], .bool true, .int .i64 nz, .int .i64 (p : Int), .slice (some ⟨g, 0, none⟩) p p, .agg #[.int .u64 x1, .slice xp xl xc], .slice (some ⟨bb, 0, none⟩) mm mm, .slice (some ⟨d, 0, none⟩) (p + mm) (p + mm + z), .agg #[.int .u64 xr, .slice pr lr cr], undef, undef, undef, undef, undef, undef, undef, undef, undef, undef, undef, undef, undef], defers := [] } W := by
    intro W acc p hp9 g hg hgn bb kx mm hkx hmm hbb d z hd hz xr pr lr cr hr
    rw [← hR]
    have c00 := (u0.below acc l0).c0
    have c01 := (u0.below acc l0).c1
    have hmk := fun w => make8 p (p : Int) rfl (by omega) w
    refine wpAnyIn_ready (rs := [7]) (by kernel_rfl) (by simp) ?_
    refine AllReadyIn.cons rfl (fun K hK => ?_) ?_
    · go_simp
      refine hK _ _ ?_
      have h := H111111110 (W.alloc (.cells #[.int .u64 0, .slice none 0 0] 26)) (acc.alloc acc.size _) p hp9 g (hg.alloc _) hgn bb kx mm hkx hmm (hbb.alloc _) d z (hd.alloc _) hz xr pr lr cr (hr.below ((Below.refl _ W).alloc (Nat.le_refl _) _)) W.heap.size (Var.new W W.heap.size _ _ _ _ rfl) acc.size
      rw [← hR] at h
      exact h
    exact AllReadyIn.nil
  have H111111010 : ∀ (W : World) (acc : Below w6.heap.size w6 W) (p : Nat) (hp9 : (p : Int) < 9) (g : Nat) (hg : Arr W g 5 .u8 (List.replicate p 0)) (hgn : w6.heap.size ≤ g) (bb kx mm : Nat) (hkx : IsBits X kx) (hmm : Hid (mm = (kx + 7) / 8)) (hbb : Arr W bb 5 .u8 (be X mm)) (d z : Nat) (hd : Arr W d 5 .u8 (List.replicate p 0 ++ be X mm ++ List.replicate z 0)) (hz : p + mm + z ≤ 9223372036854775807) (c : Nat) (hc : Var W c (.int .u64 0) (.slice none 0 0)) (hcn : w6.heap.size ≤ c), R 2 #[true, true, true, true, true, true, false, true, false] { tmps := #[.string s, a, .int .i64 nz, undef, undef, undef, .bool false, .pointer (some ⟨w1.heap.size, 0, none⟩), .pointer (some ⟨w1.heap.size + 1, 0, none⟩), .slice gp gl gc, .slice sp2 sl2 sc2, .pointer (some ⟨w3.heap.size, 0, none⟩), .bool ok, .slice mp ml mc, .bool ok, .pointer (some ⟨cy, 0, none⟩), .bool true, .pointer (some ⟨c, 0, none⟩), .tuple #[.agg #[.int .u64 x1, .slice xp xl xc], .agg #[.int .u64 o1, .slice op ol oc], .slice gp gl gc, .slice sp2 sl2 sc2], a, .tuple #[.agg #[.int .u64 x1, .slice xp xl xc], .agg #[.int .u64 o1, .slice op ol oc], .slice gp gl gc, .slice sp2 sl2 sc2], .agg #[.int .u64 x1, .slice xp xl xc], .agg #[.int .u64 o1, .slice op ol oc], .slice gp gl gc, .slice sp2 sl2 sc2, .tuple #[.agg #[.int .u64 va, .slice vp vl vc], .bool ok], .string s, .tuple #[.agg #[.int .u64 va, .slice vp vl vc], .bool ok], .agg #[.int .u64 va, .slice vp vl vc], .bool ok, .tuple #[.slice mp ml mc, .bool ok], .string s, .tuple #[.slice mp ml mc, .bool ok], .slice mp ml mc, .bool ok, .bool true, .bool false, .bool false, .bool ok, .bool ok, .bool false, .bool false, .bool false, .agg #[.int .u64 va, .slice vp vl vc], .slice mp ml mc, .bool true, .bool false, .bool false, .bool false, .agg #[.int .u64 x1, .slice xp xl xc], .string tz, .slice gp gl gc, .string tz, .bool false, .bool false, .bool false, .agg #[.int .u64 x1, .slice xp xl xc], .int .i64 (kb2 : Int), .slice gp gl gc, .int .i64 (kb2 : Int), .bool false, .bool false, .tuple #[.agg #[.int .u64 ya, .slice yp yl yc], .bool true], .agg #[.int .u64 x1, .slice xp xl xc], .string ty, .tuple #[.agg #[.int .u64 ya, .slice yp yl yc], .bool true], .agg #[.int .u64 ya, .slice yp yl yc], .bool true, .int .i64 nz, .int .i64 (p : Int), .slice (some ⟨g, 0, none⟩) p p, .agg #[.int .u64 x1, .slice xp xl xc], .slice (some ⟨bb, 0, none⟩) mm mm, .slice (some ⟨d, 0, none⟩) (p + mm) (p + mm + z), undef, undef, undef, undef, undef, undef, undef, undef, undef, undef, undef, undef, undef, undef], defers := [] } W := by
    intro W acc p hp9 g hg hgn bb kx mm hkx hmm hbb d z hd hz c hc hcn
    rw [← hR]
    have c00 := (u0.below acc l0).c0
    have c01 := (u0.below acc l0).c1
    have hmk := fun w => make8 p (p : Int) rfl (by omega) w
    have k0 := hc.c0
    have k1 := hc.c1
    have f0 := hc.free 0
    have f1 := hc.free 1
    refine wpAnyIn_ready (rs := [6]) (by kernel_rfl) (by simp) ?_
    refine AllReadyIn.cons rfl (fun K hK => ?_) ?_
    · go_simp
      gi_wp2_with (refine ⟨trivial, ?_⟩; gi_at_call 13; refine (callsIn_wide.2 (from_pad d z p mm kx X W hd hkx hmm.out (by omega) (by have := bX kx hkx; have := hmm.out; omega) X0 hz)).mono ?_; rintro e W2 ⟨vr, rfl, hr, hb⟩; obtain ⟨xr, pr, lr, cr, rfl⟩ := hr.shape)
      have h := H111111110 W2 (below_acc acc acc.size hb) p hp9 g (hg.below hb hg.lt) hgn bb kx mm hkx hmm (hbb.below hb hbb.lt) d z (hd.below hb hd.lt) hz xr pr lr cr hr c (hc.below hb hc.lt) hcn
      rw [← hR] at h
      exact h
    exact AllReadyIn.nil
  have H111111000 : ∀ (W : World) (acc : Below w6.heap.size w6 W) (p : Nat) (hp9 : (p : Int) < 9) (g : Nat) (hg : Arr W g 5 .u8 (List.replicate p 0)) (hgn : w6.heap.size ≤ g) (bb kx mm : Nat) (hkx : IsBits X kx) (hmm : Hid (mm = (kx + 7) / 8)) (hbb : Arr W bb 5 .u8 (be X mm)) (d z : Nat) (hd : Arr W d 5 .u8 (List.replicate p 0 ++ be X mm ++ List.replicate z 0)) (hz : p + mm + z ≤ 9223372036854775807), R 3 #[true, true, true, true, true, true, false, false, false] { tmps := #[.string s, a, .int .i64 nz, undef, undef, undef, .bool false, .pointer (some ⟨w1.heap.size, 0, none⟩), .pointer (some ⟨w1.heap.size + 1, 0, none⟩), .slice gp gl gc, .slice sp2 sl2 sc2, .pointer (some ⟨w3.heap.size, 0, none⟩), .bool ok, .slice mp ml mc, .bool ok, .pointer (some ⟨cy, 0, none⟩), .bool true, undef, .tuple #[.agg #[.int .u64 x1, .slice xp xl xc], .agg #[.int .u64 o1, .slice op ol oc], .slice gp gl gc, .slice sp2 sl2 sc2], a, .tuple #[.agg #[.int .u64 x1, .slice xp xl xc], .agg #[.int .u64 o1, .slice op ol oc], .slice gp gl gc, .slice sp2 sl2 sc2], .agg #[.int .u64 x1, .slice xp xl xc], .agg #[.int .u64 o1, .slice op ol oc], .slice gp gl gc, .slice sp2 sl2 sc2, .tuple #[.agg #[.int .u64 va, .slice vp vl vc], .bool ok], .string s, .tuple #[.agg #[.int .u64 va, .slice vp vl vc], .bool ok], .agg #[.int .u64 va, .slice vp vl vc], .bool ok, .tuple #[.slice mp ml mc, .bool ok], .string s, .tuple #[.slice mp ml mc, .bool ok], .slice mp ml mc, .bool ok, .bool true, .bool false, .bool false, .bool ok, .bool ok, .bool false, .bool false, .bool false, .agg #[.int .u64 va, .slice vp vl vc], .slice mp ml mc, .bool true, .bool false, .bool false, .bool false, .agg #[.int .u64 x1, .slice xp xl xc], .string tz, .slice gp gl gc, .string tz, .bool false, .bool false, .bool false, .agg #[.int .u64 x1, .slice xp xl xc], .int .i64 (kb2 : Int), .slice gp gl gc, .int .i64 (kb2 : Int), .bool false, .bool false, .tuple #[.agg #[.int .u64 ya, .slice yp yl yc], .bool true], .agg #[.int .u64 x1, .slice xp xl xc], .string ty, .tuple #[.agg #[.int .u64 ya, .slice yp yl yc], .bool true], .agg #[.int .u64 ya, .slice yp yl yc], .bool true, .int .i64 nz, .int .i64 (p : Int), .slice (some ⟨g, 0, none⟩) p p, .agg #[.int .u64 x1, .slice xp xl xc], .slice (some ⟨bb, 0, none⟩) mm mm, .slice (some ⟨d, 0, none⟩) (p + mm) (p + mm + z), undef, undef, undef, undef, undef, undef, undef, undef, undef, undef, undef, undef, undef, undef], defers := [] } W := by
    intro W acc p hp9 g hg hgn bb kx mm hkx hmm hbb d z hd hz
    rw [← hR]
    have c00 := (u0.below acc l0).c0
    have c01 := (u0.below acc l0).c1
    have hmk := fun w => make8 p (p : Int) rfl (by omega) w
    refine wpAnyIn_ready (rs := [6, 7]) (by kernel_rfl) (by simp) ?_
    refine AllReadyIn.cons rfl (fun K hK => ?_) ?_
    · go_simp
      gi_wp2_with (refine ⟨trivial, ?_⟩; gi_at_call 13; refine (callsIn_wide.2 (from_pad d z p mm kx X W hd hkx hmm.out (by omega) (by have := bX kx hkx; have := hmm.out; omega) X0 hz)).mono ?_; rintro e W2 ⟨vr, rfl, hr, hb⟩; obtain ⟨xr, pr, lr, cr, rfl⟩ := hr.shape)
      have h := H111111100 W2 (below_acc acc acc.size hb) p hp9 g (hg.below hb hg.lt) hgn bb kx mm hkx hmm (hbb.below hb hbb.lt) d z (hd.below hb hd.lt) hz xr pr lr cr hr
      rw [← hR] at h
      exact h
    refine AllReadyIn.cons rfl (fun K hK => ?_) ?_
    · go_simp
      refine hK _ _ ?_
      have h := H111111010 (W.alloc (.cells #[.int .u64 0, .slice none 0 0] 26)) (acc.alloc acc.size _) p hp9 g (hg.alloc _) hgn bb kx mm hkx hmm (hbb.alloc _) d z (hd.alloc _) hz W.heap.size (Var.new W W.heap.size _ _ _ _ rfl) acc.size
      rw [← hR] at h
      exact h
    exact AllReadyIn.nil
  have H111110010 : ∀ (W : World) (acc : Below w6.heap.size w6 W) (p : Nat) (hp9 : (p : Int) < 9) (g : Nat) (hg : Arr W g 5 .u8 (List.replicate p 0)) (hgn : w6.heap.size ≤ g) (bb kx mm : Nat) (hkx : IsBits X kx) (hmm : Hid (mm = (kx + 7) / 8)) (hbb : Arr W bb 5 .u8 (be X mm)) (c : Nat) (hc : Var W c (.int .u64 0) (.slice none 0 0)) (hcn : w6.heap.size ≤ c), R 3 #[true, true, true, true, true, false, false, true, false] { tmps := #[.string s, a, .int .i64 nz, undef, undef, undef, .bool false, .pointer (some ⟨w1.heap.size, 0, none⟩), .pointer (some ⟨w1.heap.size + 1, 0, none⟩), .slice gp gl gc, .slice sp2 sl2 sc2, .pointer (some ⟨w3.heap.size, 0, none⟩), .bool ok, .slice mp ml mc, .bool ok, .pointer (some ⟨cy, 0, none⟩), .bool true, .pointer (some ⟨c, 0, none⟩), .tuple #[.agg #[.int .u64 x1, .slice xp xl xc], .agg #[.int .u64 o1, .slice op ol oc], .slice gp gl gc, .slice sp2 sl2 sc2], a, .tuple #[.agg #[.int .u64 x1, .slice xp xl xc], .agg #[.int .u64 o1, .slice op ol oc], .slice gp gl gc, .slice sp2 sl2 sc2], .agg #[.int .u64 x1, .slice xp xl xc], .agg #[.int .u64 o1, .slice op ol oc], .slice gp gl gc, .slice sp2 sl2 sc2, .tuple #[.agg #[.int .u64 va, .slice vp vl vc], .bool ok], .string s, .tuple #[.agg #[.int .u64 va, .slice vp vl vc], .bool ok], .agg #[.int .u64 va, .slice vp vl vc], .bool ok, .tuple #[.slice mp ml mc, .bool ok], .string s, .tuple #[.slice mp ml mc, .bool ok], .slice mp ml mc, .bool ok, .bool true, .bool false, .bool false, .bool ok, .bool ok, .bool false, .bool false, .bool false, .agg #[.int .u64 va, .slice vp vl vc], .slice mp ml mc, .bool true, .bool false, .bool false, .bool false, .agg #[.int .u64 x1, .slice xp xl xc], .string tz, .slice gp gl gc, .string tz, .bool false, .bool false, .bool false, .agg #[.int .u64 x1, .slice xp xl xc], .int .i64 (kb2 : Int), .slice gp gl gc, .int .i64 (kb2 : Int), .bool false, .bool false, .tuple #[.agg #[.int .u64 ya, .slice yp yl yc], .bool true], .agg #[.int .u64 x1, .slice xp xl xc], .string ty, .tuple #[.agg #[.int .u64 ya, .slice yp yl yc], .bool true], .agg #[.int .u64 ya, .slice yp yl yc], .bool true, .int .i64 nz, .int .i64 (p : Int), .slice (some ⟨g, 0, none⟩) p p, .agg #[.int .u64 x1, .slice xp xl xc], .slice (some ⟨bb, 0, none⟩) mm mm, undef, undef, undef, undef, undef, undef, undef, undef, undef, undef, undef, undef, undef, undef, undef], defers := [] } W := by
    intro W acc p hp9 g hg hgn bb kx mm hkx hmm hbb c hc hcn
    rw [← hR]
    have c00 := (u0.below acc l0).c0
    have c01 := (u0.below acc l0).c1
    have hmk := fun w => make8 p (p : Int) rfl (by omega) w
    have k0 := hc.c0
    have k1 := hc.c1
    have f0 := hc.free 0
    have f1 := hc.free 1
    refine wpAnyIn_ready (rs := [5]) (by kernel_rfl) (by simp) ?_
    refine AllReadyIn.cons rfl (fun K hK => ?_) ?_
    · obtain ⟨d, z, W2, hrun, hd, hz, hb⟩ := app_bytes (X := X) hbb hg (by omega) (by have := bX kx hkx; have := hmm.out; omega)
      refine step_append_in rfl _ _ _ _ rfl _ _ rfl rfl _ _ hrun (hK _ _ ?_)
      have h := H111111010 W2 (below_acc acc acc.size hb) p hp9 g (hg.below hb hg.lt) hgn bb kx mm hkx hmm (hbb.below hb hbb.lt) d z hd hz c (hc.below hb hc.lt) hcn
      rw [← hR] at h
      exact h
    exact AllReadyIn.nil
  have H111110000 : ∀ (W : World) (acc : Below w6.heap.size w6 W) (p : Nat) (hp9 : (p : Int) < 9) (g : Nat) (hg : Arr W g 5 .u8 (List.replicate p 0)) (hgn : w6.heap.size ≤ g) (bb kx mm : Nat) (hkx : IsBits X kx) (hmm : Hid (mm = (kx + 7) / 8)) (hbb : Arr W bb 5 .u8 (be X mm)), R 4 #[true, true, true, true, true, false, false, false, false] { tmps := #[.string s, a, .int .i64 nz, undef, undef, undef, .bool false, .pointer (some ⟨w1.heap.size, 0, none⟩), .pointer (some ⟨w1.heap.size + 1, 0, none⟩), .slice gp gl gc, .slice sp2 sl2 sc2, .pointer (some ⟨w3.heap.size, 0, none⟩), .bool ok, .slice mp ml mc, .bool ok, .pointer (some ⟨cy, 0, none⟩), .bool true, undef, .tuple #[.agg #[.int .u64 x1, .slice xp xl xc], .agg #[.int .u64 o1, .slice op ol oc], .slice gp gl gc, .slice sp2 sl2 sc2], a, .tuple #[.agg #[.int .u64 x1, .slice xp xl xc], .agg #[.int .u64 o1, .slice op ol oc], .slice gp gl gc, .slice sp2 sl2 sc2], .agg #[.int .u64 x1, .slice xp xl xc], .agg #[.int .u64 o1, .slice op ol oc], .slice gp gl gc, .slice sp2 sl2 sc2, .tuple #[.agg #[.int .u64 va, .slice vp vl vc], .bool ok], .string s, .tuple #[.agg #[.int .u64 va, .slice vp vl vc], .bool ok], .agg #[.int .u64 va, .slice vp vl vc], .bool ok, .tuple #[.slice mp ml mc, .bool ok], .string s, .tuple #[.slice mp ml mc, .bool ok], .slice mp ml mc, .bool ok, .bool true, .bool false, .bool false, .bool ok, .bool ok, .bool false, .bool false, .bool false, .agg #[.int .u64 va, .slice vp vl vc], .slice mp ml mc, .bool true, .bool false, .bool false, .bool false, .agg #[.int .u64 x1, .slice xp xl xc], .string tz, .slice gp gl gc, .string tz, .bool false, .bool false, .bool false, .agg #[.int .u64 x1, .slice xp xl xc], .int .i64 (kb2 : Int), .slice gp gl gc, .int .i64 (kb2 : Int), .bool false, .bool false, .tuple #[.agg #[.int .u64 ya, .slice yp yl yc], .bool true], .agg #[.int .u64 x1, .slice xp xl xc], .string ty, .tuple #[.agg #[.int .u64 ya, .slice yp yl yc], .bool true], .agg #[.int .u64 ya, .slice yp yl yc], .bool true, .int .i64 nz, .int .i64 (p : Int), .slice (some ⟨g, 0, none⟩) p p, .agg #[.int .u64 x1, .slice xp xl xc], .slice (some ⟨bb, 0, none⟩) mm mm, undef, undef, undef, undef, undef, undef, undef, undef, undef, undef, undef, undef, undef, undef, undef], defers := [] } W := by
    intro W acc p hp9 g hg hgn bb kx mm hkx hmm hbb
    rw [← hR]
    have c00 := (u0.below acc l0).c0
    have c01 := (u0.below acc l0).c1
    have hmk := fun w => make8 p (p : Int) rfl (by omega) w
    refine wpAnyIn_ready (rs := [5, 7]) (by kernel_rfl) (by simp) ?_
    refine AllReadyIn.cons rfl (fun K hK => ?_) ?_
    · obtain ⟨d, z, W2, hrun, hd, hz, hb⟩ := app_bytes (X := X) hbb hg (by omega) (by have := bX kx hkx; have := hmm.out; omega)
      refine step_append_in rfl _ _ _ _ rfl _ _ rfl rfl _ _ hrun (hK _ _ ?_)
      have h := H111111000 W2 (below_acc acc acc.size hb) p hp9 g (hg.below hb hg.lt) hgn bb kx mm hkx hmm (hbb.below hb hbb.lt) d z hd hz
      rw [← hR] at h
      exact h
    refine AllReadyIn.cons rfl (fun K hK => ?_) ?_
    · go_simp
      refine hK _ _ ?_
      have h := H111110010 (W.alloc (.cells #[.int .u64 0, .slice none 0 0] 26)) (acc.alloc acc.size _) p hp9 g (hg.alloc _) hgn bb kx mm hkx hmm (hbb.alloc _) W.heap.size (Var.new W W.heap.size _ _ _ _ rfl) acc.size
      rw [← hR] at h
      exact h
    exact AllReadyIn.nil
  have H111100010 : ∀ (W : World) (acc : Below w6.heap.size w6 W) (p : Nat) (hp9 : (p : Int) < 9) (g : Nat) (hg : Arr W g 5 .u8 (List.replicate p 0)) (hgn : w6.heap.size ≤ g) (c : Nat) (hc : Var W c (.int .u64 0) (.slice none 0 0)) (hcn : w6.heap.size ≤ c), R 4 #[true, true, true, true, false, false, false, true, false] { tmps := #[.string s, a, .int .i64 nz, undef, undef, undef, .bool false, .pointer (some ⟨w1.heap.size, 0, none⟩), .pointer (some ⟨w1.heap.size + 1, 0, none⟩), .slice gp gl gc, .slice sp2 sl2 sc2, .pointer (some ⟨w3.heap.size, 0, none⟩), .bool ok, .slice mp ml mc, .bool ok, .pointer (some ⟨cy, 0, none⟩), .bool true, .pointer (some ⟨c, 0, none⟩), .tuple #[.agg #[.int .u64 x1, .slice xp xl xc], .agg #[.int .u64 o1, .slice op ol oc], .slice gp gl gc, .slice sp2 sl2 sc2], a, .tuple #[.agg #[.int .u64 x1, .slice xp xl xc], .agg #[.int .u64 o1, .slice op ol oc], .slice gp gl gc, .slice sp2 sl2 sc2], .agg #[.int .u64 x1, .slice xp xl xc], .agg #[.int .u64 o1, .slice op ol oc], .slice gp gl gc, .slice sp2 sl2 sc2, .tuple #[.agg #[.int .u64 va, .slice vp vl vc], .bool ok], .string s, .tuple #[.agg #[.int .u64 va, .slice vp vl vc], .bool ok], .agg #[.int .u64 va, .slice vp vl vc], .bool ok, .tuple #[.slice mp ml mc, .bool ok], .string s, .tuple #[.slice mp ml mc, .bool ok], .slice mp ml mc, .bool ok, .bool true, .bool false, .bool false, .bool ok, .bool ok, .bool false, .bool false, .bool false, .agg #[.int .u64 va, .slice vp vl vc], .slice mp ml mc, .bool true, .bool false, .bool false, .bool false, .agg #[.int .u64 x1, .slice xp xl xc], .string tz, .slice gp gl gc, .string tz, .bool false, .bool false, .bool false, .agg #[.int .u64 x1, .slice xp xl xc], .int .i64 (kb2 : Int), .slice gp gl gc, .int .i64 (kb2 : Int), .bool false, .bool false, .tuple #[.agg #[.int .u64 ya, .slice yp yl yc], .bool true], .agg #[.int .u64 x1, .slice xp xl xc], .string ty, .tuple #[.agg #[.int .u64 ya, .slice yp yl yc], .bool true], .agg #[.int .u64 ya, .slice yp yl yc], .bool true, .int .i64 nz, .int .i64 (p : Int), .slice (some ⟨g, 0, none⟩) p p, .agg #[.int .u64 x1, .slice xp xl xc], undef, undef, undef, undef, undef, undef, undef, undef, undef, undef, undef, undef, undef, undef, undef, undef], defers := [] } W := by
    intro W acc p hp9 g hg hgn c hc hcn
    rw [← hR]
    have c00 := (u0.below acc l0).c0
    have c01 := (u0.below acc l0).c1
    have hmk := fun w => make8 p (p : Int) rfl (by omega) w
    have k0 := hc.c0
    have k1 := hc.c1
    have f0 := hc.free 0
    have f1 := hc.free 1
    refine wpAnyIn_ready (rs := [4]) (by kernel_rfl) (by simp) ?_
    refine AllReadyIn.cons rfl (fun K hK => ?_) ?_
    · go_simp
      gi_wp2_with (refine ⟨trivial, ?_⟩; gi_at_call 15; refine (callsIn_wide.2 (bytes_any 39 (by decide) _ X W (hx.below acc) HX39.out)).mono ?_; rintro e W2 ⟨bb, kx, mm, rfl, hkx, hmm, hbb, _, hb⟩; replace hmm := Lib.hid hmm)
      have h := H111110010 W2 (below_acc acc acc.size hb) p hp9 g (hg.below hb hg.lt) hgn bb kx mm hkx hmm hbb c (hc.below hb hc.lt) hcn
      rw [← hR] at h
      exact h
    exact AllReadyIn.nil
  have H111100000 : ∀ (W : World) (acc : Below w6.heap.size w6 W) (p : Nat) (hp9 : (p : Int) < 9) (g : Nat) (hg : Arr W g 5 .u8 (List.replicate p 0)) (hgn : w6.heap.size ≤ g), R 5 #[true, true, true, true, false, false, false, false, false] { tmps := #[.string s, a, .int .i64 nz, undef, undef, undef, .bool false, .pointer (some ⟨w1.heap.size, 0, none⟩), .pointer (some ⟨w1.heap.size + 1, 0, none⟩), .slice gp gl gc, .slice sp2 sl2 sc2, .pointer (some ⟨w3.heap.size, 0, none⟩), .bool ok, .slice mp ml mc, .bool ok, .pointer (some ⟨cy, 0, none⟩), .bool true, undef, .tuple #[.agg #[.int .u64 x1, .slice xp xl xc], .agg #[.int .u64 o1, .slice op ol oc], .slice gp gl gc, .slice sp2 sl2 sc2], a, .tuple #[.agg #[.int .u64 x1, .slice xp xl xc], .agg #[.int .u64 o1, .slice op ol oc], .slice gp gl gc, .slice sp2 sl2 sc2], .agg #[.int .u64 x1, .slice xp xl xc], .agg #[.int .u64 o1, .slice op ol oc], .slice gp gl gc, .slice sp2 sl2 sc2, .tuple #[.agg #[.int .u64 va, .slice vp vl vc], .bool ok], .string s, .tuple #[.agg #[.int .u64 va, .slice vp vl vc], .bool ok], .agg #[.int .u64 va, .slice vp vl vc], .bool ok, .tuple #[.slice mp ml mc, .bool ok], .string s, .tuple #[.slice mp ml mc, .bool ok], .slice mp ml mc, .bool ok, .bool true, .bool false, .bool false, .bool ok, .bool ok, .bool false, .bool false, .bool false, .agg #[.int .u64 va, .slice vp vl vc], .slice mp ml mc, .bool true, .bool false, .bool false, .bool false, .agg #[.int .u64 x1, .slice xp xl xc], .string tz, .slice gp gl gc, .string tz, .bool false, .bool false, .bool false, .agg #[.int .u64 x1, .slice xp xl xc], .int .i64 (kb2 : Int), .slice gp gl gc, .int .i64 (kb2 : Int), .bool false, .bool false, .tuple #[.agg #[.int .u64 ya, .slice yp yl yc], .bool true], .agg #[.int .u64 x1, .slice xp xl xc], .string ty, .tuple #[.agg #[.int .u64 ya, .slice yp yl yc], .bool true], .agg #[.int .u64 ya, .slice yp yl yc], .bool true, .int .i64 nz, .int .i64 (p : Int), .slice (some ⟨g, 0, none⟩) p p, .agg #[.int .u64 x1, .slice xp xl xc], undef, undef, undef, undef, undef, undef, undef, undef, undef, undef, undef, undef, undef, undef, undef, undef], defers := [] } W := by
    intro W acc p hp9 g hg hgn
    rw [← hR]
    have c00 := (u0.below acc l0).c0
    have c01 := (u0.below acc l0).c1
    have hmk := fun w => make8 p (p : Int) rfl (by omega) w
    refine wpAnyIn_ready (rs := [4, 7]) (by kernel_rfl) (by simp) ?_
    refine AllReadyIn.cons rfl (fun K hK => ?_) ?_
    · go_simp
      gi_wp2_with (refine ⟨trivial, ?_⟩; gi_at_call 15; refine (callsIn_wide.2 (bytes_any 39 (by decide) _ X W (hx.below acc) HX39.out)).mono ?_; rintro e W2 ⟨bb, kx, mm, rfl, hkx, hmm, hbb, _, hb⟩; replace hmm := Lib.hid hmm)
      have h := H111110000 W2 (below_acc acc acc.size hb) p hp9 g (hg.below hb hg.lt) hgn bb kx mm hkx hmm hbb
      rw [← hR] at h
      exact h
    refine AllReadyIn.cons rfl (fun K hK => ?_) ?_
    · go_simp
      refine hK _ _ ?_
      have h := H111100010 (W.alloc (.cells #[.int .u64 0, .slice none 0 0] 26)) (acc.alloc acc.size _) p hp9 g (hg.alloc _) hgn W.heap.size (Var.new W W.heap.size _ _ _ _ rfl) acc.size
      rw [← hR] at h
      exact h
    exact AllReadyIn.nil
  have H111000010 : ∀ (W : World) (acc : Below w6.heap.size w6 W) (p : Nat) (hp9 : (p : Int) < 9) (g : Nat) (hg : Arr W g 5 .u8 (List.replicate p 0)) (hgn : w6.heap.size ≤ g) (c : Nat) (hc : Var W c (.int .u64 0) (.slice none 0 0)) (hcn : w6.heap.size ≤ c), R 5 #[true, true, true, false, false, false, false, true, false] { tmps := #[.string s, a, .int .i64 nz, undef, undef, undef, .bool false, .pointer (some ⟨w1.heap.size, 0, none⟩), .pointer (some ⟨w1.heap.size + 1, 0, none⟩), .slice gp gl gc, .slice sp2 sl2 sc2, .pointer (some ⟨w3.heap.size, 0, none⟩), .bool ok, .slice mp ml mc, .bool ok, .pointer (some ⟨cy, 0, none⟩), .bool true, .pointer (some ⟨c, 0, none⟩), .tuple #[.agg #[.int .u64 x1, .slice xp xl xc], .agg #[.int .u64 o1, .slice op ol oc], .slice gp gl gc, .slice sp2 sl2 sc2], a, .tuple #[.agg #[.int .u64 x1, .slice xp xl xc], .agg #[.int .u64 o1, .slice op ol oc], .slice gp gl gc, .slice sp2 sl2 sc2], .agg #[.int .u64 x1, .slice xp xl xc], .agg #[.int .u64 o1, .slice op ol oc], .slice gp gl gc, .slice sp2 sl2 sc2, .tuple #[.agg #[.int .u64 va, .slice vp vl vc], .bool ok], .string s, .tuple #[.agg #[.int .u64 va, .slice vp vl vc], .bool ok], .agg #[.int .u64 va, .slice vp vl vc], .bool ok, .tuple #[.slice mp ml mc, .bool ok], .string s, .tuple #[.slice mp ml mc, .bool ok], .slice mp ml mc, .bool ok, .bool true, .bool false, .bool false, .bool ok, .bool ok, .bool false, .bool false, .bool false, .agg #[.int .u64 va, .slice vp vl vc], .slice mp ml mc, .bool true, .bool false, .bool false, .bool false, .agg #[.int .u64 x1, .slice xp xl xc], .string tz, .slice gp gl gc, .string tz, .bool false, .bool false, .bool false, .agg #[.int .u64 x1, .slice xp xl xc], .int .i64 (kb2 : Int), .slice gp gl gc, .int .i64 (kb2 : Int), .bool false, .bool false, .tuple #[.agg #[.int .u64 ya, .slice yp yl yc], .bool true], .agg #[.int .u64 x1, .slice xp xl xc], .string ty, .tuple #[.agg #[.int .u64 ya, .slice yp yl yc], .bool true], .agg #[.int .u64 ya, .slice yp yl yc], .bool true, .int .i64 nz, .int .i64 (p : Int), .slice (some ⟨g, 0, none⟩) p p, undef, undef, undef, undef, undef, undef, undef, undef, undef, undef, undef, undef, undef, undef, undef, undef, undef], defers := [] } W := by
    intro W acc p hp9 g hg hgn c hc hcn
    rw [← hR]
    have c00 := (u0.below acc l0).c0
    have c01 := (u0.below acc l0).c1
    have hmk := fun w => make8 p (p : Int) rfl (by omega) w
    have k0 := hc.c0
    have k1 := hc.c1
    have f0 := hc.free 0
    have f1 := hc.free 1
    refine wpAnyIn_ready (rs := [3]) (by kernel_rfl) (by simp) ?_
    refine AllReadyIn.cons rfl (fun K hK => ?_) ?_
    · go_simp
      refine hK _ _ ?_
      have h := H111100010 W acc p hp9 g hg hgn c hc hcn
      rw [← hR] at h
      exact h
    exact AllReadyIn.nil
  have H111000000 : ∀ (W : World) (acc : Below w6.heap.size w6 W) (p : Nat) (hp9 : (p : Int) < 9) (g : Nat) (hg : Arr W g 5 .u8 (List.replicate p 0)) (hgn : w6.heap.size ≤ g), R 6 #[true, true, true, false, false, false, false, false, false] { tmps := #[.string s, a, .int .i64 nz, undef, undef, undef, .bool false, .pointer (some ⟨w1.heap.size, 0, none⟩), .pointer (some ⟨w1.heap.size + 1, 0, none⟩), .slice gp gl gc, .slice sp2 sl2 sc2, .pointer (some ⟨w3.heap.size, 0, none⟩), .bool ok, .slice mp ml mc, .bool ok, .pointer (some ⟨cy, 0, none⟩), .bool true, undef, .tuple #[.agg #[.int .u64 x1, .slice xp xl xc], .agg #[.int .u64 o1, .slice op ol oc], .slice gp gl gc, .slice sp2 sl2 sc2], a, .tuple #[.agg #[.int .u64 x1, .slice xp xl xc], .agg #[.int .u64 o1, .slice op ol oc], .slice gp gl gc, .slice sp2 sl2 sc2], .agg #[.int .u64 x1, .slice xp xl xc], .agg #[.int .u64 o1, .slice op ol oc], .slice gp gl gc, .slice sp2 sl2 sc2, .tuple #[.agg #[.int .u64 va, .slice vp vl vc], .bool ok], .string s, .tuple #[.agg #[.int .u64 va, .slice vp vl vc], .bool ok], .agg #[.int .u64 va, .slice vp vl vc], .bool ok, .tuple #[.slice mp ml mc, .bool ok], .string s, .tuple #[.slice mp ml mc, .bool ok], .slice mp ml mc, .bool ok, .bool true, .bool false, .bool false, .bool ok, .bool ok, .bool false, .bool false, .bool false, .agg #[.int .u64 va, .slice vp vl vc], .slice mp ml mc, .bool true, .bool false, .bool false, .bool false, .agg #[.int .u64 x1, .slice xp xl xc], .string tz, .slice gp gl gc, .string tz, .bool false, .bool false, .bool false, .agg #[.int .u64 x1, .slice xp xl xc], .int .i64 (kb2 : Int), .slice gp gl gc, .int .i64 (kb2 : Int), .bool false, .bool false, .tuple #[.agg #[.int .u64 ya, .slice yp yl yc], .bool true], .agg #[.int .u64 x1, .slice xp xl xc], .string ty, .tuple #[.agg #[.int .u64 ya, .slice yp yl yc], .bool true], .agg #[.int .u64 ya, .slice yp yl yc], .bool true, .int .i64 nz, .int .i64 (p : Int), .slice (some ⟨g, 0, none⟩) p p, undef, undef, undef, undef, undef, undef, undef, undef, undef, undef, undef, undef, undef, undef, undef, undef, undef], defers := [] } W := by
    intro W acc p hp9 g hg hgn
    rw [← hR]
    have c00 := (u0.below acc l0).c0
    have c01 := (u0.below acc l0).c1
    have hmk := fun w => make8 p (p : Int) rfl (by omega) w
    refine wpAnyIn_ready (rs := [3, 7]) (by kernel_rfl) (by simp) ?_
    refine AllReadyIn.cons rfl (fun K hK => ?_) ?_
    · go_simp
      refine hK _ _ ?_
      have h := H111100000 W acc p hp9 g hg hgn
      rw [← hR] at h
      exact h
    refine AllReadyIn.cons rfl (fun K hK => ?_) ?_
    · go_simp
      refine hK _ _ ?_
      have h := H111000010 (W.alloc (.cells #[.int .u64 0, .slice none 0 0] 26)) (acc.alloc acc.size _) p hp9 g (hg.alloc _) hgn W.heap.size (Var.new W W.heap.size _ _ _ _ rfl) acc.size
      rw [← hR] at h
      exact h
    exact AllReadyIn.nil
  have H110110010 : ∀ (W : World) (acc : Below w6.heap.size w6 W) (p : Nat) (hp9 : (p : Int) < 9) (bb kx mm : Nat) (hkx : IsBits X kx) (hmm : Hid (mm = (kx + 7) / 8)) (hbb : Arr W bb 5 .u8 (be X mm)) (c : Nat) (hc : Var W c (.int .u64 0) (.slice none 0 0)) (hcn : w6.heap.size ≤ c), R 4 #[true, true, false, true, true, false, false, true, false] { tmps := #[.string s, a, .int .i64 nz, undef, undef, undef, .bool false, .pointer (some ⟨w1.heap.size, 0, none⟩), .pointer (some ⟨w1.heap.size + 1, 0, none⟩), .slice gp gl gc, .slice sp2 sl2 sc2, .pointer (some ⟨w3.heap.size, 0, none⟩), .bool ok, .slice mp ml mc, .bool ok, .pointer (some ⟨cy, 0, none⟩), .bool true, .pointer (some ⟨c, 0, none⟩), .tuple #[.agg #[.int .u64 x1, .slice xp xl xc], .agg #[.int .u64 o1, .slice op ol oc], .slice gp gl gc, .slice sp2 sl2 sc2], a, .tuple #[.agg #[.int .u64 x1, .slice xp xl xc], .agg #[.int .u64 o1, .slice op ol oc], .slice gp gl gc, .slice sp2 sl2 sc2], .agg #[.int .u64 x1, .slice xp xl xc], .agg #[.int .u64 o1, .slice op ol oc], .slice gp gl gc, .slice sp2 sl2 sc2, .tuple #[.agg #[.int .u64 va, .slice vp vl vc], .bool ok], .string s, .tuple #[.agg #[.int .u64 va, .slice vp vl vc], .bool ok], .agg #[.int .u64 va, .slice vp vl vc], .bool ok, .tuple #[.slice mp ml mc, .bool ok], .string s, .tuple #[.slice mp ml mc, .bool ok], .slice mp ml mc, .bool ok, .bool true, .bool false, .bool false, .bool ok, .bool ok, .bool false, .bool false, .bool false, .agg #[.int .u64 va, .slice vp vl vc], .slice mp ml mc, .bool true, .bool false, .bool false, .bool false, .agg #[.int .u64 x1, .slice xp xl xc], .string tz, .slice gp gl gc, .string tz, .bool false, .bool false, .bool false, .agg #[.int .u64 x1, .slice xp xl xc], .int .i64 (kb2 : Int), .slice gp gl gc, .int .i64 (kb2 : Int), .bool false, .bool false, .tuple #[.agg #[.int .u64 ya, .slice yp yl yc], .bool true], .agg #[.int .u64 x1, .slice xp xl xc], .string ty, .tuple #[.agg #[.int .u64 ya, .slice yp yl yc], .bool true], .agg #[.int .u64 ya, .slice yp yl yc], .bool true, .int .i64 nz, .int .i64 (p : Int), undef, .agg #[.int .u64 x1, .slice xp xl xc], .slice (some ⟨bb, 0, none⟩) mm mm, undef, undef, undef, undef, undef, undef, undef, undef, undef, undef, undef, undef, undef, undef, undef], defers := [] } W := by
    intro W acc p hp9 bb kx mm hkx hmm hbb c hc hcn
    rw [← hR]
    have c00 := (u0.below acc l0).c0
    have c01 := (u0.below acc l0).c1
    have hmk := fun w => make8 p (p : Int) rfl (by omega) w
    have k0 := hc.c0
    have k1 := hc.c1
    have f0 := hc.free 0
    have f1 := hc.free 1
    refine wpAnyIn_ready (rs := [2]) (by kernel_rfl) (by simp) ?_
    refine AllReadyIn.cons rfl (fun K hK => ?_) ?_
    · go_simp
      refine hK _ _ ?_
      have h := H111110010 (W.alloc (.cells (zeros .u8 p) 5)) (acc.alloc acc.size _) p hp9 W.heap.size (Arr.zeros W 5 .u8 p _ rfl) acc.size bb kx mm hkx hmm (hbb.alloc _) c (hc.alloc _) hcn
      rw [← hR] at h
      exact h
    exact AllReadyIn.nil
  have H110110000 : ∀ (W : World) (acc : Below w6.heap.size w6 W) (p : Nat) (hp9 : (p : Int) < 9) (bb kx mm : Nat) (hkx : IsBits X kx) (hmm : Hid (mm = (kx + 7) / 8)) (hbb : Arr W bb 5 .u8 (be X mm)), R 5 #[true, true, false, true, true, false, false, false, false] { tmps := #[.string s, a, .int .i64 nz, undef, undef, undef, .bool false, .pointer (some ⟨w1.heap.size, 0, none⟩), .pointer (some ⟨w1.heap.size + 1, 0, none⟩), .slice gp gl gc, .slice sp2 sl2 sc2, .pointer (some ⟨w3.heap.size, 0, none⟩), .bool ok, .slice mp ml mc, .bool ok, .pointer (some ⟨cy, 0, none⟩), .bool true, undef, .tuple #[.agg #[.int .u64 x1, .slice xp xl xc], .agg #[.int .u64 o1, .slice op ol oc], .slice gp gl gc, .slice sp2 sl2 sc2], a, .tuple #[.agg #[.int .u64 x1, .slice xp xl xc], .agg #[.int .u64 o1, .slice op ol oc], .slice gp gl gc, .slice sp2 sl2 sc2], .agg #[.int .u64 x1, .slice xp xl xc], .agg #[.int .u64 o1, .slice op ol oc], .slice gp gl gc, .slice sp2 sl2 sc2, .tuple #[.agg #[.int .u64 va, .slice vp vl vc], .bool ok], .string s, .tuple #[.agg #[.int .u64 va, .slice vp vl vc], .bool ok], .agg #[.int .u64 va, .slice vp vl vc], .bool ok, .tuple #[.slice mp ml mc, .bool ok], .string s, .tuple #[.slice mp ml mc, .bool ok], .slice mp ml mc, .bool ok, .bool true, .bool false, .bool false, .bool ok, .bool ok, .bool false, .bool false, .bool false, .agg #[.int .u64 va, .slice vp vl vc], .slice mp ml mc, .bool true, .bool false, .bool false, .bool false, .agg #[.int .u64 x1, .slice xp xl xc], .string tz, .slice gp gl gc, .string tz, .bool false, .bool false, .bool false, .agg #[.int .u64 x1, .slice xp xl xc], .int .i64 (kb2 : Int), .slice gp gl gc, .int .i64 (kb2 : Int), .bool false, .bool false, .tuple #[.agg #[.int .u64 ya, .slice yp yl yc], .bool true], .agg #[.int .u64 x1, .slice xp xl xc], .string ty, .tuple #[.agg #[.int .u64 ya, .slice yp yl yc], .bool true], .agg #[.int .u64 ya, .slice yp yl yc], .bool true, .int .i64 nz, .int .i64 (p : Int), undef, .agg #[.int .u64 x1, .slice xp xl xc], .slice (some ⟨bb, 0, none⟩) mm mm, undef, undef, undef, undef, undef, undef, undef, undef, undef, undef, undef, undef, undef, undef, undef], defers := [] } W := by
    intro W acc p hp9 bb kx mm hkx hmm hbb
    rw [← hR]
    have c00 := (u0.below acc l0).c0
    have c01 := (u0.below acc l0).c1
    have hmk := fun w => make8 p (p : Int) rfl (by omega) w
    refine wpAnyIn_ready (rs := [2, 7]) (by kernel_rfl) (by simp) ?_
    refine AllReadyIn.cons rfl (fun K hK => ?_) ?_
    · go_simp
      refine hK _ _ ?_
      have h := H111110000 (W.alloc (.cells (zeros .u8 p) 5)) (acc.alloc acc.size _) p hp9 W.heap.size (Arr.zeros W 5 .u8 p _ rfl) acc.size bb kx mm hkx hmm (hbb.alloc _)
      rw [← hR] at h
      exact h
    refine AllReadyIn.cons rfl (fun K hK => ?_) ?_
    · go_simp
      refine hK _ _ ?_
      have h := H110110010 (W.alloc (.cells #[.int .u64 0, .slice none 0 0] 26)) (acc.alloc acc.size _) p hp9 bb kx mm hkx hmm (hbb.alloc _) W.heap.size (Var.new W W.heap.size _ _ _ _ rfl) acc.size
      rw [← hR] at h
      exact h
    exact AllReadyIn.nil
  have H110100010 : ∀ (W : World) (acc : Below w6.heap.size w6 W) (p : Nat) (hp9 : (p : Int) < 9) (c : Nat) (hc : Var W c (.int .u64 0) (.slice none 0 0)) (hcn : w6.heap.size ≤ c), R 5 #[true, true, false, true, false, false, false, true, false] { tmps := #[.string s, a, .int .i64 nz, undef, undef, undef, .bool false, .pointer (some ⟨w1.heap.size, 0, none⟩), .pointer (some ⟨w1.heap.size + 1, 0, none⟩), .slice gp gl gc, .slice sp2 sl2 sc2, .pointer (some ⟨w3.heap.size, 0, none⟩), .bool ok, .slice mp ml mc, .bool ok, .pointer (some ⟨cy, 0, none⟩), .bool true, .pointer (some ⟨c, 0, none⟩), .tuple #[.agg #[.int .u64 x1, .slice xp xl xc], .agg #[.int .u64 o1, .slice op ol oc], .slice gp gl gc, .slice sp2 sl2 sc2], a, .tuple #[.agg #[.int .u64 x1, .slice xp xl xc], .agg #[.int .u64 o1, .slice op ol oc], .slice gp gl gc, .slice sp2 sl2 sc2], .agg #[.int .u64 x1, .slice xp xl xc], .agg #[.int .u64 o1, .slice op ol oc], .slice gp gl gc, .slice sp2 sl2 sc2, .tuple #[.agg #[.int .u64 va, .slice vp vl vc], .bool ok], .string s, .tuple #[.agg #[.int .u64 va, .slice vp vl vc], .bool ok], .agg #[.int .u64 va, .slice vp vl vc], .bool ok, .tuple #[.slice mp ml mc, .bool ok], .string s, .tuple #[.slice mp ml mc, .bool ok], .slice mp ml mc, .bool ok, .bool true, .bool false, .bool false, .bool ok, .bool ok, .bool false, .bool false, .bool false, .agg #[.int .u64 va, .slice vp vl vc], .slice mp ml mc, .bool true, .bool false, .bool false, .bool false, .agg #[.int .u64 x1, .slice xp xl xc], .string tz, .slice gp gl gc, .string tz, .bool false, .bool false, .bool false, .agg #[.int .u64 x1, .slice xp xl xc], .int .i64 (kb2 : Int), .slice gp gl gc, .int .i64 (kb2 : Int), .bool false, .bool false, .tuple #[.agg #[.int .u64 ya, .slice yp yl yc], .bool true], .agg #[.int .u64 x1, .slice xp xl xc], .string ty, .tuple #[.agg #[.int .u64 ya, .slice yp yl yc], .bool true], .agg #[.int .u64 ya, .slice yp yl yc], .bool true, .int .i64 nz, .int .i64 (p : Int), undef, .agg #[.int .u64 x1, .slice xp xl xc], undef, undef, undef, undef, undef, undef, undef, undef, undef, undef, undef, undef, undef, undef, undef, undef], defers := [] } W := by
    intro W acc p hp9 c hc hcn
    rw [← hR]
    have c00 := (u0.below acc l0).c0
    have c01 := (u0.below acc l0).c1
    have hmk := fun w => make8 p (p : Int) rfl (by omega) w
    have k0 := hc.c0
    have k1 := hc.c1
    have f0 := hc.free 0
    have f1 := hc.free 1
    refine wpAnyIn_ready (rs := [2, 4]) (by kernel_rfl) (by simp) ?_
    refine AllReadyIn.cons rfl (fun K hK => ?_) ?_
    · go_simp
      refine hK _ _ ?_
      have h := H111100010 (W.alloc (.cells (zeros .u8 p) 5)) (acc.alloc acc.size _) p hp9 W.heap.size (Arr.zeros W 5 .u8 p _ rfl) acc.size c (hc.alloc _) hcn
      rw [← hR] at h
      exact h
    refine AllReadyIn.cons rfl (fun K hK => ?_) ?_
    · go_simp
      gi_wp2_with (refine ⟨trivial, ?_⟩; gi_at_call 15; refine (callsIn_wide.2 (bytes_any 39 (by decide) _ X W (hx.below acc) HX39.out)).mono ?_; rintro e W2 ⟨bb, kx, mm, rfl, hkx, hmm, hbb, _, hb⟩; replace hmm := Lib.hid hmm)
      have h := H110110010 W2 (below_acc acc acc.size hb) p hp9 bb kx mm hkx hmm hbb c (hc.below hb hc.lt) hcn
      rw [← hR] at h
      exact h
    exact AllReadyIn.nil
  have H110100000 : ∀ (W : World) (acc : Below w6.heap.size w6 W) (p : Nat) (hp9 : (p : Int) < 9), R 6 #[true, true, false, true, false, false, false, false, false] { tmps := #[.string s, a, .int .i64 nz, undef, undef, undef, .bool false, .pointer (some ⟨w1.heap.size, 0, none⟩), .pointer (some ⟨w1.heap.size + 1, 0, none⟩), .slice gp gl gc, .slice sp2 sl2 sc2, .pointer (some ⟨w3.heap.size, 0, none⟩), .bool ok, .slice mp ml mc, .bool ok, .pointer (some ⟨cy, 0, none⟩), .bool true, undef, .tuple #[.agg #[.int .u64 x1, .slice xp xl xc], .agg #[.int .u64 o1, .slice op ol oc], .slice gp gl gc, .slice sp2 sl2 sc2], a, .tuple #[.agg #[.int .u64 x1, .slice xp xl xc], .agg #[.int .u64 o1, .slice op ol oc], .slice gp gl gc, .slice sp2 sl2 sc2], .agg #[.int .u64 x1, .slice xp xl xc], .agg #[.int .u64 o1, .slice op ol oc], .slice gp gl gc, .slice sp2 sl2 sc2, .tuple #[.agg #[.int .u64 va, .slice vp vl vc], .bool ok], .string s, .tuple #[.agg #[.int .u64 va, .slice vp vl vc], .bool ok], .agg #[.int .u64 va, .slice vp vl vc], .bool ok, .tuple #[.slice mp ml mc, .bool ok], .string s, .tuple #[.slice mp ml mc, .bool ok], .slice mp ml mc, .bool ok, .bool true, .bool false, .bool false, .bool ok, .bool ok, .bool false, .bool false, .bool false, .agg #[.int .u64 va, .slice vp vl vc], .slice mp ml mc, .bool true, .bool false, .bool false, .bool false, .agg #[.int .u64 x1, .slice xp xl xc], .string tz, .slice gp gl gc, .string tz, .bool false, .bool false, .bool false, .agg #[.int .u64 x1, .slice xp xl xc], .int .i64 (kb2 : Int), .slice gp gl gc, .int .i64 (kb2 : Int), .bool false, .bool false, .tuple #[.agg #[.int .u64 ya, .slice yp yl yc], .bool true], .agg #[.int .u64 x1, .slice xp xl xc], .string ty, .tuple #[.agg #[.int .u64 ya, .slice yp yl yc], .bool true], .agg #[.int .u64 ya, .slice yp yl yc], .bool true, .int .i64 nz, .int .i64 (p : Int), undef, .agg #[.int .u64 x1, .slice xp xl xc], undef, undef, undef, undef, undef, undef, undef, undef, undef, undef, undef, undef, undef, undef, undef, undef], defers := [] } W := by
    intro W acc p hp9
    rw [← hR]
    have c00 := (u0.below acc l0).c0
    have c01 := (u0.below acc l0).c1
    have hmk := fun w => make8 p (p : Int) rfl (by omega) w
    refine wpAnyIn_ready (rs := [2, 4, 7]) (by kernel_rfl) (by simp) ?_
    refine AllReadyIn.cons rfl (fun K hK => ?_) ?_
    · go_simp
      refine hK _ _ ?_
      have h := H111100000 (W.alloc (.cells (zeros .u8 p) 5)) (acc.alloc acc.size _) p hp9 W.heap.size (Arr.zeros W 5 .u8 p _ rfl) acc.size
      rw [← hR] at h
      exact h
    refine AllReadyIn.cons rfl (fun K hK => ?_) ?_
    · go_simp
      gi_wp2_with (refine ⟨trivial, ?_⟩; gi_at_call 15; refine (callsIn_wide.2 (bytes_any 39 (by decide) _ X W (hx.below acc) HX39.out)).mono ?_; rintro e W2 ⟨bb, kx, mm, rfl, hkx, hmm, hbb, _, hb⟩; replace hmm := Lib.hid hmm)
      have h := H110110000 W2 (below_acc acc acc.size hb) p hp9 bb kx mm hkx hmm hbb
      rw [← hR] at h
      exact h
    refine AllReadyIn.cons rfl (fun K hK => ?_) ?_
    · go_simp
      refine hK _ _ ?_
      have h := H110100010 (W.alloc (.cells #[.int .u64 0, .slice none 0 0] 26)) (acc.alloc acc.size _) p hp9 W.heap.size (Var.new W W.heap.size _ _ _ _ rfl) acc.size
      rw [← hR] at h
      exact h
    exact AllReadyIn.nil
  have H110000010 : ∀ (W : World) (acc : Below w6.heap.size w6 W) (p : Nat) (hp9 : (p : Int) < 9) (c : Nat) (hc : Var W c (.int .u64 0) (.slice none 0 0)) (hcn : w6.heap.size ≤ c), R 6 #[true, true, false, false, false, false, false, true, false] { tmps := #[.string s, a, .int .i64 nz, undef, undef, undef, .bool false, .pointer (some ⟨w1.heap.size, 0, none⟩), .pointer (some ⟨w1.heap.size + 1, 0, none⟩), .slice gp gl gc, .slice sp2 sl2 sc2, .pointer (some ⟨w3.heap.size, 0, none⟩), .bool ok, .slice mp ml mc, .bool ok, .pointer (some ⟨cy, 0, none⟩), .bool true, .pointer (some ⟨c, 0, none⟩), .tuple #[.agg #[.int .u64 x1, .slice xp xl xc], .agg #[.int .u64 o1, .slice op ol oc], .slice gp gl gc, .slice sp2 sl2 sc2], a, .tuple #[.agg #[.int .u64 x1, .slice xp xl xc], .agg #[.int .u64 o1, .slice op ol oc], .slice gp gl gc, .slice sp2 sl2 sc2], .agg #[.int .u64 x1, .slice xp xl xc], .agg #[.int .u64 o1, .slice op ol oc], .slice gp gl gc, .slice sp2 sl2 sc2, .tuple #[.agg #[.int .u64 va, .slice vp vl vc], .bool ok], .string s, .tuple #[.agg #[.int .u64 va, .slice vp vl vc], .bool ok], .agg #[.int .u64 va, .slice vp vl vc], .bool ok, .tuple #[.slice mp ml mc, .bool ok], .string s, .tuple #[.slice mp ml mc, .bool ok], .slice mp ml mc, .bool ok, .bool true, .bool false, .bool false, .bool ok, .bool ok, .bool false, .bool false, .bool false, .agg #[.int .u64 va, .slice vp vl vc], .slice mp ml mc, .bool true, .bool false, .bool false, .bool false, .agg #[.int .u64 x1, .slice xp xl xc], .string tz, .slice gp gl gc, .string tz, .bool false, .bool false, .bool false, .agg #[.int .u64 x1, .slice xp xl xc], .int .i64 (kb2 : Int), .slice gp gl gc, .int .i64 (kb2 : Int), .bool false, .bool false, .tuple #[.agg #[.int .u64 ya, .slice yp yl yc], .bool true], .agg #[.int .u64 x1, .slice xp xl xc], .string ty, .tuple #[.agg #[.int .u64 ya, .slice yp yl yc], .bool true], .agg #[.int .u64 ya, .slice yp yl yc], .bool true, .int .i64 nz, .int .i64 (p : Int), undef, undef, undef, undef, undef, undef, undef, undef, undef, undef, undef, undef, undef, undef, undef, undef, undef, undef], defers := [] } W := by
    intro W acc p hp9 c hc hcn
    rw [← hR]
    have c00 := (u0.below acc l0).c0
    have c01 := (u0.below acc l0).c1
    have hmk := fun w => make8 p (p : Int) rfl (by omega) w
    have k0 := hc.c0
    have k1 := hc.c1
    have f0 := hc.free 0
    have f1 := hc.free 1
    refine wpAnyIn_ready (rs := [2, 3]) (by kernel_rfl) (by simp) ?_
    refine AllReadyIn.cons rfl (fun K hK => ?_) ?_
    · go_simp
      refine hK _ _ ?_
      have h := H111000010 (W.alloc (.cells (zeros .u8 p) 5)) (acc.alloc acc.size _) p hp9 W.heap.size (Arr.zeros W 5 .u8 p _ rfl) acc.size c (hc.alloc _) hcn
      rw [← hR] at h
      exact h
    refine AllReadyIn.cons rfl (fun K hK => ?_) ?_
    · go_simp
      refine hK _ _ ?_
      have h := H110100010 W acc p hp9 c hc hcn
      rw [← hR] at h
      exact h
    exact AllReadyIn.nil
  have H110000000 : ∀ (W : World) (acc : Below w6.heap.size w6 W) (p : Nat) (hp9 : (p : Int) < 9), R 7 #[true, true, false, false, false, false, false, false, false] { tmps := #[.string s, a, .int .i64 nz, undef, undef, undef, .bool false, .pointer (some ⟨w1.heap.size, 0, none⟩), .pointer (some ⟨w1.heap.size + 1, 0, none⟩), .slice gp gl gc, .slice sp2 sl2 sc2, .pointer (some ⟨w3.heap.size, 0, none⟩), .bool ok, .slice mp ml mc, .bool ok, .pointer (some ⟨cy, 0, none⟩), .bool true, undef, .tuple #[.agg #[.int .u64 x1, .slice xp xl xc], .agg #[.int .u64 o1, .slice op ol oc], .slice gp gl gc, .slice sp2 sl2 sc2], a, .tuple #[.agg #[.int .u64 x1, .slice xp xl xc], .agg #[.int .u64 o1, .slice op ol oc], .slice gp gl gc, .slice sp2 sl2 sc2], .agg #[.int .u64 x1, .slice xp xl xc], .agg #[.int .u64 o1, .slice op ol oc], .slice gp gl gc, .slice sp2 sl2 sc2, .tuple #[.agg #[.int .u64 va, .slice vp vl vc], .bool ok], .string s, .tuple #[.agg #[.int .u64 va, .slice vp vl vc], .bool ok], .agg #[.int .u64 va, .slice vp vl vc], .bool ok, .tuple #[.slice mp ml mc, .bool ok], .string s, .tuple #[.slice mp ml mc, .bool ok], .slice mp ml mc, .bool ok, .bool true, .bool false, .bool false, .bool ok, .bool ok, .bool false, .bool false, .bool false, .agg #[.int .u64 va, .slice vp vl vc], .slice mp ml mc, .bool true, .bool false, .bool false, .bool false, .agg #[.int .u64 x1, .slice xp xl xc], .string tz, .slice gp gl gc, .string tz, .bool false, .bool false, .bool false, .agg #[.int .u64 x1, .slice xp xl xc], .int .i64 (kb2 : Int), .slice gp gl gc, .int .i64 (kb2 : Int), .bool false, .bool false, .tuple #[.agg #[.int .u64 ya, .slice yp yl yc], .bool true], .agg #[.int .u64 x1, .slice xp xl xc], .string ty, .tuple #[.agg #[.int .u64 ya, .slice yp yl yc], .bool true], .agg #[.int .u64 ya, .slice yp yl yc], .bool true, .int .i64 nz, .int .i64 (p : Int), undef, undef, undef, undef, undef, undef, undef, undef, undef, undef, undef, undef, undef, undef, undef, undef, undef, undef], defers := [] } W := by
    intro W acc p hp9
    rw [← hR]
    have c00 := (u0.below acc l0).c0
    have c01 := (u0.below acc l0).c1
    have hmk := fun w => make8 p (p : Int) rfl (by omega) w
    refine wpAnyIn_ready (rs := [2, 3, 7]) (by kernel_rfl) (by simp) ?_
    refine AllReadyIn.cons rfl (fun K hK => ?_) ?_
    · go_simp
      refine hK _ _ ?_
      have h := H111000000 (W.alloc (.cells (zeros .u8 p) 5)) (acc.alloc acc.size _) p hp9 W.heap.size (Arr.zeros W 5 .u8 p _ rfl) acc.size
      rw [← hR] at h
      exact h
    refine AllReadyIn.cons rfl (fun K hK => ?_) ?_
    · go_simp
      refine hK _ _ ?_
      have h := H110100000 W acc p hp9
      rw [← hR] at h
      exact h
    refine AllReadyIn.cons rfl (fun K hK => ?_) ?_
    · go_simp
      refine hK _ _ ?_
      have h := H110000010 (W.alloc (.cells #[.int .u64 0, .slice none 0 0] 26)) (acc.alloc acc.size _) p hp9 W.heap.size (Var.new W W.heap.size _ _ _ _ rfl) acc.size
      rw [← hR] at h
      exact h
    exact AllReadyIn.nil
  have H100100010 : ∀ (W : World) (acc : Below w6.heap.size w6 W) (c : Nat) (hc : Var W c (.int .u64 0) (.slice none 0 0)) (hcn : w6.heap.size ≤ c), R 6 #[true, false, false, true, false, false, false, true, false] { tmps := #[.string s, a, .int .i64 nz, undef, undef, undef, .bool false, .pointer (some ⟨w1.heap.size, 0, none⟩), .pointer (some ⟨w1.heap.size + 1, 0, none⟩), .slice gp gl gc, .slice sp2 sl2 sc2, .pointer (some ⟨w3.heap.size, 0, none⟩), .bool ok, .slice mp ml mc, .bool ok, .pointer (some ⟨cy, 0, none⟩), .bool true, .pointer (some ⟨c, 0, none⟩), .tuple #[.agg #[.int .u64 x1, .slice xp xl xc], .agg #[.int .u64 o1, .slice op ol oc], .slice gp gl gc, .slice sp2 sl2 sc2], a, .tuple #[.agg #[.int .u64 x1, .slice xp xl xc], .agg #[.int .u64 o1, .slice op ol oc], .slice gp gl gc, .slice sp2 sl2 sc2], .agg #[.int .u64 x1, .slice xp xl xc], .agg #[.int .u64 o1, .slice op ol oc], .slice gp gl gc, .slice sp2 sl2 sc2, .tuple #[.agg #[.int .u64 va, .slice vp vl vc], .bool ok], .string s, .tuple #[.agg #[.int .u64 va, .slice vp vl vc], .bool ok], .agg #[.int .u64 va, .slice vp vl vc], .bool ok, .tuple #[.slice mp ml mc, .bool ok], .string s, .tuple #[.slice mp ml mc, .bool ok], .slice mp ml mc, .bool ok, .bool true, .bool false, .bool false, .bool ok, .bool ok, .bool false, .bool false, .bool false, .agg #[.int .u64 va, .slice vp vl vc], .slice mp ml mc, .bool true, .bool false, .bool false, .bool false, .agg #[.int .u64 x1, .slice xp xl xc], .string tz, .slice gp gl gc, .string tz, .bool false, .bool false, .bool false, .agg #[.int .u64 x1, .slice xp xl xc], .int .i64 (kb2 : Int), .slice gp gl gc, .int .i64 (kb2 : Int), .bool false, .bool false, .tuple #[.agg #[.int .u64 ya, .slice yp yl yc], .bool true], .agg #[.int .u64 x1, .slice xp xl xc], .string ty, .tuple #[.agg #[.int .u64 ya, .slice yp yl yc], .bool true], .agg #[.int .u64 ya, .slice yp yl yc], .bool true, .int .i64 nz, undef, undef, .agg #[.int .u64 x1, .slice xp xl xc], undef, undef, undef, undef, undef, undef, undef, undef, undef, undef, undef, undef, undef, undef, undef, undef], defers := [] } W := by
    intro W acc c hc hcn
    rw [← hR]
    have c00 := (u0.below acc l0).c0
    have c01 := (u0.below acc l0).c1
    have k0 := hc.c0
    have k1 := hc.c1
    have f0 := hc.free 0
    have f1 := hc.free 1
    refine wpAnyIn_ready (rs := [1]) (by kernel_rfl) (by simp) ?_
    refine AllReadyIn.cons rfl (fun K hK => ?_) ?_
    · go_simp
      gi_wp2_with (refine ⟨trivial, ?_⟩; gi_at_call 14; refine (callsIn_wide.2 (pick_b nz 9 Hbn.out.1 Hbn.out.2 (by decide) (by decide) W)).mono ?_; rintro e W2 ⟨⟨p, hp9, rfl⟩, hb⟩; skip)
      have h := H110100010 W2 (below_acc acc acc.size hb) p hp9 c (hc.below hb hc.lt) hcn
      rw [← hR] at h
      exact h
    exact AllReadyIn.nil
  have H100100000 : ∀ (W : World) (acc : Below w6.heap.size w6 W), R 7 #[true, false, false, true, false, false, false, false, false] { tmps := #[.string s, a, .int .i64 nz, undef, undef, undef, .bool false, .pointer (some ⟨w1.heap.size, 0, none⟩), .pointer (some ⟨w1.heap.size + 1, 0, none⟩), .slice gp gl gc, .slice sp2 sl2 sc2, .pointer (some ⟨w3.heap.size, 0, none⟩), .bool ok, .slice mp ml mc, .bool ok, .pointer (some ⟨cy, 0, none⟩), .bool true, undef, .tuple #[.agg #[.int .u64 x1, .slice xp xl xc], .agg #[.int .u64 o1, .slice op ol oc], .slice gp gl gc, .slice sp2 sl2 sc2], a, .tuple #[.agg #[.int .u64 x1, .slice xp xl xc], .agg #[.int .u64 o1, .slice op ol oc], .slice gp gl gc, .slice sp2 sl2 sc2], .agg #[.int .u64 x1, .slice xp xl xc], .agg #[.int .u64 o1, .slice op ol oc], .slice gp gl gc, .slice sp2 sl2 sc2, .tuple #[.agg #[.int .u64 va, .slice vp vl vc], .bool ok], .string s, .tuple #[.agg #[.int .u64 va, .slice vp vl vc], .bool ok], .agg #[.int .u64 va, .slice vp vl vc], .bool ok, .tuple #[.slice mp ml mc, .bool ok], .string s, .tuple #[.slice mp ml mc, .bool ok], .slice mp ml mc, .bool ok, .bool true, .bool false, .bool false, .bool ok, .bool ok, .bool false, .bool false, .bool false, .agg #[.int .u64 va, .slice vp vl vc], .slice mp ml mc, .bool true, .bool false, .bool false, .bool false, .agg #[.int .u64 x1, .slice xp xl xc], .string tz, .slice gp gl gc, .string tz, .bool false, .bool false, .bool false, .agg #[.int .u64 x1, .slice xp xl xc], .int .i64 (kb2 : Int), .slice gp gl gc, .int .i64 (kb2 : Int), .bool false, .bool false, .tuple #[.agg #[.int .u64 ya, .slice yp yl yc], .bool true], .agg #[.int .u64 x1, .slice xp xl xc], .string ty, .tuple #[.agg #[.int .u64 ya, .slice yp yl yc], .bool true], .agg #[.int .u64 ya, .slice yp yl yc], .bool true, .int .i64 nz, undef, undef, .agg #[.int .u64 x1, .slice xp xl xc], undef, undef, undef, undef, undef, undef, undef, undef, undef, undef, undef, undef, undef, undef, undef, undef], defers := [] } W := by
    intro W acc
    rw [← hR]
    have c00 := (u0.below acc l0).c0
    have c01 := (u0.below acc l0).c1
    refine wpAnyIn_ready (rs := [1, 7]) (by kernel_rfl) (by simp) ?_
    refine AllReadyIn.cons rfl (fun K hK => ?_) ?_
    · go_simp
      gi_wp2_with (refine ⟨trivial, ?_⟩; gi_at_call 14; refine (callsIn_wide.2 (pick_b nz 9 Hbn.out.1 Hbn.out.2 (by decide) (by decide) W)).mono ?_; rintro e W2 ⟨⟨p, hp9, rfl⟩, hb⟩; skip)
      have h := H110100000 W2 (below_acc acc acc.size hb) p hp9
      rw [← hR] at h
      exact h
    refine AllReadyIn.cons rfl (fun K hK => ?_) ?_
    · go_simp
      refine hK _ _ ?_
      have h := H100100010 (W.alloc (.cells #[.int .u64 0, .slice none 0 0] 26)) (acc.alloc acc.size _) W.heap.size (Var.new W W.heap.size _ _ _ _ rfl) acc.size
      rw [← hR] at h
      exact h
    exact AllReadyIn.nil
  have H100000010 : ∀ (W : World) (acc : Below w6.heap.size w6 W) (c : Nat) (hc : Var W c (.int .u64 0) (.slice none 0 0)) (hcn : w6.heap.size ≤ c), R 7 #[true, false, false, false, false, false, false, true, false] { tmps := #[.string s, a, .int .i64 nz, undef, undef, undef, .bool false, .pointer (some ⟨w1.heap.size, 0, none⟩), .pointer (some ⟨w1.heap.size + 1, 0, none⟩), .slice gp gl gc, .slice sp2 sl2 sc2, .pointer (some ⟨w3.heap.size, 0, none⟩), .bool ok, .slice mp ml mc, .bool ok, .pointer (some ⟨cy, 0, none⟩), .bool true, .pointer (some ⟨c, 0, none⟩), .tuple #[.agg #[.int .u64 x1, .slice xp xl xc], .agg #[.int .u64 o1, .slice op ol oc], .slice gp gl gc, .slice sp2 sl2 sc2], a, .tuple #[.agg #[.int .u64 x1, .slice xp xl xc], .agg #[.int .u64 o1, .slice op ol oc], .slice gp gl gc, .slice sp2 sl2 sc2], .agg #[.int .u64 x1, .slice xp xl xc], .agg #[.int .u64 o1, .slice op ol oc], .slice gp gl gc, .slice sp2 sl2 sc2, .tuple #[.agg #[.int .u64 va, .slice vp vl vc], .bool ok], .string s, .tuple #[.agg #[.int .u64 va, .slice vp vl vc], .bool ok], .agg #[.int .u64 va, .slice vp vl vc], .bool ok, .tuple #[.slice mp ml mc, .bool ok], .string s, .tuple #[.slice mp ml mc, .bool ok], .slice mp ml mc, .bool ok, .bool true, .bool false, .bool false, .bool ok, .bool ok, .bool false, .bool false, .bool false, .agg #[.int .u64 va, .slice vp vl vc], .slice mp ml mc, .bool true, .bool false, .bool false, .bool false, .agg #[.int .u64 x1, .slice xp xl xc], .string tz, .slice gp gl gc, .string tz, .bool false, .bool false, .bool false, .agg #[.int .u64 x1, .slice xp xl xc], .int .i64 (kb2 : Int), .slice gp gl gc, .int .i64 (kb2 : Int), .bool false, .bool false, .tuple #[.agg #[.int .u64 ya, .slice yp yl yc], .bool true], .agg #[.int .u64 x1, .slice xp xl xc], .string ty, .tuple #[.agg #[.int .u64 ya, .slice yp yl yc], .bool true], .agg #[.int .u64 ya, .slice yp yl yc], .bool true, .int .i64 nz, undef, undef, undef, undef, undef, undef, undef, undef, undef, undef, undef, undef, undef, undef, undef, undef, undef, undef, undef], defers := [] } W := by
    intro W acc c hc hcn
    rw [← hR]
    have c00 := (u0.below acc l0).c0
    have c01 := (u0.below acc l0).c1
    have k0 := hc.c0
    have k1 := hc.c1
    have f0 := hc.free 0
    have f1 := hc.free 1
    refine wpAnyIn_ready (rs := [1, 3]) (by kernel_rfl) (by simp) ?_
    refine AllReadyIn.cons rfl (fun K hK => ?_) ?_
    · go_simp
      gi_wp2_with (refine ⟨trivial, ?_⟩; gi_at_call 14; refine (callsIn_wide.2 (pick_b nz 9 Hbn.out.1 Hbn.out.2 (by decide) (by decide) W)).mono ?_; rintro e W2 ⟨⟨p, hp9, rfl⟩, hb⟩; skip)
      have h := H110000010 W2 (below_acc acc acc.size hb) p hp9 c (hc.below hb hc.lt) hcn
      rw [← hR] at h
      exact h
    refine AllReadyIn.cons rfl (fun K hK => ?_) ?_
    · go_simp
      refine hK _ _ ?_
      have h := H100100010 W acc c hc hcn
      rw [← hR] at h
      exact h
    exact AllReadyIn.nil
  have H100000000 : ∀ (W : World) (acc : Below w6.heap.size w6 W), R 8 #[true, false, false, false, false, false, false, false, false] { tmps := #[.string s, a, .int .i64 nz, undef, undef, undef, .bool false, .pointer (some ⟨w1.heap.size, 0, none⟩), .pointer (some ⟨w1.heap.size + 1, 0, none⟩), .slice gp gl gc, .slice sp2 sl2 sc2, .pointer (some ⟨w3.heap.size, 0, none⟩), .bool ok, .slice mp ml mc, .bool ok, .pointer (some ⟨cy, 0, none⟩), .bool true, undef, .tuple #[.agg #[.int .u64 x1, .slice xp xl xc], .agg #[.int .u64 o1, .slice op ol oc], .slice gp gl gc, .slice sp2 sl2 sc2], a, .tuple #[.agg #[.int .u64 x1, .slice xp xl xc], .agg #[.int .u64 o1, .slice op ol oc], .slice gp gl gc, .slice sp2 sl2 sc2], .agg #[.int .u64 x1, .slice xp xl xc], .agg #[.int .u64 o1, .slice op ol oc], .slice gp gl gc, .slice sp2 sl2 sc2, .tuple #[.agg #[.int .u64 va, .slice vp vl vc], .bool ok], .string s, .tuple #[.agg #[.int .u64 va, .slice vp vl vc], .bool ok], .agg #[.int .u64 va, .slice vp vl vc], .bool ok, .tuple #[.slice mp ml mc, .bool ok], .string s, .tuple #[.slice mp ml mc, .bool ok], .slice mp ml mc, .bool ok, .bool true, .bool false, .bool false, .bool ok, .bool ok, .bool false, .bool false, .bool false, .agg #[.int .u64 va, .slice vp vl vc], .slice mp ml mc, .bool true, .bool false, .bool false, .bool false, .agg #[.int .u64 x1, .slice xp xl xc], .string tz, .slice gp gl gc, .string tz, .bool false, .bool false, .bool false, .agg #[.int .u64 x1, .slice xp xl xc], .int .i64 (kb2 : Int), .slice gp gl gc, .int .i64 (kb2 : Int), .bool false, .bool false, .tuple #[.agg #[.int .u64 ya, .slice yp yl yc], .bool true], .agg #[.int .u64 x1, .slice xp xl xc], .string ty, .tuple #[.agg #[.int .u64 ya, .slice yp yl yc], .bool true], .agg #[.int .u64 ya, .slice yp yl yc], .bool true, .int .i64 nz, undef, undef, undef, undef, undef, undef, undef, undef, undef, undef, undef, undef, undef, undef, undef, undef, undef, undef, undef], defers := [] } W := by
    intro W acc
    rw [← hR]
    have c00 := (u0.below acc l0).c0
    have c01 := (u0.below acc l0).c1
    refine wpAnyIn_ready (rs := [1, 3, 7]) (by kernel_rfl) (by simp) ?_
    refine AllReadyIn.cons rfl (fun K hK => ?_) ?_
    · go_simp
      gi_wp2_with (refine ⟨trivial, ?_⟩; gi_at_call 14; refine (callsIn_wide.2 (pick_b nz 9 Hbn.out.1 Hbn.out.2 (by decide) (by decide) W)).mono ?_; rintro e W2 ⟨⟨p, hp9, rfl⟩, hb⟩; skip)
      have h := H110000000 W2 (below_acc acc acc.size hb) p hp9
      rw [← hR] at h
      exact h
    refine AllReadyIn.cons rfl (fun K hK => ?_) ?_
    · go_simp
      refine hK _ _ ?_
      have h := H100100000 W acc
      rw [← hR] at h
      exact h
    refine AllReadyIn.cons rfl (fun K hK => ?_) ?_
    · go_simp
      refine hK _ _ ?_
      have h := H100000010 (W.alloc (.cells #[.int .u64 0, .slice none 0 0] 26)) (acc.alloc acc.size _) W.heap.size (Var.new W W.heap.size _ _ _ _ rfl) acc.size
      rw [← hR] at h
      exact h
    exact AllReadyIn.nil
  have H000100010 : ∀ (W : World) (acc : Below w6.heap.size w6 W) (c : Nat) (hc : Var W c (.int .u64 0) (.slice none 0 0)) (hcn : w6.heap.size ≤ c), R 7 #[false, false, false, true, false, false, false, true, false] { tmps := #[.string s, a, .int .i64 nz, undef, undef, undef, .bool false, .pointer (some ⟨w1.heap.size, 0, none⟩), .pointer (some ⟨w1.heap.size + 1, 0, none⟩), .slice gp gl gc, .slice sp2 sl2 sc2, .pointer (some ⟨w3.heap.size, 0, none⟩), .bool ok, .slice mp ml mc, .bool ok, .pointer (some ⟨cy, 0, none⟩), .bool true, .pointer (some ⟨c, 0, none⟩), .tuple #[.agg #[.int .u64 x1, .slice xp xl xc], .agg #[.int .u64 o1, .slice op ol oc], .slice gp gl gc, .slice sp2 sl2 sc2], a, .tuple #[.agg #[.int .u64 x1, .slice xp xl xc], .agg #[.int .u64 o1, .slice op ol oc], .slice gp gl gc, .slice sp2 sl2 sc2], .agg #[.int .u64 x1, .slice xp xl xc], .agg #[.int .u64 o1, .slice op ol oc], .slice gp gl gc, .slice sp2 sl2 sc2, .tuple #[.agg #[.int .u64 va, .slice vp vl vc], .bool ok], .string s, .tuple #[.agg #[.int .u64 va, .slice vp vl vc], .bool ok], .agg #[.int .u64 va, .slice vp vl vc], .bool ok, .tuple #[.slice mp ml mc, .bool ok], .string s, .tuple #[.slice mp ml mc, .bool ok], .slice mp ml mc, .bool ok, .bool true, .bool false, .bool false, .bool ok, .bool ok, .bool false, .bool false, .bool false, .agg #[.int .u64 va, .slice vp vl vc], .slice mp ml mc, .bool true, .bool false, .bool false, .bool false, .agg #[.int .u64 x1, .slice xp xl xc], .string tz, .slice gp gl gc, .string tz, .bool false, .bool false, .bool false, .agg #[.int .u64 x1, .slice xp xl xc], .int .i64 (kb2 : Int), .slice gp gl gc, .int .i64 (kb2 : Int), .bool false, .bool false, .tuple #[.agg #[.int .u64 ya, .slice yp yl yc], .bool true], .agg #[.int .u64 x1, .slice xp xl xc], .string ty, .tuple #[.agg #[.int .u64 ya, .slice yp yl yc], .bool true], .agg #[.int .u64 ya, .slice yp yl yc], .bool true, undef, undef, undef, .agg #[.int .u64 x1, .slice xp xl xc], undef, undef, undef, undef, undef, undef, undef, undef, undef, undef, undef, undef, undef, undef, undef, undef], defers := [] } W := by
    intro W acc c hc hcn
    rw [← hR]
    have c00 := (u0.below acc l0).c0
    have c01 := (u0.below acc l0).c1
    have k0 := hc.c0
    have k1 := hc.c1
    have f0 := hc.free 0
    have f1 := hc.free 1
    refine wpAnyIn_ready (rs := [0]) (by kernel_rfl) (by simp) ?_
    refine AllReadyIn.cons rfl (fun K hK => ?_) ?_
    · go_simp
      refine hK _ _ ?_
      have h := H100100010 W acc c hc hcn
      rw [← hR] at h
      exact h
    exact AllReadyIn.nil
  have H000100000 : ∀ (W : World) (acc : Below w6.heap.size w6 W), R 8 #[false, false, false, true, false, false, false, false, false] { tmps := #[.string s, a, .int .i64 nz, undef, undef, undef, .bool false, .pointer (some ⟨w1.heap.size, 0, none⟩), .pointer (some ⟨w1.heap.size + 1, 0, none⟩), .slice gp gl gc, .slice sp2 sl2 sc2, .pointer (some ⟨w3.heap.size, 0, none⟩), .bool ok, .slice mp ml mc, .bool ok, .pointer (some ⟨cy, 0, none⟩), .bool true, undef, .tuple #[.agg #[.int .u64 x1, .slice xp xl xc], .agg #[.int .u64 o1, .slice op ol oc], .slice gp gl gc, .slice sp2 sl2 sc2], a, .tuple #[.agg #[.int .u64 x1, .slice xp xl xc], .agg #[.int .u64 o1, .slice op ol oc], .slice gp gl gc, .slice sp2 sl2 sc2], .agg #[.int .u64 x1, .slice xp xl xc], .agg #[.int .u64 o1, .slice op ol oc], .slice gp gl gc, .slice sp2 sl2 sc2, .tuple #[.agg #[.int .u64 va, .slice vp vl vc], .bool ok], .string s, .tuple #[.agg #[.int .u64 va, .slice vp vl vc], .bool ok], .agg #[.int .u64 va, .slice vp vl vc], .bool ok, .tuple #[.slice mp ml mc, .bool ok], .string s, .tuple #[.slice mp ml mc, .bool ok], .slice mp ml mc, .bool ok, .bool true, .bool false, .bool false, .bool ok, .bool ok, .bool false, .bool false, .bool false, .agg #[.int .u64 va, .slice vp vl vc], .slice mp ml mc, .bool true, .bool false, .bool false, .bool false, .agg #[.int .u64 x1, .slice xp xl xc], .string tz, .slice gp gl gc, .string tz, .bool false, .bool false, .bool false, .agg #[.int .u64 x1, .slice xp xl xc], .int .i64 (kb2 : Int), .slice gp gl gc, .int .i64 (kb2 : Int), .bool false, .bool false, .tuple #[.agg #[.int .u64 ya, .slice yp yl yc], .bool true], .agg #[.int .u64 x1, .slice xp xl xc], .string ty, .tuple #[.agg #[.int .u64 ya, .slice yp yl yc], .bool true], .agg #[.int .u64 ya, .slice yp yl yc], .bool true, undef, undef, undef, .agg #[.int .u64 x1, .slice xp xl xc], undef, undef, undef, undef, undef, undef, undef, undef, undef, undef, undef, undef, undef, undef, undef, undef], defers := [] } W := by
    intro W acc
    rw [← hR]
    have c00 := (u0.below acc l0).c0
    have c01 := (u0.below acc l0).c1
    refine wpAnyIn_ready (rs := [0, 7]) (by kernel_rfl) (by simp) ?_
    refine AllReadyIn.cons rfl (fun K hK => ?_) ?_
    · go_simp
      refine hK _ _ ?_
      have h := H100100000 W acc
      rw [← hR] at h
      exact h
    refine AllReadyIn.cons rfl (fun K hK => ?_) ?_
    · go_simp
      refine hK _ _ ?_
      have h := H000100010 (W.alloc (.cells #[.int .u64 0, .slice none 0 0] 26)) (acc.alloc acc.size _) W.heap.size (Var.new W W.heap.size _ _ _ _ rfl) acc.size
      rw [← hR] at h
      exact h
    exact AllReadyIn.nil
  have H000000010 : ∀ (W : World) (acc : Below w6.heap.size w6 W) (c : Nat) (hc : Var W c (.int .u64 0) (.slice none 0 0)) (hcn : w6.heap.size ≤ c), R 8 #[false, false, false, false, false, false, false, true, false] { tmps := #[.string s, a, .int .i64 nz, undef, undef, undef, .bool false, .pointer (some ⟨w1.heap.size, 0, none⟩), .pointer (some ⟨w1.heap.size + 1, 0, none⟩), .slice gp gl gc, .slice sp2 sl2 sc2, .pointer (some ⟨w3.heap.size, 0, none⟩), .bool ok, .slice mp ml mc, .bool ok, .pointer (some ⟨cy, 0, none⟩), .bool true, .pointer (some ⟨c, 0, none⟩), .tuple #[.agg #[.int .u64 x1, .slice xp xl xc], .agg #[.int .u64 o1, .slice op ol oc], .slice gp gl gc, .slice sp2 sl2 sc2], a, .tuple #[.agg #[.int .u64 x1, .slice xp xl xc], .agg #[.int .u64 o1, .slice op ol oc], .slice gp gl gc, .slice sp2 sl2 sc2], .agg #[.int .u64 x1, .slice xp xl xc], .agg #[.int .u64 o1, .slice op ol oc], .slice gp gl gc, .slice sp2 sl2 sc2, .tuple #[.agg #[.int .u64 va, .slice vp vl vc], .bool ok], .string s, .tuple #[.agg #[.int .u64 va, .slice vp vl vc], .bool ok], .agg #[.int .u64 va, .slice vp vl vc], .bool ok, .tuple #[.slice mp ml mc, .bool ok], .string s, .tuple #[.slice mp ml mc, .bool ok], .slice mp ml mc, .bool ok, .bool true, .bool false, .bool false, .bool ok, .bool ok, .bool false, .bool false, .bool false, .agg #[.int .u64 va, .slice vp vl vc], .slice mp ml mc, .bool true, .bool false, .bool false, .bool false, .agg #[.int .u64 x1, .slice xp xl xc], .string tz, .slice gp gl gc, .string tz, .bool false, .bool false, .bool false, .agg #[.int .u64 x1, .slice xp xl xc], .int .i64 (kb2 : Int), .slice gp gl gc, .int .i64 (kb2 : Int), .bool false, .bool false, .tuple #[.agg #[.int .u64 ya, .slice yp yl yc], .bool true], .agg #[.int .u64 x1, .slice xp xl xc], .string ty, .tuple #[.agg #[.int .u64 ya, .slice yp yl yc], .bool true], .agg #[.int .u64 ya, .slice yp yl yc], .bool true, undef, undef, undef, undef, undef, undef, undef, undef, undef, undef, undef, undef, undef, undef, undef, undef, undef, undef, undef, undef], defers := [] } W := by
    intro W acc c hc hcn
    rw [← hR]
    have c00 := (u0.below acc l0).c0
    have c01 := (u0.below acc l0).c1
    have k0 := hc.c0
    have k1 := hc.c1
    have f0 := hc.free 0
    have f1 := hc.free 1
    refine wpAnyIn_ready (rs := [0, 3]) (by kernel_rfl) (by simp) ?_
    refine AllReadyIn.cons rfl (fun K hK => ?_) ?_
    · go_simp
      refine hK _ _ ?_
      have h := H100000010 W acc c hc hcn
      rw [← hR] at h
      exact h
    refine AllReadyIn.cons rfl (fun K hK => ?_) ?_
    · go_simp
      refine hK _ _ ?_
      have h := H000100010 W acc c hc hcn
      rw [← hR] at h
      exact h
    exact AllReadyIn.nil
  have H000000000 : ∀ (W : World) (acc : Below w6.heap.size w6 W), R 9 #[false, false, false, false, false, false, false, false, false] { tmps := #[.string s, a, .int .i64 nz, undef, undef, undef, .bool false, .pointer (some ⟨w1.heap.size, 0, none⟩), .pointer (some ⟨w1.heap.size + 1, 0, none⟩), .slice gp gl gc, .slice sp2 sl2 sc2, .pointer (some ⟨w3.heap.size, 0, none⟩), .bool ok, .slice mp ml mc, .bool ok, .pointer (some ⟨cy, 0, none⟩), .bool true, undef, .tuple #[.agg #[.int .u64 x1, .slice xp xl xc], .agg #[.int .u64 o1, .slice op ol oc], .slice gp gl gc, .slice sp2 sl2 sc2], a, .tuple #[.agg #[.int .u64 x1, .slice xp xl xc], .agg #[.int .u64 o1, .slice op ol oc], .slice gp gl gc, .slice sp2 sl2 sc2], .agg #[.int .u64 x1, .slice xp xl xc], .agg #[.int .u64 o1, .slice op ol oc], .slice gp gl gc, .slice sp2 sl2 sc2, .tuple #[.agg #[.int .u64 va, .slice vp vl vc], .bool ok], .string s, .tuple #[.agg #[.int .u64 va, .slice vp vl vc], .bool ok], .agg #[.int .u64 va, .slice vp vl vc], .bool ok, .tuple #[.slice mp ml mc, .bool ok], .string s, .tuple #[.slice mp ml mc, .bool ok], .slice mp ml mc, .bool ok, .bool true, .bool false, .bool false, .bool ok, .bool ok, .bool false, .bool false, .bool false, .agg #[.int .u64 va, .slice vp vl vc], .slice mp ml mc, .bool true, .bool false, .bool false, .bool false, .agg #[.int .u64 x1, .slice xp xl xc], .string tz, .slice gp gl gc, .string tz, .bool false, .bool false, .bool false, .agg #[.int .u64 x1, .slice xp xl xc], .int .i64 (kb2 : Int), .slice gp gl gc, .int .i64 (kb2 : Int), .bool false, .bool false, .tuple #[.agg #[.int .u64 ya, .slice yp yl yc], .bool true], .agg #[.int .u64 x1, .slice xp xl xc], .string ty, .tuple #[.agg #[.int .u64 ya, .slice yp yl yc], .bool true], .agg #[.int .u64 ya, .slice yp yl yc], .bool true, undef, undef, undef, undef, undef, undef, undef, undef, undef, undef, undef, undef, undef, undef, undef, undef, undef, undef, undef, undef], defers := [] } W := by
    intro W acc
    rw [← hR]
    have c00 := (u0.below acc l0).c0
    have c01 := (u0.below acc l0).c1
    refine wpAnyIn_ready (rs := [0, 3, 7]) (by kernel_rfl) (by simp) ?_
    refine AllReadyIn.cons rfl (fun K hK => ?_) ?_
    · go_simp
      refine hK _ _ ?_
      have h := H100000000 W acc
      rw [← hR] at h
      exact h
    refine AllReadyIn.cons rfl (fun K hK => ?_) ?_
    · go_simp
      refine hK _ _ ?_
      have h := H000100000 W acc
      rw [← hR] at h
      exact h
    refine AllReadyIn.cons rfl (fun K hK => ?_) ?_
    · go_simp
      refine hK _ _ ?_
      have h := H000000010 (W.alloc (.cells #[.int .u64 0, .slice none 0 0] 26)) (acc.alloc acc.size _) W.heap.size (Var.new W W.heap.size _ _ _ _ rfl) acc.size
      rw [← hR] at h
      exact h
    exact AllReadyIn.nil
  exact H000000000 w6.drew (Below.refl _ w6).drew
end Go.Proofs.YtjoppmkknbpjbaaGreatDoor
