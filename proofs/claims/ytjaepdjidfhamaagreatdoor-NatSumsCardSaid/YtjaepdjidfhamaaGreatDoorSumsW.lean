/- NatSums, walked. -/
import Derived.Test.YtjaepdjidfhamaaGreatDoorRefNum
import Derived.Deep.RegionHeld3
namespace Go.Proofs.YtjaepdjidfhamaaGreatDoor
open Go.RowKit
set_option linter.unusedVariables false

theorem cmp_at (v1 v2 : Value) (n m V : Int) (w : World) (h1 : IsNat w v1 n) (h2 : IsNat w v2 m) (hV : cmpI n m = V) :
    Calls Tryz.prog 15 #[v1, v2] w fun e w' => e = .returned (.int .i64 V) ∧ Below w.heap.size w w' := by subst hV; exact cmp_any v1 v2 n m w h1 h2
theorem natCmp_at (s1 s2 : Value) (n m V : Int) (w : World) (h1 : IsNum w s1 n) (h2 : IsNum w s2 m) (hV : cmpI n m = V) :
    Calls Tryz.prog 16 #[s1, s2] w fun e w' => e = .returned (.int .i64 V) ∧ Below w.heap.size w w' := by subst hV; exact natCmp_num s1 s2 n m w h1 h2
theorem sub_two (v1 v2 : Value) (n m D : Int) (ok : Bool) (w : World) (h1 : IsNat w v1 n) (h2 : IsNat w v2 m) (hn : n < pw 20) (hok : decide (m ≤ n) = ok) (hD : (if m ≤ n then n - m else 0) = D) :
    Calls Tryz.prog 8 #[v1, v2] w fun e w' => ∃ v, e = .returned (.tuple #[v, .bool ok]) ∧ IsNat w' v D ∧ Below w.heap.size w w' := by
  by_cases h : m ≤ n
  · rw [if_pos h] at hD
    rw [decide_eq_true h] at hok
    subst hok hD
    exact sub_any 20 (by decide) (by decide) v1 v2 n m w h1 h2 hn h
  · rw [if_neg h] at hD
    rw [decide_eq_false h] at hok
    subst hok hD
    refine (sub_none v1 v2 n m w h1 h2 (by omega)).mono ?_
    rintro e w' ⟨rfl, hb⟩
    exact ⟨_, rfl, IsNat.word ⟨by decide, by decide⟩, hb⟩
theorem lpw_pw (k : Nat) : lpw (2 * k) = pw k := by rw [lpw_two, pw_two]; congr 1; omega
theorem IsNum.drew {w : World} {s : Value} {n : Int} (h : IsNum w s n) : IsNum w.drew s n := by
  obtain ⟨L, h1, h2⟩ := h
  exact ⟨L, h1, h2⟩

set_option maxRecDepth 100000 in
set_option maxHeartbeats 4000000 in
theorem natSums_walk (a b : Value) (w : World) (ha : BArg w a) (hb : BArg w b) :
    Calls Tryz.prog 3 #[a, b] w fun e w' => e = .returned (.bool true) ∧ Below w.heap.size w w' := by
  go_enter Tryz.func3, Tryz.ntmps3
  go_wp2_with fail
  refine (two_any a b w ha hb).mono ?_
  rintro e w1 ⟨x, y, s1, s2, X, Y, rfl, hx, hy, hr1, hr2, hb1⟩
  obtain ⟨X0, XB⟩ := ref_pw hr1
  obtain ⟨Y0, YB⟩ := ref_pw hr2
  replace hr1 := hr1.num
  replace hr2 := hr2.num
  obtain ⟨x1, xp, xl, xc, rfl⟩ := hx.shape
  obtain ⟨y1, yp, yl, yc, rfl⟩ := hy.shape
  obtain ⟨r1p, r1l, r1c, rfl⟩ := hr1.shape
  obtain ⟨r2p, r2l, r2c, rfl⟩ := hr2.shape
  obtain ⟨V, hV⟩ : ∃ V, cmpI X Y = V := ⟨_, rfl⟩
  obtain ⟨ok, hok⟩ : ∃ ok, decide (Y ≤ X) = ok := ⟨_, rfl⟩
  obtain ⟨D, hD⟩ : ∃ D, (if Y ≤ X then X - Y else 0) = D := ⟨_, rfl⟩
  have HV := Lib.hid hV
  have Hok := Lib.hid hok
  have HD := Lib.hid hD
  clear hV hok hD ha hb
  have z0 := hb1.size
  have u0 : Var ((w1.alloc (.cells #[.int .u64 x1, .slice xp xl xc] 26)).alloc (.cells #[.int .u64 y1, .slice yp yl yc] 26)) w1.heap.size (.int .u64 x1) (.slice xp xl xc) := (Var.new w1 w1.heap.size _ _ _ _ rfl).alloc _
  have u1 : Var ((w1.alloc (.cells #[.int .u64 x1, .slice xp xl xc] 26)).alloc (.cells #[.int .u64 y1, .slice yp yl yc] 26)) (w1.heap.size + 1) (.int .u64 y1) (.slice yp yl yc) := Var.new (w1.alloc _) _ _ _ _ _ (by simp)
  have hB2 : Below w1.heap.size w1 ((w1.alloc (.cells #[.int .u64 x1, .slice xp xl xc] 26)).alloc (.cells #[.int .u64 y1, .slice yp yl yc] 26)) := by go_grown
  go_wp2_with fail
  generalize ((w1.alloc (.cells #[.int .u64 x1, .slice xp xl xc] 26)).alloc (.cells #[.int .u64 y1, .slice yp yl yc] 26)) = w2 at u0 u1 hB2 ⊢
  have z2 := hB2.size
  have hBw2 := hb1.trans (hB2.mono z0)
  refine (sub_two _ _ X Y D ok w2 (hx.below hB2) (hy.below hB2) (pw_up XB (by decide)) Hok.out HD.out).mono ?_
  rintro e w3 ⟨d, rfl, hd, hb3⟩
  obtain ⟨da, dp, dl, dc, rfl⟩ := hd.shape
  have z3 := hb3.size
  have B23 := hB2.trans (hb3.mono z2)
  have hB5 : Below w3.heap.size w3 (w3.alloc (.cells #[.int .u64 da, .slice dp dl dc] 26)) := by go_grown
  have uD5 : Var (w3.alloc (.cells #[.int .u64 da, .slice dp dl dc] 26)) w3.heap.size (.int .u64 da) (.slice dp dl dc) := Var.new w3 _ _ _ _ _ rfl
  go_wp2_with fail
  generalize (w3.alloc (.cells #[.int .u64 da, .slice dp dl dc] 26)) = w5 at hB5 uD5 ⊢
  have B15 := B23.trans (hB5.mono (by omega))
  have hBw5 := hb1.trans (B15.mono z0)
  have hx := hx.below B15
  have hy := hy.below B15
  have hp := hr1.below B15
  have hq := hr2.below B15
  have hdd := hd.below hB5
  have u05 := (u0.below hb3 u0.lt).below hB5 (u0.below hb3 u0.lt).lt
  have u15 := (u1.below hb3 u1.lt).below hB5 (u1.below hb3 u1.lt).lt
  clear B15 B23 hB5 hBw2 hB2 hb3 u0 u1 z0 z2 z3 hr1 hr2 hd
  have BX := pw_up XB (by decide)
  have BY := pw_up YB (by decide)
  have BS := pw_up (pw_sum XB YB) (by decide)
  have BP := pw_up (pw_prod X0 XB Y0 YB) (by decide)
  have LX : X < lpw 12 := by rw [show (12 : Nat) = 2 * 6 from rfl, lpw_pw]; exact XB
  have LY : Y < lpw 12 := by rw [show (12 : Nat) = 2 * 6 from rfl, lpw_pw]; exact YB
  have l0 := u05.lt
  have l1 := u15.lt
  have lD := uD5.lt
  have acc := Below.refl w5.heap.size w5
  have c00 := u05.c0
  have c01 := u05.c1
  have c10 := u15.c0
  have c11 := u15.c1
  have cD0 := uD5.c0
  have cD1 := uD5.c1
  go_wp2_with fail
  have q := known_true w5
  (with_reducible refine q.mono ?_); clear q
  rintro e r0 ⟨rfl, hb0⟩
  replace acc := below_acc acc acc.size hb0
  clear hb0
  have c00 := (u05.below acc l0).c0
  have c01 := (u05.below acc l0).c1
  have c10 := (u15.below acc l1).c0
  have c11 := (u15.below acc l1).c1
  have cD0 := (uD5.below acc lD).c0
  have cD1 := (uD5.below acc lD).c1
  go_wp2_with fail
  have q := add_any 20 (by decide) _ _ X Y r0 (hx.below acc) (hy.below acc) BX BY
  (with_reducible refine q.mono ?_); clear q
  rintro e r1 ⟨vs1, rfl, hs1, hb1⟩
  obtain ⟨as1, ps1, ms1, qs1, rfl⟩ := hs1.shape
  replace acc := below_acc acc acc.size hb1
  clear hb1
  have c00 := (u05.below acc l0).c0
  have c01 := (u05.below acc l0).c1
  have c10 := (u15.below acc l1).c0
  have c11 := (u15.below acc l1).c1
  have cD0 := (uD5.below acc lD).c0
  have cD1 := (uD5.below acc lD).c1
  go_wp2_with fail
  have q := natAdd_num 12 (by decide) _ _ X Y r1 (hp.below acc) (hq.below acc) LX LY
  (with_reducible refine q.mono ?_); clear q
  rintro e r2 ⟨vs2, rfl, hs2, hb2⟩
  obtain ⟨ps2, ms2, qs2, rfl⟩ := hs2.shape
  replace acc := below_acc acc acc.size hb2
  replace hs1 := hs1.below hb2
  clear hb2
  have c00 := (u05.below acc l0).c0
  have c01 := (u05.below acc l0).c1
  have c10 := (u15.below acc l1).c0
  have c11 := (u15.below acc l1).c1
  have cD0 := (uD5.below acc lD).c0
  have cD1 := (uD5.below acc lD).c1
  go_wp2_with fail
  have q := is_num 20 (by decide) _ _ _ BS r2 hs1 hs2
  (with_reducible refine q.mono ?_); clear q
  rintro e r3 ⟨rfl, hb3⟩
  replace acc := below_acc acc acc.size hb3
  clear hb3 hs1 hs2
  have c00 := (u05.below acc l0).c0
  have c01 := (u05.below acc l0).c1
  have c10 := (u15.below acc l1).c0
  have c11 := (u15.below acc l1).c1
  have cD0 := (uD5.below acc lD).c0
  have cD1 := (uD5.below acc lD).c1
  go_wp2_with fail
  have q := mul_any 20 (by decide) (by decide) _ _ X Y r3 (hx.below acc) (hy.below acc) BX BY
  (with_reducible refine q.mono ?_); clear q
  rintro e r4 ⟨vs3, rfl, hs3, hb4⟩
  obtain ⟨as3, ps3, ms3, qs3, rfl⟩ := hs3.shape
  replace acc := below_acc acc acc.size hb4
  clear hb4
  have c00 := (u05.below acc l0).c0
  have c01 := (u05.below acc l0).c1
  have c10 := (u15.below acc l1).c0
  have c11 := (u15.below acc l1).c1
  have cD0 := (uD5.below acc lD).c0
  have cD1 := (uD5.below acc lD).c1
  go_wp2_with fail
  have q := natMul_num 12 (by decide) _ _ X Y r4 (hp.below acc) (hq.below acc) LX LY
  (with_reducible refine q.mono ?_); clear q
  rintro e r5 ⟨vs4, rfl, hs4, hb5⟩
  obtain ⟨ps4, ms4, qs4, rfl⟩ := hs4.shape
  replace acc := below_acc acc acc.size hb5
  replace hs3 := hs3.below hb5
  clear hb5
  have c00 := (u05.below acc l0).c0
  have c01 := (u05.below acc l0).c1
  have c10 := (u15.below acc l1).c0
  have c11 := (u15.below acc l1).c1
  have cD0 := (uD5.below acc lD).c0
  have cD1 := (uD5.below acc lD).c1
  go_wp2_with fail
  have q := is_num 20 (by decide) _ _ _ BP r5 hs3 hs4
  (with_reducible refine q.mono ?_); clear q
  rintro e r6 ⟨rfl, hb6⟩
  replace acc := below_acc acc acc.size hb6
  clear hb6 hs3 hs4
  have c00 := (u05.below acc l0).c0
  have c01 := (u05.below acc l0).c1
  have c10 := (u15.below acc l1).c0
  have c11 := (u15.below acc l1).c1
  have cD0 := (uD5.below acc lD).c0
  have cD1 := (uD5.below acc lD).c1
  go_wp2_with fail
  have q := cmp_at _ _ X Y V r6 (hx.below acc) (hy.below acc) HV.out
  (with_reducible refine q.mono ?_); clear q
  rintro e r7 ⟨rfl, hb7⟩
  replace acc := below_acc acc acc.size hb7
  clear hb7
  have c00 := (u05.below acc l0).c0
  have c01 := (u05.below acc l0).c1
  have c10 := (u15.below acc l1).c0
  have c11 := (u15.below acc l1).c1
  have cD0 := (uD5.below acc lD).c0
  have cD1 := (uD5.below acc lD).c1
  go_wp2_with fail
  have q := natCmp_at _ _ X Y V r7 (hp.below acc) (hq.below acc) HV.out
  (with_reducible refine q.mono ?_); clear q
  rintro e r8 ⟨rfl, hb8⟩
  replace acc := below_acc acc acc.size hb8
  clear hb8
  have c00 := (u05.below acc l0).c0
  have c01 := (u05.below acc l0).c1
  have c10 := (u15.below acc l1).c0
  have c11 := (u15.below acc l1).c1
  have cD0 := (uD5.below acc lD).c0
  have cD1 := (uD5.below acc lD).c1
  go_wp2_with fail
  refine (natCmp_at _ _ X Y V r8 (hp.below acc) (hq.below acc) HV.out).mono ?_
  rintro e r9 ⟨rfl, hb9⟩
  replace acc := below_acc acc acc.size hb9
  clear hb9
  have cD0 := (uD5.below acc lD).c0
  have cD1 := (uD5.below acc lD).c1
  by_cases hle : Y ≤ X
  · have hok := Hok.out
    rw [decide_eq_true hle] at hok
    have hD := HD.out
    rw [if_pos hle] at hD
    have hV : ¬ V < 0 := by
      rw [← HV.out]; unfold cmpI; rw [if_neg (by omega)]; split <;> omega
    subst hok
    have HDX := Lib.hid hD
    clear hD Hok HD HV
    have BD : D < pw 20 := by rw [← HDX.out]; omega
    rw [← HDX.out] at BD hdd
    go_wp2_with fail
    go_region_held3 (fun w' => w'.cell? ⟨w3.heap.size, 0, none⟩ = some (.int .u64 da) ∧ w'.cell? ⟨w3.heap.size, 1, none⟩ = some (.slice dp dl dc))
      (first | with_reducible exact ⟨(uD5.below acc lD).c0, (uD5.below acc lD).c1⟩ | with_reducible exact ⟨(uD5.below acc lD).drew.c0, (uD5.below acc lD).drew.c1⟩)
      (first
        | (go_at_call 18; (first | (have q := natSub_num _ _ X Y r9 (hp.below acc) (hq.below acc) hle; (with_reducible refine q.mono ?_); clear q) | (have q := natSub_num _ _ X Y r9.drew (hp.below acc.drew) (hq.below acc.drew) hle; (with_reducible refine q.mono ?_); clear q)); rintro e t0 ⟨vt, rfl, ht, hb0⟩; obtain ⟨pt, mt, qt, rfl⟩ := ht.shape; (first | replace hb0 : Below r9.heap.size r9 t0 := hb0 | replace hb0 := below_undrew (w := r9) hb0); replace acc := below_acc acc acc.size hb0; clear hb0; have cD0 := (uD5.below acc lD).c0; have cD1 := (uD5.below acc lD).c1)
        | (go_at_call 10; (first | (have q := is_num 20 (by decide) _ _ _ BD t0 (hdd.below acc) ht; (with_reducible refine q.mono ?_); clear q) | (have q := is_num 20 (by decide) _ _ _ BD t0.drew (hdd.below acc.drew) (ht.drew); (with_reducible refine q.mono ?_); clear q)); rintro e t1 ⟨rfl, hb1⟩; (first | replace hb1 : Below t0.heap.size t0 t1 := hb1 | replace hb1 := below_undrew (w := t0) hb1); replace acc := below_acc acc acc.size hb1; clear hb1 ht; have cD0 := (uD5.below acc lD).c0; have cD1 := (uD5.below acc lD).c1))
    all_goals
      go_wp2_with fail
      go_ret
      exact ⟨rfl, hBw5.trans (acc.mono hBw5.size)⟩
  · have hok := Hok.out
    rw [decide_eq_false hle] at hok
    have hD := HD.out
    rw [if_neg hle] at hD
    have hV := HV.out
    rw [cmpI_lt (by omega)] at hV
    subst hok hD hV
    have hone := hdd.one (by decide)
    simp only [Value.agg.injEq, Array.mk.injEq, List.cons.injEq, Value.int.injEq, Value.slice.injEq, and_true, true_and] at hone
    obtain ⟨rfl, rfl, rfl, rfl⟩ := hone
    clear Hok HD HV
    go_wp2_with fail
    refine (bits_word 0 ⟨by decide, by decide⟩ _).mono ?_
    rintro e r10 ⟨rfl, hb10⟩
    replace acc := below_acc acc acc.size hb10
    clear hb10
    have e0 : Lib.bitLen 0 = 0 := Lib.bitLenAux_zero 64
    go_wp2_with (rw [Int.toNat_zero, e0])
    go_ret
    exact ⟨rfl, hBw5.trans (acc.mono hBw5.size)⟩
end Go.Proofs.YtjaepdjidfhamaaGreatDoor
