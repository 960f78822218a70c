/- NatKnown, walked. -/
import Derived.Test.YtjoppmkknbpjbaaDoorTextAny
import Derived.Test.YtjoppmkknbpjbaaDoorRootAny
import Derived.Test.YtjoppmkknbpjbaaDoorPow
import Derived.Test.YtjoppmkknbpjbaaDoorRefNum
namespace Go.Proofs.YtjoppmkknbpjbaaDoor
open Go.RowKit
set_option linter.unusedVariables false

theorem digs_of (s : ByteArray) (m : Nat) (hm : s.size = m) (h : ∀ i : Fin m, Dig (dg s i.1)) : Digs s := fun j hj => h ⟨j, by omega⟩
theorem txt_64 : IsText ⟨#[49, 56, 52, 52, 54, 55, 52, 52, 48, 55, 51, 55, 48, 57, 53, 53, 49, 54, 49, 54]⟩ 18446744073709551616 := ⟨by decide, digs_of _ 20 rfl (by unfold Dig; decide), .inr (by decide), by decide +kernel⟩
theorem txt_0 : IsText ⟨#[48]⟩ 0 := ⟨by decide, digs_of _ 1 rfl (by unfold Dig; decide), .inl rfl, by decide +kernel⟩
theorem txt_1 : IsText ⟨#[49]⟩ 1 := ⟨by decide, digs_of _ 1 rfl (by unfold Dig; decide), .inl rfl, by decide +kernel⟩
theorem text_128 : IsDec ⟨#[51, 52, 48, 50, 56, 50, 51, 54, 54, 57, 50, 48, 57, 51, 56, 52, 54, 51, 52, 54, 51, 51, 55, 52, 54, 48, 55, 52, 51, 49, 55, 54, 56, 50, 49, 49, 52, 53, 54]⟩ ∧ decTo ⟨#[51, 52, 48, 50, 56, 50, 51, 54, 54, 57, 50, 48, 57, 51, 56, 52, 54, 51, 52, 54, 51, 51, 55, 52, 54, 48, 55, 52, 51, 49, 55, 54, 56, 50, 49, 49, 52, 53, 54]⟩ 39 = 340282366920938463463374607431768211456 :=
  ⟨⟨by decide, by decide, digs_of _ 39 rfl (by unfold Dig; decide), .inr (by decide)⟩, by decide +kernel⟩
theorem parse_128 (w : World) : Calls Tryd.prog 4 #[.string ⟨#[51, 52, 48, 50, 56, 50, 51, 54, 54, 57, 50, 48, 57, 51, 56, 52, 54, 51, 52, 54, 51, 51, 55, 52, 54, 48, 55, 52, 51, 49, 55, 54, 56, 50, 49, 49, 52, 53, 54]⟩] w fun e w' => ∃ v, e = .returned (.tuple #[v, .bool true]) ∧ IsNat w' v 340282366920938463463374607431768211456 ∧ Below w.heap.size w w' := by
  refine (parse_any _ w (by decide)).mono ?_
  rintro e w' (⟨_, v, rfl, hv, hb⟩ | ⟨hn, _⟩)
  · have e := text_128.2
    have hv' : IsNat w' v (decTo ⟨#[51, 52, 48, 50, 56, 50, 51, 54, 54, 57, 50, 48, 57, 51, 56, 52, 54, 51, 52, 54, 51, 51, 55, 52, 54, 48, 55, 52, 51, 49, 55, 54, 56, 50, 49, 49, 52, 53, 54]⟩ 39) := hv
    rw [e] at hv'
    exact ⟨v, rfl, hv', hb⟩
  · exact absurd text_128.1 hn
theorem IsNat.great {w : World} {v : Value} {n : Int} (h : IsNat w v n) (hn : 18446744073709551616 ≤ n) : ∃ a l c, v = .agg #[.int .u64 0, .slice (some a) l c] := by
  rcases h with h | ⟨b, t, len, cap, l, hv, _⟩
  · have := h.1.2
    omega
  · exact ⟨_, _, _, hv⟩
/-- What is known of 2^128. -/
structure Is128 (A : Int) : Prop where
  p3 : A < pw 3
  p39 : A < pw 39
  great : 18446744073709551616 ≤ A
  bits : IsBits A 129
  root : IsRoot A 18446744073709551616
  pow : (2 : Int) ^ 128 = A
  one : A / 2 ^ 128 = 1
  none : A / 2 ^ 129 = 0
theorem is128 : Is128 340282366920938463463374607431768211456 := ⟨by decide +kernel, by decide +kernel, by decide, ⟨by decide +kernel, fun _ => by decide +kernel⟩, ⟨by decide, by decide +kernel, by decide +kernel⟩, by decide +kernel, by decide +kernel, by decide +kernel⟩
theorem two_39 : ∀ a, a ≤ 128 - 1 → (2 : Int) ^ a < pw 39 := fun a ha => by
  have h1 := two_pow_mono (a := a) (b := 127) (by omega)
  have h2 : (2 : Int) ^ 127 < pw 39 := by decide +kernel
  omega
theorem pow_128 (w : World) : Calls Tryd.prog 9 #[.agg #[.int .u64 2, .slice none 0 0], .int .i64 128] w fun e w' => ∃ v', e = .returned (.tuple #[v', .bool true]) ∧ IsNat w' v' (2 ^ 128) ∧ Below w.heap.size w w' :=
  pow_bd 128 (by decide) _ 2 w (IsNat.word ⟨by decide, by decide⟩) (by decide +kernel) two_39
theorem down_128 {A : Int} (h : Is128 A) (v : Value) (w : World) (hx : IsNat w v A) : Calls Tryd.prog 16 #[v, .int .i64 (-128)] w (RetNat 1 w) := by
  rw [← h.one]
  exact shift_neg 3 (by decide) v A 128 (by decide) (by decide) w hx h.p3
theorem down_129 {A : Int} (h : Is128 A) (v : Value) (w : World) (hx : IsNat w v A) : Calls Tryd.prog 16 #[v, .int .i64 (-129)] w (RetNat 0 w) := by
  rw [← h.none]
  exact shift_neg 3 (by decide) v A 129 (by decide) (by decide) w hx h.p3
set_option maxRecDepth 100000 in
set_option maxHeartbeats 4000000 in
theorem natKnown_walk (w : World) (htab : Tab w) : Calls Tryd.prog 3 #[] w fun e w' => e = .returned (.bool true) ∧ Below w.heap.size w w' := by
  have h128 := Lib.hid is128
  obtain ⟨A, hA⟩ : ∃ A : Int, 340282366920938463463374607431768211456 = A := ⟨_, rfl⟩
  have hp := parse_128
  rw [hA] at h128 hp
  have Hp := Lib.hid hp
  clear hA hp
  have hBw := Below.refl w.heap.size w
  go_enter Tryd.func3, Tryd.ntmps3
  have hb : Below w.heap.size w (w.alloc (.cells #[.int .u64 0, .slice none 0 0] 25)) := by go_grown
  have uz : Var (w.alloc (.cells #[.int .u64 0, .slice none 0 0] 25)) (w.heap.size) (.int .u64 0) (.slice none 0 0) := (Var.new w _ _ _ _ _ rfl)
  replace htab := htab.below hb
  replace hBw := hBw.trans (hb.mono hBw.size)
  clear hb
  have uz_0 := uz.c0
  have uz_1 := uz.c1
  go_wp2_with fail
  clear uz_0 uz_1
  generalize hgen : (w.alloc (.cells #[.int .u64 0, .slice none 0 0] 25)) = b1 at *
  clear hgen
  have q := Hp.out b1
  (with_reducible refine q.mono ?_); clear q
  rintro e v2 ⟨x, rfl, hx, hb⟩
  obtain ⟨ax, lx, cx, rfl⟩ := hx.great h128.out.great
  replace htab := htab.below hb
  replace uz := uz.below hb uz.lt
  replace hBw := hBw.trans (hb.mono hBw.size)
  clear hb
  have hb : Below v2.heap.size v2 (v2.alloc (.cells #[.int .u64 0, .slice (some ax) lx cx] 25)) := by go_grown
  have ux : Var (v2.alloc (.cells #[.int .u64 0, .slice (some ax) lx cx] 25)) (v2.heap.size) (.int .u64 0) (.slice (some ax) lx cx) := (Var.new v2 _ _ _ _ _ rfl)
  replace htab := htab.below hb
  replace uz := uz.below hb uz.lt
  replace hx := hx.below hb
  replace hBw := hBw.trans (hb.mono hBw.size)
  clear hb
  have uz_0 := uz.c0
  have uz_1 := uz.c1
  have ux_0 := ux.c0
  have ux_1 := ux.c1
  go_wp2_with fail
  clear uz_0 uz_1 ux_0 ux_1
  generalize hgen : (v2.alloc (.cells #[.int .u64 0, .slice (some ax) lx cx] 25)) = b3 at *
  clear hgen
  have q := of_any 3 b3
  (with_reducible refine q.mono ?_); clear q
  rintro e v4 ⟨rfl, hb⟩
  replace htab := htab.below hb
  replace uz := uz.below hb uz.lt
  replace hx := hx.below hb
  replace ux := ux.below hb ux.lt
  replace hBw := hBw.trans (hb.mono hBw.size)
  clear hb
  have uz_0 := uz.c0
  have uz_1 := uz.c1
  have ux_0 := ux.c0
  have ux_1 := ux.c1
  go_wp2_with fail
  clear uz_0 uz_1 ux_0 ux_1
  have q := of_any 4 v4
  (with_reducible refine q.mono ?_); clear q
  rintro e v5 ⟨rfl, hb⟩
  replace htab := htab.below hb
  replace uz := uz.below hb uz.lt
  replace hx := hx.below hb
  replace ux := ux.below hb ux.lt
  replace hBw := hBw.trans (hb.mono hBw.size)
  clear hb
  have uz_0 := uz.c0
  have uz_1 := uz.c1
  have ux_0 := ux.c0
  have ux_1 := ux.c1
  go_wp2_with fail
  clear uz_0 uz_1 ux_0 ux_1
  have q := sub_none _ _ 3 4 v5 (IsNat.word ⟨by decide, by decide⟩) (IsNat.word ⟨by decide, by decide⟩) (by decide)
  (with_reducible refine q.mono ?_); clear q
  rintro e v6 ⟨rfl, hb⟩
  replace htab := htab.below hb
  replace uz := uz.below hb uz.lt
  replace hx := hx.below hb
  replace ux := ux.below hb ux.lt
  replace hBw := hBw.trans (hb.mono hBw.size)
  clear hb
  have hb : Below v6.heap.size v6 (v6.alloc (.cells #[.int .u64 0, .slice none 0 0] 25)) := by go_grown
  replace htab := htab.below hb
  replace uz := uz.below hb uz.lt
  replace hx := hx.below hb
  replace ux := ux.below hb ux.lt
  replace hBw := hBw.trans (hb.mono hBw.size)
  clear hb
  have uz_0 := uz.c0
  have uz_1 := uz.c1
  have ux_0 := ux.c0
  have ux_1 := ux.c1
  go_wp2_with fail
  clear uz_0 uz_1 ux_0 ux_1
  generalize hgen : (v6.alloc (.cells #[.int .u64 0, .slice none 0 0] 25)) = b7 at *
  clear hgen
  have q := div_zero _ A b7 hx
  (with_reducible refine q.mono ?_); clear q
  rintro e v8 ⟨rfl, hb⟩
  replace htab := htab.below hb
  replace uz := uz.below hb uz.lt
  replace hx := hx.below hb
  replace ux := ux.below hb ux.lt
  replace hBw := hBw.trans (hb.mono hBw.size)
  clear hb
  have hb : Below v8.heap.size v8 ((v8.alloc (.cells #[.int .u64 0, .slice none 0 0] 25)).alloc (.cells #[.int .u64 0, .slice none 0 0] 25)) := by go_grown
  replace htab := htab.below hb
  replace uz := uz.below hb uz.lt
  replace hx := hx.below hb
  replace ux := ux.below hb ux.lt
  replace hBw := hBw.trans (hb.mono hBw.size)
  clear hb
  have uz_0 := uz.c0
  have uz_1 := uz.c1
  have ux_0 := ux.c0
  have ux_1 := ux.c1
  go_wp2_with fail
  clear uz_0 uz_1 ux_0 ux_1
  generalize hgen : ((v8.alloc (.cells #[.int .u64 0, .slice none 0 0] 25)).alloc (.cells #[.int .u64 0, .slice none 0 0] 25)) = b9 at *
  clear hgen
  have q := small_many ax lx cx b9
  (with_reducible refine q.mono ?_); clear q
  rintro e v10 ⟨rfl, hb⟩
  replace htab := htab.below hb
  replace uz := uz.below hb uz.lt
  replace hx := hx.below hb
  replace ux := ux.below hb ux.lt
  replace hBw := hBw.trans (hb.mono hBw.size)
  clear hb
  have uz_0 := uz.c0
  have uz_1 := uz.c1
  have ux_0 := ux.c0
  have ux_1 := ux.c1
  go_wp2_with fail
  clear uz_0 uz_1 ux_0 ux_1
  have q := of_any 2 v10
  (with_reducible refine q.mono ?_); clear q
  rintro e v11 ⟨rfl, hb⟩
  replace htab := htab.below hb
  replace uz := uz.below hb uz.lt
  replace hx := hx.below hb
  replace ux := ux.below hb ux.lt
  replace hBw := hBw.trans (hb.mono hBw.size)
  clear hb
  have uz_0 := uz.c0
  have uz_1 := uz.c1
  have ux_0 := ux.c0
  have ux_1 := ux.c1
  go_wp2_with fail
  clear uz_0 uz_1 ux_0 ux_1
  have q := pow_128 v11
  (with_reducible refine q.mono ?_); clear q
  rintro e v12 ⟨p, rfl, hq, hb⟩
  rw [h128.out.pow] at hq
  obtain ⟨ap, lp, cp, rfl⟩ := hq.great h128.out.great
  replace htab := htab.below hb
  replace uz := uz.below hb uz.lt
  replace hx := hx.below hb
  replace ux := ux.below hb ux.lt
  replace hBw := hBw.trans (hb.mono hBw.size)
  clear hb
  have hb : Below v12.heap.size v12 (v12.alloc (.cells #[.int .u64 0, .slice (some ap) lp cp] 25)) := by go_grown
  have up : Var (v12.alloc (.cells #[.int .u64 0, .slice (some ap) lp cp] 25)) (v12.heap.size) (.int .u64 0) (.slice (some ap) lp cp) := (Var.new v12 _ _ _ _ _ rfl)
  replace htab := htab.below hb
  replace uz := uz.below hb uz.lt
  replace hx := hx.below hb
  replace ux := ux.below hb ux.lt
  replace hq := hq.below hb
  replace hBw := hBw.trans (hb.mono hBw.size)
  clear hb
  have uz_0 := uz.c0
  have uz_1 := uz.c1
  have ux_0 := ux.c0
  have ux_1 := ux.c1
  have up_0 := up.c0
  have up_1 := up.c1
  go_wp2_with fail
  clear uz_0 uz_1 ux_0 ux_1 up_0 up_1
  generalize hgen : (v12.alloc (.cells #[.int .u64 0, .slice (some ap) lp cp] 25)) = b13 at *
  clear hgen
  have q := of_any 2 b13
  (with_reducible refine q.mono ?_); clear q
  rintro e v14 ⟨rfl, hb⟩
  replace htab := htab.below hb
  replace uz := uz.below hb uz.lt
  replace hx := hx.below hb
  replace ux := ux.below hb ux.lt
  replace hq := hq.below hb
  replace up := up.below hb up.lt
  replace hBw := hBw.trans (hb.mono hBw.size)
  clear hb
  have uz_0 := uz.c0
  have uz_1 := uz.c1
  have ux_0 := ux.c0
  have ux_1 := ux.c1
  have up_0 := up.c0
  have up_1 := up.c1
  go_wp2_with fail
  clear uz_0 uz_1 ux_0 ux_1 up_0 up_1
  have q := pow_neg _ 2 (-1) (by decide) v14 (IsNat.word ⟨by decide, by decide⟩)
  (with_reducible refine q.mono ?_); clear q
  rintro e v15 ⟨rfl, hb⟩
  replace htab := htab.below hb
  replace uz := uz.below hb uz.lt
  replace hx := hx.below hb
  replace ux := ux.below hb ux.lt
  replace hq := hq.below hb
  replace up := up.below hb up.lt
  replace hBw := hBw.trans (hb.mono hBw.size)
  clear hb
  have hb : Below v15.heap.size v15 (v15.alloc (.cells #[.int .u64 0, .slice none 0 0] 25)) := by go_grown
  replace htab := htab.below hb
  replace uz := uz.below hb uz.lt
  replace hx := hx.below hb
  replace ux := ux.below hb ux.lt
  replace hq := hq.below hb
  replace up := up.below hb up.lt
  replace hBw := hBw.trans (hb.mono hBw.size)
  clear hb
  have uz_0 := uz.c0
  have uz_1 := uz.c1
  have ux_0 := ux.c0
  have ux_1 := ux.c1
  have up_0 := up.c0
  have up_1 := up.c1
  go_wp2_with fail
  clear uz_0 uz_1 ux_0 ux_1 up_0 up_1
  generalize hgen : (v15.alloc (.cells #[.int .u64 0, .slice none 0 0] 25)) = b16 at *
  clear hgen
  have q := of_any 18446744073709551615 b16
  (with_reducible refine q.mono ?_); clear q
  rintro e v17 ⟨rfl, hb⟩
  replace htab := htab.below hb
  replace uz := uz.below hb uz.lt
  replace hx := hx.below hb
  replace ux := ux.below hb ux.lt
  replace hq := hq.below hb
  replace up := up.below hb up.lt
  replace hBw := hBw.trans (hb.mono hBw.size)
  clear hb
  have uz_0 := uz.c0
  have uz_1 := uz.c1
  have ux_0 := ux.c0
  have ux_1 := ux.c1
  have up_0 := up.c0
  have up_1 := up.c1
  go_wp2_with fail
  clear uz_0 uz_1 ux_0 ux_1 up_0 up_1
  have q := small_word 18446744073709551615 v17
  (with_reducible refine q.mono ?_); clear q
  rintro e v18 ⟨rfl, hb⟩
  replace htab := htab.below hb
  replace uz := uz.below hb uz.lt
  replace hx := hx.below hb
  replace ux := ux.below hb ux.lt
  replace hq := hq.below hb
  replace up := up.below hb up.lt
  replace hBw := hBw.trans (hb.mono hBw.size)
  clear hb
  have uz_0 := uz.c0
  have uz_1 := uz.c1
  have ux_0 := ux.c0
  have ux_1 := ux.c1
  have up_0 := up.c0
  have up_1 := up.c1
  go_wp2_with fail
  clear uz_0 uz_1 ux_0 ux_1 up_0 up_1
  have q := known_true v18
  (with_reducible refine q.mono ?_); clear q
  rintro e v19 ⟨rfl, hb⟩
  replace htab := htab.below hb
  replace uz := uz.below hb uz.lt
  replace hx := hx.below hb
  replace ux := ux.below hb ux.lt
  replace hq := hq.below hb
  replace up := up.below hb up.lt
  replace hBw := hBw.trans (hb.mono hBw.size)
  clear hb
  have uz_0 := uz.c0
  have uz_1 := uz.c1
  have ux_0 := ux.c0
  have ux_1 := ux.c1
  have up_0 := up.c0
  have up_1 := up.c1
  go_wp2_with fail
  clear uz_0 uz_1 ux_0 ux_1 up_0 up_1
  have q := bits_nat _ A v19 hx
  (with_reducible refine q.mono ?_); clear q
  rintro e v20 ⟨⟨k, rfl, hk⟩, hb⟩
  obtain rfl := hk.unique h128.out.bits
  clear hk
  replace htab := htab.below hb
  replace uz := uz.below hb uz.lt
  replace hx := hx.below hb
  replace ux := ux.below hb ux.lt
  replace hq := hq.below hb
  replace up := up.below hb up.lt
  replace hBw := hBw.trans (hb.mono hBw.size)
  clear hb
  have uz_0 := uz.c0
  have uz_1 := uz.c1
  have ux_0 := ux.c0
  have ux_1 := ux.c1
  have up_0 := up.c0
  have up_1 := up.c1
  go_wp2_with fail
  clear uz_0 uz_1 ux_0 ux_1 up_0 up_1
  have q := root_any 3 (by decide) (by decide) _ A v20 hx h128.out.p3
  (with_reducible refine q.mono ?_); clear q
  rintro e v21 ⟨r, hr, v, rfl, hv, hb⟩
  obtain rfl := h128.out.root.uniq hr
  obtain ⟨va, vl, vc, rfl⟩ := hv.great (by decide)
  replace htab := htab.below hb
  replace uz := uz.below hb uz.lt
  replace hx := hx.below hb
  replace ux := ux.below hb ux.lt
  replace hq := hq.below hb
  replace up := up.below hb up.lt
  replace hBw := hBw.trans (hb.mono hBw.size)
  clear hb
  have uz_0 := uz.c0
  have uz_1 := uz.c1
  have ux_0 := ux.c0
  have ux_1 := ux.c1
  have up_0 := up.c0
  have up_1 := up.c1
  go_wp2_with fail
  clear uz_0 uz_1 ux_0 ux_1 up_0 up_1
  have q := text_any _ _ v21 htab hv (by decide +kernel)
  (with_reducible refine q.mono ?_); clear q
  rintro e v22 ⟨t, rfl, ht, hb⟩
  obtain rfl := ht.unique txt_64
  clear ht
  replace htab := htab.below hb
  replace uz := uz.below hb uz.lt
  replace hx := hx.below hb
  replace ux := ux.below hb ux.lt
  replace hq := hq.below hb
  replace up := up.below hb up.lt
  replace hv := hv.below hb
  replace hBw := hBw.trans (hb.mono hBw.size)
  clear hb
  clear hv
  have uz_0 := uz.c0
  have uz_1 := uz.c1
  have ux_0 := ux.c0
  have ux_1 := ux.c1
  have up_0 := up.c0
  have up_1 := up.c1
  go_wp2_with fail
  clear uz_0 uz_1 ux_0 ux_1 up_0 up_1
  have q := cmp_alike _ _ A A v22 hx hq rfl
  (with_reducible refine q.mono ?_); clear q
  rintro e v23 ⟨rfl, hb⟩
  replace htab := htab.below hb
  replace uz := uz.below hb uz.lt
  replace hx := hx.below hb
  replace ux := ux.below hb ux.lt
  replace hq := hq.below hb
  replace up := up.below hb up.lt
  replace hBw := hBw.trans (hb.mono hBw.size)
  clear hb
  have uz_0 := uz.c0
  have uz_1 := uz.c1
  have ux_0 := ux.c0
  have ux_1 := ux.c1
  have up_0 := up.c0
  have up_1 := up.c1
  go_wp2_with fail
  clear uz_0 uz_1 ux_0 ux_1 up_0 up_1
  have q := text_any _ 0 v23 htab (IsNat.word ⟨by decide, by decide⟩) (by decide +kernel)
  (with_reducible refine q.mono ?_); clear q
  rintro e v24 ⟨t, rfl, ht, hb⟩
  obtain rfl := ht.unique txt_0
  clear ht
  replace htab := htab.below hb
  replace uz := uz.below hb uz.lt
  replace hx := hx.below hb
  replace ux := ux.below hb ux.lt
  replace hq := hq.below hb
  replace up := up.below hb up.lt
  replace hBw := hBw.trans (hb.mono hBw.size)
  clear hb
  have uz_0 := uz.c0
  have uz_1 := uz.c1
  have ux_0 := ux.c0
  have ux_1 := ux.c1
  have up_0 := up.c0
  have up_1 := up.c1
  go_wp2_with fail
  clear uz_0 uz_1 ux_0 ux_1 up_0 up_1
  have q := bytes_any 1 (by decide) _ 0 v24 (IsNat.word ⟨by decide, by decide⟩) (by decide +kernel)
  (with_reducible refine q.mono ?_); clear q
  rintro e v25 ⟨bb, k, m, rfl, hk, hm, _, _, hb⟩
  obtain rfl := hk.unique isBits_zero
  obtain rfl : m = 0 := hm
  clear hk
  replace htab := htab.below hb
  replace uz := uz.below hb uz.lt
  replace hx := hx.below hb
  replace ux := ux.below hb ux.lt
  replace hq := hq.below hb
  replace up := up.below hb up.lt
  replace hBw := hBw.trans (hb.mono hBw.size)
  clear hb
  have uz_0 := uz.c0
  have uz_1 := uz.c1
  have ux_0 := ux.c0
  have ux_1 := ux.c1
  have up_0 := up.c0
  have up_1 := up.c1
  go_wp2_with fail
  clear uz_0 uz_1 ux_0 ux_1 up_0 up_1
  have q := bits_word 0 ⟨by decide, by decide⟩ v25
  (with_reducible refine q.mono ?_); clear q
  rintro e v26 ⟨rfl, hb⟩
  rw [show Lib.bitLen (0 : Int).toNat = 0 from Lib.bitLenAux_zero 64]
  replace htab := htab.below hb
  replace uz := uz.below hb uz.lt
  replace hx := hx.below hb
  replace ux := ux.below hb ux.lt
  replace hq := hq.below hb
  replace up := up.below hb up.lt
  replace hBw := hBw.trans (hb.mono hBw.size)
  clear hb
  have uz_0 := uz.c0
  have uz_1 := uz.c1
  have ux_0 := ux.c0
  have ux_1 := ux.c1
  have up_0 := up.c0
  have up_1 := up.c1
  go_wp2_with fail
  clear uz_0 uz_1 ux_0 ux_1 up_0 up_1
  have q := down_128 h128.out _ v26 hx
  (with_reducible refine q.mono ?_); clear q
  rintro e v27 ⟨v, rfl, hv, hb⟩
  obtain rfl := hv.one (by decide)
  clear hv
  replace htab := htab.below hb
  replace uz := uz.below hb uz.lt
  replace hx := hx.below hb
  replace ux := ux.below hb ux.lt
  replace hq := hq.below hb
  replace up := up.below hb up.lt
  replace hBw := hBw.trans (hb.mono hBw.size)
  clear hb
  have uz_0 := uz.c0
  have uz_1 := uz.c1
  have ux_0 := ux.c0
  have ux_1 := ux.c1
  have up_0 := up.c0
  have up_1 := up.c1
  go_wp2_with fail
  clear uz_0 uz_1 ux_0 ux_1 up_0 up_1
  have q := text_any _ 1 v27 htab (IsNat.word ⟨by decide, by decide⟩) (by decide +kernel)
  (with_reducible refine q.mono ?_); clear q
  rintro e v28 ⟨t, rfl, ht, hb⟩
  obtain rfl := ht.unique txt_1
  clear ht
  replace htab := htab.below hb
  replace uz := uz.below hb uz.lt
  replace hx := hx.below hb
  replace ux := ux.below hb ux.lt
  replace hq := hq.below hb
  replace up := up.below hb up.lt
  replace hBw := hBw.trans (hb.mono hBw.size)
  clear hb
  have uz_0 := uz.c0
  have uz_1 := uz.c1
  have ux_0 := ux.c0
  have ux_1 := ux.c1
  have up_0 := up.c0
  have up_1 := up.c1
  go_wp2_with fail
  clear uz_0 uz_1 ux_0 ux_1 up_0 up_1
  have q := down_129 h128.out _ v28 hx
  (with_reducible refine q.mono ?_); clear q
  rintro e v29 ⟨v, rfl, hv, hb⟩
  obtain rfl := hv.one (by decide)
  clear hv
  replace htab := htab.below hb
  replace uz := uz.below hb uz.lt
  replace hx := hx.below hb
  replace ux := ux.below hb ux.lt
  replace hq := hq.below hb
  replace up := up.below hb up.lt
  replace hBw := hBw.trans (hb.mono hBw.size)
  clear hb
  have uz_0 := uz.c0
  have uz_1 := uz.c1
  have ux_0 := ux.c0
  have ux_1 := ux.c1
  have up_0 := up.c0
  have up_1 := up.c1
  go_wp2_with fail
  clear uz_0 uz_1 ux_0 ux_1 up_0 up_1
  have q := bits_word 0 ⟨by decide, by decide⟩ v29
  (with_reducible refine q.mono ?_); clear q
  rintro e v30 ⟨rfl, hb⟩
  rw [show Lib.bitLen (0 : Int).toNat = 0 from Lib.bitLenAux_zero 64]
  replace htab := htab.below hb
  replace uz := uz.below hb uz.lt
  replace hx := hx.below hb
  replace ux := ux.below hb ux.lt
  replace hq := hq.below hb
  replace up := up.below hb up.lt
  replace hBw := hBw.trans (hb.mono hBw.size)
  clear hb
  have uz_0 := uz.c0
  have uz_1 := uz.c1
  have ux_0 := ux.c0
  have ux_1 := ux.c1
  have up_0 := up.c0
  have up_1 := up.c1
  go_wp2_with fail
  clear uz_0 uz_1 ux_0 ux_1 up_0 up_1
  have q := bytes_any 3 (by decide) _ A v30 hx h128.out.p3
  (with_reducible refine q.mono ?_); clear q
  rintro e v31 ⟨bb, k, m, rfl, hk, hm, _, _, hb⟩
  obtain rfl := hk.unique h128.out.bits
  obtain rfl : m = 17 := hm
  clear hk
  replace htab := htab.below hb
  replace uz := uz.below hb uz.lt
  replace hx := hx.below hb
  replace ux := ux.below hb ux.lt
  replace hq := hq.below hb
  replace up := up.below hb up.lt
  replace hBw := hBw.trans (hb.mono hBw.size)
  clear hb
  have uz_0 := uz.c0
  have uz_1 := uz.c1
  have ux_0 := ux.c0
  have ux_1 := ux.c1
  have up_0 := up.c0
  have up_1 := up.c1
  go_wp2_with fail
  clear uz_0 uz_1 ux_0 ux_1 up_0 up_1
  go_ret
  exact ⟨rfl, hBw⟩
end Go.Proofs.YtjoppmkknbpjbaaDoor
