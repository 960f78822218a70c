/- DiceOrders, walked. -/
import Derived.Test.YtikoaihbpdcofaaDicE
namespace Go.Proofs.Ytikoaihbpdcofaa
open Go.RowKit
set_option linter.unusedVariables false

set_option maxRecDepth 100000 in
set_option maxHeartbeats 2000000 in
theorem diceOrders_walk (seed n0 k0 : Int) (w : World) (bs : Word seed) (bn : -9223372036854775808 ≤ n0 ∧ n0 ≤ 9223372036854775807) (bk : -9223372036854775808 ≤ k0 ∧ k0 ≤ 9223372036854775807) :
    Calls Try.prog 3 #[.int .u64 seed, .int .i64 n0, .int .i64 k0] w fun e w' => e = .returned (.bool true) ∧ Below w.heap.size w w' := by
  go_enter Try.func3, Try.ntmps3
  go_wp2_with fail
  refine (new_dice seed w).mono ?_
  rintro e w1 ⟨rfl, ha, b1⟩
  go_wp2_with fail
  refine (new_dice seed w1).mono ?_
  rintro e w2 ⟨rfl, hb, b2⟩
  have la := ha.lt
  have lb := hb.lt
  replace ha := ha.below b2 la
  have B2 := b1.trans (b2.mono (by omega))
  clear b1 b2
  go_wp2_with fail
  refine (known5_true w2).mono ?_
  rintro e w3 ⟨rfl, b3⟩
  replace ha := ha.below b3 ha.lt
  replace hb := hb.below b3 hb.lt
  have B3 := B2.trans (b3.mono (by have := B2.size; omega))
  have lb3 := hb.lt
  have sz3 := B3.size
  clear B2 b3
  go_wp2_with fail
  refine (pick_d n0 200 bn.1 bn.2 (by decide) (by decide) w3).mono ?_
  rintro e w4 ⟨⟨p, hp, rfl⟩, rfl⟩
  obtain ⟨n, hn⟩ : ∃ n, p + 1 = n := ⟨_, rfl⟩
  have hn1 : 1 ≤ n := by omega
  have hn2 : n ≤ 200 := by omega
  have en : (1 : Int) + (p : Int) = (n : Int) := by omega
  have Hn := Lib.hid hn
  clear hn hp
  go_wp2_with fail
  refine (pick_d k0 100 bk.1 bk.2 (by decide) (by decide) w3).mono ?_
  rintro e w4 ⟨⟨k, hk, rfl⟩, rfl⟩
  go_wp2_with fail
  refine (order_any w.heap.size n seed hn1 (by omega) w3 ha).mono ?_
  rintro e w4 ⟨qa, l, s1, hm1, rfl, hl, har, hqa, ha4, g4⟩
  have lq := har.lt
  replace hb := hb.grown g4 (by simp; omega)
  have B4 := B3.grown g4 (by have := B3.size; omega) (fun j e => by cases e; omega)
  clear ha B3 g4
  go_wp2_with fail
  refine (order_any w1.heap.size n seed hn1 (by omega) w4 hb).mono ?_
  rintro e w5 ⟨qb, l2, s2, hm2, rfl, hl2, hbr, hqb, hb5, g5⟩
  obtain ⟨rfl, rfl⟩ := hm1.unique hm2
  have lq2 := hbr.lt
  have hon := hm1.once (upto_once n) (by omega)
  replace ha4 := ha4.grown g5 (by simp; omega)
  have har5 := har.grown g5 (by simp; omega)
  have B5 := B4.grown g5 (by have := B4.size; omega) (fun j e => by cases e; omega)
  have hsz5 : w4.heap.size ≤ w5.heap.size := g5.size
  clear har hm1 hm2 hb B4 g5 hl2
  go_wp2_with fail
  refine (sameInts_true _ _ l qa qb w5 (.inr ⟨qa, by rw [hl], har5, Nat.le_refl _⟩) (.inr ⟨qb, by rw [hl], hbr, Nat.le_refl _⟩) (by omega)).mono ?_
  rintro e w6 ⟨rfl, m1, rfl⟩
  have hmk := makeI n n rfl (by omega)
  clear hbr
  have ha6 : DBox (w5.drewN m1) w.heap.size s1 := ha4
  have hb6 : DBox (w5.drewN m1) w1.heap.size s1 := hb5
  have har6 : Arr (w5.drewN m1) qa 3 .i64 l := har5
  have B6 : Below w.heap.size w (w5.drewN m1) := ⟨B5.os, B5.tape, B5.output, B5.size, B5.block⟩
  generalize w5.drewN m1 = w6 at *
  clear ha4 hb5 har5 B5
  go_wp2_with fail
  have hs7 : Arr (w6.alloc (.cells (zeros .i64 n) 3)) w6.heap.size 3 .i64 (List.replicate n 0) := Arr.new w6 3 .i64 (List.replicate n 0) _ rfl
  have b7 : Below w6.heap.size w6 (w6.alloc (.cells (zeros .i64 n) 3)) := by go_grown
  have ha7 := ha6.below b7 ha6.lt
  have hb7 := hb6.below b7 hb6.lt
  have har7 := har6.below b7 har6.lt
  have B7 := B6.trans (b7.mono B6.size)
  have lta := ha6.lt
  have ltb := hb6.lt
  have ltr := har6.lt
  have sz6 := B6.size
  obtain ⟨qs, hqs⟩ : ∃ qs, w6.heap.size = qs := ⟨_, rfl⟩
  rw [hqs] at hs7 lta ltb ltr sz6 ⊢
  generalize w6.alloc (.cells (zeros .i64 n) 3) = w7 at hs7 ha7 hb7 har7 B7 ⊢
  have Hlt := Lib.hid (And.intro lta (And.intro ltb (And.intro ltr sz6)))
  clear ha6 hb6 har6 B6 b7 hqs lta ltb ltr sz6
  go_loopg [11] n (fun g iv wr => ∃ (j : Nat) (S : List Int), g = n - j ∧ j ≤ n ∧ iv = .int .i64 j ∧ S.length = n ∧ Arr wr qs 3 .i64 S ∧ (∀ i, j ≤ i → i < n → S.getD (l.getD i 0).toNat 0 = 0) ∧ Below qs w7 wr)
  case atStart => exact ⟨0, List.replicate n 0, rfl, Nat.zero_le _, rfl, by simp, hs7, fun i _ hi => by simp [List.getD_eq_getElem?_getD, List.getElem?_replicate]; split <;> rfl, Below.refl _ _⟩
  case round =>
    obtain ⟨j, S, hg, hj, rfl, hS, hA, hz, hB⟩ := hrel
    have Hg := Lib.hid hg
    clear hg hs7
    by_cases hlt : j < n
    · have hr := hon.2.1 j hlt
      have hx := (har7.below hB Hlt.out.2.2.1).cell j (by omega)
      obtain ⟨x, hxe⟩ : ∃ x, l.getD j 0 = x := ⟨_, rfl⟩
      rw [hxe] at hr hx
      obtain ⟨X, rfl⟩ := Int.eq_ofNat_of_zero_le hr.1
      have hX : X < n := by omega
      have hc := hA.cell X (by omega)
      have hf := hA.free X
      have h0 := hz j (Nat.le_refl _) hlt
      rw [hxe, Int.toNat_natCast] at h0
      rw [h0] at hc
      have hset := hA.set X 1
      have hzz : ∀ i, j + 1 ≤ i → i < n → (S.set X 1).getD (l.getD i 0).toNat 0 = 0 := by
        intro i hi hin
        rw [getD_set _ _ _ _ (by omega), if_neg, hz i (by omega) hin]
        intro e
        have h1 := hon.2.1 i hin
        have := hon.2.2 i j hin hlt (by rw [hxe]; omega)
        omega
      have hlen : (S.set X 1).length = n := by rw [List.length_set, hS]
      have hB2 := hB.setCell (p := ⟨qs, X, none⟩) (Nat.le_refl _) (.int .i64 1)
      have Hset := Lib.hid hset
      have Hzz := Lib.hid hzz
      have HB := Lib.hid hB2
      clear hset hzz hB2 hA hz h0 hxe hon har7 ha7 hb7 B7 hB
      go_wp2_with fail
      go_roundg (n - (j + 1))
      case measure => have := Hg.out; omega
      case rel => exact ⟨j + 1, S.set X 1, rfl, by omega, by go_num, hlen, Hset.out, Hzz.out, HB.out⟩
    · obtain ⟨lta, ltb, ltr, sz6⟩ := Hlt.out
      replace ha7 := ha7.below hB lta
      have B8 := B7.trans (hB.mono sz6)
      have sz8 := B8.size
      clear hz hA har7 hb7 B7 hB hon
      go_wp2_with fail
      refine (state_dice _ _ _ ha7).mono ?_
      rintro e w8 ⟨rfl, rfl⟩
      go_wp2_with fail
      refine (new_dice s1 wr).mono ?_
      rintro e w8 ⟨rfl, hc8, b8⟩
      have la8 := ha7.lt
      have lc8 := hc8.lt
      replace ha7 := ha7.below b8 la8
      have B9 := B8.trans (b8.mono sz8)
      have sz9 := B9.size
      clear B8 b8
      go_wp2_with fail
      refine (draw_any w.heap.size k s1 n (by omega) (by omega) w8 ha7).mono ?_
      rintro e w9 ⟨v, m, t1, hd1, rfl, hm1, hi1, ha9, g9⟩
      replace hc8 := hc8.grown g9 (by simp; omega)
      have B10 := B9.grown g9 sz9 (fun j e => by cases e; omega)
      have sz10 := B10.size
      have hv := hi1.cells
      rw [hm1] at hv
      obtain ⟨pv, rfl, hcv⟩ := hv
      have sz89 := g9.size
      clear ha7 B9 g9 hcv
      go_wp2_with fail
      refine (draw_any wr.heap.size k s1 n (by omega) (by omega) w9 hc8).mono ?_
      rintro e w10 ⟨v2, m2, t2, hd2, rfl, hm2, hi2, hc10, g10⟩
      obtain ⟨rfl, rfl⟩ := hd1.unique hd2 (by rw [hm1, hm2])
      have hrg := hd1.range (by omega)
      replace ha9 := ha9.grown g10 (by simp; omega)
      have hi10 := hi1.grown g10 lc8
      have B11 := B10.grown g10 sz10 (fun j e => by cases e; omega)
      clear hc8 B10 g10 hi1 hd1 hd2
      go_wp2_with fail
      refine (sameInts_true _ _ m _ _ w10 hi10 hi2 (by omega)).mono ?_
      rintro e w11 ⟨rfl, m3, rfl⟩
      have ha11 : DBox (w10.drewN m3) w.heap.size t1 := ha9
      have hc11 : DBox (w10.drewN m3) wr.heap.size t1 := hc10
      have hi11 : Ints (w10.drewN m3) w8.heap.size (.slice pv k k) m := hi10
      have B12 : Below w.heap.size w (w10.drewN m3) := ⟨B11.os, B11.tape, B11.output, B11.size, B11.block⟩
      generalize w10.drewN m3 = w12 at *
      have hv := hi11.cells
      rw [hm1] at hv
      obtain ⟨pv', epv, hcv⟩ := hv
      obtain rfl : pv = pv' := by cases epv; rfl
      have hne : w.heap.size ≠ wr.heap.size := by omega
      clear ha9 hc10 hi10 hi11 B11 hi2 hm2 epv
      go_wp2_with fail
      go_loopg [14] k (fun g iv wq => ∃ (j z : Nat), g = k - j ∧ j ≤ k ∧ iv = .int .i64 j ∧ wq = w12.drewN z)
      case atStart => exact ⟨0, 0, rfl, Nat.zero_le _, rfl, rfl⟩
      case round =>
        obtain ⟨j2, z, hg2, hj2, rfl, rfl⟩ := hrel
        have Hg2 := Lib.hid hg2
        clear hg2
        by_cases hlt2 : j2 < k
        · obtain ⟨qm, rfl, hcells⟩ := hcv (by omega)
          have hx := hcells j2 hlt2
          have hxr := hrg (m.getD j2 0) (by rw [List.getD_eq_getElem?_getD, List.getElem?_eq_getElem (by omega)]; exact List.getElem_mem _)
          obtain ⟨x, hxe⟩ : ∃ x, m.getD j2 0 = x := ⟨_, rfl⟩
          rw [hxe] at hx hxr
          obtain ⟨X, rfl⟩ := Int.eq_ofNat_of_zero_le hxr.1
          have hX : X < n := by omega
          clear hcells hcv hxe hrg ha11 hc11
          go_wp2_with fail
          go_roundg (k - (j2 + 1))
          case measure => have := Hg2.out; omega
          case rel => exact ⟨j2 + 1, _, rfl, by omega, by go_num, rfl⟩
        · obtain rfl : j2 = k := by omega
          have ha13 : DBox (w12.drewN z) w.heap.size t1 := ha11
          have hc13 : DBox (w12.drewN z) wr.heap.size t1 := hc11
          have B13 : Below w.heap.size w (w12.drewN z) := ⟨B12.os, B12.tape, B12.output, B12.size, B12.block⟩
          generalize w12.drewN z = w13 at *
          have sz13 := B13.size
          clear hcv hrg ha11 hc11 B12
          go_wp2_with fail
          refine (state_dice _ _ _ ha13).mono ?_
          rintro e w14 ⟨rfl, rfl⟩
          go_wp2_with fail
          refine (state_dice _ _ _ hc13).mono ?_
          rintro e w14 ⟨rfl, rfl⟩
          go_wp2_with fail
          refine (next_dice _ _ _ ha13).mono ?_
          rintro e w14 ⟨rfl, ha14, g14⟩
          have hc14 := hc13.grown g14 (by simp; omega)
          have B14 := B13.grown g14 sz13 (fun j e => by cases e; omega)
          have sz14 := B14.size
          clear B13 g14 ha13 hc13
          go_wp2_with fail
          refine (next_dice _ _ _ hc14).mono ?_
          rintro e w15 ⟨rfl, hc15, g15⟩
          have B15 := B14.grown g15 sz14 (fun j e => by cases e; omega)
          go_wp2_with fail
          go_ret
          exact ⟨rfl, B15⟩
end Go.Proofs.Ytikoaihbpdcofaa
