/- PartBoots, walked. -/
import Derived.Test.YtgccgacpifebbaaPartC
namespace Go.Proofs.Ytgccgacpifebbaa
open Go.RowKit
set_option linter.unusedVariables false

/-- How often i stands among the first k of l. -/
def cnts (l : List Int) (k i : Nat) : Int := ((l.take k).count (i : Int) : Nat)
theorem cnts_succ (l : List Int) (k i x : Nat) (hk : k < l.length) (hx : l.getD k 0 = x) : cnts l (k + 1) i = cnts l k i + if i = x then 1 else 0 := by
  unfold cnts
  rw [take_snoc l k 0 hk, hx, List.count_append]
  by_cases e : i = x
  · subst e; simp
  · have : ¬ (x : Int) = (i : Int) := by omega
    simp [e, this]
theorem cnts_zero (l : List Int) (i : Nat) : cnts l 0 i = 0 := by simp [cnts]
theorem cnts_all (l : List Int) (n i : Nat) (h : l.length = n) : cnts l n i = (l.count (i : Int) : Nat) := by unfold cnts; rw [List.take_of_length_le (by omega)]
theorem cnts_le (l : List Int) (k i : Nat) : 0 ≤ cnts l k i ∧ cnts l k i ≤ l.length := by
  unfold cnts
  have h1 : (l.take k).count (i : Int) ≤ (l.take k).length := List.count_le_length
  have h2 : (l.take k).length ≤ l.length := by simp; omega
  omega
set_option maxRecDepth 100000 in
set_option maxHeartbeats 2000000 in
theorem partBoots_walk (seed n0 : Int) (w : World) (bs : Word seed) (bn : -9223372036854775808 ≤ n0 ∧ n0 ≤ 9223372036854775807) :
    Calls Try.prog 6 #[.int .u64 seed, .int .i64 n0] w fun e w' => e = .returned (.bool true) ∧ Below w.heap.size w w' := by
  go_enter Try.func6, Try.ntmps6
  go_wp2_with fail
  refine (new_dice seed w).mono ?_
  rintro e w1 ⟨rfl, ha, b1⟩
  go_wp2_with fail
  refine (new_dice seed w1).mono ?_
  rintro e w2 ⟨rfl, hb, b2⟩
  have la := ha.lt
  have lb := hb.lt
  replace ha := ha.below b2 la
  have B2 := b1.trans (b2.mono (by omega))
  clear b1 b2
  go_wp2_with fail
  refine (known8_true w2).mono ?_
  rintro e w3 ⟨rfl, b3⟩
  replace ha := ha.below b3 ha.lt
  replace hb := hb.below b3 hb.lt
  have B3 := B2.trans (b3.mono (by have := B2.size; omega))
  have lb3 := hb.lt
  have sz3 := B3.size
  clear B2 b3
  go_wp2_with fail
  refine (pick_d n0 100 bn.1 bn.2 (by decide) (by decide) w3).mono ?_
  rintro e w4 ⟨⟨p, hp, rfl⟩, rfl⟩
  obtain ⟨n, hn⟩ : ∃ n, p + 1 = n := ⟨_, rfl⟩
  have hn1 : 1 ≤ n := by omega
  have hn2 : n ≤ 100 := by omega
  have en : (1 : Int) + (p : Int) = (n : Int) := by omega
  have Hn := Lib.hid hn
  clear hn hp
  go_wp2_with fail
  refine (boot_any w.heap.size n seed hn1 (by omega) w3 ha).mono ?_
  rintro e w4 ⟨q, m, t, v2, hd, hm, rfl, har, hown, hq, ha4, g4⟩
  have lq := har.lt
  have hsl : (srt m).length = n := by rw [srt_length, hm]
  obtain ⟨S, hS⟩ : ∃ S, srt m = S := ⟨_, rfl⟩
  have hmono : ∀ i j, i < j → j < n → S.getD i 0 ≤ S.getD j 0 := by
    intro i j h1 h2
    rw [← hS]
    exact srt_mono m i j h1 (by omega)
  have hperm : S.Perm m := hS ▸ srt_perm m
  rw [hS] at har hown hsl
  clear hS
  have hv2 := hown.rd
  obtain ⟨p2, c2, rfl⟩ := hv2.shape
  replace hb := hb.grown g4 (by simp; omega)
  have B4 := B3.grown g4 (by have := B3.size; omega) (fun j e => by cases e; omega)
  have sz4 := B4.size
  have s34 := g4.size
  clear ha B3 g4 hown
  go_wp2_with fail
  refine (draw_pos w1.heap.size n seed n (by omega) hn1 (by omega) w4 hb).mono ?_
  rintro e w5 ⟨vl, m2, t2, hd2, rfl, hm2, hi, hb5, g5⟩
  obtain ⟨rfl, rfl⟩ := hd.unique hd2 (by rw [hm, hm2])
  have hrg := hd.range (by omega)
  rcases hi with ⟨_, e0⟩ | ⟨ql, rfl, hl, hql⟩
  · rw [e0] at hm; simp at hm; omega
  rw [hm]
  replace ha4 := ha4.grown g5 (by simp; omega)
  have har5 := har.grown g5 (by simp; omega)
  have hv25 := hv2.grown g5 (by omega)
  have B5 := B4.grown g5 sz4 (fun j e => by cases e; omega)
  have s45 := g5.size
  have sz5 := B5.size
  have hmk := makeI n n rfl (by omega)
  clear hd hd2 B4 g5 har hv2 hb hm2
  go_wp2_with fail
  have hs6 : Arr (w5.alloc (.cells (zeros .i64 n) 3)) w5.heap.size 3 .i64 (List.replicate n 0) := Arr.new w5 3 .i64 (List.replicate n 0) _ rfl
  have b6 : Below w5.heap.size w5 (w5.alloc (.cells (zeros .i64 n) 3)) := by go_grown
  have lta := ha4.lt
  have ltb := hb5.lt
  have ltq := har5.lt
  have ltl := hl.lt
  have ha6 := ha4.below b6 lta
  have hb6 := hb5.below b6 ltb
  have har6 := har5.below b6 ltq
  have hl6 := hl.below b6 ltl
  have B6 := B5.trans (b6.mono sz5)
  have hv2s : ∀ wr, Below w5.heap.size (w5.alloc (.cells (zeros .i64 n) 3)) wr → Rd wr w3.heap.size (.slice p2 (restL n S).length c2) (restL n S) := by
    intro wr h
    exact hv25.below (b6.trans h)
  obtain ⟨qs, hqs⟩ : ∃ qs, w5.heap.size = qs := ⟨_, rfl⟩
  rw [hqs] at hv2s hs6 lta ltb ltq ltl sz5 ⊢
  generalize w5.alloc (.cells (zeros .i64 n) 3) = w6 at hv2s hs6 ha6 hb6 har6 hl6 B6 ⊢
  have Hlt := Lib.hid (And.intro lta (And.intro ltb (And.intro ltq (And.intro ltl sz5))))
  have hsz6 : qs ≤ w6.heap.size := Nat.le_of_lt hs6.lt
  clear ha4 hb5 har5 hl hv25 B5 b6 hqs lta ltb ltq ltl sz5 hmk
  go_loopg [11] n (fun g iv wr => ∃ (k : Nat) (C : List Int), g = n - k ∧ k ≤ n ∧ iv = .int .i64 k ∧ C.length = n ∧ Arr wr qs 3 .i64 C ∧ (∀ i, i < n → C.getD i 0 = cnts m k i) ∧ Below qs w6 wr)
  case atStart => exact ⟨0, List.replicate n 0, rfl, Nat.zero_le _, rfl, by simp, hs6, fun i hi => by rw [cnts_zero]; simp [List.getD_eq_getElem?_getD, List.getElem?_replicate]; split <;> rfl, Below.refl _ _⟩
  case round =>
    obtain ⟨k, C, hg, hk, rfl, hC, hA, hz, hB⟩ := hrel
    have Hg := Lib.hid hg
    clear hg hs6
    by_cases hlt : k < n
    · have hx := (hl6.below hB Hlt.out.2.2.2.1).cell k (by omega)
      have hr := hrg (m.getD k 0) (by rw [List.getD_eq_getElem?_getD, List.getElem?_eq_getElem (by omega)]; exact List.getElem_mem _)
      obtain ⟨x, hxe⟩ : ∃ x, m.getD k 0 = x := ⟨_, rfl⟩
      rw [hxe] at hr hx
      obtain ⟨X, rfl⟩ := Int.eq_ofNat_of_zero_le hr.1
      have hX : X < n := by omega
      have hc := hA.cell X (by omega)
      have hf := hA.free X
      have h0 := hz X hX
      obtain ⟨y, hy⟩ : ∃ y, cnts m k X = y := ⟨_, rfl⟩
      have hyb := cnts_le m k X
      rw [hm, hy] at hyb
      rw [h0, hy] at hc
      have hset := hA.set X (y + 1)
      have hzz : ∀ i, i < n → (C.set X (y + 1)).getD i 0 = cnts m (k + 1) i := by
        intro i hi
        rw [getD_set _ _ _ _ (by omega), cnts_succ m k i X (by omega) hxe]
        by_cases e : i = X
        · subst e; rw [if_pos rfl, if_pos rfl, hy]
        · rw [if_neg e, if_neg e, hz i hi]; omega
      have hlen : (C.set X (y + 1)).length = n := by rw [List.length_set, hC]
      have hB2 := hB.setCell (p := ⟨qs, X, none⟩) (Nat.le_refl _) (.int .i64 (y + 1))
      have Hset := Lib.hid hset
      have Hzz := Lib.hid hzz
      have HB := Lib.hid hB2
      have hw1 : IntKind.i64.wrap (y + 1) = y + 1 := by rw [IntKind.wrap_i64]; omega
      clear hset hzz hB2 hA hz h0 hxe hy hB
      go_wp2_with fail
      go_roundg (n - (k + 1))
      case measure => have := Hg.out; omega
      case rel => exact ⟨k + 1, C.set X (y + 1), rfl, by omega, by go_num, hlen, Hset.out, Hzz.out, HB.out⟩
    · obtain rfl : k = n := by omega
      clear hl6
      have hzk : ∀ i, i < k → C.getD i 0 = (m.count (i : Int) : Nat) := fun i hi => by rw [hz i hi, cnts_all m k i hm]
      go_wp2_with fail
      go_loopg [12] k (fun g iv wr => ∃ (j : Nat) (C : List Int), g = k - j ∧ j ≤ k ∧ iv = .int .i64 j ∧ C.length = k ∧ Arr wr qs 3 .i64 C ∧ (∀ i, i < k → C.getD i 0 = (m.count (i : Int) : Nat) - cnts S j i) ∧ Below qs w6 wr)
      case atStart => exact ⟨0, C, rfl, Nat.zero_le _, rfl, hC, hA, fun i hi => by rw [hzk i hi, cnts_zero]; omega, hB⟩
      case round =>
        obtain ⟨j, C, hg, hj, rfl, hC, hA, hz, hB⟩ := hrel
        have Hg := Lib.hid hg
        clear hg hzk
        by_cases hlt : j < k
        · have harr := har6.below hB Hlt.out.2.2.1
          have hx := harr.cell j (by omega)
          have hr := hrg (S.getD j 0) (hperm.mem_iff.1 (by rw [List.getD_eq_getElem?_getD, List.getElem?_eq_getElem (by omega)]; exact List.getElem_mem _))
          have hprev : 0 < j → ∃ y : Int, wr.cell? ⟨q, j - 1, none⟩ = some (.int .i64 y) ∧ y ≤ S.getD j 0 := fun h0 => ⟨_, harr.cell (j - 1) (by omega), hmono (j - 1) j (by omega) hlt⟩
          obtain ⟨x, hxe⟩ : ∃ x, S.getD j 0 = x := ⟨_, rfl⟩
          rw [hxe] at hr hx hprev
          obtain ⟨X, rfl⟩ := Int.eq_ofNat_of_zero_le hr.1
          have hX : X < k := by omega
          have hc := hA.cell X (by omega)
          have hf := hA.free X
          have h0 := hz X hX
          obtain ⟨y, hy⟩ : ∃ y, ((m.count (X : Int) : Nat) : Int) - cnts S j X = y := ⟨_, rfl⟩
          have hyb := cnts_le S j X
          have hcb : m.count (X : Int) ≤ m.length := List.count_le_length
          rw [hm] at hcb
          rw [hsl] at hyb
          rw [h0, hy] at hc
          have hset := hA.set X (y - 1)
          have hzz : ∀ i, i < k → (C.set X (y - 1)).getD i 0 = (m.count (i : Int) : Nat) - cnts S (j + 1) i := by
            intro i hi
            rw [getD_set _ _ _ _ (by omega), cnts_succ S j i X (by omega) hxe]
            by_cases e : i = X
            · subst e; rw [if_pos rfl, if_pos rfl]; omega
            · rw [if_neg e, if_neg e, hz i hi]; omega
          have hlen : (C.set X (y - 1)).length = k := by rw [List.length_set, hC]
          have hw1 : IntKind.i64.wrap (y - 1) = y - 1 := by rw [IntKind.wrap_i64]; omega
          have n2 : decide ((X : Int) < 0) = false := by simp
          have n4 : decide (k ≤ X) = false := by simp; omega
          have hB2 := fun d => (show Below qs w6 (wr.drewN d) from ⟨hB.os, hB.tape, hB.output, hB.size, hB.block⟩).setCell (p := ⟨qs, X, none⟩) (Nat.le_refl _) (.int .i64 (y - 1))
          have hset2 : ∀ d, Arr ((wr.drewN d).setCell ⟨qs, X, none⟩ (.int .i64 (y - 1))) qs 3 .i64 (C.set X (y - 1)) := fun d => (hA.drewN d).set X (y - 1)
          have Hset := Lib.hid hset2
          have Hzz := Lib.hid hzz
          have HB := Lib.hid hB2
          clear hset hset2 hzz hB2 hA hz h0 hxe hy hB harr hyb hcb
          by_cases hj0 : j = 0
          · subst hj0
            clear hprev
            go_wp2_with fail
            go_big_quiet (fail)
            go_wp2_with fail
            go_roundg (k - (0 + 1))
            case measure => have := Hg.out; omega
            case rel => exact ⟨0 + 1, C.set X (y - 1), rfl, by omega, by go_num, hlen, Hset.out _, Hzz.out, HB.out _⟩
          · obtain ⟨yp, hyp, hle⟩ := hprev (by omega)
            have hj1 : decide (0 < j) = true := by simp; omega
            have hj2 : ((j : Int) - 1).toNat = j - 1 := by omega
            have hj3 : IntKind.i64.wrap ((j : Int) - 1) = (j : Int) - 1 := by rw [IntKind.wrap_i64]; omega
            have hj4 : (1 : Int) ≤ (j : Int) := by omega
            have hle2 : decide ((X : Int) < yp) = false := by simp; omega
            clear hprev
            go_wp2_with fail
            go_big_quiet (fail)
            go_wp2_with fail
            go_roundg (k - (j + 1))
            case measure => have := Hg.out; omega
            case rel => exact ⟨j + 1, C.set X (y - 1), rfl, by omega, by go_num, hlen, Hset.out _, Hzz.out, HB.out _⟩
        · obtain rfl : j = k := by omega
          have hz0 : ∀ i, i < j → C.getD i 0 = 0 := fun i hi => by rw [hz i hi, cnts_all S j i hsl, hperm.count_eq]; omega
          have ltq := Hlt.out.2.2.1
          have ha9 := ha6.below hB Hlt.out.1
          have hb9 := hb6.below hB Hlt.out.2.1
          have har9 := har6.below hB ltq
          have hv9 := hv2s _ hB
          have B9 := B6.trans (hB.mono Hlt.out.2.2.2.2)
          clear hz hv2s hB ha6 hb6 har6 B6 hmono hperm hrg
          generalize wr = w9 at *
          go_wp2_with fail
          go_loopg [13] j (fun g iv wr => ∃ (i d : Nat), g = j - i ∧ i ≤ j ∧ iv = .int .i64 i ∧ wr = w9.drewN d)
          case atStart => exact ⟨0, 0, rfl, Nat.zero_le _, rfl, rfl⟩
          case round =>
            obtain ⟨i, d, hg3, hi3, rfl, rfl⟩ := hrel
            have Hg3 := Lib.hid hg3
            clear hg3
            by_cases hlt3 : i < j
            · have hc := hA.cell i (by omega)
              rw [hz0 i hlt3] at hc
              clear hz0
              go_wp2_with fail
              go_roundg (j - (i + 1))
              case measure => have := Hg3.out; omega
              case rel => exact ⟨i + 1, _, rfl, by omega, by go_num, rfl⟩
            · obtain rfl : i = j := by omega
              have ha10 : DBox (w9.drewN d) w.heap.size t := ha9
              have hb10 : DBox (w9.drewN d) w1.heap.size t := hb9
              have hv10 : Rd (w9.drewN d) w3.heap.size (.slice p2 (restL i S).length c2) (restL i S) := hv9
              have har10 : Arr (w9.drewN d) q 3 .i64 S := har9
              have B10 : Below w.heap.size w (w9.drewN d) := ⟨B9.os, B9.tape, B9.output, B9.size, B9.block⟩
              generalize w9.drewN d = w10 at *
              have sz10 := B10.size
              clear hz0 ha9 hb9 hv9 har9 B9
              go_wp2_with fail
              refine (rest_any i w3.heap.size hn1 (by omega) _ S (by omega) w10 (har10.rd hsl (by omega))).mono ?_
              rintro e w11 ⟨v', rfl, hown, hbel⟩
              have ha11 := ha10.below hbel ha10.lt
              have hb11 := hb10.below hbel hb10.lt
              have hv11 := hv10.below hbel
              have B11 := B10.trans (hbel.mono sz10)
              have hll := restL_length i S
              clear ha10 hb10 hv10 har10 B10
              obtain ⟨p3, c3, rfl⟩ := hown.shape
              go_wp2_with fail
              refine (sameInts_rd _ _ (restL i S) _ _ w11 hv11 hown.rd (by omega)).mono ?_
              rintro e w12 ⟨rfl, d2, rfl⟩
              have ha12 : DBox (w11.drewN d2) w.heap.size t := ha11
              have hb12 : DBox (w11.drewN d2) w1.heap.size t := hb11
              have B12 : Below w.heap.size w (w11.drewN d2) := ⟨B11.os, B11.tape, B11.output, B11.size, B11.block⟩
              generalize w11.drewN d2 = w12 at *
              clear ha11 hb11 hv11 B11 hown hbel
              go_wp2_with fail
              refine (state_dice _ _ _ ha12).mono ?_
              rintro e w13 ⟨rfl, rfl⟩
              go_wp2_with fail
              refine (state_dice _ _ _ hb12).mono ?_
              rintro e w13 ⟨rfl, rfl⟩
              go_wp2_with fail
              go_ret
              exact ⟨rfl, B12⟩
end Go.Proofs.Ytgccgacpifebbaa
