/- Guess -/
import Derived.Test.YtgccgacpifebbaaGreatDoorZb14
import Derived.Test.YtgccgacpifebbaaGreatDoorZb11
import Derived.Deep.RegionHeld3
namespace Go.Proofs.YtgccgacpifebbaaGreatDoor
open Go.RowKit
set_option linter.unusedVariables false
/-- What is known of the digit d of the words u2,u1,u0 by v1,v0. -/
def DigitOk (u2 u1 u0 v1 v0 d : Int) : Prop := Word d ∧ (v1 ≤ u2 → d = 18446744073709551615) ∧ (u2 < v1 → d * v1 * 18446744073709551616 + d * v0 ≤ (u2 * 18446744073709551616 + u1) * 18446744073709551616 + u0 ∧ (u2 * 18446744073709551616 + u1) * 18446744073709551616 + u0 < d * v1 * 18446744073709551616 + v1 * 18446744073709551616 + d * v0 + v0)
/-- Within the loop: the digit d,and what is left of the upper two,l. -/
def DigitAt (u2 u1 u0 v1 v0 d l : Int) : Prop := Word d ∧ Word l ∧ u2 * 18446744073709551616 + u1 = d * v1 + l ∧ (u2 * 18446744073709551616 + u1) * 18446744073709551616 + u0 < d * v1 * 18446744073709551616 + v1 * 18446744073709551616 + d * v0 + v0
theorem digit_start {u2 u1 u0 v1 v0 : Int} (h2 : Word u2) (h1 : Word u1) (h0 : Word u0) (g1 : Word v1) (g0 : Word v0) (hlt : u2 < v1) :
    DigitAt u2 u1 u0 v1 v0 ((u2 * 18446744073709551616 + u1) / v1) ((u2 * 18446744073709551616 + u1) % v1) := by
  unfold Word at h2 h1 h0 g1 g0
  have e1 := Int.mul_ediv_add_emod (u2 * 18446744073709551616 + u1) v1
  have e2 := Int.emod_nonneg (u2 * 18446744073709551616 + u1) (show v1 ≠ 0 by omega)
  have e3 := Int.emod_lt_of_pos (u2 * 18446744073709551616 + u1) (show 0 < v1 by omega)
  have e4 : 0 ≤ (u2 * 18446744073709551616 + u1) / v1 := Int.ediv_nonneg (by omega) (by omega)
  have e5 : (u2 * 18446744073709551616 + u1) / v1 < 18446744073709551616 := (Int.ediv_lt_iff_lt_mul (by omega)).2 (by omega)
  rw [Int.mul_comm] at e1
  generalize (u2 * 18446744073709551616 + u1) / v1 = q at *
  generalize (u2 * 18446744073709551616 + u1) % v1 = r at *
  have h5 : 0 ≤ q * v0 := Int.mul_nonneg e4 g0.1
  exact ⟨⟨e4,e5⟩,⟨e2,by omega⟩,e1.symm,by omega⟩
theorem DigitAt.step {u2 u1 u0 v1 v0 d l : Int} (h : DigitAt u2 u1 u0 v1 v0 d l) (h0 : Word u0) (g1 : Word v1) (g0 : Word v0) (hc : l * 18446744073709551616 + u0 < d * v0) :
    1 ≤ d ∧ u2 * 18446744073709551616 + u1 = (d - 1) * v1 + (l + v1) ∧ (u2 * 18446744073709551616 + u1) * 18446744073709551616 + u0 < (d - 1) * v1 * 18446744073709551616 + v1 * 18446744073709551616 + (d - 1) * v0 + v0 := by
  obtain ⟨⟨d0,d1⟩,⟨l0,l1⟩,hA,hU⟩ := h
  unfold Word at h0 g1 g0
  have hd : 1 ≤ d := by
    by_cases h : 1 ≤ d
    · exact h
    · obtain rfl : d = 0 := by omega
      rw [Int.zero_mul] at hc
      omega
  have e1 : (d - 1) * v1 = d * v1 - v1 := by rw [Int.sub_mul,Int.one_mul]
  have e0 : (d - 1) * v0 = d * v0 - v0 := by rw [Int.sub_mul,Int.one_mul]
  rw [e1,e0]
  exact ⟨hd,by omega,by omega⟩
theorem digit_done {u2 u1 u0 v1 v0 d l : Int} (hd : Word d) (h0 : Word u0) (g1 : Word v1) (g0 : Word v0) (hA : u2 * 18446744073709551616 + u1 = d * v1 + l) (hU : (u2 * 18446744073709551616 + u1) * 18446744073709551616 + u0 < d * v1 * 18446744073709551616 + v1 * 18446744073709551616 + d * v0 + v0)
    (hlt : u2 < v1) (hc : d * v0 ≤ l * 18446744073709551616 + u0 ∨ 18446744073709551616 ≤ l) : DigitOk u2 u1 u0 v1 v0 d := by
  refine ⟨hd,fun h => by omega,fun _ => ⟨?_,hU⟩⟩
  have hb := mul_bd hd g0
  unfold Word at h0
  rw [hA]
  rcases hc with hc | hc <;> omega
set_option maxRecDepth 100000 in
set_option maxHeartbeats 4000000 in
theorem guess_any (ub tu uo uc vb tv n vc : Nat) (lu lv : List Int) (w : World) (hu : Arr w ub tu .u64 lu) (hv : Arr w vb tv .u64 lv) (hn : 2 ≤ n) (hlu : uo + n + 1 ≤ lu.length) (hlv : n ≤ lv.length) (hm : n ≤ 4294967296) (hmo : uo ≤ 4294967296) (hwu : Words lu) (hwv : Words lv) :
    Calls Tryz.prog 125 #[.slice (some ⟨ub,uo,none⟩) (n + 1) uc,.slice (some ⟨vb,0,none⟩) n vc] w fun e w' => (∃ d,e = .returned (.int .u64 d) ∧ DigitOk (lu.getD (uo + n) 0) (lu.getD (uo + (n - 1)) 0) (lu.getD (uo + (n - 2)) 0) (lv.getD (n - 1) 0) (lv.getD (n - 2) 0) d) ∧ Below w.heap.size w w' := by
  obtain ⟨i1,hi1⟩ : ∃ i1,n - 1 = i1 := ⟨_,rfl⟩
  obtain ⟨i0,hi0⟩ : ∃ i0,n - 2 = i0 := ⟨_,rfl⟩
  rw [hi1,hi0]
  have l1 : i1 < n := by omega
  have l0 : i0 < n := by omega
  have l2 : i1 < n + 1 := by omega
  have k0 : (0 : Int) ≤ (n : Int) := by omega
  have k1 : (n : Int) < (n : Int) + 1 := by omega
  have k2 : (0 : Int) ≤ (n : Int) - 1 := by omega
  have k3 : (n : Int) - 1 < (n : Int) + 1 := by omega
  have k4 : (n : Int) - 1 < (n : Int) := by omega
  have k5 : (0 : Int) ≤ (n : Int) - 2 := by omega
  have k6 : (n : Int) - 2 < (n : Int) + 1 := by omega
  have k7 : (n : Int) - 2 < (n : Int) := by omega
  have k8 : IntKind.i64.wrap ((n : Int) - 1) = (n : Int) - 1 := by rw [IntKind.wrap_i64]; omega
  have k9 : IntKind.i64.wrap ((n : Int) - 2) = (n : Int) - 2 := by rw [IntKind.wrap_i64]; omega
  have t1 : ((n : Int) - 1).toNat = i1 := by omega
  have g1 : (1 : Int) ≤ (n : Int) := by omega
  have g2 : (2 : Int) ≤ (n : Int) := by omega
  have g3 : 1 ≤ n := by omega
  have g4 : 0 < n := by omega
  have g5 : (0 : Int) < (n : Int) := by omega
  have g6 : ¬ (n : Int) - 1 < 0 := by omega
  have t0 : ((n : Int) - 2).toNat = i0 := by omega
  have cu2 := fun W (g : Below w.heap.size w W) => (hu.below g hu.lt).cell (uo + n) (by omega)
  have cu1 := fun W (g : Below w.heap.size w W) => (hu.below g hu.lt).cell (uo + i1) (by omega)
  have cu0 := fun W (g : Below w.heap.size w W) => (hu.below g hu.lt).cell (uo + i0) (by omega)
  have cv1 := fun W (g : Below w.heap.size w W) => (hv.below g hv.lt).cell i1 (by omega)
  have cv0 := fun W (g : Below w.heap.size w W) => (hv.below g hv.lt).cell i0 (by omega)
  have w2 := hwu.getD (uo + n)
  have w1 := hwu.getD (uo + i1)
  have w0 := hwu.getD (uo + i0)
  have x1 := hwv.getD i1
  have x0 := hwv.getD i0
  clear hi1 hi0
  generalize lu.getD (uo + n) 0 = u2 at *
  generalize lu.getD (uo + i1) 0 = u1 at *
  generalize lu.getD (uo + i0) 0 = u0 at *
  generalize lv.getD i1 0 = v1 at *
  generalize lv.getD i0 0 = v0 at *
  have c2 := cu2 _ (Below.refl _ w)
  have c1 := cu1 _ (Below.refl _ w)
  have d1 := cv1 _ (Below.refl _ w)
  have W2 := Lib.hid w2
  have W1 := Lib.hid w1
  have W0 := Lib.hid w0
  have X1 := Lib.hid x1
  have X0 := Lib.hid x0
  by_cases hlt : u2 < v1
  · have hlt' : ¬ v1 ≤ u2 := by omega
    have Hlt := Lib.hid hlt
    clear hlt
    go_enter Tryz.func125,Tryz.ntmps125
    go_wp2_with fail
    go_region
    go_wp2_with fail
    have acc := (Below.refl w.heap.size w).drew
    have q64 := div64_any u2 u1 v1 W2.out W1.out X1.out Hlt.out
    go_region_held3 (fun w' => w'.cell? ⟨ub,uo + n,none⟩ = some (.int .u64 u2) ∧ w'.cell? ⟨ub,uo + i1,none⟩ = some (.int .u64 u1) ∧ w'.cell? ⟨vb,i1,none⟩ = some (.int .u64 v1))
      (first | with_reducible exact ⟨cu2 _ acc,cu1 _ acc,cv1 _ acc⟩ | with_reducible exact ⟨cu2 _ acc.drew,cu1 _ acc.drew,cv1 _ acc.drew⟩)
      (first | (go_at_call 76; (first | (have q := q64 w.drew; (with_reducible refine q.mono ?_); clear q) | (have q := q64 w.drew.drew; (with_reducible refine q.mono ?_); clear q)); rintro e w2 ⟨rfl,hb2⟩; (first | replace acc := below_acc acc acc.size hb2 | replace acc := below_accD acc acc.size hb2); clear hb2))
    all_goals
      go_wp2_with fail
      refine (mul64_any _ v0 (digit_start W2.out W1.out W0.out X1.out X0.out Hlt.out).1 X0.out _).mono ?_
      rintro e w3 ⟨rfl,rfl⟩
      have st := digit_start W2.out W1.out W0.out X1.out X0.out Hlt.out
      generalize (u2 * 18446744073709551616 + u1) / v1 = D at st ⊢
      generalize (u2 * 18446744073709551616 + u1) % v1 = L at st ⊢
      go_wp2_with fail
      go_loopw [6,7,8,9] (fun dv lv hi lo wr => ∃ d l : Int,dv = .int .u64 d ∧ lv = .int .u64 l ∧ hi = .int .u64 (mulHi d v0 0) ∧ lo = .int .u64 (mulLo d v0 0) ∧ DigitAt u2 u1 u0 v1 v0 d l ∧ Below w.heap.size w wr) (fun dv _ _ _ _ => (intOf dv).toNat)
      case atStart => exact ⟨_,_,rfl,rfl,rfl,rfl,st,acc⟩
      case round =>
        clear st
        obtain ⟨d,l,rfl,rfl,rfl,rfl,hat,hB⟩ := hrel
        have wd := hat.1
        have wl := hat.2.1
        have hm := mul_eq d v0 0
        have m1 := mulLo_word d v0 0
        have m2 := mulHi_word wd x0 (e := 0) ⟨by decide,by decide⟩
        obtain ⟨H,hH⟩ : ∃ H,mulHi d v0 0 = H := ⟨_,rfl⟩
        obtain ⟨O,hO⟩ : ∃ O,mulLo d v0 0 = O := ⟨_,rfl⟩
        rw [hH,hO] at hm
        rw [hH] at m2 ⊢
        rw [hO] at m1 ⊢
        have c0 := cu0 _ hB
        have d1 := cv1 _ hB
        have d0 := cv0 _ hB
        by_cases hc : l * 18446744073709551616 + u0 < d * v0
        · by_cases hgt : l < H
          · clear hm
            have st := hat.step W0.out X1.out X0.out hc
            obtain ⟨hd1,hA,hU⟩ := st
            have wd' : Word (d - 1) := by unfold Word at wd ⊢; omega
            have e5 : IntKind.u64.wrap (d - 1) = d - 1 := by unfold Word at wd; rw [IntKind.wrap_u64]; omega
            by_cases hbr : 18446744073709551616 ≤ l + v1
            · have hdone := digit_done wd' W0.out X1.out X0.out hA hU Hlt.out (.inr hbr)
              have a1 : addHi l v1 0 = 1 := by unfold addHi; unfold Word at wl x1; omega
              have ad := add64' l v1 0 wl x1 (.inl rfl)
              rw [a1] at ad
              have HD := Lib.hid hdone
              have WDD := Lib.hid wd'
              clear hdone hA hU hat hc wd' hH hO
              go_wp2_with (simp only [ad])
              go_ret
              exact ⟨⟨_,rfl,HD.out⟩,hB⟩
            · have a0 : addHi l v1 0 = 0 := by unfold addHi; unfold Word at wl x1; omega
              have a2 : addLo l v1 0 = l + v1 := by unfold addLo; unfold Word at wl x1; omega
              have ad := add64' l v1 0 wl x1 (.inl rfl)
              rw [a0,a2] at ad
              have HD : Hid (DigitAt u2 u1 u0 v1 v0 (d - 1) (l + v1)) := Lib.hid ⟨wd',by unfold Word at wl x1 ⊢; omega,hA,hU⟩
              have mm := mul64_any (d - 1) v0 wd' X0.out
              have hms : (d - 1).toNat < d.toNat := by unfold Word at wd; omega
              have Mm := Lib.hid mm
              clear hA hU hat hc mm wd' hH hO
              go_wp2_with (simp only [ad])
              refine (Mm.out _).mono ?_
              rintro e w4 ⟨rfl,rfl⟩
              go_wp2_with fail
              exact ⟨⟨d - 1,l + v1,by go_num,by go_num,rfl,rfl,HD.out,hB⟩,by simp [intOf]; omega⟩
          · obtain rfl : H = l := by unfold Word at m1 w0; omega
            have hlo : u0 < O := by omega
            clear hm hgt
            have st := hat.step W0.out X1.out X0.out hc
            obtain ⟨hd1,hA,hU⟩ := st
            have wd' : Word (d - 1) := by unfold Word at wd ⊢; omega
            have e5 : IntKind.u64.wrap (d - 1) = d - 1 := by unfold Word at wd; rw [IntKind.wrap_u64]; omega
            by_cases hbr : 18446744073709551616 ≤ H + v1
            · have hdone := digit_done wd' W0.out X1.out X0.out hA hU Hlt.out (.inr hbr)
              have a1 : addHi H v1 0 = 1 := by unfold addHi; unfold Word at wl x1; omega
              have ad := add64' H v1 0 wl x1 (.inl rfl)
              rw [a1] at ad
              have HD := Lib.hid hdone
              have WDD := Lib.hid wd'
              clear hdone hA hU hat hc wd' hH hO
              go_wp2_with (simp only [ad])
              go_ret
              exact ⟨⟨_,rfl,HD.out⟩,hB⟩
            · have a0 : addHi H v1 0 = 0 := by unfold addHi; unfold Word at wl x1; omega
              have a2 : addLo H v1 0 = H + v1 := by unfold addLo; unfold Word at wl x1; omega
              have ad := add64' H v1 0 wl x1 (.inl rfl)
              rw [a0,a2] at ad
              have HD : Hid (DigitAt u2 u1 u0 v1 v0 (d - 1) (H + v1)) := Lib.hid ⟨wd',by unfold Word at wl x1 ⊢; omega,hA,hU⟩
              have mm := mul64_any (d - 1) v0 wd' X0.out
              have hms : (d - 1).toNat < d.toNat := by unfold Word at wd; omega
              have Mm := Lib.hid mm
              clear hA hU hat hc mm wd' hH hO
              go_wp2_with (simp only [ad])
              refine (Mm.out _).mono ?_
              rintro e w4 ⟨rfl,rfl⟩
              go_wp2_with fail
              exact ⟨⟨d - 1,H + v1,by go_num,by go_num,rfl,rfl,HD.out,hB⟩,by simp [intOf]; omega⟩
        · have hngt : ¬ l < H := by unfold Word at m1 w0; omega
          by_cases heq : H = l
          · subst heq
            have hlo : ¬ u0 < O := by omega
            have hdone := digit_done wd W0.out X1.out X0.out hat.2.2.1 hat.2.2.2 Hlt.out (.inl (by omega))
            have HD := Lib.hid hdone
            clear hdone hngt hm hat hc hH hO
            go_wp2_with fail
            go_ret
            exact ⟨⟨_,rfl,HD.out⟩,hB⟩
          · have hne : (H == l) = false := by simpa using heq
            have hdone := digit_done wd W0.out X1.out X0.out hat.2.2.1 hat.2.2.2 Hlt.out (.inl (by omega))
            have HD := Lib.hid hdone
            clear hdone heq hm hat hc hH hO
            go_wp2_with fail
            go_ret
            exact ⟨⟨_,rfl,HD.out⟩,hB⟩
  · have hge : v1 ≤ u2 := by omega
    clear hlt
    go_enter Tryz.func125,Tryz.ntmps125
    go_wp2_with fail
    go_region
    all_goals
      go_wp2_with fail
      go_ret
      exact ⟨⟨_,rfl,⟨by decide,by decide⟩,fun _ => rfl,fun h => by omega⟩,(Below.refl _ _).drew⟩
end Go.Proofs.YtgccgacpifebbaaGreatDoor
