/- PartKnown, walked. -/
import Derived.Test.YtgccgacpifebbaaPartD
namespace Go.Proofs.Ytgccgacpifebbaa
open Go.RowKit
set_option linter.unusedVariables false

theorem srt_two {l : List Int} (h : Once 2 l) : srt l = [0, 1] := by
  obtain ⟨h1, h2, h3⟩ := h
  have hp := srt_perm l
  have hm := srt_mono l 0 1 (by decide) (by omega)
  have hl := srt_length l
  match l, h1, hp, hm, hl, h2, h3 with
  | [a, b], _, hp, hm, hl, h2, h3 =>
    obtain ⟨S, hS⟩ : ∃ S, srt [a, b] = S := ⟨_, rfl⟩
    rw [hS] at hp hm hl ⊢
    match S, hp, hm, hl with
    | [x, y], hp, hm, _ =>
      have ha := h2 0 (by decide)
      have hb := h2 1 (by decide)
      have hab := h3 0 1 (by decide) (by decide)
      simp at ha hb hab hm
      have m1 : x ∈ [a, b] := hp.mem_iff.1 (by simp)
      have m2 : y ∈ [a, b] := hp.mem_iff.1 (by simp)
      have m3 : a ∈ [x, y] := hp.mem_iff.2 (by simp)
      have m4 : b ∈ [x, y] := hp.mem_iff.2 (by simp)
      simp at m1 m2 m3 m4
      have e1 : x = 0 := by omega
      have e2 : y = 1 := by omega
      rw [e1, e2]
set_option maxRecDepth 100000 in
set_option maxHeartbeats 2000000 in
theorem partKnown_walk (w : World) :
    Calls Try.prog 3 #[] w fun e w' => e = .returned (.bool true) ∧ Below w.heap.size w w' := by
  go_enter Try.func3, Try.ntmps3
  go_wp2_with fail
  refine (new_dice 1 w).mono ?_
  rintro e w1 ⟨rfl, ha, b1⟩
  go_wp2_with fail
  refine (known8_true w1).mono ?_
  rintro e w2 ⟨rfl, b2⟩
  have la := ha.lt
  replace ha := ha.below b2 la
  have B2 := b1.trans (b2.mono b1.size)
  clear b1 b2
  go_wp2_with fail
  refine (state_dice _ _ _ ha).mono ?_
  rintro e w3 ⟨rfl, rfl⟩
  go_wp2_with fail
  refine (halves_arg 3 4 (by decide) _ w2).mono ?_
  rintro e w3 ⟨rfl, rfl⟩
  go_wp2_with fail
  refine (folds_arg 3 1 (by decide) _ w2).mono ?_
  rintro e w3 ⟨rfl, rfl⟩
  go_wp2_with fail
  refine (folds_arg 3 4 (by decide) _ w2).mono ?_
  rintro e w3 ⟨rfl, rfl⟩
  have la := ha.lt
  have sz2 := B2.size
  have r1 : Arr (w2.alloc (.cells #[.int .i64 0, .int .i64 12] 3)) w2.heap.size 3 .i64 [0, 12] := Arr.new w2 3 .i64 [0, 12] _ rfl
  have c1 : Below w2.heap.size w2 (w2.alloc (.cells #[.int .i64 0, .int .i64 12] 3)) := by go_grown
  go_wp2_with fail
  generalize w2.alloc (.cells #[.int .i64 0, .int .i64 12] 3) = w3 at r1 c1 ⊢
  refine (even_arg _ [0, 12] 2 w2.heap.size _ w3 (r1.rd rfl (Nat.le_refl _)) (by decide) (by decide)).mono ?_
  rintro e w4 ⟨rfl, b4⟩
  have B4 := B2.trans ((c1.trans (b4.mono c1.size)).mono sz2)
  replace ha := (ha.below c1 la).below b4 (ha.below c1 la).lt
  clear r1 c1 b4 B2
  have la := ha.lt
  have sz4 := B4.size
  have r2 : Arr (w4.alloc (.cells #[.int .i64 0] 3)) w4.heap.size 3 .i64 [0] := Arr.new w4 3 .i64 [0] _ rfl
  have c2 : Below w4.heap.size w4 (w4.alloc (.cells #[.int .i64 0] 3)) := by go_grown
  go_wp2_with fail
  generalize w4.alloc (.cells #[.int .i64 0] 3) = w5 at r2 c2 ⊢
  refine (even_arg _ [0] 2 w4.heap.size _ w5 (r2.rd rfl (Nat.le_refl _)) (by decide) (by decide)).mono ?_
  rintro e w6 ⟨rfl, b6⟩
  have B6 := B4.trans ((c2.trans (b6.mono c2.size)).mono sz4)
  replace ha := (ha.below c2 la).below b6 (ha.below c2 la).lt
  clear r2 c2 b6 B4
  have sz6 := B6.size
  go_wp2_with fail
  refine (boot_arg 0 (by decide) _ w6).mono ?_
  rintro e w7 ⟨rfl, rfl⟩
  go_wp2_with fail
  refine (halves_arg 301 0 (by decide) _ w6).mono ?_
  rintro e w7 ⟨rfl, rfl⟩
  go_wp2_with fail
  refine (state_dice _ _ _ ha).mono ?_
  rintro e w7 ⟨rfl, rfl⟩
  have hh := halves_pos w.heap.size 2 2 1 (by decide) (by decide) (by decide) w6 ha
  have e22 : ((2 : Nat) : Int) = 2 := rfl
  rw [e22] at hh
  go_wp2_with fail
  refine hh.mono ?_
  rintro e w7 ⟨l, t, v1, v2, hm, hl, rfl, hv1, hv2, ha7, g7⟩
  have hon := hm.once (upto_once 2) (by decide)
  rw [List.take_of_length_le (by omega), srt_two hon] at hv1 hv2
  have e0 : restL 2 [0, 1] = [] := by decide
  rw [e0] at hv1
  obtain ⟨p1, k1, rfl⟩ := hv1.shape
  obtain ⟨p2, k2, rfl⟩ := hv2.shape
  have B7 := B6.grown g7 sz6 (fun j e => by cases e; exact Nat.le_refl _)
  have sz7 := B7.size
  clear hm hon hl hh B6 g7 hv1
  have r3 : Arr (w7.alloc (.cells #[.int .i64 0, .int .i64 1] 3)) w7.heap.size 3 .i64 [0, 1] := Arr.new w7 3 .i64 [0, 1] _ rfl
  have c3 : Below w7.heap.size w7 (w7.alloc (.cells #[.int .i64 0, .int .i64 1] 3)) := by go_grown
  have hv3 := hv2.below c3
  have B8 := B7.trans (c3.mono sz7)
  clear hv2 B7
  go_wp2_with fail
  generalize w7.alloc (.cells #[.int .i64 0, .int .i64 1] 3) = w8 at r3 c3 hv3 B8 ⊢
  refine (sameInts_rd _ _ [0, 1] _ _ w8 hv3 (r3.rd rfl (Nat.le_refl _)) (by decide)).mono ?_
  rintro e w9 ⟨rfl, d, rfl⟩
  have B9 := below_drewN B8 d
  generalize w8.drewN d = w9 at *
  go_wp2_with fail
  refine (rest_arg 301 (by decide) _ w9).mono ?_
  rintro e w10 ⟨rfl, rfl⟩
  go_wp2_with fail
  go_ret
  exact ⟨rfl, B9⟩
end Go.Proofs.Ytgccgacpifebbaa
