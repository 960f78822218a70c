/- Contract of abaculuslaw1.known: chapter 1's examples hold. -/
import Derived.Test.YtjaepdjidfhamaaDoorDiv0
namespace Go.Proofs.YtjaepdjidfhamaaDoor
open Go.RowKit
set_option linter.unusedVariables false

def sevens : ByteArray := ⟨#[48, 48, 55]⟩
theorem isText_007 (w : World) : Calls Tryd.prog 22 #[.string ⟨#[48, 48, 55]⟩] w fun e w' => e = .returned (.bool false) ∧ w = w' := by
  go_enter Tryd.func22, Tryd.ntmps22
  go_wp2
  go_rounds 4
  all_goals (go_ret; exact ⟨rfl, rfl⟩)
theorem parse_007 (w : World) : Calls Tryd.prog 6 #[.string ⟨#[48, 48, 55]⟩] w fun e w' => e = .returned (.tuple #[.agg #[.int .u64 0, .slice none 0 0], .bool false]) ∧ Below w.heap.size w w' := by
  go_enter Tryd.func6, Tryd.ntmps6
  go_wp2_with (go_at_call 22; refine (isText_007 _).mono ?_; rintro e w' ⟨rfl, rfl⟩)
  refine bodyPost_ret (v := .tuple #[.agg #[.int .u64 0, .slice none 0 0], .bool false]) (by simp [results, Tryd.results6, go_sem]) rfl ⟨rfl, by go_grown⟩

theorem K17 : Hid (17 < 18446744073709551616) := Lib.hid (by decide)
theorem IsNat.one {w : World} {v : Value} {n : Int} (h : IsNat w v n) (hn : n < 18446744073709551616) : v = .agg #[.int .u64 n, .slice none 0 0] := by
  rcases h with h | ⟨b, t, len, cap, l, hv, ha, hp, hc, hl, hm, hw, hz, rfl⟩
  · exact h.2
  · have h1 := val_low hw (by omega) (by omega) hz
    have h2 := pw_mono (a := 1) (b := len - 1) (by omega)
    simp only [pw] at h2
    omega
theorem div_72 (w : World) : Calls Tryd.prog 9 #[.agg #[.int .u64 7, .slice none 0 0], .agg #[.int .u64 2, .slice none 0 0]] w fun e w' => e = .returned (.tuple #[.agg #[.int .u64 3, .slice none 0 0], .agg #[.int .u64 1, .slice none 0 0], .bool true]) ∧ Below w.heap.size w w' := by
  refine (div_above 7 2 ⟨by decide, by decide⟩ ⟨by decide, by decide⟩ (by decide) (by decide) w).mono ?_
  rintro e w' ⟨v1, v2, rfl, h1, h2, hb⟩
  rw [h1.one (by decide), h2.one (by decide)]
  exact ⟨rfl, hb⟩
theorem root_17 (w : World) : Calls Tryd.prog 14 #[.agg #[.int .u64 17, .slice none 0 0]] w fun e w' => e = .returned (.agg #[.int .u64 4, .slice none 0 0]) ∧ Below w.heap.size w w' := by
  refine (root_word 17 K17 w).mono ?_
  rintro e w' ⟨r, h1, h2, h3, v, rfl, hv, hb⟩
  have h5 : r = 4 := by
    have : r < 5 := by
      apply Nat.lt_of_not_le
      intro h
      have := Nat.mul_le_mul h h
      omega
    have : 4 ≤ r := by
      apply Nat.le_of_not_lt
      intro h
      have h' : r + 1 ≤ 4 := h
      have := Nat.mul_le_mul h' h'
      omega
    omega
  subst h5
  rw [hv.one (by decide)]
  exact ⟨rfl, hb⟩
theorem text_4 (w : World) : Calls Tryd.prog 15 #[.agg #[.int .u64 4, .slice none 0 0]] w fun e w' => e = .returned (.string ⟨#[52]⟩) ∧ Below w.heap.size w w' := by
  have h : Lib.decDigits 4 = [52] := by decide +kernel
  have := text_small 4 (by decide) w
  rw [h] at this
  exact this
theorem text_3 (w : World) : Calls Tryd.prog 15 #[.agg #[.int .u64 3, .slice none 0 0]] w fun e w' => e = .returned (.string ⟨#[51]⟩) ∧ Below w.heap.size w w' := by
  have h : Lib.decDigits 3 = [51] := by decide +kernel
  have := text_small 3 (by decide) w
  rw [h] at this
  exact this
theorem text_1 (w : World) : Calls Tryd.prog 15 #[.agg #[.int .u64 1, .slice none 0 0]] w fun e w' => e = .returned (.string ⟨#[49]⟩) ∧ Below w.heap.size w w' := by
  have h : Lib.decDigits 1 = [49] := by decide +kernel
  have := text_small 1 (by decide) w
  rw [h] at this
  exact this

set_option maxRecDepth 100000 in
set_option maxHeartbeats 1000000 in
theorem known_true (w : World) : Calls Tryd.prog 12 #[] w fun e w' => e = .returned (.bool true) ∧ Below w.heap.size w w' := by
  go_enter Tryd.func12, Tryd.ntmps12
  go_wp2_with fail
  refine (parse_007 _).mono ?_
  rintro e w1 ⟨rfl, hb1⟩
  go_wp2_with fail
  refine (of_any _ _).mono ?_
  rintro e w2 ⟨rfl, hb2⟩
  go_wp2_with fail
  refine (of_any _ _).mono ?_
  rintro e w3 ⟨rfl, hb3⟩
  go_wp2_with fail
  refine (div_72 _).mono ?_
  rintro e w4 ⟨rfl, hb4⟩
  have hB : Below w.heap.size w w4 := by
    have h1 := hb1.size
    have h2 := hb2.size
    have h3 := hb3.size
    simp only [World.size_alloc] at h2
    exact (((hb1.alloc h1 _).trans (hb2.mono (by simp; omega))).trans (hb3.mono (by omega))).trans (hb4.mono (by omega))
  clear hb1 hb2 hb3 hb4
  go_wp2_with fail
  refine (of_any _ _).mono ?_
  rintro e w5 ⟨rfl, hb5⟩
  have vq : Var w5 w4.heap.size (.int .u64 3) (.slice none 0 0) := ((Var.new w4 _ (.int .u64 3) none 0 0 rfl).alloc _).below hb5 (by simp; omega)
  have vr : Var w5 (w4.heap.size + 1) (.int .u64 1) (.slice none 0 0) := (Var.new _ _ (.int .u64 1) none 0 0 (by simp)).below hb5 (by simp)
  have hB5 : Below w.heap.size w w5 := by
    have := hB.size
    exact ((hB.alloc (by omega) _).alloc (by simp; omega) _).trans (hb5.mono (by simp; omega))
  clear hb5 hB
  go_wp2_with fail
  refine (root_17 _).mono ?_
  rintro e w6 ⟨rfl, hb6⟩
  go_wp2_with fail
  refine (text_4 _).mono ?_
  rintro e w7 ⟨rfl, hb7⟩
  have hb := hb6.trans (hb7.mono hb6.size)
  have wq := vq.below hb vq.lt
  have wr := vr.below hb vr.lt
  have q0 := wq.c0
  have q1 := wq.c1
  clear hb6 hb7
  go_wp2_with fail
  refine (text_3 _).mono ?_
  rintro e w8 ⟨rfl, hb8⟩
  have xr := wr.below hb8 wr.lt
  have r0 := xr.c0
  have r1 := xr.c1
  clear q0 q1
  go_wp2_with fail
  refine (text_1 _).mono ?_
  rintro e w9 ⟨rfl, hb9⟩
  clear r0 r1
  go_wp2_with fail
  go_ret
  exact ⟨rfl, ((hB5.trans (hb.mono hB5.size)).trans (hb8.mono (Nat.le_trans hB5.size hb.size))).trans (hb9.mono (Nat.le_trans (Nat.le_trans hB5.size hb.size) hb8.size))⟩
end Go.Proofs.YtjaepdjidfhamaaDoor
