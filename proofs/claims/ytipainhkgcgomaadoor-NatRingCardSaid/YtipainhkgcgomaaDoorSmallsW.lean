/- The walk of NatSmalls. -/
import Derived.Test.YtipainhkgcgomaaDoorIs
namespace Go.Proofs.YtipainhkgcgomaaDoor
open Go.RowKit
set_option linter.unusedVariables false

theorem natOf_is (n : Int) (hn : Word n) (w w0 : World) (h0 : Below w.heap.size w w0) (h : IsNat w (.agg #[.int .u64 n, .slice none 0 0]) n) :
    Calls Tryd.prog 23 #[.int .u64 n] w0 fun e w' => (∃ b len l, e = .returned (.slice (some ⟨b, 0, none⟩) len 2) ∧ Arr w' b 82 .u32 l ∧ l.length = 2 ∧ Limbs l ∧ len ≤ 2 ∧ (len ≠ 0 → l.getD (len - 1) 0 ≠ 0) ∧ lval (l.take len) = n) ∧ Below w0.heap.size w0 w' := natOf_any n hn w0

theorem natBytes_of (n : Int) (b len cap : Nat) (t : TypeId) (l : List Int) (w : World) (ha : Arr w b t .u32 l) (hl : len ≤ l.length) (hm : l.length ≤ 4294967296) (hw : Limbs l) (hz : len ≠ 0 → l.getD (len - 1) 0 ≠ 0) (hv : lval (l.take len) = n) :
    Calls Tryd.prog 47 #[.slice (some ⟨b, 0, none⟩) len cap] w (RetBytes n w) := by
  cases len with
  | zero =>
    have : n = 0 := by rw [← hv]; simp [lval]
    subst this
    exact natBytes_zero _ _ _
  | succ k =>
    rw [← hv]
    exact natBytes_pos b t k cap l w ha hl hm hw (by simpa using hz (by omega))

set_option maxRecDepth 100000 in
set_option maxHeartbeats 4000000 in
theorem natSmalls_walk (n : Int) (hn : Word n) (w : World) :
    Calls Tryd.prog 4 #[.int .u64 n] w fun e w' => e = .returned (.bool true) ∧ Below w.heap.size w w' := by
  have Hn := Lib.hid hn
  clear hn
  go_enter Tryd.func4, Tryd.ntmps4
  go_wp2_with fail
  refine (of_any _ _).mono ?_
  rintro e w1 ⟨rfl, hb1⟩
  go_wp2_with fail
  refine (small_word _ _).mono ?_
  rintro e w2 ⟨rfl, hb2⟩
  go_wp2_with fail
  refine (of_any _ _).mono ?_
  rintro e w3 ⟨rfl, hb3⟩
  go_wp2_with fail
  refine (of_any _ _).mono ?_
  rintro e w4 ⟨rfl, hb4⟩
  go_wp2_with fail
  refine (add_words 18446744073709551615 n ⟨by decide, by decide⟩ Hn.out _).mono ?_
  rintro e w5 ⟨v, rfl, hv, hb5⟩
  have hW : ∃ W, w1.alloc (.cells #[.int .u64 n, .slice none 0 0] 25) = W := ⟨_, rfl⟩
  have hBx : Below (w1.heap.size + 1) (w1.alloc (.cells #[.int .u64 n, .slice none 0 0] 25)) w5 := by
    have h2 := hb2.size
    have h3 := hb3.size
    have h4 := hb4.size
    rw [World.size_alloc] at h2 hb2
    exact ((hb2.trans (hb3.mono (by omega))).trans (hb4.mono (by omega))).trans (hb5.mono (by omega))
  have vx : Var w5 w1.heap.size (.int .u64 n) (.slice none 0 0) := (Var.new w1 _ (.int .u64 n) none 0 0 rfl).below hBx (by omega)
  have hB5 : Below w.heap.size w w5 := (hb1.alloc hb1.size _).trans (hBx.mono (by have := hb1.size; omega))
  clear hW hBx hb2 hb3 hb4 hb5 hb1
  by_cases h0 : n = 0
  · subst h0
    have hv1 := hv.one (by decide)
    subst hv1
    go_wp2_with fail
    refine (small_word _ _).mono ?_
    rintro e w6 ⟨rfl, hb6⟩
    have BX : Below w5.heap.size w5 w6 := ((Below.refl _ _).alloc (Nat.le_refl _) _).trans (hb6.mono (by simp))
    have BY := hB5.trans (BX.mono hB5.size)
    clear hb6
    go_wp2_with fail
    have vx6 := vx.below BX vx.lt
    have z6 := vx6.lt
    have c0 := vx6.c0
    have c1 := vx6.c1
    have acc := Below.refl w6.heap.size w6
    go_region_held3 (fun w' => w'.cell? ⟨w1.heap.size, 0, none⟩ = some (.int .u64 0) ∧ w'.cell? ⟨w1.heap.size, 1, none⟩ = some (.slice none 0 0)) (first | with_reducible exact ⟨(vx6.below acc z6).c0, (vx6.below acc z6).c1⟩ | with_reducible exact ⟨(vx6.below acc z6).drew.c0, (vx6.below acc z6).drew.c1⟩) (first | (go_at_call 14; refine (known_true _).mono ?_; rintro e w7 ⟨rfl, hb7⟩; (first | replace acc := below_acc acc acc.size hb7 | replace acc := below_accD acc acc.size hb7); have c0 := (vx6.below acc z6).c0; have c1 := (vx6.below acc z6).c1) | (go_at_call 23; refine (natOf_any _ Hn.out _).mono ?_; rintro e w8 ⟨⟨sb, len, l, rfl, hal, hll⟩, hb8⟩; have Hll := Lib.hid hll; clear hll; (first | replace acc := below_acc acc acc.size hb8 | replace acc := below_accD acc acc.size hb8); have c0 := (vx6.below acc z6).c0; have c1 := (vx6.below acc z6).c1) | (go_at_call 22; refine (is_true 2 (by decide) _ 0 (by have := Hn.out.2; simp only [pw]; omega) sb len 2 _ (IsNat.word Hn.out) (fun w' hb' => natBytes_of _ sb len 2 _ l w' (Arr.below (show Arr _ sb _ .u32 l from hal) hb' hal.lt) (by rw [Hll.out.1]; exact Hll.out.2.2.1) (by rw [Hll.out.1]; decide) Hll.out.2.1 Hll.out.2.2.2.1 Hll.out.2.2.2.2)).mono ?_; rintro e w9 ⟨rfl, hb9⟩; (first | replace acc := below_acc acc acc.size hb9 | replace acc := below_accD acc acc.size hb9)))
    all_goals
      go_wp2
      go_ret
      exact ⟨rfl, BY.trans (acc.mono BY.size)⟩
  · have hn0 : (n == 0) = false := by simpa using h0
    have hn1 := Hn.out
    rcases hv with ⟨hw5, _⟩ | ⟨b5, t5, len5, cap5, l5, rfl, ha5, _⟩
    · unfold Word at hw5 hn1; omega
    clear hn1
    go_wp2_with fail
    refine (small_many _ _ _ _).mono ?_
    rintro e w6 ⟨rfl, hb6⟩
    have BX : Below w5.heap.size w5 w6 := ((Below.refl _ _).alloc (Nat.le_refl _) _).trans (hb6.mono (by simp))
    have BY := hB5.trans (BX.mono hB5.size)
    clear hb6 h0 ha5
    go_wp2_with fail
    have vx6 := vx.below BX vx.lt
    have z6 := vx6.lt
    have c0 := vx6.c0
    have c1 := vx6.c1
    have acc := Below.refl w6.heap.size w6
    go_region_held3 (fun w' => w'.cell? ⟨w1.heap.size, 0, none⟩ = some (.int .u64 n) ∧ w'.cell? ⟨w1.heap.size, 1, none⟩ = some (.slice none 0 0)) (first | with_reducible exact ⟨(vx6.below acc z6).c0, (vx6.below acc z6).c1⟩ | with_reducible exact ⟨(vx6.below acc z6).drew.c0, (vx6.below acc z6).drew.c1⟩) (first | (go_at_call 14; refine (known_true _).mono ?_; rintro e w7 ⟨rfl, hb7⟩; (first | replace acc := below_acc acc acc.size hb7 | replace acc := below_accD acc acc.size hb7); have c0 := (vx6.below acc z6).c0; have c1 := (vx6.below acc z6).c1) | (go_at_call 23; refine (natOf_any _ Hn.out _).mono ?_; rintro e w8 ⟨⟨sb, len, l, rfl, hal, hll⟩, hb8⟩; have Hll := Lib.hid hll; clear hll; (first | replace acc := below_acc acc acc.size hb8 | replace acc := below_accD acc acc.size hb8); have c0 := (vx6.below acc z6).c0; have c1 := (vx6.below acc z6).c1) | (go_at_call 22; refine (is_true 2 (by decide) _ n (by have := Hn.out.2; simp only [pw]; omega) sb len 2 _ (IsNat.word Hn.out) (fun w' hb' => natBytes_of _ sb len 2 _ l w' (Arr.below (show Arr _ sb _ .u32 l from hal) hb' hal.lt) (by rw [Hll.out.1]; exact Hll.out.2.2.1) (by rw [Hll.out.1]; decide) Hll.out.2.1 Hll.out.2.2.2.1 Hll.out.2.2.2.2)).mono ?_; rintro e w9 ⟨rfl, hb9⟩; (first | replace acc := below_acc acc acc.size hb9 | replace acc := below_accD acc acc.size hb9)))
    all_goals
      go_wp2
      go_ret
      exact ⟨rfl, BY.trans (acc.mono BY.size)⟩
end Go.Proofs.YtipainhkgcgomaaDoor
