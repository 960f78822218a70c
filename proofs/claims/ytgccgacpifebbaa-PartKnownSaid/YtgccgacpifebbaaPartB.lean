/- part: Boot; hand: SameInts of what can be read; the chapter's example. -/
import Derived.Test.YtgccgacpifebbaaPartA
import Derived.Test.YtgccgacpifebbaaDicE
namespace Go.Proofs.Ytgccgacpifebbaa
open Go.RowKit
set_option linter.unusedVariables false

theorem Rd.shape {w : World} {B : Nat} {v : Value} {l : List Int} (h : Rd w B v l) : ∃ p c, v = .slice p l.length c := by
  obtain ⟨p, c, rfl, _⟩ := h
  exact ⟨p, c, rfl⟩
theorem Arr.rd {w : World} {q B : Nat} {l : List Int} {n : Nat} (h : Arr w q 3 .i64 l) (hn : l.length = n) (hB : B ≤ q) : Rd w B (.slice (some ⟨q, 0, none⟩) n n) l := by
  subst hn
  exact ⟨_, _, rfl, fun _ => ⟨q, rfl, hB, h.lt, fun j hj => h.cell j hj⟩⟩
set_option maxRecDepth 100000 in
theorem sameInts_rd (v1 v2 : Value) (l : List Int) (B1 B2 : Nat) (w : World) (h1 : Rd w B1 v1 l) (h2 : Rd w B2 v2 l) (hl : l.length ≤ 65536) :
    Calls Try.prog 14 #[v1, v2] w fun e w' => e = .returned (.bool true) ∧ ∃ m, w' = w.drewN m := by
  obtain ⟨p1, cap1, rfl, c1⟩ := h1
  obtain ⟨p2, cap2, rfl, c2⟩ := h2
  obtain ⟨n, hn⟩ : ∃ n, l.length = n := ⟨_, rfl⟩
  rw [hn] at c1 c2 hl ⊢
  clear hn
  go_enter Try.func14, Try.ntmps14
  go_wp2_with fail
  go_loopg [5] n (fun g iv wr => ∃ (k m : Nat), g = n - k ∧ k ≤ n ∧ iv = .int .i64 k ∧ wr = w.drewN m)
  case atStart => exact ⟨0, 0, rfl, Nat.zero_le _, rfl, rfl⟩
  case round =>
    obtain ⟨k, m, hg, hk, rfl, rfl⟩ := hrel
    have Hg := Lib.hid hg
    clear hg
    by_cases hlt : k < n
    · obtain ⟨q1, rfl, _, _, d1⟩ := c1 (by omega)
      obtain ⟨q2, rfl, _, _, d2⟩ := c2 (by omega)
      have e1 := d1 k hlt
      have e2 := d2 k hlt
      obtain ⟨y, hy⟩ : ∃ y, l.getD k 0 = y := ⟨_, rfl⟩
      rw [hy] at e1 e2
      clear d1 d2 c1 c2 hy
      go_wp2_with fail
      go_quiet (fail)
      go_wp2_with fail
      go_roundg (n - (k + 1))
      case measure => have := Hg.out; omega
      case rel => exact ⟨k + 1, _, rfl, by omega, by go_num, rfl⟩
    · obtain rfl : k = n := by omega
      clear c1 c2
      go_wp2_with fail
      go_ret
      exact ⟨rfl, m, rfl⟩
set_option maxRecDepth 100000 in
theorem known8_true (w : World) : Calls Try.prog 8 #[] w fun e w' => e = .returned (.bool true) ∧ Below w.heap.size w w' := by
  have h0 : Arr (w.alloc (.cells #[.int .i64 2, .int .i64 0, .int .i64 2] 3)) w.heap.size 3 .i64 [2, 0, 2] := Arr.new w 3 .i64 [2, 0, 2] _ rfl
  have hb0 : Below w.heap.size w (w.alloc (.cells #[.int .i64 2, .int .i64 0, .int .i64 2] 3)) := by go_grown
  go_enter Try.func8, Try.ntmps8
  go_wp2_with fail
  generalize w.alloc (.cells #[.int .i64 2, .int .i64 0, .int .i64 2] 3) = w1 at h0 hb0 ⊢
  have hr := rest_any 4 w.heap.size (by decide) (by decide) _ _ (by decide) w1 (h0.rd rfl (Nat.le_refl _))
  have e4 : ((4 : Nat) : Int) = 4 := rfl
  rw [e4] at hr
  refine hr.mono ?_
  rintro e w2 ⟨v', rfl, hown, hb⟩
  have el : restL 4 [2, 0, 2] = [1, 3] := by decide
  rw [el] at hown
  obtain ⟨p, c, rfl, hc⟩ := hown.rd
  obtain ⟨q, rfl, _, _, hcell⟩ := hc (by decide)
  have c0 := hcell 0 (by decide)
  have c1 := hcell 1 (by decide)
  have hB := hb0.trans (hb.mono (by have := hb0.size; omega))
  clear hcell hc hown h0 hb0 hb hr
  go_wp2_with fail
  go_ret
  exact ⟨rfl, hB⟩
end Go.Proofs.Ytgccgacpifebbaa
