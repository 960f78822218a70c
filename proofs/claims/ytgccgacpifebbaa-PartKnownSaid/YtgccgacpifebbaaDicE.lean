/- hand: Pick, SameInts of alike ones; an order has each number once. -/
import Derived.Test.YtgccgacpifebbaaDicD
namespace Go.Proofs.Ytgccgacpifebbaa
open Go.RowKit
set_option linter.unusedVariables false

/-- Any number as one of 0 to m - 1. -/
theorem pick_d (x m : Int) (hx : -9223372036854775808 ≤ x) (hx2 : x ≤ 9223372036854775807) (hm : 0 < m) (hm2 : m ≤ 4611686018427387904) (w : World) :
    Calls Try.prog 16 #[.int .i64 x, .int .i64 m] w fun e w' => (∃ p : Nat, (p : Int) < m ∧ e = .returned (.int .i64 p)) ∧ w = w' := by
  have h1 : -m < x.tmod m := by
    have := Int.tmod_lt_of_pos (-x) hm
    rw [Int.neg_tmod] at this
    omega
  have h2 : x.tmod m < m := Int.tmod_lt_of_pos x hm
  have hz : (m == 0) = false := by simp; omega
  obtain ⟨t, ht⟩ : ∃ t, x.tmod m = t := ⟨_, rfl⟩
  rw [ht] at h1 h2
  by_cases hneg : t < 0
  · obtain ⟨p, hp⟩ := Int.eq_ofNat_of_zero_le (show 0 ≤ t + m by omega)
    have hp2 : (p : Int) < m := by omega
    have hge : -4611686018427387904 ≤ t := by omega
    have Hp2 := Lib.hid hp2
    clear hp2
    go_enter Try.func16, Try.ntmps16
    go_wp2_with fail
    go_ret
    exact ⟨⟨p, Hp2.out, by first | rfl | (congr 2)⟩, rfl⟩
  · obtain ⟨p, rfl⟩ := Int.eq_ofNat_of_zero_le (show 0 ≤ t by omega)
    have hge : (0 : Int) ≤ (p : Int) := by omega
    go_enter Try.func16, Try.ntmps16
    go_wp2_with fail
    go_ret
    exact ⟨⟨p, h2, by first | rfl | (congr 2)⟩, rfl⟩
theorem Ints.below {w w' : World} {B B' : Nat} {v : Value} {l : List Int} (h : Ints w B v l) (hb : Below w.heap.size w w') : Ints w' B v l := by
  rcases h with ⟨rfl, rfl⟩ | ⟨q, rfl, ha, hq⟩
  · exact .inl ⟨rfl, rfl⟩
  · exact .inr ⟨q, rfl, ha.below hb ha.lt, hq⟩
theorem Ints.grown {w w' : World} {B b : Nat} {v : Value} {l : List Int} (h : Ints w B v l) (hg : w.grownBy w' (some b)) (hb : b < B) : Ints w' B v l := by
  rcases h with ⟨rfl, rfl⟩ | ⟨q, rfl, ha, hq⟩
  · exact .inl ⟨rfl, rfl⟩
  · exact .inr ⟨q, rfl, ha.grown hg (by simp; omega), hq⟩
theorem Ints.cells {w : World} {B : Nat} {v : Value} {l : List Int} (h : Ints w B v l) : ∃ p, v = .slice p l.length l.length ∧ (0 < l.length → ∃ q, p = some ⟨q, 0, none⟩ ∧ ∀ j, j < l.length → w.cell? ⟨q, j, none⟩ = some (.int .i64 (l.getD j 0))) := by
  rcases h with ⟨rfl, rfl⟩ | ⟨q, rfl, ha, hq⟩
  · exact ⟨none, rfl, fun h => absurd h (Nat.lt_irrefl 0)⟩
  · exact ⟨_, rfl, fun _ => ⟨q, rfl, fun j hj => ha.cell j hj⟩⟩
set_option maxRecDepth 100000 in
theorem sameInts_true (v1 v2 : Value) (l : List Int) (B1 B2 : Nat) (w : World) (h1 : Ints w B1 v1 l) (h2 : Ints w B2 v2 l) (hl : l.length ≤ 65536) :
    Calls Try.prog 14 #[v1, v2] w fun e w' => e = .returned (.bool true) ∧ ∃ m, w' = w.drewN m := by
  obtain ⟨p1, rfl, c1⟩ := h1.cells
  obtain ⟨p2, rfl, c2⟩ := h2.cells
  clear h1 h2
  obtain ⟨n, hn⟩ : ∃ n, l.length = n := ⟨_, rfl⟩
  rw [hn] at c1 c2 hl ⊢
  go_enter Try.func14, Try.ntmps14
  go_wp2_with fail
  go_loopg [5] n (fun g iv wr => ∃ (k m : Nat), g = n - k ∧ k ≤ n ∧ iv = .int .i64 k ∧ wr = w.drewN m)
  case atStart => exact ⟨0, 0, rfl, Nat.zero_le _, rfl, rfl⟩
  case round =>
    obtain ⟨k, m, hg, hk, rfl, rfl⟩ := hrel
    have Hg := Lib.hid hg
    clear hg
    by_cases hlt : k < n
    · obtain ⟨q1, rfl, d1⟩ := c1 (by omega)
      obtain ⟨q2, rfl, d2⟩ := c2 (by omega)
      have e1 := d1 k hlt
      have e2 := d2 k hlt
      obtain ⟨y, hy⟩ : ∃ y, l.getD k 0 = y := ⟨_, rfl⟩
      rw [hy] at e1 e2
      clear d1 d2 c1 c2 hy
      go_wp2_with fail
      go_quiet (fail)
      go_wp2_with fail
      go_roundg (n - (k + 1))
      case measure => have := Hg.out; omega
      case rel => exact ⟨k + 1, _, rfl, by omega, by go_num, rfl⟩
    · obtain rfl : k = n := by omega
      clear c1 c2
      go_wp2_with fail
      go_ret
      exact ⟨rfl, m, rfl⟩
/-- Each of 0 to n - 1 once. -/
def Once (n : Nat) (l : List Int) : Prop := l.length = n ∧ (∀ i, i < n → 0 ≤ l.getD i 0 ∧ l.getD i 0 < n) ∧ ∀ i j, i < n → j < n → l.getD i 0 = l.getD j 0 → i = j
theorem upto_once (n : Nat) : Once n (upto n n) := by
  have e : ∀ i, i < n → (upto n n).getD i 0 = (i : Int) := by
    intro i hi
    unfold upto
    simp [hi]
  refine ⟨upto_length (Nat.le_refl _), fun i hi => ?_, fun i j hi hj h => ?_⟩
  · rw [e i hi]; omega
  · rw [e i hi, e j hj] at h; omega
theorem swp_once {n : Nat} {l : List Int} {a b : Nat} (h : Once n l) (ha : a < n) (hb : b < n) : Once n (swp l a b) := by
  obtain ⟨h1, h2, h3⟩ := h
  have e : ∀ i, (swp l a b).getD i 0 = l.getD (if i = b then a else if i = a then b else i) 0 := by
    intro i
    unfold swp
    rw [getD_set _ _ _ _ (by rw [List.length_set]; omega), getD_set _ _ _ _ (by omega)]
    by_cases c1 : i = b
    · rw [if_pos c1, if_pos c1]
    · rw [if_neg c1, if_neg c1]
      by_cases c2 : i = a
      · rw [if_pos c2, if_pos c2]
      · rw [if_neg c2, if_neg c2]
  have hf : ∀ i, i < n → (if i = b then a else if i = a then b else i) < n := by
    intro i hi
    split
    · exact ha
    · split
      · exact hb
      · exact hi
  refine ⟨by unfold swp; rw [List.length_set, List.length_set, h1], fun i hi => ?_, fun i j hi hj hij => ?_⟩
  · rw [e]
    exact h2 _ (hf i hi)
  · rw [e, e] at hij
    have := h3 _ _ (hf i hi) (hf j hj) hij
    revert this
    repeat' split
    all_goals (intro this; omega)
theorem Mixed.once {n : Nat} {i : Nat} {l l' : List Int} {s t : Int} (h : Mixed i l s l' t) : Once n l → i < n → Once n l' := by
  induction h with
  | done => exact fun h _ => h
  | step hd _ ih =>
    intro h hi
    have hr := hd.range (by omega)
    exact ih (swp_once h hi (by omega)) (by omega)
end Go.Proofs.Ytgccgacpifebbaa
