/- Contracts of slices.Clone over a part of a row of words, and over nothing. Numbers moved by bits: what words are worth behind a shift. Newton's steps to a square root, over whole numbers. -/
import Derived.Test.YtogildikglomkaaGreatDoorClone
import Derived.Test.YtogildikglomkaaGreatDoorShiftDown
import Derived.Test.YtogildikglomkaaGreatDoorRingKit
import Derived.Test.YtogildikglomkaaGreatDoorLimb
namespace Go.Proofs.YtogildikglomkaaGreatDoor
open Go.RowKit
set_option linter.unusedVariables false

set_option maxRecDepth 100000 in
set_option maxHeartbeats 1000000 in
theorem clone_at (b t o n c : Nat) (l M : List Int) (w : World) (ha : Arr w b t .u64 l) (hn : o + n ≤ l.length) (hM : M.length = n) (hMl : ∀ j, j < n → l.getD (o + j) 0 = M.getD j 0) (hp : 1 ≤ n) (hm : n ≤ 4294967296) :
    Calls Tryz.prog 79 #[.slice (some ⟨b, o, none⟩) n c] w fun e w' => ∃ g cap k, e = .returned (.slice (some ⟨g, 0, none⟩) n cap) ∧ Arr w' g 22 .u64 (M ++ List.replicate k 0) ∧ cap = n + k ∧ w.heap.size ≤ g ∧ Below w.heap.size w w' := by
  have k1 := ha.lt
  have e1 := eqnil
  obtain ⟨i0, hi, hz0, hz1, hz2⟩ := info_parts info64
  have hge := grownCap_ge (w.alloc (.cells #[] 22)) (0 + n) 0 22
  have hrun := run_append_grow (P := Tryz.prog) (w.alloc (.cells #[] 22)) 23 23 22 i0 _ Tryz.underlying23 hi hz0 ⟨w.heap.size, 0, none⟩ 0 0 [] (by simp) (by simp) ⟨b, o, none⟩ n c ((M).map (Value.int .u64)) (by rw [hz1]; simp; omega) (by
    intro j v hj
    have hjn : j < n := by
      have := (List.getElem?_eq_some_iff.1 hj).1
      simp at this
      omega
    have hadd : (⟨b, o, none⟩ : Addr).add j = ⟨b, o + j, none⟩ := by unfold Addr.add; split <;> simp_all
    rw [hadd, (ha.alloc _).cell (o + j) (by omega), hMl j hjn]
    rw [List.getElem?_map, List.getElem?_eq_getElem (by omega)] at hj
    rw [← hj]
    simp [List.getD_eq_getElem?_getD, List.getElem?_eq_getElem (show j < M.length by omega)]) (by omega) (by omega) (growslice_fits (by omega) (by rw [hz2]; omega))
  obtain ⟨cap, hcap⟩ : ∃ cap, grownCap (w.alloc (.cells #[] 22)) (0 + n) 0 22 = cap := ⟨_, rfl⟩
  rw [hcap] at hge hrun
  rw [zeroCells_u64] at hrun
  have e0 : (#[] : Array Value) ++ ((M).map (Value.int .u64)).toArray ++ ((List.replicate (cap - (0 + n)) (0 : Int)).map (Value.int .u64)).toArray = ((M ++ List.replicate (cap - (0 + n)) 0).map (Value.int .u64)).toArray := by simp
  rw [e0, Nat.zero_add] at hrun
  rw [Nat.zero_add] at hge
  go_enter Tryz.func79, Tryz.ntmps79
  go_wp2_with (at_builtin; refine Lib.wpList_append_run _ rfl _ _ _ _ rfl _ _ rfl rfl _ _ hrun ?_)
  go_wp2
  go_ret
  have hA := Arr.new (w.alloc (.cells #[] 22)) 22 .u64 (M ++ List.replicate (cap - n) 0) (w.heap.size + 1) (by simp)
  rw [List.map_append, List.map_replicate] at hA
  exact ⟨w.heap.size + 1, cap, cap - n, rfl, hA, by omega, by omega, by go_grown⟩


theorem clone_none (a : Addr) (c : Nat) (w : World) :
    Calls Tryz.prog 79 #[.slice (some a) 0 c] w fun e w' => e = .returned (.slice (some ⟨w.heap.size, 0, none⟩) 0 0) ∧ Arr w' w.heap.size 22 .u64 [] ∧ Below w.heap.size w w' := by
  have e1 := eqnil
  go_enter Tryz.func79, Tryz.ntmps79
  go_wp2_with fail
  go_ret
  exact ⟨rfl, Arr.new w _ _ [] _ rfl, by go_grown⟩
end Go.Proofs.YtogildikglomkaaGreatDoor

namespace Go.Proofs.YtogildikglomkaaGreatDoor
open Go.RowKit
set_option linter.unusedVariables false

theorem pow_add_mul (a b : Nat) (x : Int) : x * 2 ^ (a + b) = x * 2 ^ b * 2 ^ a := by
  rw [Int.pow_add, Int.mul_comm (2 ^ a), Int.mul_assoc]
theorem div_pow_add (x : Int) (a b : Nat) : x / 2 ^ (a + b) = x / 2 ^ a / 2 ^ b := by
  rw [Int.pow_add, Int.ediv_ediv_of_nonneg (Int.le_of_lt (Int.pow_pos (by decide)))]
theorem val_drop {l : List Int} {n j : Nat} (h : Words l) (hj : j ≤ n) (hn : n ≤ l.length) : val ((l.take n).drop j) = val (l.take n) / 2 ^ (64 * j) := by
  have h1 := val_split (l.take n) j (by rw [List.length_take]; omega)
  rw [List.take_take, Nat.min_eq_left hj] at h1
  have h2 := val_bd (h.take j)
  rw [List.length_take, Nat.min_eq_left (by omega)] at h2
  have h3 := pw_pos j
  rw [h1, ← pw_two, Int.add_mul_ediv_left _ _ (by omega), Int.ediv_eq_zero_of_lt h2.1 h2.2, Int.zero_add]
theorem seg_drop (l : List Int) (n j : Nat) (hj : j ≤ n) : val ((l.take n).drop j) = seg l j (n - j) := by
  unfold seg
  rw [List.drop_take]
theorem div_small {n : Int} {K k : Nat} (h0 : 0 ≤ n) (hn : n < pw K) (hk : K ≤ k / 64) : n / 2 ^ k = 0 := by
  refine Int.ediv_eq_zero_of_lt h0 (Int.lt_of_lt_of_le hn ?_)
  rw [pw_two]
  exact two_pow_mono (by omega)
theorem mul_shift (n : Int) (k : Nat) : n * 2 ^ k = n * 2 ^ (k % 64) * pw (k / 64) := by
  rw [pw_two, Int.mul_assoc, ← Int.pow_add]
  congr 2
  omega
theorem div_shift (n : Int) (k : Nat) : n / 2 ^ k = n / pw (k / 64) / 2 ^ (k % 64) := by
  rw [pw_two, ← div_pow_add]
  congr 2
  omega
theorem getD_takeW (l : List Int) (n i : Nat) : (l.take n).getD i 0 = if i < n then l.getD i 0 else 0 := by
  simp only [List.getD_eq_getElem?_getD, List.getElem?_take]
  split <;> rfl
end Go.Proofs.YtogildikglomkaaGreatDoor

namespace Go.Proofs.YtogildikglomkaaGreatDoor

/-- r is the greatest number whose square is not above n. -/
def IsRoot (n r : Int) : Prop := 0 ≤ r ∧ r * r ≤ n ∧ n < (r + 1) * (r + 1)

theorem sq_le {a b : Int} (ha : 0 ≤ a) (h : a ≤ b) : a * a ≤ b * b := Int.mul_le_mul h h ha (by omega)
theorem sq_lt {a b : Int} (hb : 0 ≤ b) (h : a * a < b * b) : a < b := by
  apply Int.lt_of_not_ge
  intro g
  have := sq_le hb g
  omega
theorem IsRoot.uniq {n r s : Int} (h : IsRoot n r) (g : IsRoot n s) : r = s := by
  obtain ⟨a1, a2, a3⟩ := h
  obtain ⟨b1, b2, b3⟩ := g
  have h1 := sq_lt (a := r) (b := s + 1) (by omega) (by omega)
  have h2 := sq_lt (a := s) (b := r + 1) (by omega) (by omega)
  omega
theorem IsRoot.square {s : Int} (h : 0 ≤ s) : IsRoot (s * s) s := by
  refine ⟨h, Int.le_refl _, ?_⟩
  rw [Int.add_mul, Int.mul_add]
  omega
theorem IsRoot.le {n r : Int} (h : IsRoot n r) : r ≤ n := by
  obtain ⟨h1, h2, h3⟩ := h
  by_cases hz : r = 0
  · subst hz; omega
  · have := Int.mul_le_mul_of_nonneg_left (show (1 : Int) ≤ r by omega) h1
    omega
theorem newton_mul (s x : Int) : (2 * s - x) * x ≤ s * s := by
  have h : 0 ≤ (s - x) * (s - x) := by
    rcases Int.le_total 0 (s - x) with g | g
    · exact Int.mul_nonneg g g
    · exact Int.mul_nonneg_of_nonpos_of_nonpos g g
  have e : (s - x) * (s - x) = s * s - (2 * s - x) * x := by
    rw [Int.sub_mul, Int.mul_sub, Int.mul_sub, Int.sub_mul, Int.mul_assoc 2 s x, Int.mul_comm x s]
    omega
  omega
/-- A step never falls below the root. -/
theorem newton_ge {a s x : Int} (hs : s * s ≤ a) (hx : 0 < x) : s ≤ (x + a / x) / 2 := by
  have h1 : 2 * s ≤ x + a / x := by
    apply Int.le_of_not_gt
    intro g
    have h2 : a < (a / x + 1) * x := Int.lt_ediv_add_one_mul_self a hx
    have h3 : (a / x + 1) * x ≤ (2 * s - x) * x := Int.mul_le_mul_of_nonneg_right (by omega) (by omega)
    have h4 := newton_mul s x
    omega
  omega
/-- Where a step goes no further down, there the root is. -/
theorem newton_stop {a x : Int} (hx : 0 < x) (h : x ≤ (x + a / x) / 2) : x * x ≤ a := by
  have h1 : x ≤ a / x := by omega
  have h2 := Int.mul_le_mul_of_nonneg_right h1 (Int.le_of_lt hx)
  have h3 := Int.ediv_mul_le a (show x ≠ 0 by omega)
  omega
theorem newton_end {a s x : Int} (h : IsRoot a s) (hx : 0 < x) (hsx : s ≤ x) (hst : x ≤ (x + a / x) / 2) : s = x := by
  have h1 := newton_stop hx hst
  have h2 := sq_lt (a := x) (b := s + 1) (by have := h.1; omega) (by have := h.2.2; omega)
  omega
/-- Where the steps begin. -/
theorem newton_start {a s r T : Int} (h : IsRoot a s) (hT : 0 < T) (hr : IsRoot (a / (T * T)) r) : s < (r + 1) * T := by
  have hTT : 0 < T * T := Int.mul_pos hT hT
  have h1 : a < (a / (T * T) + 1) * (T * T) := Int.lt_ediv_add_one_mul_self a hTT
  have h2 : (a / (T * T) + 1) * (T * T) ≤ ((r + 1) * (r + 1)) * (T * T) := Int.mul_le_mul_of_nonneg_right (by have := hr.2.2; omega) (by omega)
  have e : ((r + 1) * (r + 1)) * (T * T) = ((r + 1) * T) * ((r + 1) * T) := by
    rw [Int.mul_assoc, Int.mul_assoc, Int.mul_left_comm (r + 1) T T]
  refine sq_lt (Int.mul_nonneg (by have := hr.1; omega) (by omega)) ?_
  have := h.2.1
  omega
theorem newton_first {a r T : Int} (ha : 0 ≤ a) (hT : 0 < T) (hTa : T * T ≤ a) (hr : IsRoot (a / (T * T)) r) : (r + 1) * T ≤ a + a := by
  have hTT : 0 < T * T := Int.mul_pos hT hT
  have h1 := hr.le
  have h2 : r * T ≤ a / (T * T) * (T * T) := by
    have g1 : T ≤ T * T := by have := Int.mul_le_mul_of_nonneg_left (show (1 : Int) ≤ T by omega) (show 0 ≤ T by omega); omega
    exact Int.mul_le_mul h1 g1 (by omega) (Int.ediv_nonneg ha (by omega))
  have h3 := Int.ediv_mul_le a (show T * T ≠ 0 by omega)
  have g1 : T ≤ T * T := by have := Int.mul_le_mul_of_nonneg_left (show (1 : Int) ≤ T by omega) (show 0 ≤ T by omega); omega
  rw [Int.add_mul]
  omega
/-- Such a root is there. -/
theorem root_exists (n : Nat) : ∃ s : Nat, s * s ≤ n ∧ n < (s + 1) * (s + 1) := by
  induction n with
  | zero => exact ⟨0, by decide, by decide⟩
  | succ n ih =>
    obtain ⟨s, h1, h2⟩ := ih
    by_cases h : n + 1 < (s + 1) * (s + 1)
    · exact ⟨s, by omega, h⟩
    · refine ⟨s + 1, by omega, ?_⟩
      have : (s + 1) * (s + 1) < (s + 1 + 1) * (s + 1 + 1) := Nat.mul_lt_mul'' (by omega) (by omega)
      omega
theorem isRoot_exists {n : Int} (h : 0 ≤ n) : ∃ s, IsRoot n s := by
  obtain ⟨N, rfl⟩ := Int.eq_ofNat_of_zero_le h
  obtain ⟨s, h1, h2⟩ := root_exists N
  exact ⟨s, by omega, by exact_mod_cast h1, by exact_mod_cast h2⟩
end Go.Proofs.YtogildikglomkaaGreatDoor
