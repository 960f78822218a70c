/- The document's own Next where a count is too long, or not as short as may be. (gen_refnext.py) -/
import Derived.Test.YtkggglhnhlclmaaOctP
namespace Go.Proofs.Ytkggglhnhlclmaa
open Go.RowKit
set_option linter.unusedVariables false

set_option maxRecDepth 100000 in
set_option maxHeartbeats 400000 in
/-- A last group of nought behind another. -/
theorem refNext_form (g off len c : Nat) (L : List Int) (w : World) (h : Bs w (.slice (some ⟨g, off, none⟩) (len + 1) (c + 1)) L) (hk0 : L.getD 0 0 ≠ 0) (i0 : Nat) (hlow : low (L.drop 1) = i0) (hil : i0 < len) (i1 : 0 < i0) (hz : (L.drop 1).getD i0 0 = 0) :
    Calls Try.prog 12 #[.slice (some ⟨g, off, none⟩) (len + 1) (c + 1)] w (RetNo 2 w) := by
  obtain ⟨hL, hc1, hmax⟩ := h.len
  have hcell := h.head
  obtain ⟨x, hx⟩ : ∃ x, L.getD 0 0 = x := ⟨_, rfl⟩
  rw [hx] at hcell hk0
  have xb : (x == 0) = false := by simpa using hk0
  have hoc := h.octs
  obtain ⟨p', c', hv, h1, h2, h3, h4⟩ := h
  simp only [Value.slice.injEq] at hv
  obtain ⟨rfl, hl, rfl⟩ := hv
  obtain ⟨g', off', hp, hc⟩ := h4 (by omega)
  simp only [Option.some.injEq, Addr.mk.injEq] at hp
  obtain ⟨rfl, rfl, _⟩ := hp
  have hz0 : (L.drop 1).getD i0 0 = L.getD (i0 + 1) 0 := by rw [List.getD_eq_getElem?_getD, List.getElem?_drop, Nat.add_comm 1 i0, ← List.getD_eq_getElem?_getD]
  have hlo : L.getD (i0 + 1) 0 < 128 := by
    have := low_at (l := L.drop 1) (by rw [hlow, List.length_drop]; omega)
    rwa [hlow, hz0] at this
  rw [hz0] at hz
  have hah : ∀ j, j < i0 → 128 ≤ L.getD (j + 1) 0 := fun j hj => by
    have := low_ahead (l := L.drop 1) (j := j) (by omega)
    rwa [List.getD_eq_getElem?_getD, List.getElem?_drop, Nat.add_comm 1 j, ← List.getD_eq_getElem?_getD] at this
  have Hc := Lib.hid hc
  have Hah := Lib.hid hah
  have Hl := Lib.hid hl
  clear hc hah h4 hl h1 h2 h3 hlow hx hL hz0
  go_enter Try.func12, Try.ntmps12
  go_wp2_with fail
  go_loopg [6, 7] i0 (fun g' nv iv wr => ∃ (j : Nat) (N : Int), g' = i0 + 1 - j ∧ 1 ≤ j ∧ j ≤ i0 + 1 ∧ nv = .int .u64 N ∧ iv = .int .i64 (j : Int) ∧ w = wr)
  case atStart => exact ⟨1, 0, by omega, Nat.le_refl _, by omega, rfl, rfl, rfl⟩
  case round =>
    obtain ⟨j, N, hg, hj1, hj2, rfl, rfl, rfl⟩ := hrel
    have Hg := Lib.hid hg
    clear hg
    by_cases hlt : j < i0 + 1
    · have hx := Hc.out j (by rw [← Hl.out]; omega)
      have h128 := Hah.out (j - 1) (by omega)
      rw [show j - 1 + 1 = j by omega] at h128
      have oy := hoc.getD j
      obtain ⟨y, hy⟩ : ∃ y, L.getD j 0 = y := ⟨_, rfl⟩
      rw [hy] at hx h128 oy
      have ny : ¬ y < 128 := by omega
      have hltI : ¬ ((len : Int) + 1) ≤ (j : Int) := by omega
      clear hy
      by_cases h9 : j ≤ 9
      · have j9 : (j : Int) ≤ 9 := by omega
        obtain ⟨s, hs⟩ : ∃ s : Nat, 7 * (j - 1) = s := ⟨_, rfl⟩
        have e1 : (7 : Int) * ((j : Int) - 1) = (s : Int) := by omega
        have s64 : s < 64 := by omega
        have ws : IntKind.u64.wrap (s : Int) = (s : Int) := by rw [IntKind.wrap_u64]; omega
        have Hs := Lib.hid hs
        clear hs
        go_wp2_with fail
        go_roundg (i0 + 1 - (j + 1))
        case measure => have := Hg.out; omega
        case rel => exact ⟨j + 1, _, rfl, by omega, by omega, rfl, by go_num, rfl⟩
      · have j9 : ¬ (j : Int) ≤ 9 := by omega
        go_wp2_with fail
        go_roundg (i0 + 1 - (j + 1))
        case measure => have := Hg.out; omega
        case rel => exact ⟨j + 1, _, rfl, by omega, by omega, rfl, by go_num, rfl⟩
    · obtain rfl : j = i0 + 1 := by omega
      have hx := Hc.out (i0 + 1) (by rw [← Hl.out]; omega)
      have oy := hoc.getD (i0 + 1)
      obtain ⟨y, hy⟩ : ∃ y, L.getD (i0 + 1) 0 = y := ⟨_, rfl⟩
      rw [hy] at hx oy hlo hz
      obtain ⟨j, hj⟩ : ∃ j, i0 + 1 = j := ⟨_, rfl⟩
      rw [hj] at hx ⊢
      have hltI : ¬ ((len : Int) + 1) ≤ (j : Int) := by omega
      have j2 : (2 : Int) < (j : Int) + 1 := by omega
      subst hz
      clear hy
      by_cases h9 : j ≤ 9
      · have j9 : (j : Int) ≤ 9 := by omega
        obtain ⟨s, hs⟩ : ∃ s : Nat, 7 * (j - 1) = s := ⟨_, rfl⟩
        have e1 : (7 : Int) * ((j : Int) - 1) = (s : Int) := by omega
        have s64 : s < 64 := by omega
        have ws : IntKind.u64.wrap (s : Int) = (s : Int) := by rw [IntKind.wrap_u64]; omega
        have Hs := Lib.hid hs
        clear hs
        go_wp2_with fail
        refine bodyPost_ret (v := .tuple #[.int .i64 0, .slice none 0 0, .int .i64 0, .int .i64 2]) ?_ rfl ⟨rfl, Below.refl _ _⟩
        simp [results, Try.results12]
      · have j9 : ¬ (j : Int) ≤ 9 := by omega
        go_wp2_with fail
        refine bodyPost_ret (v := .tuple #[.int .i64 0, .slice none 0 0, .int .i64 0, .int .i64 2]) ?_ rfl ⟨rfl, Below.refl _ _⟩
        simp [results, Try.results12]
set_option maxRecDepth 100000 in
set_option maxHeartbeats 400000 in
/-- More groups than a count has. -/
theorem refNext_long (g off len c : Nat) (L : List Int) (w : World) (h : Bs w (.slice (some ⟨g, off, none⟩) (len + 1) (c + 1)) L) (hk0 : L.getD 0 0 ≠ 0) (i0 : Nat) (hlow : low (L.drop 1) = i0) (hil : i0 < len) (i9 : 9 ≤ i0) (hz : (L.drop 1).getD i0 0 ≠ 0) :
    Calls Try.prog 12 #[.slice (some ⟨g, off, none⟩) (len + 1) (c + 1)] w (RetNo 4 w) := by
  obtain ⟨hL, hc1, hmax⟩ := h.len
  have hcell := h.head
  obtain ⟨x, hx⟩ : ∃ x, L.getD 0 0 = x := ⟨_, rfl⟩
  rw [hx] at hcell hk0
  have xb : (x == 0) = false := by simpa using hk0
  have hoc := h.octs
  obtain ⟨p', c', hv, h1, h2, h3, h4⟩ := h
  simp only [Value.slice.injEq] at hv
  obtain ⟨rfl, hl, rfl⟩ := hv
  obtain ⟨g', off', hp, hc⟩ := h4 (by omega)
  simp only [Option.some.injEq, Addr.mk.injEq] at hp
  obtain ⟨rfl, rfl, _⟩ := hp
  have hz0 : (L.drop 1).getD i0 0 = L.getD (i0 + 1) 0 := by rw [List.getD_eq_getElem?_getD, List.getElem?_drop, Nat.add_comm 1 i0, ← List.getD_eq_getElem?_getD]
  have hlo : L.getD (i0 + 1) 0 < 128 := by
    have := low_at (l := L.drop 1) (by rw [hlow, List.length_drop]; omega)
    rwa [hlow, hz0] at this
  rw [hz0] at hz
  have hah : ∀ j, j < i0 → 128 ≤ L.getD (j + 1) 0 := fun j hj => by
    have := low_ahead (l := L.drop 1) (j := j) (by omega)
    rwa [List.getD_eq_getElem?_getD, List.getElem?_drop, Nat.add_comm 1 j, ← List.getD_eq_getElem?_getD] at this
  have Hc := Lib.hid hc
  have Hah := Lib.hid hah
  have Hl := Lib.hid hl
  clear hc hah h4 hl h1 h2 h3 hlow hx hL hz0
  go_enter Try.func12, Try.ntmps12
  go_wp2_with fail
  go_loopg [6, 7] i0 (fun g' nv iv wr => ∃ (j : Nat) (N : Int), g' = i0 + 1 - j ∧ 1 ≤ j ∧ j ≤ i0 + 1 ∧ nv = .int .u64 N ∧ iv = .int .i64 (j : Int) ∧ w = wr)
  case atStart => exact ⟨1, 0, by omega, Nat.le_refl _, by omega, rfl, rfl, rfl⟩
  case round =>
    obtain ⟨j, N, hg, hj1, hj2, rfl, rfl, rfl⟩ := hrel
    have Hg := Lib.hid hg
    clear hg
    by_cases hlt : j < i0 + 1
    · have hx := Hc.out j (by rw [← Hl.out]; omega)
      have h128 := Hah.out (j - 1) (by omega)
      rw [show j - 1 + 1 = j by omega] at h128
      have oy := hoc.getD j
      obtain ⟨y, hy⟩ : ∃ y, L.getD j 0 = y := ⟨_, rfl⟩
      rw [hy] at hx h128 oy
      have ny : ¬ y < 128 := by omega
      have hltI : ¬ ((len : Int) + 1) ≤ (j : Int) := by omega
      clear hy
      by_cases h9 : j ≤ 9
      · have j9 : (j : Int) ≤ 9 := by omega
        obtain ⟨s, hs⟩ : ∃ s : Nat, 7 * (j - 1) = s := ⟨_, rfl⟩
        have e1 : (7 : Int) * ((j : Int) - 1) = (s : Int) := by omega
        have s64 : s < 64 := by omega
        have ws : IntKind.u64.wrap (s : Int) = (s : Int) := by rw [IntKind.wrap_u64]; omega
        have Hs := Lib.hid hs
        clear hs
        go_wp2_with fail
        go_roundg (i0 + 1 - (j + 1))
        case measure => have := Hg.out; omega
        case rel => exact ⟨j + 1, _, rfl, by omega, by omega, rfl, by go_num, rfl⟩
      · have j9 : ¬ (j : Int) ≤ 9 := by omega
        go_wp2_with fail
        go_roundg (i0 + 1 - (j + 1))
        case measure => have := Hg.out; omega
        case rel => exact ⟨j + 1, _, rfl, by omega, by omega, rfl, by go_num, rfl⟩
    · obtain rfl : j = i0 + 1 := by omega
      have hx := Hc.out (i0 + 1) (by rw [← Hl.out]; omega)
      have oy := hoc.getD (i0 + 1)
      obtain ⟨y, hy⟩ : ∃ y, L.getD (i0 + 1) 0 = y := ⟨_, rfl⟩
      rw [hy] at hx oy hlo hz
      obtain ⟨j, hj⟩ : ∃ j, i0 + 1 = j := ⟨_, rfl⟩
      rw [hj] at hx ⊢
      have hltI : ¬ ((len : Int) + 1) ≤ (j : Int) := by omega
      have yb : (y == 0) = false := by simpa using hz
      have j10 : (10 : Int) < (j : Int) + 1 := by omega
      clear hy
      by_cases h9 : j ≤ 9
      · have j9 : (j : Int) ≤ 9 := by omega
        obtain ⟨s, hs⟩ : ∃ s : Nat, 7 * (j - 1) = s := ⟨_, rfl⟩
        have e1 : (7 : Int) * ((j : Int) - 1) = (s : Int) := by omega
        have s64 : s < 64 := by omega
        have ws : IntKind.u64.wrap (s : Int) = (s : Int) := by rw [IntKind.wrap_u64]; omega
        have Hs := Lib.hid hs
        clear hs
        go_wp2_with fail
        refine bodyPost_ret (v := .tuple #[.int .i64 0, .slice none 0 0, .int .i64 0, .int .i64 4]) ?_ rfl ⟨rfl, Below.refl _ _⟩
        simp [results, Try.results12]
      · have j9 : ¬ (j : Int) ≤ 9 := by omega
        go_wp2_with fail
        refine bodyPost_ret (v := .tuple #[.int .i64 0, .slice none 0 0, .int .i64 0, .int .i64 4]) ?_ rfl ⟨rfl, Below.refl _ _⟩
        simp [results, Try.results12]
end Go.Proofs.Ytkggglhnhlclmaa
