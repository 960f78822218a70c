/- The document's own Next where there is no record. -/
import Derived.Test.YtkggglhnhlclmaaOctO
import Derived.Test.YtkggglhnhlclmaaOctR
namespace Go.Proofs.Ytkggglhnhlclmaa
open Go.RowKit
set_option linter.unusedVariables false

set_option maxRecDepth 100000 in
set_option maxHeartbeats 400000 in
theorem refNext_nil (p : Option Addr) (c : Nat) (w : World) : Calls Try.prog 12 #[.slice p 0 c] w (RetNo 3 w) := by
  go_enter Try.func12, Try.ntmps12
  go_wp2_with fail
  refine bodyPost_ret (v := .tuple #[.int .i64 0, .slice none 0 0, .int .i64 0, .int .i64 3]) ?_ rfl ⟨rfl, Below.refl _ _⟩
  simp [results, Try.results12]
set_option maxRecDepth 100000 in
set_option maxHeartbeats 400000 in
theorem refNext_zero (g off len c : Nat) (L : List Int) (w : World) (h : Bs w (.slice (some ⟨g, off, none⟩) (len + 1) (c + 1)) L) (hk0 : L.getD 0 0 = 0) : Calls Try.prog 12 #[.slice (some ⟨g, off, none⟩) (len + 1) (c + 1)] w (RetNo 2 w) := by
  obtain ⟨hL, hc1, hmax⟩ := h.len
  have hcell := h.head
  rw [hk0] at hcell
  clear h hk0
  go_enter Try.func12, Try.ntmps12
  go_wp2_with fail
  refine bodyPost_ret (v := .tuple #[.int .i64 0, .slice none 0 0, .int .i64 0, .int .i64 2]) ?_ rfl ⟨rfl, Below.refl _ _⟩
  simp [results, Try.results12]
/-- A group of a count, moved up and put to those below it. -/
theorem or_place {n c : Int} {k : Nat} (hk : k ≤ 8) (hn : 0 ≤ n ∧ n < 128 ^ k) (hc : 0 ≤ c ∧ c < 128) : bits .or .u64 n (IntKind.u64.wrap (c * 2 ^ (7 * k))) = n + 128 ^ k * c := by
  obtain ⟨N, rfl⟩ := Int.eq_ofNat_of_zero_le hn.1
  obtain ⟨C, rfl⟩ := Int.eq_ofNat_of_zero_le hc.1
  have e0 : (128 : Nat) ^ k = 2 ^ (7 * k) := by rw [Nat.pow_mul]
  have hN : N < 2 ^ (7 * k) := by rw [← e0]; exact_mod_cast hn.2
  have b56 : (2 : Nat) ^ (7 * k) ≤ 2 ^ 56 := Nat.pow_le_pow_right (by decide) (by omega)
  have hb : C * 2 ^ (7 * k) ≤ 127 * 2 ^ 56 := Nat.mul_le_mul (by omega) b56
  have e1 : IntKind.u64.wrap ((C : Int) * 2 ^ (7 * k)) = ((2 ^ (7 * k) * C : Nat) : Int) := by
    have : ((C : Int) * 2 ^ (7 * k)) = ((C * 2 ^ (7 * k) : Nat) : Int) := by simp
    rw [this, IntKind.wrap_u64, Nat.mul_comm (2 ^ (7 * k)) C]
    generalize C * 2 ^ (7 * k) = Z at hb ⊢
    omega
  rw [e1]
  show IntKind.u64.wrap ((BitVec.ofInt 64 (N : Int) ||| BitVec.ofInt 64 ((2 ^ (7 * k) * C : Nat) : Int)).toNat : Int) = _
  have hb2 : 2 ^ (7 * k) * C ≤ 127 * 2 ^ 56 := by rw [Nat.mul_comm]; exact hb
  rw [BitVec.toNat_or, BitVec.ofInt_natCast, BitVec.ofInt_natCast, BitVec.toNat_ofNat, BitVec.toNat_ofNat, Nat.mod_eq_of_lt (by omega), Nat.mod_eq_of_lt (by omega), Nat.or_comm, ← Nat.two_pow_add_eq_or_of_lt hN, IntKind.wrap_u64]
  have e2 : ((128 : Int) ^ k * (C : Int)) = ((2 ^ (7 * k) * C : Nat) : Int) := by rw [← e0]; simp
  rw [e2]
  generalize 2 ^ (7 * k) * C = Z at hb2 ⊢
  omega
set_option maxRecDepth 100000 in
set_option maxHeartbeats 400000 in
/-- No end of a count. -/
theorem refNext_none (g off len c : Nat) (L : List Int) (w : World) (h : Bs w (.slice (some ⟨g, off, none⟩) (len + 1) (c + 1)) L) (hk0 : L.getD 0 0 ≠ 0) (hlow : low (L.drop 1) = len) :
    Calls Try.prog 12 #[.slice (some ⟨g, off, none⟩) (len + 1) (c + 1)] w (RetNo 3 w) := by
  obtain ⟨hL, hc1, hmax⟩ := h.len
  have hcell := h.head
  obtain ⟨x, hx⟩ : ∃ x, L.getD 0 0 = x := ⟨_, rfl⟩
  rw [hx] at hcell hk0
  have xb : (x == 0) = false := by simpa using hk0
  have hoc := h.octs
  obtain ⟨p', c', hv, h1, h2, h3, h4⟩ := h
  simp only [Value.slice.injEq] at hv
  obtain ⟨rfl, hl, rfl⟩ := hv
  obtain ⟨g', off', hp, hc⟩ := h4 (by omega)
  simp only [Option.some.injEq, Addr.mk.injEq] at hp
  obtain ⟨rfl, rfl, _⟩ := hp
  have hah : ∀ j, j < len → 128 ≤ L.getD (j + 1) 0 := fun j hj => by
    have := low_ahead (l := L.drop 1) (j := j) (by omega)
    rwa [List.getD_eq_getElem?_getD, List.getElem?_drop, Nat.add_comm 1 j, ← List.getD_eq_getElem?_getD] at this
  have Hc := Lib.hid hc
  have Hah := Lib.hid hah
  have Hl := Lib.hid hl
  clear hc hah h4 hl h1 h2 h3 hlow hx hL
  go_enter Try.func12, Try.ntmps12
  go_wp2_with fail
  go_loopg [6, 7] len (fun g' nv iv wr => ∃ (j : Nat) (N : Int), g' = len + 1 - j ∧ 1 ≤ j ∧ j ≤ len + 1 ∧ nv = .int .u64 N ∧ iv = .int .i64 (j : Int) ∧ w = wr)
  case atStart => exact ⟨1, 0, by omega, Nat.le_refl _, by omega, rfl, rfl, rfl⟩
  case round =>
    obtain ⟨j, N, hg, hj1, hj2, rfl, rfl, rfl⟩ := hrel
    have Hg := Lib.hid hg
    clear hg
    by_cases hlt : j < len + 1
    · have hx := Hc.out j (by rw [← Hl.out]; exact hlt)
      have h128 := Hah.out (j - 1) (by omega)
      rw [show j - 1 + 1 = j by omega] at h128
      have oy := hoc.getD j
      obtain ⟨y, hy⟩ : ∃ y, L.getD j 0 = y := ⟨_, rfl⟩
      rw [hy] at hx h128 oy
      have ny : ¬ y < 128 := by omega
      have hltI : ¬ ((len : Int) + 1) ≤ (j : Int) := by omega
      clear hy
      by_cases h9 : j ≤ 9
      · have j9 : (j : Int) ≤ 9 := by omega
        obtain ⟨s, hs⟩ : ∃ s : Nat, 7 * (j - 1) = s := ⟨_, rfl⟩
        have e1 : (7 : Int) * ((j : Int) - 1) = (s : Int) := by omega
        have s64 : s < 64 := by omega
        have ws : IntKind.u64.wrap (s : Int) = (s : Int) := by rw [IntKind.wrap_u64]; omega
        have Hs := Lib.hid hs
        clear hs
        go_wp2_with fail
        go_roundg (len + 1 - (j + 1))
        case measure => have := Hg.out; omega
        case rel => exact ⟨j + 1, _, rfl, by omega, by omega, rfl, by go_num, rfl⟩
      · have j9 : ¬ (j : Int) ≤ 9 := by omega
        go_wp2_with fail
        go_roundg (len + 1 - (j + 1))
        case measure => have := Hg.out; omega
        case rel => exact ⟨j + 1, _, rfl, by omega, by omega, rfl, by go_num, rfl⟩
    · have hltI : ((len : Int) + 1) ≤ (j : Int) := by omega
      go_wp2_with fail
      refine bodyPost_ret (v := .tuple #[.int .i64 0, .slice none 0 0, .int .i64 0, .int .i64 3]) ?_ rfl ⟨rfl, Below.refl _ _⟩
      simp [results, Try.results12]
end Go.Proofs.Ytkggglhnhlclmaa
