/- The document's own Next where a count is fine. (gen_refnext.py) -/
import Derived.Test.YtkggglhnhlclmaaOctQ
namespace Go.Proofs.Ytkggglhnhlclmaa
open Go.RowKit
set_option linter.unusedVariables false

theorem and_127 {x : Int} (h : 0 ≤ x ∧ x < 256) : bits .and .u8 x 127 = x % 128 := by
  obtain ⟨N, rfl⟩ := Int.eq_ofNat_of_zero_le h.1
  have e : ∀ x : Fin 256, bits .and .u8 (x.1 : Int) 127 = ((x.1 % 128 : Nat) : Int) := by decide +kernel
  have e1 := e ⟨N, by omega⟩
  have e2 : bits .and .u8 (N : Int) 127 = ((N % 128 : Nat) : Int) := e1
  rw [e2]
  omega
set_option maxRecDepth 100000 in
set_option maxHeartbeats 400000 in
/-- A body longer than may be. -/
theorem refNext_big (g off len c : Nat) (L : List Int) (w : World) (h : Bs w (.slice (some ⟨g, off, none⟩) (len + 1) (c + 1)) L) (hk0 : L.getD 0 0 ≠ 0) (i0 : Nat) (hlow : low (L.drop 1) = i0) (hil : i0 < len) (i9 : i0 < 9) (hz : i0 = 0 ∨ (L.drop 1).getD i0 0 ≠ 0) (n : Nat) (hn : grp ((L.drop 1).take (i0 + 1)) = n) (n4 : 4194304 < n) :
    Calls Try.prog 12 #[.slice (some ⟨g, off, none⟩) (len + 1) (c + 1)] w (RetNo 4 w) := by
  obtain ⟨hL, hc1, hmax⟩ := h.len
  have hcell := h.head
  obtain ⟨x, hx⟩ : ∃ x, L.getD 0 0 = x := ⟨_, rfl⟩
  rw [hx] at hcell hk0
  have xb : (x == 0) = false := by simpa using hk0
  have hoc := h.octs
  obtain ⟨p', c', hv, h1, h2, h3, h4⟩ := h
  simp only [Value.slice.injEq] at hv
  obtain ⟨rfl, hl, rfl⟩ := hv
  obtain ⟨g', off', hp, hc⟩ := h4 (by omega)
  simp only [Option.some.injEq, Addr.mk.injEq] at hp
  obtain ⟨rfl, rfl, _⟩ := hp
  have hgd : ∀ j, (L.drop 1).getD j 0 = L.getD (j + 1) 0 := fun j => by rw [List.getD_eq_getElem?_getD, List.getElem?_drop, Nat.add_comm 1 j, ← List.getD_eq_getElem?_getD]
  have hlo : L.getD (i0 + 1) 0 < 128 := by
    have := low_at (l := L.drop 1) (by rw [hlow, List.length_drop]; omega)
    rwa [hlow, hgd] at this
  rw [hgd] at hz
  have hst : ∀ k, k ≤ i0 → grp ((L.drop 1).take (k + 1)) = grp ((L.drop 1).take k) + 128 ^ k * (L.getD (k + 1) 0 % 128) := fun k hk => by
    have tl : ((L.drop 1).take k).length = k := by rw [List.length_take, List.length_drop]; omega
    rw [take_snoc (L.drop 1) k 0 (by rw [List.length_drop]; omega), grp_snoc, tl, hgd]
  have hbd : ∀ k, k ≤ i0 → 0 ≤ grp ((L.drop 1).take k) ∧ grp ((L.drop 1).take k) < 128 ^ k := fun k hk => by
    have tl : ((L.drop 1).take k).length = k := by rw [List.length_take, List.length_drop]; omega
    have := grp_bd ((L.drop 1).take k)
    rwa [tl] at this
  obtain ⟨G, hG⟩ : ∃ G : Nat → Int, ∀ k, grp ((L.drop 1).take k) = G k := ⟨_, fun _ => rfl⟩
  have g0 : G 0 = 0 := by rw [← hG]; rfl
  simp only [hG] at hst hbd hn
  have Hst := Lib.hid hst
  have Hbd := Lib.hid hbd
  have Hn := Lib.hid hn
  clear hst hbd hn hG
  have hah : ∀ j, j < i0 → 128 ≤ L.getD (j + 1) 0 := fun j hj => by
    have := low_ahead (l := L.drop 1) (j := j) (by omega)
    rwa [List.getD_eq_getElem?_getD, List.getElem?_drop, Nat.add_comm 1 j, ← List.getD_eq_getElem?_getD] at this
  have Hc := Lib.hid hc
  have Hah := Lib.hid hah
  have Hl := Lib.hid hl
  clear hc hah h4 hl h1 h2 h3 hlow hx hL hgd
  go_enter Try.func12, Try.ntmps12
  go_wp2_with fail
  go_loopg [6, 7] i0 (fun g' nv iv wr => ∃ (j : Nat) (N : Int), g' = i0 + 1 - j ∧ 1 ≤ j ∧ j ≤ i0 + 1 ∧ nv = .int .u64 N ∧ Hid (N = G (j - 1)) ∧ iv = .int .i64 (j : Int) ∧ w = wr)
  case atStart => exact ⟨1, 0, by omega, Nat.le_refl _, by omega, rfl, Lib.hid g0.symm, rfl, rfl⟩
  case round =>
    obtain ⟨j, N, hg, hj1, hj2, rfl, HN, rfl, rfl⟩ := hrel
    have Hg := Lib.hid hg
    clear hg
    by_cases hlt : j < i0 + 1
    · have h128 := Hah.out (j - 1) (by omega)
      rw [show j - 1 + 1 = j by omega] at h128
      have st := Hst.out (j - 1) (by omega)
      have bd := Hbd.out (j - 1) (by omega)
      rw [show j - 1 + 1 = j by omega] at st
      rw [← HN.out] at st bd
      have hx := Hc.out j (by rw [← Hl.out]; omega)
      have oy := hoc.getD j
      obtain ⟨y, hy⟩ : ∃ y, L.getD j 0 = y := ⟨_, rfl⟩
      rw [hy] at hx oy st
      have han := and_127 oy
      obtain ⟨z, hz2⟩ : ∃ z, y % 128 = z := ⟨_, rfl⟩
      have hz3 : 0 ≤ z ∧ z < 128 := by omega
      rw [hz2] at han st
      have wz : IntKind.u64.wrap z = z := by rw [IntKind.wrap_u64]; omega
      have hor := or_place (k := j - 1) (by omega) bd hz3
      rw [← st] at hor
      obtain ⟨s, hs⟩ : ∃ s : Nat, 7 * (j - 1) = s := ⟨_, rfl⟩
      rw [hs] at hor
      have e1 : (7 : Int) * ((j : Int) - 1) = (s : Int) := by omega
      have s64 : s < 64 := by omega
      have ws : IntKind.u64.wrap (s : Int) = (s : Int) := by rw [IntKind.wrap_u64]; omega
      obtain ⟨M, hM⟩ : ∃ M, G j = M := ⟨_, rfl⟩
      rw [hM] at hor st
      have j9 : (j : Int) ≤ 9 := by omega
      have hltI : ¬ ((len : Int) + 1) ≤ (j : Int) := by omega
      rw [hy] at h128
      have ny : ¬ y < 128 := by omega
      have HM := Lib.hid hM
      clear hy hs hz2 hM st bd
      go_wp2_with fail
      go_roundg (i0 + 1 - (j + 1))
      case measure => have := Hg.out; omega
      case rel => exact ⟨j + 1, M, rfl, by omega, by omega, rfl, Lib.hid (by rw [show j + 1 - 1 = j by omega]; exact HM.out.symm), by go_num, rfl⟩
    · obtain rfl : j = i0 + 1 := by omega
      obtain ⟨j, hj⟩ : ∃ j, i0 + 1 = j := ⟨_, rfl⟩
      rw [hj] at hlo hz HN hj1 hj2 ⊢
      have en : G j = (n : Int) := by rw [← hj]; exact Hn.out
      have st := Hst.out (j - 1) (by omega)
      have bd := Hbd.out (j - 1) (by omega)
      rw [show j - 1 + 1 = j by omega] at st
      rw [← HN.out] at st bd
      have hx := Hc.out j (by rw [← Hl.out]; omega)
      have oy := hoc.getD j
      obtain ⟨y, hy⟩ : ∃ y, L.getD j 0 = y := ⟨_, rfl⟩
      rw [hy] at hx oy st
      have han := and_127 oy
      obtain ⟨z, hz2⟩ : ∃ z, y % 128 = z := ⟨_, rfl⟩
      have hz3 : 0 ≤ z ∧ z < 128 := by omega
      rw [hz2] at han st
      have wz : IntKind.u64.wrap z = z := by rw [IntKind.wrap_u64]; omega
      have hor := or_place (k := j - 1) (by omega) bd hz3
      rw [← st] at hor
      obtain ⟨s, hs⟩ : ∃ s : Nat, 7 * (j - 1) = s := ⟨_, rfl⟩
      rw [hs] at hor
      have e1 : (7 : Int) * ((j : Int) - 1) = (s : Int) := by omega
      have s64 : s < 64 := by omega
      have ws : IntKind.u64.wrap (s : Int) = (s : Int) := by rw [IntKind.wrap_u64]; omega
      obtain ⟨M, hM⟩ : ∃ M, G j = M := ⟨_, rfl⟩
      rw [hM] at hor st
      have j9 : (j : Int) ≤ 9 := by omega
      have hltI : ¬ ((len : Int) + 1) ≤ (j : Int) := by omega
      rw [hy] at hlo hz
      rw [en] at hM
      subst hM
      have n4' : (4194304 : Int) < (n : Int) := by omega
      have j10 : ¬ (10 : Int) < (j : Int) + 1 := by omega
      clear hy hs hz2 st bd en
      rcases (show j = 1 ∨ (1 < j ∧ y ≠ 0) by omega) with h1 | ⟨h1, hy0⟩
      · have j2 : ¬ (2 : Int) < (j : Int) + 1 := by omega
        clear h1
        rcases (show y = 0 ∨ y ≠ 0 by omega) with hy0 | hy0
        · have yb : (y == 0) = true := by simpa using hy0
          clear hy0
          go_wp2_with fail
          refine bodyPost_ret (v := .tuple #[.int .i64 0, .slice none 0 0, .int .i64 0, .int .i64 4]) ?_ rfl ⟨rfl, Below.refl _ _⟩
          simp [results, Try.results12]
        · have yb : (y == 0) = false := by simpa using hy0
          clear hy0
          go_wp2_with fail
          refine bodyPost_ret (v := .tuple #[.int .i64 0, .slice none 0 0, .int .i64 0, .int .i64 4]) ?_ rfl ⟨rfl, Below.refl _ _⟩
          simp [results, Try.results12]
      · have yb : (y == 0) = false := by simpa using hy0
        have j2 : (2 : Int) < (j : Int) + 1 := by omega
        go_wp2_with fail
        refine bodyPost_ret (v := .tuple #[.int .i64 0, .slice none 0 0, .int .i64 0, .int .i64 4]) ?_ rfl ⟨rfl, Below.refl _ _⟩
        simp [results, Try.results12]
set_option maxRecDepth 100000 in
set_option maxHeartbeats 400000 in
/-- Fewer bytes than the body and its sum. -/
theorem refNext_short (g off len c : Nat) (L : List Int) (w : World) (h : Bs w (.slice (some ⟨g, off, none⟩) (len + 1) (c + 1)) L) (hk0 : L.getD 0 0 ≠ 0) (i0 : Nat) (hlow : low (L.drop 1) = i0) (hil : i0 < len) (i9 : i0 < 9) (hz : i0 = 0 ∨ (L.drop 1).getD i0 0 ≠ 0) (n : Nat) (hn : grp ((L.drop 1).take (i0 + 1)) = n) (n4 : n ≤ 4194304) (hlen : len < i0 + 1 + n + 8) :
    Calls Try.prog 12 #[.slice (some ⟨g, off, none⟩) (len + 1) (c + 1)] w (RetNo 3 w) := by
  obtain ⟨hL, hc1, hmax⟩ := h.len
  have hcell := h.head
  obtain ⟨x, hx⟩ : ∃ x, L.getD 0 0 = x := ⟨_, rfl⟩
  rw [hx] at hcell hk0
  have xb : (x == 0) = false := by simpa using hk0
  have hoc := h.octs
  obtain ⟨p', c', hv, h1, h2, h3, h4⟩ := h
  simp only [Value.slice.injEq] at hv
  obtain ⟨rfl, hl, rfl⟩ := hv
  obtain ⟨g', off', hp, hc⟩ := h4 (by omega)
  simp only [Option.some.injEq, Addr.mk.injEq] at hp
  obtain ⟨rfl, rfl, _⟩ := hp
  have hgd : ∀ j, (L.drop 1).getD j 0 = L.getD (j + 1) 0 := fun j => by rw [List.getD_eq_getElem?_getD, List.getElem?_drop, Nat.add_comm 1 j, ← List.getD_eq_getElem?_getD]
  have hlo : L.getD (i0 + 1) 0 < 128 := by
    have := low_at (l := L.drop 1) (by rw [hlow, List.length_drop]; omega)
    rwa [hlow, hgd] at this
  rw [hgd] at hz
  have hst : ∀ k, k ≤ i0 → grp ((L.drop 1).take (k + 1)) = grp ((L.drop 1).take k) + 128 ^ k * (L.getD (k + 1) 0 % 128) := fun k hk => by
    have tl : ((L.drop 1).take k).length = k := by rw [List.length_take, List.length_drop]; omega
    rw [take_snoc (L.drop 1) k 0 (by rw [List.length_drop]; omega), grp_snoc, tl, hgd]
  have hbd : ∀ k, k ≤ i0 → 0 ≤ grp ((L.drop 1).take k) ∧ grp ((L.drop 1).take k) < 128 ^ k := fun k hk => by
    have tl : ((L.drop 1).take k).length = k := by rw [List.length_take, List.length_drop]; omega
    have := grp_bd ((L.drop 1).take k)
    rwa [tl] at this
  obtain ⟨G, hG⟩ : ∃ G : Nat → Int, ∀ k, grp ((L.drop 1).take k) = G k := ⟨_, fun _ => rfl⟩
  have g0 : G 0 = 0 := by rw [← hG]; rfl
  simp only [hG] at hst hbd hn
  have Hst := Lib.hid hst
  have Hbd := Lib.hid hbd
  have Hn := Lib.hid hn
  clear hst hbd hn hG
  have hah : ∀ j, j < i0 → 128 ≤ L.getD (j + 1) 0 := fun j hj => by
    have := low_ahead (l := L.drop 1) (j := j) (by omega)
    rwa [List.getD_eq_getElem?_getD, List.getElem?_drop, Nat.add_comm 1 j, ← List.getD_eq_getElem?_getD] at this
  have Hc := Lib.hid hc
  have Hah := Lib.hid hah
  have Hl := Lib.hid hl
  clear hc hah h4 hl h1 h2 h3 hlow hx hL hgd
  go_enter Try.func12, Try.ntmps12
  go_wp2_with fail
  go_loopg [6, 7] i0 (fun g' nv iv wr => ∃ (j : Nat) (N : Int), g' = i0 + 1 - j ∧ 1 ≤ j ∧ j ≤ i0 + 1 ∧ nv = .int .u64 N ∧ Hid (N = G (j - 1)) ∧ iv = .int .i64 (j : Int) ∧ w = wr)
  case atStart => exact ⟨1, 0, by omega, Nat.le_refl _, by omega, rfl, Lib.hid g0.symm, rfl, rfl⟩
  case round =>
    obtain ⟨j, N, hg, hj1, hj2, rfl, HN, rfl, rfl⟩ := hrel
    have Hg := Lib.hid hg
    clear hg
    by_cases hlt : j < i0 + 1
    · have h128 := Hah.out (j - 1) (by omega)
      rw [show j - 1 + 1 = j by omega] at h128
      have st := Hst.out (j - 1) (by omega)
      have bd := Hbd.out (j - 1) (by omega)
      rw [show j - 1 + 1 = j by omega] at st
      rw [← HN.out] at st bd
      have hx := Hc.out j (by rw [← Hl.out]; omega)
      have oy := hoc.getD j
      obtain ⟨y, hy⟩ : ∃ y, L.getD j 0 = y := ⟨_, rfl⟩
      rw [hy] at hx oy st
      have han := and_127 oy
      obtain ⟨z, hz2⟩ : ∃ z, y % 128 = z := ⟨_, rfl⟩
      have hz3 : 0 ≤ z ∧ z < 128 := by omega
      rw [hz2] at han st
      have wz : IntKind.u64.wrap z = z := by rw [IntKind.wrap_u64]; omega
      have hor := or_place (k := j - 1) (by omega) bd hz3
      rw [← st] at hor
      obtain ⟨s, hs⟩ : ∃ s : Nat, 7 * (j - 1) = s := ⟨_, rfl⟩
      rw [hs] at hor
      have e1 : (7 : Int) * ((j : Int) - 1) = (s : Int) := by omega
      have s64 : s < 64 := by omega
      have ws : IntKind.u64.wrap (s : Int) = (s : Int) := by rw [IntKind.wrap_u64]; omega
      obtain ⟨M, hM⟩ : ∃ M, G j = M := ⟨_, rfl⟩
      rw [hM] at hor st
      have j9 : (j : Int) ≤ 9 := by omega
      have hltI : ¬ ((len : Int) + 1) ≤ (j : Int) := by omega
      rw [hy] at h128
      have ny : ¬ y < 128 := by omega
      have HM := Lib.hid hM
      clear hy hs hz2 hM st bd
      go_wp2_with fail
      go_roundg (i0 + 1 - (j + 1))
      case measure => have := Hg.out; omega
      case rel => exact ⟨j + 1, M, rfl, by omega, by omega, rfl, Lib.hid (by rw [show j + 1 - 1 = j by omega]; exact HM.out.symm), by go_num, rfl⟩
    · obtain rfl : j = i0 + 1 := by omega
      obtain ⟨j, hj⟩ : ∃ j, i0 + 1 = j := ⟨_, rfl⟩
      rw [hj] at hlo hz HN hj1 hj2 ⊢
      have en : G j = (n : Int) := by rw [← hj]; exact Hn.out
      have st := Hst.out (j - 1) (by omega)
      have bd := Hbd.out (j - 1) (by omega)
      rw [show j - 1 + 1 = j by omega] at st
      rw [← HN.out] at st bd
      have hx := Hc.out j (by rw [← Hl.out]; omega)
      have oy := hoc.getD j
      obtain ⟨y, hy⟩ : ∃ y, L.getD j 0 = y := ⟨_, rfl⟩
      rw [hy] at hx oy st
      have han := and_127 oy
      obtain ⟨z, hz2⟩ : ∃ z, y % 128 = z := ⟨_, rfl⟩
      have hz3 : 0 ≤ z ∧ z < 128 := by omega
      rw [hz2] at han st
      have wz : IntKind.u64.wrap z = z := by rw [IntKind.wrap_u64]; omega
      have hor := or_place (k := j - 1) (by omega) bd hz3
      rw [← st] at hor
      obtain ⟨s, hs⟩ : ∃ s : Nat, 7 * (j - 1) = s := ⟨_, rfl⟩
      rw [hs] at hor
      have e1 : (7 : Int) * ((j : Int) - 1) = (s : Int) := by omega
      have s64 : s < 64 := by omega
      have ws : IntKind.u64.wrap (s : Int) = (s : Int) := by rw [IntKind.wrap_u64]; omega
      obtain ⟨M, hM⟩ : ∃ M, G j = M := ⟨_, rfl⟩
      rw [hM] at hor st
      have j9 : (j : Int) ≤ 9 := by omega
      have hltI : ¬ ((len : Int) + 1) ≤ (j : Int) := by omega
      rw [hy] at hlo hz
      rw [en] at hM
      subst hM
      have n4' : ¬ (4194304 : Int) < (n : Int) := by omega
      have j10 : ¬ (10 : Int) < (j : Int) + 1 := by omega
      have wn : IntKind.i64.wrap (n : Int) = (n : Int) := by rw [IntKind.wrap_i64]; omega
      have sh : (len : Int) + 1 < (j : Int) + 1 + (n : Int) + 8 := by omega
      clear hy hs hz2 st bd en
      rcases (show j = 1 ∨ (1 < j ∧ y ≠ 0) by omega) with h1 | ⟨h1, hy0⟩
      · have j2 : ¬ (2 : Int) < (j : Int) + 1 := by omega
        clear h1
        rcases (show y = 0 ∨ y ≠ 0 by omega) with hy0 | hy0
        · have yb : (y == 0) = true := by simpa using hy0
          clear hy0
          go_wp2_with fail
          refine bodyPost_ret (v := .tuple #[.int .i64 0, .slice none 0 0, .int .i64 0, .int .i64 3]) ?_ rfl ⟨rfl, Below.refl _ _⟩
          simp [results, Try.results12]
        · have yb : (y == 0) = false := by simpa using hy0
          clear hy0
          go_wp2_with fail
          refine bodyPost_ret (v := .tuple #[.int .i64 0, .slice none 0 0, .int .i64 0, .int .i64 3]) ?_ rfl ⟨rfl, Below.refl _ _⟩
          simp [results, Try.results12]
      · have yb : (y == 0) = false := by simpa using hy0
        have j2 : (2 : Int) < (j : Int) + 1 := by omega
        go_wp2_with fail
        refine bodyPost_ret (v := .tuple #[.int .i64 0, .slice none 0 0, .int .i64 0, .int .i64 3]) ?_ rfl ⟨rfl, Below.refl _ _⟩
        simp [results, Try.results12]
end Go.Proofs.Ytkggglhnhlclmaa
