/- The document's own Next of a record whose sum is another one. (gen_refnext.py) -/
import Derived.Test.YtkggglhnhlclmaaOctS
namespace Go.Proofs.Ytkggglhnhlclmaa
open Go.RowKit
set_option linter.unusedVariables false

set_option maxRecDepth 100000 in
set_option maxHeartbeats 1600000 in
/-- Another sum. -/
theorem refNext_sum (g off len c : Nat) (L : List Int) (w : World) (h : Bs w (.slice (some ⟨g, off, none⟩) (len + 1) (c + 1)) L) (hk0 : L.getD 0 0 ≠ 0) (i0 : Nat) (hlow : low (L.drop 1) = i0) (hil : i0 < len) (i9 : i0 < 9) (hz : i0 = 0 ∨ (L.drop 1).getD i0 0 ≠ 0) (n : Nat) (hn : grp ((L.drop 1).take (i0 + 1)) = n) (n4 : n ≤ 4194304) (hlen : i0 + 1 + n + 8 ≤ len) (hne : deb ((L.drop (i0 + 1 + n + 1)).take 8) ≠ fnv f0 (L.take (i0 + 1 + n + 1))) :
    Calls Try.prog 12 #[.slice (some ⟨g, off, none⟩) (len + 1) (c + 1)] w (RetNo 13 w) := by
  obtain ⟨hL, hc1, hmax⟩ := h.len
  have hcell := h.head
  obtain ⟨x, hx⟩ : ∃ x, L.getD 0 0 = x := ⟨_, rfl⟩
  rw [hx] at hcell hk0
  have xb : (x == 0) = false := by simpa using hk0
  have hoc := h.octs
  have hbs0 := h
  obtain ⟨p', c', hv, h1, h2, h3, h4⟩ := h
  simp only [Value.slice.injEq] at hv
  obtain ⟨rfl, hl, rfl⟩ := hv
  obtain ⟨g', off', hp, hc⟩ := h4 (by omega)
  simp only [Option.some.injEq, Addr.mk.injEq] at hp
  obtain ⟨rfl, rfl, _⟩ := hp
  have hgd : ∀ j, (L.drop 1).getD j 0 = L.getD (j + 1) 0 := fun j => by rw [List.getD_eq_getElem?_getD, List.getElem?_drop, Nat.add_comm 1 j, ← List.getD_eq_getElem?_getD]
  have hlo : L.getD (i0 + 1) 0 < 128 := by
    have := low_at (l := L.drop 1) (by rw [hlow, List.length_drop]; omega)
    rwa [hlow, hgd] at this
  rw [hgd] at hz
  have hst : ∀ k, k ≤ i0 → grp ((L.drop 1).take (k + 1)) = grp ((L.drop 1).take k) + 128 ^ k * (L.getD (k + 1) 0 % 128) := fun k hk => by
    have tl : ((L.drop 1).take k).length = k := by rw [List.length_take, List.length_drop]; omega
    rw [take_snoc (L.drop 1) k 0 (by rw [List.length_drop]; omega), grp_snoc, tl, hgd]
  have hbd : ∀ k, k ≤ i0 → 0 ≤ grp ((L.drop 1).take k) ∧ grp ((L.drop 1).take k) < 128 ^ k := fun k hk => by
    have tl : ((L.drop 1).take k).length = k := by rw [List.length_take, List.length_drop]; omega
    have := grp_bd ((L.drop 1).take k)
    rwa [tl] at this
  obtain ⟨G, hG⟩ : ∃ G : Nat → Int, ∀ k, grp ((L.drop 1).take k) = G k := ⟨_, fun _ => rfl⟩
  have g0 : G 0 = 0 := by rw [← hG]; rfl
  simp only [hG] at hst hbd hn
  have Hst := Lib.hid hst
  have Hbd := Lib.hid hbd
  have Hn := Lib.hid hn
  clear hst hbd hn hG
  have hah : ∀ j, j < i0 → 128 ≤ L.getD (j + 1) 0 := fun j hj => by
    have := low_ahead (l := L.drop 1) (j := j) (by omega)
    rwa [List.getD_eq_getElem?_getD, List.getElem?_drop, Nat.add_comm 1 j, ← List.getD_eq_getElem?_getD] at this
  have Hc := Lib.hid hc
  have Hah := Lib.hid hah
  have Hl := Lib.hid hl
  clear hc hah h4 hl h1 h2 h3 hlow hx hL hgd
  go_enter Try.func12, Try.ntmps12
  go_wp2_with fail
  go_loopg [6, 7] i0 (fun g' nv iv wr => ∃ (j : Nat) (N : Int), g' = i0 + 1 - j ∧ 1 ≤ j ∧ j ≤ i0 + 1 ∧ nv = .int .u64 N ∧ Hid (N = G (j - 1)) ∧ iv = .int .i64 (j : Int) ∧ w = wr)
  case atStart => exact ⟨1, 0, by omega, Nat.le_refl _, by omega, rfl, Lib.hid g0.symm, rfl, rfl⟩
  case round =>
    obtain ⟨j, N, hg, hj1, hj2, rfl, HN, rfl, rfl⟩ := hrel
    have Hg := Lib.hid hg
    clear hg
    by_cases hlt : j < i0 + 1
    · have h128 := Hah.out (j - 1) (by omega)
      rw [show j - 1 + 1 = j by omega] at h128
      have st := Hst.out (j - 1) (by omega)
      have bd := Hbd.out (j - 1) (by omega)
      rw [show j - 1 + 1 = j by omega] at st
      rw [← HN.out] at st bd
      have hx := Hc.out j (by rw [← Hl.out]; omega)
      have oy := hoc.getD j
      obtain ⟨y, hy⟩ : ∃ y, L.getD j 0 = y := ⟨_, rfl⟩
      rw [hy] at hx oy st
      have han := and_127 oy
      obtain ⟨z, hz2⟩ : ∃ z, y % 128 = z := ⟨_, rfl⟩
      have hz3 : 0 ≤ z ∧ z < 128 := by omega
      rw [hz2] at han st
      have wz : IntKind.u64.wrap z = z := by rw [IntKind.wrap_u64]; omega
      have hor := or_place (k := j - 1) (by omega) bd hz3
      rw [← st] at hor
      obtain ⟨s, hs⟩ : ∃ s : Nat, 7 * (j - 1) = s := ⟨_, rfl⟩
      rw [hs] at hor
      have e1 : (7 : Int) * ((j : Int) - 1) = (s : Int) := by omega
      have s64 : s < 64 := by omega
      have ws : IntKind.u64.wrap (s : Int) = (s : Int) := by rw [IntKind.wrap_u64]; omega
      obtain ⟨M, hM⟩ : ∃ M, G j = M := ⟨_, rfl⟩
      rw [hM] at hor st
      have j9 : (j : Int) ≤ 9 := by omega
      have hltI : ¬ ((len : Int) + 1) ≤ (j : Int) := by omega
      rw [hy] at h128
      have ny : ¬ y < 128 := by omega
      have HM := Lib.hid hM
      clear hy hs hz2 hM st bd
      go_wp2_with fail
      go_roundg (i0 + 1 - (j + 1))
      case measure => have := Hg.out; omega
      case rel => exact ⟨j + 1, M, rfl, by omega, by omega, rfl, Lib.hid (by rw [show j + 1 - 1 = j by omega]; exact HM.out.symm), by go_num, rfl⟩
    · obtain rfl : j = i0 + 1 := by omega
      obtain ⟨j, hj⟩ : ∃ j, i0 + 1 = j := ⟨_, rfl⟩
      rw [hj] at hlo hz HN hj1 hj2 ⊢
      have en : G j = (n : Int) := by rw [← hj]; exact Hn.out
      have st := Hst.out (j - 1) (by omega)
      have bd := Hbd.out (j - 1) (by omega)
      rw [show j - 1 + 1 = j by omega] at st
      rw [← HN.out] at st bd
      have hx := Hc.out j (by rw [← Hl.out]; omega)
      have oy := hoc.getD j
      obtain ⟨y, hy⟩ : ∃ y, L.getD j 0 = y := ⟨_, rfl⟩
      rw [hy] at hx oy st
      have han := and_127 oy
      obtain ⟨z, hz2⟩ : ∃ z, y % 128 = z := ⟨_, rfl⟩
      have hz3 : 0 ≤ z ∧ z < 128 := by omega
      rw [hz2] at han st
      have wz : IntKind.u64.wrap z = z := by rw [IntKind.wrap_u64]; omega
      have hor := or_place (k := j - 1) (by omega) bd hz3
      rw [← st] at hor
      obtain ⟨s, hs⟩ : ∃ s : Nat, 7 * (j - 1) = s := ⟨_, rfl⟩
      rw [hs] at hor
      have e1 : (7 : Int) * ((j : Int) - 1) = (s : Int) := by omega
      have s64 : s < 64 := by omega
      have ws : IntKind.u64.wrap (s : Int) = (s : Int) := by rw [IntKind.wrap_u64]; omega
      obtain ⟨M, hM⟩ : ∃ M, G j = M := ⟨_, rfl⟩
      rw [hM] at hor st
      have j9 : (j : Int) ≤ 9 := by omega
      have hltI : ¬ ((len : Int) + 1) ≤ (j : Int) := by omega
      rw [hy] at hlo hz
      rw [en] at hM
      subst hM
      have n4' : ¬ (4194304 : Int) < (n : Int) := by omega
      have j10 : ¬ (10 : Int) < (j : Int) + 1 := by omega
      have wn : IntKind.i64.wrap (n : Int) = (n : Int) := by rw [IntKind.wrap_i64]; omega
      obtain ⟨q, hq⟩ : ∃ q : Nat, j + 1 + n = q := ⟨_, rfl⟩
      have sh : (j : Int) + 1 + (n : Int) + 8 = (q : Int) + 8 := by omega
      have sh2 : ¬ (len : Int) + 1 < (q : Int) + 8 := by omega
      have hql : q + 8 ≤ len + 1 := by omega
      have qc : q ≤ c + 1 := by omega
      have qcI : (q : Int) ≤ (c : Int) + 1 := by omega
      have hsl := hbs0.front (n := q) (by omega)
      have sm := fun W (g' : Bs W (.slice (some ⟨g, off, none⟩) q (c + 1)) (L.take q)) => refSum_bs _ _ W g'
      rw [show i0 + 1 + n + 1 = q by omega] at hne
      obtain ⟨A, hA⟩ : ∃ A, deb ((L.drop q).take 8) = A := ⟨_, rfl⟩
      obtain ⟨B, hB⟩ : ∃ B, fnv f0 (L.take q) = B := ⟨_, rfl⟩
      rw [hA, hB] at hne
      rw [hB] at sm
      have ab : (A != B) = true := by simpa using hne
      have HD := Lib.hid hA
      clear hA hB hne hbs0
      clear hy hs hz2 st bd en
      rcases (show j = 1 ∨ (1 < j ∧ y ≠ 0) by omega) with h1 | ⟨h1, hy0⟩
      · have j2 : ¬ (2 : Int) < (j : Int) + 1 := by omega
        clear h1
        rcases (show y = 0 ∨ y ≠ 0 by omega) with hy0 | hy0
        · have yb : (y == 0) = true := by simpa using hy0
          clear hy0
          go_wp2_with fail
          go_loopg [10, 11] 8 (fun g' hv kv wr => ∃ (t kk : Nat), g' = 8 - t ∧ t ≤ 8 ∧ kk = q + t ∧ hv = .int .u64 (deb ((L.drop q).take t)) ∧ kv = .int .i64 (kk : Int) ∧ w = wr)
          case atStart => exact ⟨0, q, rfl, Nat.zero_le _, rfl, rfl, rfl, rfl⟩
          case round =>
            obtain ⟨t, kk, hg2, ht, hkk, rfl, rfl, rfl⟩ := hrel
            have Hg2 := Lib.hid hg2
            clear hg2
            by_cases ht8 : t < 8
            · have hx2 := Hc.out kk (by rw [← Hl.out]; omega)
              have ox := hoc.getD kk
              obtain ⟨b1, b2⟩ := deb_bd (l := L.drop q) (k := t) (hoc.drop q) (by rw [List.length_drop, ← Hl.out]; omega)
              have e : deb ((L.drop q).take (t + 1)) = deb ((L.drop q).take t) * 256 + L.getD kk 0 := by
                unfold deb
                rw [take_snoc (L.drop q) t 0 (by rw [List.length_drop, ← Hl.out]; omega), List.foldl_append, show (L.drop q).getD t 0 = L.getD kk 0 by rw [List.getD_eq_getElem?_getD, List.getElem?_drop, ← hkk, ← List.getD_eq_getElem?_getD]]
                rfl
              have b3 : (256 : Int) ^ t ≤ 2 ^ 56 := by
                have : (256 : Int) ^ t = 2 ^ (8 * t) := by rw [Int.pow_mul]; rfl
                rw [this]
                have h3 := Nat.pow_le_pow_right (n := 2) (by decide) (show 8 * t ≤ 56 by omega)
                exact_mod_cast h3
              obtain ⟨x2, hxx⟩ : ∃ x2, L.getD kk 0 = x2 := ⟨_, rfl⟩
              obtain ⟨s2, hss⟩ : ∃ s2, deb ((L.drop q).take t) = s2 := ⟨_, rfl⟩
              rw [hss] at b1 b2 e ⊢
              rw [hxx] at hx2 ox e
              have w64 := octet_u64 ox
              have hor2 := or_up ⟨b1, by omega⟩ ox
              have He := Lib.hid e
              have Hor := Lib.hid hor2
              have kq : (kk : Int) < (q : Int) + 8 := by omega
              have kl : (kk : Int) < (len : Int) + 1 := by omega
              have Hkk := Lib.hid hkk
              clear e hss hxx b1 b2 b3 hor2 hkk
              go_wp2_with fail
              go_roundg (8 - (t + 1))
              case measure => have := Hg2.out; omega
              case rel => exact ⟨t + 1, kk + 1, rfl, by omega, by rw [Hkk.out]; omega, by rw [He.out, ← Hor.out], by go_num, rfl⟩
            · obtain rfl : t = 8 := by omega
              have kq : ¬ (kk : Int) < (q : Int) + 8 := by omega
              clear hkk
              rw [HD.out]
              go_wp2_with fail
              refine (sm w hsl).mono ?_
              rintro e w' ⟨rfl, rfl⟩
              go_wp2_with fail
              refine bodyPost_ret (v := .tuple #[.int .i64 0, .slice none 0 0, .int .i64 0, .int .i64 13]) ?_ rfl ⟨rfl, Below.refl _ _⟩
              simp [results, Try.results12]
        · have yb : (y == 0) = false := by simpa using hy0
          clear hy0
          go_wp2_with fail
          go_loopg [10, 11] 8 (fun g' hv kv wr => ∃ (t kk : Nat), g' = 8 - t ∧ t ≤ 8 ∧ kk = q + t ∧ hv = .int .u64 (deb ((L.drop q).take t)) ∧ kv = .int .i64 (kk : Int) ∧ w = wr)
          case atStart => exact ⟨0, q, rfl, Nat.zero_le _, rfl, rfl, rfl, rfl⟩
          case round =>
            obtain ⟨t, kk, hg2, ht, hkk, rfl, rfl, rfl⟩ := hrel
            have Hg2 := Lib.hid hg2
            clear hg2
            by_cases ht8 : t < 8
            · have hx2 := Hc.out kk (by rw [← Hl.out]; omega)
              have ox := hoc.getD kk
              obtain ⟨b1, b2⟩ := deb_bd (l := L.drop q) (k := t) (hoc.drop q) (by rw [List.length_drop, ← Hl.out]; omega)
              have e : deb ((L.drop q).take (t + 1)) = deb ((L.drop q).take t) * 256 + L.getD kk 0 := by
                unfold deb
                rw [take_snoc (L.drop q) t 0 (by rw [List.length_drop, ← Hl.out]; omega), List.foldl_append, show (L.drop q).getD t 0 = L.getD kk 0 by rw [List.getD_eq_getElem?_getD, List.getElem?_drop, ← hkk, ← List.getD_eq_getElem?_getD]]
                rfl
              have b3 : (256 : Int) ^ t ≤ 2 ^ 56 := by
                have : (256 : Int) ^ t = 2 ^ (8 * t) := by rw [Int.pow_mul]; rfl
                rw [this]
                have h3 := Nat.pow_le_pow_right (n := 2) (by decide) (show 8 * t ≤ 56 by omega)
                exact_mod_cast h3
              obtain ⟨x2, hxx⟩ : ∃ x2, L.getD kk 0 = x2 := ⟨_, rfl⟩
              obtain ⟨s2, hss⟩ : ∃ s2, deb ((L.drop q).take t) = s2 := ⟨_, rfl⟩
              rw [hss] at b1 b2 e ⊢
              rw [hxx] at hx2 ox e
              have w64 := octet_u64 ox
              have hor2 := or_up ⟨b1, by omega⟩ ox
              have He := Lib.hid e
              have Hor := Lib.hid hor2
              have kq : (kk : Int) < (q : Int) + 8 := by omega
              have kl : (kk : Int) < (len : Int) + 1 := by omega
              have Hkk := Lib.hid hkk
              clear e hss hxx b1 b2 b3 hor2 hkk
              go_wp2_with fail
              go_roundg (8 - (t + 1))
              case measure => have := Hg2.out; omega
              case rel => exact ⟨t + 1, kk + 1, rfl, by omega, by rw [Hkk.out]; omega, by rw [He.out, ← Hor.out], by go_num, rfl⟩
            · obtain rfl : t = 8 := by omega
              have kq : ¬ (kk : Int) < (q : Int) + 8 := by omega
              clear hkk
              rw [HD.out]
              go_wp2_with fail
              refine (sm w hsl).mono ?_
              rintro e w' ⟨rfl, rfl⟩
              go_wp2_with fail
              refine bodyPost_ret (v := .tuple #[.int .i64 0, .slice none 0 0, .int .i64 0, .int .i64 13]) ?_ rfl ⟨rfl, Below.refl _ _⟩
              simp [results, Try.results12]
      · have yb : (y == 0) = false := by simpa using hy0
        have j2 : (2 : Int) < (j : Int) + 1 := by omega
        go_wp2_with fail
        go_loopg [10, 11] 8 (fun g' hv kv wr => ∃ (t kk : Nat), g' = 8 - t ∧ t ≤ 8 ∧ kk = q + t ∧ hv = .int .u64 (deb ((L.drop q).take t)) ∧ kv = .int .i64 (kk : Int) ∧ w = wr)
        case atStart => exact ⟨0, q, rfl, Nat.zero_le _, rfl, rfl, rfl, rfl⟩
        case round =>
          obtain ⟨t, kk, hg2, ht, hkk, rfl, rfl, rfl⟩ := hrel
          have Hg2 := Lib.hid hg2
          clear hg2
          by_cases ht8 : t < 8
          · have hx2 := Hc.out kk (by rw [← Hl.out]; omega)
            have ox := hoc.getD kk
            obtain ⟨b1, b2⟩ := deb_bd (l := L.drop q) (k := t) (hoc.drop q) (by rw [List.length_drop, ← Hl.out]; omega)
            have e : deb ((L.drop q).take (t + 1)) = deb ((L.drop q).take t) * 256 + L.getD kk 0 := by
              unfold deb
              rw [take_snoc (L.drop q) t 0 (by rw [List.length_drop, ← Hl.out]; omega), List.foldl_append, show (L.drop q).getD t 0 = L.getD kk 0 by rw [List.getD_eq_getElem?_getD, List.getElem?_drop, ← hkk, ← List.getD_eq_getElem?_getD]]
              rfl
            have b3 : (256 : Int) ^ t ≤ 2 ^ 56 := by
              have : (256 : Int) ^ t = 2 ^ (8 * t) := by rw [Int.pow_mul]; rfl
              rw [this]
              have h3 := Nat.pow_le_pow_right (n := 2) (by decide) (show 8 * t ≤ 56 by omega)
              exact_mod_cast h3
            obtain ⟨x2, hxx⟩ : ∃ x2, L.getD kk 0 = x2 := ⟨_, rfl⟩
            obtain ⟨s2, hss⟩ : ∃ s2, deb ((L.drop q).take t) = s2 := ⟨_, rfl⟩
            rw [hss] at b1 b2 e ⊢
            rw [hxx] at hx2 ox e
            have w64 := octet_u64 ox
            have hor2 := or_up ⟨b1, by omega⟩ ox
            have He := Lib.hid e
            have Hor := Lib.hid hor2
            have kq : (kk : Int) < (q : Int) + 8 := by omega
            have kl : (kk : Int) < (len : Int) + 1 := by omega
            have Hkk := Lib.hid hkk
            clear e hss hxx b1 b2 b3 hor2 hkk
            go_wp2_with fail
            go_roundg (8 - (t + 1))
            case measure => have := Hg2.out; omega
            case rel => exact ⟨t + 1, kk + 1, rfl, by omega, by rw [Hkk.out]; omega, by rw [He.out, ← Hor.out], by go_num, rfl⟩
          · obtain rfl : t = 8 := by omega
            have kq : ¬ (kk : Int) < (q : Int) + 8 := by omega
            clear hkk
            rw [HD.out]
            go_wp2_with fail
            refine (sm w hsl).mono ?_
            rintro e w' ⟨rfl, rfl⟩
            go_wp2_with fail
            refine bodyPost_ret (v := .tuple #[.int .i64 0, .slice none 0 0, .int .i64 0, .int .i64 13]) ?_ rfl ⟨rfl, Below.refl _ _⟩
            simp [results, Try.results12]
end Go.Proofs.Ytkggglhnhlclmaa
