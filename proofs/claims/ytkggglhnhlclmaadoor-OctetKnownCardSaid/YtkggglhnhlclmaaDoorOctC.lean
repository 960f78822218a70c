/- Contracts of package octet: the count off the front of bytes. -/
import Derived.Test.YtkggglhnhlclmaaDoorOctB
import Derived.Test.YtkggglhnhlclmaaDoorBack
namespace Go.Proofs.YtkggglhnhlclmaaDoor
open Go.RowKit
set_option linter.unusedVariables false

/-- The place of the first byte behind which no group follows, or -1. -/
def lowAt (l : List Int) : Int := if low l < l.length then (low l : Int) else -1
theorem lowAt_hit {l : List Int} {k : Nat} (h : low l = k) (hk : k < l.length) : lowAt l = k := by unfold lowAt; rw [h, if_pos hk]
theorem lowAt_none {l : List Int} (h : low l = l.length) : lowAt l = -1 := by unfold lowAt; rw [h, if_neg (Nat.lt_irrefl _)]
set_option maxRecDepth 100000 in
/-- slices.IndexFunc with isLast: the place of the first byte behind which no group follows, or -1. -/
theorem index_bs (v : Value) (l : List Int) (w : World) (h : Bs w v l) : Calls Tryd.prog 32 #[v, .func (.func 33) #[] #[]] w fun e w' => e = .returned (.int .i64 (lowAt l)) ∧ w = w' := by
  obtain ⟨p, c, rfl, h1, h2, ho, h4⟩ := h
  obtain ⟨len, hlen⟩ : ∃ len, l.length = len := ⟨_, rfl⟩
  rw [hlen] at h1 h2 h4 ⊢
  go_enter Tryd.func32, Tryd.ntmps32
  go_wp2_with fail
  go_loopg [5, 8] len (fun g _ i wr => ∃ k : Nat, g = len - k ∧ k ≤ len ∧ i = .int .i64 k ∧ w = wr ∧ Hid (∀ j, j < k → 128 ≤ l.getD j 0))
  case atStart => exact ⟨0, rfl, Nat.zero_le _, rfl, rfl, Lib.hid fun j hj => absurd hj (Nat.not_lt_zero j)⟩
  case round =>
    obtain ⟨k, hg, hk, rfl, rfl, Ha⟩ := hrel
    have Hg := Lib.hid hg
    clear hg
    by_cases hlt : k < len
    · obtain ⟨g, off, rfl, hc⟩ := h4 (by omega)
      have hx := hc k hlt
      obtain ⟨x, hxx⟩ : ∃ x, l.getD k 0 = x := ⟨_, rfl⟩
      rw [hxx] at hx
      have Hxx := Lib.hid hxx
      clear hxx hc h4
      by_cases hlow : x < 128
      · have e := low_eq (l := l) (k := k) (by omega) Ha.out (fun _ => by rw [Hxx.out]; exact hlow)
        have hd : decide (x < 128) = true := by simpa using hlow
        have q := isLast_any x
        rw [hd] at q
        have He := Lib.hid (lowAt_hit e (by omega))
        clear e hd hlow
        go_wp2_with fail
        refine (q _).mono ?_
        rintro e w' ⟨rfl, rfl⟩
        go_wp2_with fail
        go_ret
        exact ⟨by rw [He.out]; rfl, rfl⟩
      · have hd : decide (x < 128) = false := by simpa using hlow
        have q := isLast_any x
        rw [hd] at q
        have Hlow := Lib.hid hlow
        clear hd hlow
        go_wp2_with fail
        refine (q _).mono ?_
        rintro e w' ⟨rfl, rfl⟩
        go_wp2_with fail
        go_roundg (len - (k + 1))
        case measure => have := Hg.out; omega
        case rel => exact ⟨k + 1, rfl, by omega, by go_num, rfl, Lib.hid fun j hj => by
          by_cases e : j = k
          · subst e
            rw [Hxx.out]
            have := Hlow.out
            omega
          · exact Ha.out j (by omega)⟩
    · obtain rfl : k = len := by omega
      have e := low_eq (l := l) (k := k) (by omega) Ha.out (fun h => by omega)
      have He := Lib.hid (lowAt_none (e.trans hlen.symm))
      clear e h4
      go_wp2_with fail
      go_ret
      exact ⟨by rw [He.out]; rfl, rfl⟩
end Go.Proofs.YtkggglhnhlclmaaDoor
