/- Contracts of nat.trim and nat.made: words without the noughts at their end, and the number that they make. -/
import Derived.Test.YtjaepdjidfhamaaDoorNat0
import Derived.LoopTactic
namespace Go.Proofs.YtjaepdjidfhamaaDoor
open Go.RowKit
set_option linter.unusedVariables false

/-- How many of the first n words are left without the noughts at their end. -/
def trimLen (l : List Int) : Nat → Nat
  | 0 => 0
  | n + 1 => if l.getD n 0 = 0 then trimLen l n else n + 1
theorem trimLen_zero {l : List Int} {n : Nat} (h : l.getD n 0 = 0) : trimLen l (n + 1) = trimLen l n := by simp only [trimLen]; rw [if_pos h]
theorem trimLen_stop {l : List Int} {n : Nat} (h : l.getD n 0 ≠ 0) : trimLen l (n + 1) = n + 1 := by simp only [trimLen]; rw [if_neg h]
theorem trimLen_le (l : List Int) : ∀ n, trimLen l n ≤ n
  | 0 => Nat.le_refl _
  | n + 1 => by
    have := trimLen_le l n
    by_cases h : l.getD n 0 = 0
    · rw [trimLen_zero h]; omega
    · rw [trimLen_stop h]; exact Nat.le_refl _
theorem trimLen_last (l : List Int) : ∀ n, trimLen l n ≠ 0 → l.getD (trimLen l n - 1) 0 ≠ 0
  | 0 => fun h => absurd rfl h
  | n + 1 => by
    by_cases h : l.getD n 0 = 0
    · rw [trimLen_zero h]; exact trimLen_last l n
    · rw [trimLen_stop h]; intro _; exact h
theorem val_trim (l : List Int) : ∀ n, n ≤ l.length → val (l.take (trimLen l n)) = val (l.take n)
  | 0, _ => rfl
  | n + 1, hn => by
    by_cases h : l.getD n 0 = 0
    · rw [trimLen_zero h, val_trim l n (by omega), val_take_succ (by omega), h]; omega
    · rw [trimLen_stop h]

set_option maxHeartbeats 400000 in
theorem trim_any (b : Nat) (t : TypeId) (len cap : Nat) (l : List Int) (w : World) (ha : Arr w b t .u64 l) (hl : len ≤ cap) (hc : cap ≤ l.length) (hm : len ≤ 140737488355328) :
    Calls Tryd.prog 49 #[.slice (some ⟨b, 0, none⟩) len cap] w fun e w' => e = .returned (.slice (some ⟨b, 0, none⟩) (trimLen l len) cap) ∧ w = w' := by
  go_enter Tryd.func49, Tryd.ntmps49
  go_wp2
  go_loop [3] (fun i => ∃ k : Nat, k ≤ len ∧ i = .int .i64 k ∧ trimLen l len = trimLen l k) (fun i => (intOf i).toNat)
  case atStart => exact ⟨len, Nat.le_refl _, rfl, rfl⟩
  case round =>
    obtain ⟨k, hk, rfl, he⟩ := hrel
    have He := Lib.hid he
    clear he
    cases k with
    | zero =>
      go_wp2
      go_ret
      exact ⟨by rw [He.out]; rfl, rfl⟩
    | succ k =>
      have hcell := ha.cell k (by omega)
      by_cases hz : l.getD k 0 = 0
      · rw [hz] at hcell
        have Hz := Lib.hid hz
        clear hz
        go_wp2
        exact ⟨⟨k, by omega, rfl, by rw [He.out, trimLen_zero Hz.out]⟩, by simp [intOf]⟩
      · have hz' : (l.getD k 0 == 0) = false := by simpa using hz
        have Hz := Lib.hid hz
        clear hz
        generalize l.getD k 0 = x at hcell hz'
        go_wp2
        go_ret
        exact ⟨by rw [He.out, trimLen_stop Hz.out]; rfl, rfl⟩
theorem trim_nil (w : World) : Calls Tryd.prog 49 #[.slice none 0 0] w fun e w' => e = .returned (.slice none 0 0) ∧ w = w' := by
  go_enter Tryd.func49, Tryd.ntmps49
  go_wp2
  go_rounds 1
  go_ret
  exact ⟨rfl, rfl⟩

set_option maxHeartbeats 400000 in
theorem made_any (b : Nat) (t : TypeId) (len cap : Nat) (l : List Int) (w : World) (ha : Arr w b t .u64 l) (hl : len ≤ cap) (hc : cap ≤ l.length) (hm : len ≤ 140737488355328) (hw : Words l) :
    Calls Tryd.prog 26 #[.slice (some ⟨b, 0, none⟩) len cap] w (RetNat (val (l.take len)) w) := by
  have h1 := trimLen_le l len
  have h2 := trimLen_last l len
  have h3 := val_trim l len (by omega)
  have tr := fun w' (h : Arr w' b t .u64 l) => trim_any b t len cap l w' h hl hc hm
  generalize trimLen l len = m at h1 h2 h3 tr
  have H2 := Lib.hid h2
  have H3 := Lib.hid h3
  have Tr := Lib.hid tr
  clear h2 h3 tr
  match m, h1, H2, H3, Tr with
  | 0, h1, H2, H3, Tr =>
    go_enter Tryd.func26, Tryd.ntmps26
    go_wp2_with (go_at_call 49; refine (Tr.out _ (ha.alloc _)).mono ?_; rintro e w' ⟨rfl, rfl⟩)
    go_returns
    rw [← H3.out]
    exact ⟨_, rfl, IsNat.word ⟨by decide, by decide⟩, by go_grown⟩
  | 1, h1, H2, H3, Tr =>
    have hcell := (ha.alloc (.cells #[Value.int .u64 0, .slice none 0 0] 25)).cell 0 (by omega)
    have hx := hw.getD 0
    have H4 : Hid (l.getD 0 0 = val (l.take 1)) := by
      cases l with
      | nil => simp at hc; omega
      | cons x l => simp [Hid, val]
    generalize l.getD 0 0 = x at hcell hx H4
    go_enter Tryd.func26, Tryd.ntmps26
    go_wp2_with (go_at_call 49; refine (Tr.out _ (ha.alloc _)).mono ?_; rintro e w' ⟨rfl, rfl⟩)
    go_returns
    rw [← H3.out, ← H4.out]
    exact ⟨_, rfl, IsNat.word hx, by go_grown⟩
  | m + 2, h1, H2, H3, Tr =>
    have e0 : (((m + 2 : Nat) : Int) == 0) = false := by simp; omega
    have e1 : (((m + 2 : Nat) : Int) == 1) = false := by simp; omega
    go_enter Tryd.func26, Tryd.ntmps26
    go_wp2_with (go_at_call 49; refine (Tr.out _ (ha.alloc _)).mono ?_; rintro e w' ⟨rfl, rfl⟩)
    go_returns
    rw [← H3.out]
    refine ⟨_, rfl, .inr ⟨b, t, m + 2, cap, l, rfl, ?_, by omega, by omega, hc, by omega, hw, H2.out (by omega), rfl⟩, by go_grown⟩
    exact ha.alloc _
end Go.Proofs.YtjaepdjidfhamaaDoor
