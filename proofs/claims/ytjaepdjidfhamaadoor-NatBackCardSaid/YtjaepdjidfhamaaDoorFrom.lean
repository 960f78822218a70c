/- Contract of nat.FromBytes over the bytes of a number. -/
import Derived.Test.YtjaepdjidfhamaaDoorRef0
namespace Go.Proofs.YtjaepdjidfhamaaDoor
open Go.RowKit
set_option linter.unusedVariables false

set_option maxRecDepth 100000 in
theorem trimLeftByte_top (b t len cap : Nat) (l : List Int) (w : World) (ha : Arr w b t .u8 l) (hl : len + 1 ≤ l.length) (hz : l.getD 0 0 ≠ 0) :
    Calls Tryd.prog 90 #[.slice (some ⟨b, 0, none⟩) (len + 1) cap, .int .u8 0] w fun e w' => e = .returned (.slice (some ⟨b, 0, none⟩) (len + 1) cap) ∧ w = w' := by
  have hc := ha.cell 0 (by omega)
  generalize l.getD 0 0 = x at hc hz
  have hx : (x == 0) = false := by simpa using hz
  have h0 : ((len : Int) + 1 == 0) = false := by simp; omega
  go_enter Tryd.func90, Tryd.ntmps90
  go_wp2
  go_rounds 1
  go_ret
  exact ⟨rfl, rfl⟩
set_option maxRecDepth 100000 in
theorem trimLeft_top (b t len cap : Nat) (l : List Int) (w : World) (ha : Arr w b t .u8 l) (hl : len + 1 ≤ l.length) (hz : l.getD 0 0 ≠ 0) :
    Calls Tryd.prog 80 #[.slice (some ⟨b, 0, none⟩) (len + 1) cap, .string ⟨#[0]⟩] w fun e w' => e = .returned (.slice (some ⟨b, 0, none⟩) (len + 1) cap) ∧ w = w' := by
  have h0 : ((len : Int) + 1 == 0) = false := by simp; omega
  go_enter Tryd.func80, Tryd.ntmps80
  go_wp2_with (go_at_call 90; refine (trimLeftByte_top b t len cap l w ha hl hz).mono ?_; rintro e w' ⟨rfl, rfl⟩)
  go_ret
  exact ⟨rfl, rfl⟩
theorem trimLeft_nil (a : Option Addr) (cap : Nat) (w : World) :
    Calls Tryd.prog 80 #[.slice a 0 cap, .string ⟨#[0]⟩] w fun e w' => e = .returned (.slice none 0 0) ∧ w = w' := by
  go_enter Tryd.func80, Tryd.ntmps80
  go_wp2
  go_ret
  exact ⟨rfl, rfl⟩
end Go.Proofs.YtjaepdjidfhamaaDoor
