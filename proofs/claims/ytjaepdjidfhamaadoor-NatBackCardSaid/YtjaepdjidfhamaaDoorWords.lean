/- Contracts of (Nat).words: a number's words. -/
import Derived.Test.YtjaepdjidfhamaaDoorTrim
import Derived.RegionTactic
import Derived.BigRegion
namespace Go.Proofs.YtjaepdjidfhamaaDoor
open Go.RowKit
set_option linter.unusedVariables false

theorem words_many (b : Nat) (len cap : Nat) (r : Value) (w : World) :
    Calls Tryd.prog 25 #[.agg #[.int .u64 0, .slice (some ⟨b, 0, none⟩) len cap], r] w fun e w' => e = .returned (.slice (some ⟨b, 0, none⟩) len cap) ∧ Below w.heap.size w w' := by
  have e1 := neqnil
  go_enter Tryd.func25, Tryd.ntmps25
  go_wp2
  go_ret
  exact ⟨rfl, by go_grown⟩

set_option maxHeartbeats 400000 in
theorem words_word (n : Int) (hn : Word n) (rb : Nat) (t : TypeId) (r0 : Int) (w : World) (ha : Arr w rb t .u64 [r0]) :
    Calls Tryd.prog 25 #[.agg #[.int .u64 n, .slice none 0 0], .pointer (some ⟨rb, 0, none⟩)] w fun e w' => e = .returned (.slice (some ⟨rb, 0, none⟩) (trimLen [n] 1) 1) ∧ Arr w' rb t .u64 [n] ∧ w.grownBy w' (some rb) := by
  have e1 := neqnil
  have hlt := ha.lt
  have hf := ha.free 0
  have hcell := ha.cell 0 (by simp)
  go_enter Tryd.func25, Tryd.ntmps25
  go_wp2
  go_region
  all_goals
    go_wp2_with (go_at_call 49; refine (trim_any rb t 1 1 [n] _ ?_ (by omega) (by simp) (by simp)).mono ?_; rotate_left; rintro e w' ⟨rfl, rfl⟩)
  · go_ret
    exact ⟨rfl, (ha.set 0 n).alloc _, grownBy_trans (grownBy_set _ _ _ _) (grownBy_trans (World.grownBy_alloc _ _ _) (grownBy_drew _ _))⟩
  · exact (ha.set 0 n).alloc _
end Go.Proofs.YtjaepdjidfhamaaDoor
