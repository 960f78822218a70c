/- Contract of NatBytes over whatever number of the document's. -/
import Derived.Test.YtjaepdjidfhamaaDoorRef0
namespace Go.Proofs.YtjaepdjidfhamaaDoor
open Go.RowKit
set_option linter.unusedVariables false

theorem natBytes_of (n : Int) (b len cap : Nat) (t : TypeId) (l : List Int) (w : World) (ha : Arr w b t .u32 l) (hl : len ≤ l.length) (hm : l.length ≤ 4294967296) (hw : Limbs l) (hz : len ≠ 0 → l.getD (len - 1) 0 ≠ 0) (hv : lval (l.take len) = n) :
    Calls Tryd.prog 67 #[.slice (some ⟨b, 0, none⟩) len cap] w (RetBytes n w) := by
  cases len with
  | zero =>
    have : n = 0 := by rw [← hv]; simp [lval]
    subst this
    exact natBytes_zero _ _ _
  | succ k =>
    rw [← hv]
    exact natBytes_pos b t k cap l w ha hl hm hw (by simpa using hz (by omega))
end Go.Proofs.YtjaepdjidfhamaaDoor
