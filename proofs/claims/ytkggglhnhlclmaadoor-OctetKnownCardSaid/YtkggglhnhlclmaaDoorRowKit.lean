/- What the proofs of all rows of this seat share: the program's own facts, and that the door's variables can be laid. -/
import Derived.Test.YtkggglhnhlclmaaDoorTie
import Derived.Test.YtkggglhnhlclmaaDoorCards
import Derived.ProofKit
import Derived.OpenShut
import Derived.LaidMore
import Derived.Lay
import Derived.SevenTiedAt
import Derived.Stop.Joined
import Derived.ShutString
import Derived.ChangeOld
import Derived.Below
namespace Go.Proofs.YtkggglhnhlclmaaDoor
open Go.ChangeShapes Go.WideShapes Go.ChangeAt Go.RowKit
theorem own : ownKnob Tryd.prog.godebug = none := by kernel_rfl
theorem laidOut : laidOutB Tryd.prog = true := by kernel_rfl
end Go.Proofs.YtkggglhnhlclmaaDoor
