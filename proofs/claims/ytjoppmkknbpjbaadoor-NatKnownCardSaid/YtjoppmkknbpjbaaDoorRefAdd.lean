/- Contracts of the document's NatAdd and NatSub. -/
import Derived.Test.YtjoppmkknbpjbaaDoorRefMul
import Derived.LoopTactic
import Derived.Deep.RegionWith
import Derived.Deep.RegionHeld3
namespace Go.Proofs.YtjoppmkknbpjbaaDoor
open Go.RowKit
set_option linter.unusedVariables false

end Go.Proofs.YtjoppmkknbpjbaaDoor
