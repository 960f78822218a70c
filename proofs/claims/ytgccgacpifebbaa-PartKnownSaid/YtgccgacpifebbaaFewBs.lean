/- abaculushand.Few of any bytes, of at most so many: new memory; what came in as bytes. -/
import Derived.Test.YtgccgacpifebbaaBs
import Derived.Test.YtgccgacpifebbaaAppKept
import Derived.Deep.AppendSrc
namespace Go.Proofs.Ytgccgacpifebbaa
open Go.RowKit
set_option linter.unusedVariables false

theorem info8' : (Try.prog.info? 5).map (fun i => (i.zero, i.size, i.bytes)) = some (some (.int .u8 0), 1, 1) := by kernel_rfl
end Go.Proofs.Ytgccgacpifebbaa
