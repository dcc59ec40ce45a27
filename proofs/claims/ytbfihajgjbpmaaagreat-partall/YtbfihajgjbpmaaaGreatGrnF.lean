/- Texts that belong together, one behind the other: QAh. -/
import Derived.Test.YtbfihajgjbpmaaaGreatGrnB
import Derived.Test.YtbfihajgjbpmaaaGreatSchC
/- The statements' own helpers of stage 10: made, shown. -/
namespace Go.Proofs.YtbfihajgjbpmaaaGreat
open Go.ChangeShapes Go.WideShapes Go.ChangeAt Go.RowKit
set_option linter.unusedVariables false
set_option maxRecDepth 4000

end Go.Proofs.YtbfihajgjbpmaaaGreat
