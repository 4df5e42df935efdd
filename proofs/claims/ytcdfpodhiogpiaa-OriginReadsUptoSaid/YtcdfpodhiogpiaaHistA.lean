/- The code's own contracts of layer 6, first half: names, slices.Grow, slices.Concat, slices.Equal, slices.EqualFunc at operations; Flat, Same. -/
import Derived.Test.YtcdfpodhiogpiaaHistRefB
import Derived.Lib.AppendZeros
import Derived.RangeFuncRecord
namespace Go.Proofs.Ytcdfpodhiogpiaa
open Go.RowKit
set_option linter.unusedVariables false
set_option linter.unusedSectionVars false


end Go.Proofs.Ytcdfpodhiogpiaa
