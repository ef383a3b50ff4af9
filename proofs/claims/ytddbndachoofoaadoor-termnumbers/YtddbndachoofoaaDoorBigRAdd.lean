/- Add and Sub of the reference. -/
import Derived.Test.YtddbndachoofoaaDoorBigRMinus
import Derived.Test.YtddbndachoofoaaDoorBigOrd
namespace Go.Proofs.YtddbndachoofoaaDoor
open Go.ChangeShapes Go.WideShapes Go.ChangeAt Go.RowKit
set_option linter.unusedSimpArgs false
set_option linter.unusedVariables false
end Go.Proofs.YtddbndachoofoaaDoor
