/- awake of the statements over package term. -/
import Derived.Test.YtgaecjocolihjaaDoorTermFacts
namespace Go.Proofs.YtgaecjocolihjaaDoor
open Go.ChangeShapes Go.WideShapes Go.ChangeAt Go.RowKit Go.Shelf
set_option linter.unusedSimpArgs false
set_option linter.unusedVariables false
end Go.Proofs.YtgaecjocolihjaaDoor
