/- normed, within, fair, May of package term. -/
import Derived.Test.YtgaecjocolihjaaDoorTermLean
namespace Go.Proofs.YtgaecjocolihjaaDoor
open Go.ChangeShapes Go.WideShapes Go.ChangeAt Go.RowKit Go.Shelf
set_option linter.unusedSimpArgs false
set_option linter.unusedVariables false
abbrev Tabs (w : World) : Prop := Lib.Utf8Tabs 0 1 w
theorem Tabs.below {w w' : World} (h : Tabs w) (hb : Below w.heap.size w w') : Tabs w' := Utf8Tabs_below h hb
def normB (neg : Bool) (d : List Nat) : Bool := (decide (sv neg (gval 4294967296 d) < 0) == neg) && (((glim 4294967296 (sv neg (gval 4294967296 d)).natAbs).length : Int) == (d.length : Int))
def withinB : Tm → Bool
  | .mk k neg d nm n l b =>
    if k = 0 then decide ((d.length : Int) ≤ 64) && normB neg d
    else if k = 1 then decide (0 ≤ countZ nm.data.toList) && decide (countZ nm.data.toList ≤ 255)
    else if k = 2 ∨ k = 3 then decide (0 ≤ n) && decide (n ≤ 1073741824)
    else if k = 4 then decide ((l.length : Int) ≤ 255)
    else if k = 6 then ((l.length : Int) == 2)
    else if k = 7 then decide ((b.length : Int) ≤ 4096)
    else true
def fairB (T : Tm) : Bool := leanB T && withinB T
/-- whether a term may be -/
def mayB (T : Tm) : Bool := decide (treeN T ≤ 65536) && (parts T).all fairB
end Go.Proofs.YtgaecjocolihjaaDoor
