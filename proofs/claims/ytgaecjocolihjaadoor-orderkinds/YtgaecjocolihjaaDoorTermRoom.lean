/- number, room, Words of package term. -/
import Derived.Test.YtgaecjocolihjaaDoorTermTree
import Derived.Test.YtgaecjocolihjaaDoorTermBigB
namespace Go.Proofs.YtgaecjocolihjaaDoor
open Go.ChangeShapes Go.WideShapes Go.ChangeAt Go.RowKit Go.Shelf
set_option linter.unusedSimpArgs false
set_option linter.unusedVariables false
theorem fldN1 (b : Bool) (o : Option Addr) (n c : Nat) (w : World) : (Instr.field 77 (.agg #[.bool b, .slice o n c]) 1).run Tryd.prog w = .ok (.slice o n c) w := by kernel_rfl
def Tm.num : Tm → Int | .mk _ neg d _ _ _ _ => sv neg (gval 4294967296 d)
/-- not too great, but for its parts -/
def Tm.ok1 : Tm → Prop | .mk _ _ d nm _ l b => d.length ≤ 1000000 ∧ nm.size ≤ 1000000 ∧ l.length ≤ 1000000 ∧ b.length ≤ 1000000 ∧ Lm 4294967296 d
def roomN : Tm → Nat
  | .mk k neg d _ _ l _ => if k = 0 then (if smlB (sv neg (gval 4294967296 d)) then 0 else 1 + (glim 4294967296 (sv neg (gval 4294967296 d)).natAbs).length) else if k = 6 then 3 else if k = 4 then 1 + l.length else if k = 7 then 4 else 0
end Go.Proofs.YtgaecjocolihjaaDoor
