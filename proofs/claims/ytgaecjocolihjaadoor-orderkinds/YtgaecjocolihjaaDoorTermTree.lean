/- Tree of package term. -/
import Derived.Test.YtgaecjocolihjaaDoorTermEv
namespace Go.Proofs.YtgaecjocolihjaaDoor
open Go.ChangeShapes Go.WideShapes Go.ChangeAt Go.RowKit Go.Shelf
set_option linter.unusedSimpArgs false
set_option linter.unusedVariables false
/-- a number in a block of its own -/
abbrev One (g : Nat) (z : Int) (w : World) : Prop := w.heap[g]? = some (.cells #[.int .i64 z] 3 (0, 0))
theorem One.cell {g : Nat} {z : Int} {w : World} (h : One g z w) : w.cell? ⟨g, 0, none⟩ = some (.int .i64 z) := by simp [World.cell?, h]
theorem One.free {g : Nat} {z : Int} {w : World} (h : One g z w) : w.frozen? ⟨g, 0, none⟩ = false := by simp [World.frozen?, h]
theorem One.lt {g : Nat} {z : Int} {w : World} (h : One g z w) : g < w.heap.size := (Array.getElem?_eq_some_iff.1 h).1
theorem One.set {g : Nat} {z : Int} {w : World} (h : One g z w) (y : Int) : One g y (w.setCell ⟨g, 0, none⟩ (.int .i64 y)) := one_setCell h
abbrev Low (w : World) : Nat → Prop := fun k => k < w.heap.size
/-- how many parts, up to the bound -/
def treeN (T : Tm) : Nat := min (parts T).length 65537
theorem One.new (w : World) (z : Int) : One w.heap.size z (w.alloc (.cells #[.int .i64 z] 3)) := heap_alloc_new w _
end Go.Proofs.YtgaecjocolihjaaDoor
