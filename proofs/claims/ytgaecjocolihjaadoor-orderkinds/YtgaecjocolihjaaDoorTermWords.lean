/- Words of package term. -/
import Derived.Test.YtgaecjocolihjaaDoorTermRoom
import Derived.Deep.RegionWith
namespace Go.Proofs.YtgaecjocolihjaaDoor
open Go.ChangeShapes Go.WideShapes Go.ChangeAt Go.RowKit Go.Shelf
set_option linter.unusedSimpArgs false
set_option linter.unusedVariables false
theorem roomN_le {p : Tm} (h : p.ok1) : roomN p ≤ 1000001 := by
  cases p with | mk k neg d nm n l b =>
  obtain ⟨h1, h2, h3, h4, h5⟩ : d.length ≤ 1000000 ∧ nm.size ≤ 1000000 ∧ l.length ≤ 1000000 ∧ b.length ≤ 1000000 ∧ Lm 4294967296 d := h
  simp only [roomN]
  split
  · split
    · omega
    · have e : (sv neg (gval 4294967296 d)).natAbs = gval 4294967296 d := by unfold sv; cases neg <;> simp
      rw [e]
      have := gval_len h5
      omega
  · repeat (first | omega | split)
/-- how many words -/
def wordsN (T : Tm) : Nat := ((parts T).map roomN).sum
theorem sum_le : ∀ (l : List Tm), (∀ p ∈ l, p.ok1) → (l.map roomN).sum ≤ l.length * 1000001
  | [], _ => by simp
  | p :: l, h => by
    have h1 := roomN_le (h p (by simp))
    have h2 := sum_le l (fun q hq => h q (by simp [hq]))
    simp only [List.map_cons, List.sum_cons, List.length_cons]
    omega
end Go.Proofs.YtgaecjocolihjaaDoor
