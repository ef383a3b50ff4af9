/- Words of the reference. -/
import Derived.Test.YtpdoepjnkgffpaaDoorTermRMayAll
namespace Go.Proofs.YtpdoepjnkgffpaaDoor
open Go.ChangeShapes Go.WideShapes Go.ChangeAt Go.RowKit Go.Shelf
set_option linter.unusedSimpArgs false
set_option linter.unusedVariables false
set_option maxRecDepth 2000
theorem fldR1 (b : Bool) (o : Option Addr) (n c : Nat) (w : World) : (Instr.field 50 (.agg #[.bool b, .slice o n c]) 1).run Tryd.prog w = .ok (.slice o n c) w := by kernel_rfl
def sumL (l : List Tm) : Nat := ((partsL l).map roomN).sum
theorem sumL_take {l : List Tm} {i : Nat} {t : Tm} (h : l[i]? = some t) : sumL (l.take (i + 1)) = sumL (l.take i) + wordsN t := by
  induction l generalizing i with
  | nil => simp at h
  | cons x l ih =>
    cases i with
    | zero => simp at h; subst h; simp [sumL, partsL, wordsN]
    | succ i =>
      simp only [List.getElem?_cons_succ] at h
      have := ih h
      unfold sumL at this ⊢
      simp only [List.take_succ_cons, partsL, List.map_append, List.sum_append, this]; omega
theorem sumL_le (l : List Tm) (hok : ∀ p ∈ partsL l, p.ok1) (i : Nat) : sumL (l.take i) ≤ (partsL l).length * 1000001 := by
  have h1 : ∀ p ∈ partsL (l.take i), p.ok1 := fun p hp => by
    refine hok p ?_
    clear hok
    induction l generalizing i with
    | nil => simp [partsL] at hp
    | cons x l ih =>
      cases i with
      | zero => simp [partsL] at hp
      | succ i =>
        simp only [List.take_succ_cons, partsL, List.mem_append] at hp ⊢
        rcases hp with hp | hp
        · exact .inl hp
        · exact .inr (ih i hp)
  have := sum_le _ h1
  have h2 := partsL_take_le l i
  unfold sumL
  exact Nat.le_trans this (Nat.mul_le_mul_right _ h2)
end Go.Proofs.YtpdoepjnkgffpaaDoor
