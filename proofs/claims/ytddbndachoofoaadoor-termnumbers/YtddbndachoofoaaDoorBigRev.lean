/- slices.Reverse at bytes, on a row of the call's own. -/
import Derived.Test.YtddbndachoofoaaDoorBigShrink
import Derived.BigRegion
namespace Go.Proofs.YtddbndachoofoaaDoor
open Go.ChangeShapes Go.WideShapes Go.ChangeAt Go.RowKit
set_option linter.unusedSimpArgs false
set_option linter.unusedVariables false
/-- bytes in a block of the call's own, from its beginning on -/
def OwnB (g : Nat) (l : List Nat) (w : World) : Prop := (∀ (j x : Nat), l[j]? = some x → w.cell? ⟨g, j, none⟩ = some (.int .u8 (x : Int))) ∧ ∀ j, w.frozen? ⟨g, j, none⟩ = false
theorem OwnB.set {g : Nat} {l : List Nat} {w : World} (h : OwnB g l w) {j : Nat} (x : Nat) (hj : j < l.length) : OwnB g (l.set j x) (w.setCell ⟨g, j, none⟩ (.int .u8 (x : Int))) := by
  have hc := h.1 j l[j] (by simp [hj])
  refine ⟨fun i y hy => ?_, fun i => ?_⟩
  · by_cases hij : j = i
    · subst hij
      rw [List.getElem?_set_self hj] at hy
      injection hy with hy; subst hy
      exact World.cell?_setCell_same _ _ _ hc
    · rw [List.getElem?_set_ne hij] at hy
      rw [World.cell?_setCell_other w ⟨g, j, none⟩ ⟨g, i, none⟩ _ (by simp [hij])]
      exact h.1 i y hy
  · have := World.frozen?_setCells g [Value.int .u8 (x : Int)] j w ⟨g, i, none⟩
    exact this.trans (h.2 i)
theorem OwnB.drew {g : Nat} {l : List Nat} {w : World} (h : OwnB g l w) : OwnB g l w.drew := h
theorem Only.drew {g : Nat} {a b : World} (h : Only g a b) : Only g a b.drew := ⟨h.1.drew, h.2.1, h.2.2⟩
end Go.Proofs.YtddbndachoofoaaDoor
