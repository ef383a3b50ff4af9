/- lean, normed of package term. -/
import Derived.Test.YtgaecjocolihjaaDoorTermWords
import Derived.Test.YtgaecjocolihjaaDoorTermCount
namespace Go.Proofs.YtgaecjocolihjaaDoor
open Go.ChangeShapes Go.WideShapes Go.ChangeAt Go.RowKit Go.Shelf
set_option linter.unusedSimpArgs false
set_option linter.unusedVariables false
def prT : Tm → Tm
  | .mk k neg d nm n l b =>
    if k = 0 then .mk 0 neg d noS 0 [] []
    else if k = 1 then .mk 1 false [] nm 0 [] []
    else if k = 2 then .mk 2 false [] noS n [] []
    else if k = 3 then .mk 3 false [] noS n [] []
    else if k = 4 then .mk 4 false [] noS 0 l []
    else if k = 6 then .mk 6 false [] noS 0 l []
    else if k = 7 then .mk 7 false [] noS 0 [] b
    else .mk 5 false [] noS 0 [] []
theorem prV_tv {Z : Nat → Prop} {w : World} {k : Int} {neg : Bool} {d : List Nat} {nm : ByteArray} {n : Int} {l : List Tm} {b : List Nat} {od ol ob : Option Addr} {cd cl cb : Nat}
    (h : TV Z w (.mk k neg d nm n l b) (tmV k neg (.slice od d.length cd) nm n (.slice ol l.length cl) (.slice ob b.length cb))) :
    TV Z w (prT (.mk k neg d nm n l b)) (prV k neg (.slice od d.length cd) nm n (.slice ol l.length cl) (.slice ob b.length cb)) := by
  unfold TV at h
  obtain ⟨_, _, _, _, _, _, e, h1, h2, h3, h4, h5, h6, h7⟩ := h
  simp only [Value.agg.injEq, Array.mk.injEq, List.cons.injEq, Value.slice.injEq, and_true, true_and] at e
  obtain ⟨⟨rfl, rfl⟩, ⟨rfl, rfl⟩, rfl, rfl⟩ := e
  have z1 : Ls Z none (lim []) w := Ls.nil _ _ _
  have z2 : LsB Z none [] w := LsB.nil _ _ _
  have z3 : Lm 4294967296 [] := Lm.nil _
  have z4 : TR Z w [] none := by unfold TR; trivial
  unfold prT prV
  by_cases h0 : k = 0
  · subst h0; exact ⟨_, _, none, 0, none, 0, rfl, h1, h2, h3, z2, Nat.le_refl _, Nat.le_refl _, z4⟩
  by_cases h1' : k = 1
  · subst h1'; exact ⟨none, 0, none, 0, none, 0, rfl, z1, Nat.le_refl _, z3, z2, Nat.le_refl _, Nat.le_refl _, z4⟩
  by_cases h2' : k = 2
  · subst h2'; exact ⟨none, 0, none, 0, none, 0, rfl, z1, Nat.le_refl _, z3, z2, Nat.le_refl _, Nat.le_refl _, z4⟩
  by_cases h3' : k = 3
  · subst h3'; exact ⟨none, 0, none, 0, none, 0, rfl, z1, Nat.le_refl _, z3, z2, Nat.le_refl _, Nat.le_refl _, z4⟩
  by_cases h4' : k = 4
  · subst h4'; exact ⟨none, 0, _, _, none, 0, rfl, z1, Nat.le_refl _, z3, z2, Nat.le_refl _, h6, h7⟩
  by_cases h6' : k = 6
  · subst h6'; exact ⟨none, 0, _, _, none, 0, rfl, z1, Nat.le_refl _, z3, z2, Nat.le_refl _, h6, h7⟩
  by_cases h7' : k = 7
  · subst h7'; exact ⟨none, 0, none, 0, _, _, rfl, z1, Nat.le_refl _, z3, h4, h5, Nat.le_refl _, z4⟩
  simp only [h0, h1', h2', h3', h4', h6', h7', if_false]
  exact ⟨none, 0, none, 0, none, 0, rfl, z1, Nat.le_refl _, z3, z2, Nat.le_refl _, Nat.le_refl _, z4⟩
def eqF : Tm → Tm → Bool
  | .mk k neg d nm n l b, .mk k' neg' d' nm' n' l' b' => decide (k = k') && (neg == neg') && decide (nm.toList = nm'.toList) && decide (n = n') && decide ((d.length : Int) = (d'.length : Int)) && decide ((l.length : Int) = (l'.length : Int)) && ((b.length : Int) == (b'.length : Int))
def leanB (T : Tm) : Bool := eqF T (prT T)
end Go.Proofs.YtgaecjocolihjaaDoor
