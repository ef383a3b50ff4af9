/- Tuple, Bin, Cons, Pid, Ref of package term. -/
import Derived.Test.YtpdoepjnkgffpaaDoorTermSmallAll
namespace Go.Proofs.YtpdoepjnkgffpaaDoor
open Go.ChangeShapes Go.WideShapes Go.ChangeAt Go.RowKit Go.Shelf
set_option linter.unusedSimpArgs false
set_option linter.unusedVariables false
set_option maxRecDepth 2000
def tupT (l : List Tm) : Tm := .mk 4 false [] noS 0 l []
def binT (b : List Nat) : Tm := .mk 7 false [] noS 0 [] b
def numT (k n : Int) : Tm := .mk k false [] noS n [] []
theorem tv_tup {w : World} {ls : List Tm} {o : Option Addr} {c : Nat} (h : TR (Low w) w ls o) (hc : ls.length ≤ c) : TV (Low w) w (tupT ls) (tmV 4 false nilS noS 0 (.slice o ls.length c) nilS) := by
  unfold tupT TV
  exact ⟨none, 0, o, c, none, 0, rfl, Ls.nil _ _ _, by simp, Lm.nil _, LsB.nil _ _ _, by simp, hc, h⟩
theorem tv_bin {w : World} {b : List Nat} {o : Option Addr} {c : Nat} (h : LsB (Low w) o b w) (hc : b.length ≤ c) : TV (Low w) w (binT b) (tmV 7 false nilS noS 0 nilS (.slice o b.length c)) := by
  unfold binT TV
  exact ⟨none, 0, none, 0, o, c, rfl, Ls.nil _ _ _, by simp, Lm.nil _, h, hc, by simp, by unfold TR; trivial⟩
theorem parts_tup (l : List Tm) : parts (tupT l) = tupT l :: partsL l := by simp [tupT, parts]
theorem parts_bin (b : List Nat) : parts (binT b) = [binT b] := by simp [binT, parts]
theorem cpT_tup (l : List Tm) : cpT (tupT l) = tupT (cpL l) := by simp [tupT, cpT]
theorem cpT_bin (b : List Nat) : cpT (binT b) = binT b := by simp [binT, cpT, prT]
theorem cpT_cons (a b : Tm) : cpT (consT a b) = consT (cpT a) (cpT b) := by simp [consT, cpT, cpL]
end Go.Proofs.YtpdoepjnkgffpaaDoor
