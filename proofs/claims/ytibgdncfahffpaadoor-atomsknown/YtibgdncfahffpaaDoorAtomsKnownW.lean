/- AtomsKnown, walked: it answers true. -/
import Derived.Test.YtibgdncfahffpaaDoorAtomsLaid
import Derived.Test.YtibgdncfahffpaaDoorAtomsAwake
namespace Go.Proofs.YtibgdncfahffpaaDoor.atomsKnown
open Go.ChangeShapes Go.WideShapes Go.ChangeAt Go.RowKit Go.Maps Go.Shelf
set_option linter.unusedSimpArgs false
set_option linter.unusedVariables false
abbrev sF : ByteArray := ⟨#[255]⟩
abbrev sE : ByteArray := ⟨#[195, 169]⟩
set_option maxHeartbeats 2000000 in
theorem walk {H : Type} (enc : TypeId × Value → H) (base : Nat) (w : World)
    (hT : Tabs w) :
    Calls Tryd.prog 3 #[] w fun e w' => e = .returned (.bool true) ∧ Below w.heap.size w w' := by
  have qf : faultZ sF.data.toList = 4 := by decide +kernel
  have qe : faultZ sE.data.toList = 0 := by decide +kernel
  have n1 : putN [] sF = 0 := by decide +kernel
  have l1 : putL [] sF = [] := by decide +kernel
  have n2 : putN [] sE = 0 := by decide +kernel
  have l2 : putL [] sE = [sE] := by decide +kernel
  have e1 : nameS [] 0 = ByteArray.empty := by decide +kernel
  have e2 : nameB [] 0 = false := by decide +kernel
  have e3 : nameS [sE] 0 = sE := by decide +kernel
  have e4 : nameB [sE] 0 = true := by decide +kernel
  have e5 : findN [sE] sE = 0 := by decide +kernel
  have e6 : findB [sE] sE = true := by decide +kernel
  go_enter Tryd.func3, Tryd.ntmps3
  go_wp2_with fail
  refine (awake_w w hT).mono ?_
  rintro e w0 ⟨rfl, b0⟩
  have hT0 := hT.below b0
  go_wp2_with fail
  refine (new_w w0).mono ?_
  rintro e w1 ⟨rfl, t1, s1, b1⟩
  have hT1 := hT0.below b1
  have c1 := put_w _ _ [] sF w1 (by decide) (by decide) t1 hT1
  rw [qf, n1, l1] at c1
  go_wp2_with fail
  refine c1.mono ?_
  rintro e w2 ⟨rfl, F2, t2, k2, f2⟩
  have B2 : Below w0.heap.size w0 w2 := b1.trans (k2.below b1.size (fun k h => by omega))
  have hT2 := hT0.below B2
  have G2 : ∀ k, F2 k → w0.heap.size ≤ k := fun k h => by rcases f2 k h with h | h <;> omega
  have c2 := name_w _ _ [] 0 w2 t2
  rw [e1, e2] at c2
  go_wp2_with fail
  refine c2.mono ?_
  rintro e w3 ⟨rfl, rfl⟩
  have c3 := put_w _ _ [] sE w2 (by decide) (by decide) t2 hT2
  rw [qe, n2, l2] at c3
  go_wp2_with fail
  refine c3.mono ?_
  rintro e w3 ⟨rfl, F3, t3, k3, f3⟩
  have B3 : Below w0.heap.size w0 w3 := B2.trans (k3.below B2.size G2)
  have c4 := name_w _ _ [sE] 0 w3 t3
  rw [e3, e4] at c4
  go_wp2_with fail
  refine c4.mono ?_
  rintro e w4 ⟨rfl, rfl⟩
  have c5 := find_w _ _ [sE] sE w3 (by decide) t3
  rw [e5, e6] at c5
  go_wp2_with fail
  refine c5.mono ?_
  rintro e w4 ⟨rfl, rfl⟩
  go_wp2
  go_ret
  exact ⟨rfl, b0.trans (below_le B3 b0.size)⟩
end Go.Proofs.YtibgdncfahffpaaDoor.atomsKnown
