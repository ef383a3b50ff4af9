/- The first sentence of each statement about package atoms. -/
import Derived.Test.YtibgdncfahffpaaDoorAtomsRPut
namespace Go.Proofs.YtibgdncfahffpaaDoor
open Go.ChangeShapes Go.WideShapes Go.ChangeAt Go.RowKit Go.Maps Go.Shelf
set_option linter.unusedSimpArgs false
set_option linter.unusedVariables false
abbrev sA : ByteArray := ⟨#[97]⟩
abbrev sB : ByteArray := ⟨#[98]⟩
set_option maxHeartbeats 1000000 in
theorem awake_w (w : World) (hT : Tabs w) :
    Calls Tryd.prog 6 #[] w fun e w' => e = .returned (.bool true) ∧ Below w.heap.size w w' := by
  have qa : faultZ sA.data.toList = 0 := by decide +kernel
  have qb : faultZ sB.data.toList = 0 := by decide +kernel
  have n1 : putN [] sA = 0 := by decide +kernel
  have l1 : putL [] sA = [sA] := by decide +kernel
  have n2 : putN [sA] sB = 1 := by decide +kernel
  have l2 : putL [sA] sB = [sA, sB] := by decide +kernel
  have n3 : putN [sA, sB] sA = 0 := by decide +kernel
  have l3 : putL [sA, sB] sA = [sA, sB] := by decide +kernel
  go_enter Tryd.func6, Tryd.ntmps6
  go_wp2_with fail
  refine (new_w w).mono ?_
  rintro e w1 ⟨rfl, t1, s1, b1⟩
  have hT1 := hT.below b1
  have c1 := put_w _ _ [] sA w1 (by decide) (by decide) t1 hT1
  rw [qa, n1, l1] at c1
  go_wp2_with fail
  refine c1.mono ?_
  rintro e w2 ⟨rfl, F2, t2, k2, f2⟩
  have B2 : Below w.heap.size w w2 := b1.trans (k2.below b1.size (fun k h => by omega))
  have hT2 := hT.below B2
  have G2 : ∀ k, F2 k → w.heap.size ≤ k := fun k h => by rcases f2 k h with h | h <;> omega
  have c2 := put_w _ _ [sA] sB w2 (by decide) (by decide) t2 hT2
  rw [qb, n2, l2] at c2
  go_wp2_with fail
  refine c2.mono ?_
  rintro e w3 ⟨rfl, F3, t3, k3, f3⟩
  have B3 : Below w.heap.size w w3 := B2.trans (k3.below B2.size G2)
  have hT3 := hT.below B3
  have G3 : ∀ k, F3 k → w.heap.size ≤ k := fun k h => by
    rcases f3 k h with h | h
    · exact G2 k h
    · have := B2.size; omega
  have c3 := put_w _ _ [sA, sB] sA w3 (by decide) (by decide) t3 hT3
  rw [qa, n3, l3] at c3
  go_wp2_with fail
  refine c3.mono ?_
  rintro e w4 ⟨rfl, F4, t4, k4, f4⟩
  have B4 : Below w.heap.size w w4 := B3.trans (k4.below B3.size G3)
  go_wp2_with fail
  refine (len_w _ _ _ w4 t4).mono ?_
  rintro e w5 ⟨rfl, rfl⟩
  go_wp2
  go_ret
  exact ⟨rfl, B4⟩
end Go.Proofs.YtibgdncfahffpaaDoor
