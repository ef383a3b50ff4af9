/- The first sentence of each statement about package runes. -/
import Derived.Test.YtppfgcbigohkkaaDoorRunesLess
namespace Go.Proofs.YtppfgcbigohkkaaDoor
open Go.ChangeShapes Go.WideShapes Go.ChangeAt Go.RowKit Go.Shelf
set_option linter.unusedSimpArgs false
set_option linter.unusedVariables false
theorem bytes_eq (s : ByteArray) : (⟨s.data.toList.toArray⟩ : ByteArray) = s := by cases s; simp
set_option maxHeartbeats 1000000 in
theorem awake_w (w : World) (hT : Tabs w) :
    Calls Tryd.prog 9 #[] w fun e w' => e = .returned (.bool true) ∧ Below w.heap.size w w' := by
  have q1 : quoteL (⟨#[73, 116, 39, 115]⟩ : ByteArray).data.toList = [39, 73, 116, 92, 39, 115, 39] := by decide +kernel
  have q2 : countZ (⟨#[195, 169]⟩ : ByteArray).data.toList = 1 := by decide +kernel
  have q3 : plainB (⟨#[111, 107]⟩ : ByteArray).data.toList = true := by decide +kernel
  have c1 := quote_w ⟨#[73, 116, 39, 115]⟩ w (by decide) hT
  rw [q1] at c1
  go_enter Tryd.func9, Tryd.ntmps9
  go_wp2_with fail
  refine c1.mono ?_
  rintro e w1 ⟨rfl, b1⟩
  have hT1 := hT.below b1
  have c2 := count_w ⟨#[195, 169]⟩ w1 (by decide) hT1.1
  rw [q2] at c2
  go_wp2_with fail
  refine c2.mono ?_
  rintro e w2 ⟨rfl, b2⟩
  have c3 := plain_w ⟨#[111, 107]⟩ w2
  rw [q3] at c3
  go_wp2_with fail
  refine c3.mono ?_
  rintro e w3 ⟨rfl, b3⟩
  go_wp2
  go_ret
  exact ⟨rfl, (b1.trans (below_le b2 b1.size)).trans (below_le b3 (by have := b1.size; have := b2.size; omega))⟩
end Go.Proofs.YtppfgcbigohkkaaDoor
