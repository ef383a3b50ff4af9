/- RunesKnown, walked: it answers true. -/
import Derived.Test.YtppfgcbigohkkaaDoorRunesLaid
import Derived.Test.YtppfgcbigohkkaaDoorRunesUnquote
namespace Go.Proofs.YtppfgcbigohkkaaDoor.runesKnown
open Go.ChangeShapes Go.WideShapes Go.ChangeAt Go.RowKit Go.Shelf
set_option linter.unusedSimpArgs false
set_option linter.unusedVariables false
set_option maxHeartbeats 4000000 in
theorem walk {H : Type} (enc : TypeId × Value → H) (base : Nat) (w : World)
    (hT : Tabs w) :
    Calls Tryd.prog 3 #[] w fun e w' => e = .returned (.bool true) ∧ Below w.heap.size w w' := by
  have q1 : unqQ (⟨#[97, 98, 32, 99]⟩ : ByteArray).data.toList = (0, [97, 98], 2) := by decide +kernel
  have q2 : unqQ (⟨#[39, 97, 98]⟩ : ByteArray).data.toList = (2, [], 0) := by decide +kernel
  have q3 : unqQ (⟨#[65, 98]⟩ : ByteArray).data.toList = (4, [], 0) := by decide +kernel
  have q4 : unqQ (⟨#[39, 97, 92, 120, 52, 49, 59, 92, 92, 39, 120]⟩ : ByteArray).data.toList = (0, [97, 65, 92], 10) := by decide +kernel
  have q5 : lessZ (⟨#[195, 169]⟩ : ByteArray).data.toList (⟨#[122]⟩ : ByteArray).data.toList = 1 := by decide +kernel
  have q6 : reverseL (⟨#[97, 195, 169]⟩ : ByteArray).data.toList = [195, 169, 97] := by decide +kernel
  have q7 : countZ (⟨#[255]⟩ : ByteArray).data.toList = -1 := by decide +kernel
  have q8 : plainB (⟨#[]⟩ : ByteArray).data.toList = false := by decide +kernel
  go_enter Tryd.func3, Tryd.ntmps3
  go_wp2_with fail
  refine (awake_w w hT).mono ?_
  rintro e w1 ⟨rfl, b1⟩
  have hT1 := hT.below b1
  have c1 := unquote_w ⟨#[97, 98, 32, 99]⟩ w1 (by decide) hT1
  rw [q1] at c1
  unfold val3 at c1
  go_wp2_with fail
  refine c1.mono ?_
  rintro e w2 ⟨rfl, b2⟩
  have hT2 := hT1.below b2
  have B2 : Below w.heap.size w w2 := b1.trans (below_le b2 b1.size)
  have c2 := unquote_w ⟨#[39, 97, 98]⟩ w2 (by decide) hT2
  rw [q2] at c2
  unfold val3 at c2
  go_wp2_with fail
  refine c2.mono ?_
  rintro e w3 ⟨rfl, b3⟩
  have hT3 := hT2.below b3
  have B3 : Below w.heap.size w w3 := B2.trans (below_le b3 B2.size)
  have c3 := unquote_w ⟨#[65, 98]⟩ w3 (by decide) hT3
  rw [q3] at c3
  unfold val3 at c3
  go_wp2_with fail
  refine c3.mono ?_
  rintro e w4 ⟨rfl, b4⟩
  have hT4 := hT3.below b4
  have B4 : Below w.heap.size w w4 := B3.trans (below_le b4 B3.size)
  have c4 := unquote_w ⟨#[39, 97, 92, 120, 52, 49, 59, 92, 92, 39, 120]⟩ w4 (by decide) hT4
  rw [q4] at c4
  unfold val3 at c4
  go_wp2_with fail
  refine c4.mono ?_
  rintro e w5 ⟨rfl, b5⟩
  have hT5 := hT4.below b5
  have B5 : Below w.heap.size w w5 := B4.trans (below_le b5 B4.size)
  have c5 := less_w ⟨#[195, 169]⟩ ⟨#[122]⟩ w5 (by decide) (by decide) hT5
  rw [q5] at c5
  go_wp2_with fail
  refine c5.mono ?_
  rintro e w6 ⟨rfl, b6⟩
  have hT6 := hT5.below b6
  have B6 : Below w.heap.size w w6 := B5.trans (below_le b6 B5.size)
  have c6 := reverse_w ⟨#[97, 195, 169]⟩ w6 (by decide) hT6
  rw [q6] at c6
  go_wp2_with fail
  refine c6.mono ?_
  rintro e w7 ⟨rfl, b7⟩
  have hT7 := hT6.below b7
  have B7 : Below w.heap.size w w7 := B6.trans (below_le b7 B6.size)
  have c7 := count_w ⟨#[255]⟩ w7 (by decide) hT7.1
  rw [q7] at c7
  go_wp2_with fail
  refine c7.mono ?_
  rintro e w8 ⟨rfl, b8⟩
  have B8 : Below w.heap.size w w8 := B7.trans (below_le b8 B7.size)
  have c8 := plain_w ⟨#[]⟩ w8
  rw [q8] at c8
  go_wp2_with fail
  refine c8.mono ?_
  rintro e w9 ⟨rfl, b9⟩
  go_wp2
  go_ret
  exact ⟨rfl, B8.trans (below_le b9 B8.size)⟩
end Go.Proofs.YtppfgcbigohkkaaDoor.runesKnown
