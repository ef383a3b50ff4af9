/- What the listed tables of the library say of memory at the call's begin. -/
import Derived.Test.YtpdoepjnkgffpaaDoorOrdMakers
import Derived.Test.YtpdoepjnkgffpaaDoorTie
import Derived.Test.YtpdoepjnkgffpaaDoorCards
import Derived.PinnedBridge
import Derived.Lib.LaidU8T
import Derived.Lay
import Derived.ProofKit
import Derived.LaidMore
import Derived.SevenTiedAt
namespace Go.Proofs.YtpdoepjnkgffpaaDoor
open Go.ChangeShapes Go.WideShapes Go.ChangeAt Go.RowKit Go.Shelf
set_option linter.unusedSimpArgs false
set_option linter.unusedVariables false
set_option maxRecDepth 2000
theorem x8 : U8Extra Tryd.prog Tryd.lays196_ren := ⟨by kernel_rfl, by kernel_rfl, by kernel_rfl, by kernel_rfl, by kernel_rfl, by kernel_rfl, by kernel_rfl⟩
theorem tabs_of_laid {W : World} (hL : laidMet Tryd.prog Rows.orderKnownRow.laid W) : Tabs W := by
  have h1 := Lib.laidMet.reads hL (n := (Rows.orderKnownRow.laid[1]'(by decide)).1) (d := (Rows.orderKnownRow.laid[1]'(by decide)).2) (List.getElem_mem _)
  have h2 := Lib.laidMet.reads hL (n := (Rows.orderKnownRow.laid[0]'(by decide)).1) (d := (Rows.orderKnownRow.laid[0]'(by decide)).2) (List.getElem_mem _)
  refine utf8Tabs_of_readsT (U8Types.of196 Tryd.lays196) x8 ?_ ?_
  · rw [← Pinned.utf8First_eq]; exact h1
  · rw [show Lib.acceptData = Rows.laid_unicode_utf8_acceptRanges by kernel_rfl]; exact h2
end Go.Proofs.YtpdoepjnkgffpaaDoor
