/- What the listed tables of the library say of memory at the call's begin. -/
import Derived.Test.YtppfgcbigohkkaaDoorRunesAwake
import Derived.Test.YtppfgcbigohkkaaDoorTie
import Derived.Test.YtppfgcbigohkkaaDoorCards
import Derived.PinnedBridge
import Derived.Lib.LaidU8T
import Derived.Lay
import Derived.ProofKit
import Derived.LaidMore
import Derived.SevenTiedAt
namespace Go.Proofs.YtppfgcbigohkkaaDoor
open Go.ChangeShapes Go.WideShapes Go.ChangeAt Go.RowKit Go.Shelf
set_option linter.unusedSimpArgs false
set_option linter.unusedVariables false
theorem x8 : U8Extra Tryd.prog Tryd.lays196_ren := ⟨by kernel_rfl, by kernel_rfl, by kernel_rfl, by kernel_rfl, by kernel_rfl, by kernel_rfl, by kernel_rfl⟩
theorem tabs_of_laid {W : World} (hL : laidMet Tryd.prog Rows.runesKnownRow.laid W) : Tabs W := by
  have h1 := Lib.laidMet.reads hL (n := (Rows.runesKnownRow.laid[4]'(by decide)).1) (d := (Rows.runesKnownRow.laid[4]'(by decide)).2) (List.getElem_mem _)
  have h2 := Lib.laidMet.reads hL (n := (Rows.runesKnownRow.laid[3]'(by decide)).1) (d := (Rows.runesKnownRow.laid[3]'(by decide)).2) (List.getElem_mem _)
  have h3 := Lib.laidMet.reads hL (n := (Rows.runesKnownRow.laid[1]'(by decide)).1) (d := (Rows.runesKnownRow.laid[1]'(by decide)).2) (List.getElem_mem _)
  refine ⟨?_, ?_⟩
  · refine utf8Tabs_of_readsT (U8Types.of196 Tryd.lays196) x8 ?_ ?_
    · rw [← Pinned.utf8First_eq]; exact h1
    · rw [show Lib.acceptData = Rows.laid_unicode_utf8_acceptRanges by kernel_rfl]; exact h2
  · intro j hj
    obtain ⟨g, t, cs, fuel, p, hg, hty, hvar, hd⟩ := h3
    have hg5 : Tryd.prog.globalNamed (Rows.runesKnownRow.laid[1]'(by decide)).1 = some 5 := by kernel_rfl
    obtain rfl := Option.some.inj (hg5.symm.trans hg)
    have hty5 : (Tryd.prog.globals[5]?).map (·.type) = some 94 := by kernel_rfl
    obtain rfl := Option.some.inj (hty5.symm.trans hty)
    have hd' : DataW.trod (fun _ => ()) Tryd.prog W 0 (fun _ => true) false fuel 94 cs.toList = some (Lib.tabData .u8 (Lib.deBruijn64tab.map fun (n : Nat) => (n : Int)), p) := by
      rw [show (Lib.tabData .u8 (Lib.deBruijn64tab.map fun (n : Nat) => (n : Int)) : DataW Unit) = Rows.laid_math_bits_deBruijn64tab by kernel_rfl]; exact hd
    have hcs := Lib.cells_of_tab Tryd.underlying94 Tryd.underlying5 (by kernel_rfl) (by kernel_rfl) hd'
    have := World.var?_cell hg hvar j
    rw [this, ← Array.getElem?_toList, hcs]
    simp [hj]
end Go.Proofs.YtppfgcbigohkkaaDoor
