/-
  DERIVED. GIVEN WITH THE SEED: THE CARDS: each row of YtgaecjocolihjaaDoorRows.lean that lists a variable, with what it lists TIED to the program's text (the seventh form; the later family's looks); each row that meets fmt, with fmt's text TOLD by the authors' own Lean function (tested against real Go, not proved from fmt's source: count such statements apart). THE CARD IS WHAT COUNTS. Prove the row's statement (the work); the ties are given (YtgaecjocolihjaaDoorTie.lean); close each card by the builder's one call (the guide's Derived/Test/ToyasCard.lean, 'card_holds'). Laid BY PROGRAM, IN A SANDBOX (cutbox-door.mjs). By AI agents, Wed Nov 11 2026. No macro, syntax, notation, axiom, sorry.
-/
import Derived.Test.YtgaecjocolihjaaDoorRows
import GoSem.ClaimSeven
namespace Go.Proofs.YtgaecjocolihjaaDoor
namespace Rows

/-- THE TIED CARD OF 'tenementlaw6.OrderKnown'. -/
def orderKnownCard : Claim7 := { stood := { row := orderKnownRow, standIns := [], harness := (true, "496bcdaf1c91efc49e84a9a5533095b6d75b69c98928f5e0d8eaea2417f08c39"), looks := false }, kinds := [], alts := [], laidByText := true, laidKinds := [.data, .pinned], laidTests := true, laidLooks := .later }
def OrderKnownCardSaid : Prop := Claim7.holds Tryd.pinned (.plain (OpenSpec.ofChange orderKnownSpec)) orderKnownCard

/-- THE TIED CARD OF 'tenementlaw6.OrderPairs'. -/
def orderPairsCard : Claim7 := { stood := { row := orderPairsRow, standIns := [], harness := (true, "496bcdaf1c91efc49e84a9a5533095b6d75b69c98928f5e0d8eaea2417f08c39"), looks := false }, kinds := [], alts := [], laidByText := true, laidKinds := [.data, .pinned], laidTests := true, laidLooks := .later }
def OrderPairsCardSaid : Prop := Claim7.holds Tryd.pinned (.plain (OpenSpec.ofChange orderPairsSpec)) orderPairsCard

/-- THE TIED CARD OF 'tenementlaw6.OrderThree'. -/
def orderThreeCard : Claim7 := { stood := { row := orderThreeRow, standIns := [], harness := (true, "496bcdaf1c91efc49e84a9a5533095b6d75b69c98928f5e0d8eaea2417f08c39"), looks := false }, kinds := [], alts := [], laidByText := true, laidKinds := [.data, .pinned], laidTests := true, laidLooks := .later }
def OrderThreeCardSaid : Prop := Claim7.holds Tryd.pinned (.plain (OpenSpec.ofChange orderThreeSpec)) orderThreeCard

/-- THE TIED CARD OF 'tenementlaw6.OrderSorts'. -/
def orderSortsCard : Claim7 := { stood := { row := orderSortsRow, standIns := [], harness := (true, "496bcdaf1c91efc49e84a9a5533095b6d75b69c98928f5e0d8eaea2417f08c39"), looks := false }, kinds := [], alts := [], laidByText := true, laidKinds := [.data, .pinned], laidTests := true, laidLooks := .later }
def OrderSortsCardSaid : Prop := Claim7.holds Tryd.pinned (.plain (OpenSpec.ofChange orderSortsSpec)) orderSortsCard

/-- THE TIED CARD OF 'tenementlaw6.OrderKinds'. -/
def orderKindsCard : Claim7 := { stood := { row := orderKindsRow, standIns := [], harness := (true, "496bcdaf1c91efc49e84a9a5533095b6d75b69c98928f5e0d8eaea2417f08c39"), looks := false }, kinds := [], alts := [], laidByText := true, laidKinds := [.data, .pinned], laidTests := true, laidLooks := .later }
def OrderKindsCardSaid : Prop := Claim7.holds Tryd.pinned (.plain (OpenSpec.ofChange orderKindsSpec)) orderKindsCard

/-- THE TIED CARD OF 'tenementlaw6.OrderStable'. -/
def orderStableCard : Claim7 := { stood := { row := orderStableRow, standIns := [], harness := (true, "496bcdaf1c91efc49e84a9a5533095b6d75b69c98928f5e0d8eaea2417f08c39"), looks := false }, kinds := [], alts := [], laidByText := true, laidKinds := [.data, .pinned], laidTests := true, laidLooks := .later }
def OrderStableCardSaid : Prop := Claim7.holds Tryd.pinned (.plain (OpenSpec.ofChange orderStableSpec)) orderStableCard

/-- THE SECOND FORM's CARD OF 'tenementlaw6.OrderKnown'. -/
def orderKnownUptoCard : Claim7 := { stood := { row := orderKnownUptoRow, standIns := [], harness := (true, "496bcdaf1c91efc49e84a9a5533095b6d75b69c98928f5e0d8eaea2417f08c39"), looks := false }, kinds := [], alts := [], laidByText := true, laidKinds := [.data, .pinned], laidTests := true, laidLooks := .later }
def OrderKnownUptoCardSaid : Prop := Claim7.holds Tryd.pinned (.plain (OpenSpec.upto orderKnownSpec)) orderKnownUptoCard

/-- THE SECOND FORM's CARD OF 'tenementlaw6.OrderPairs'. -/
def orderPairsUptoCard : Claim7 := { stood := { row := orderPairsUptoRow, standIns := [], harness := (true, "496bcdaf1c91efc49e84a9a5533095b6d75b69c98928f5e0d8eaea2417f08c39"), looks := false }, kinds := [], alts := [], laidByText := true, laidKinds := [.data, .pinned], laidTests := true, laidLooks := .later }
def OrderPairsUptoCardSaid : Prop := Claim7.holds Tryd.pinned (.plain (OpenSpec.upto orderPairsSpec)) orderPairsUptoCard

/-- THE SECOND FORM's CARD OF 'tenementlaw6.OrderThree'. -/
def orderThreeUptoCard : Claim7 := { stood := { row := orderThreeUptoRow, standIns := [], harness := (true, "496bcdaf1c91efc49e84a9a5533095b6d75b69c98928f5e0d8eaea2417f08c39"), looks := false }, kinds := [], alts := [], laidByText := true, laidKinds := [.data, .pinned], laidTests := true, laidLooks := .later }
def OrderThreeUptoCardSaid : Prop := Claim7.holds Tryd.pinned (.plain (OpenSpec.upto orderThreeSpec)) orderThreeUptoCard

/-- THE SECOND FORM's CARD OF 'tenementlaw6.OrderSorts'. -/
def orderSortsUptoCard : Claim7 := { stood := { row := orderSortsUptoRow, standIns := [], harness := (true, "496bcdaf1c91efc49e84a9a5533095b6d75b69c98928f5e0d8eaea2417f08c39"), looks := false }, kinds := [], alts := [], laidByText := true, laidKinds := [.data, .pinned], laidTests := true, laidLooks := .later }
def OrderSortsUptoCardSaid : Prop := Claim7.holds Tryd.pinned (.plain (OpenSpec.upto orderSortsSpec)) orderSortsUptoCard

/-- THE SECOND FORM's CARD OF 'tenementlaw6.OrderKinds'. -/
def orderKindsUptoCard : Claim7 := { stood := { row := orderKindsUptoRow, standIns := [], harness := (true, "496bcdaf1c91efc49e84a9a5533095b6d75b69c98928f5e0d8eaea2417f08c39"), looks := false }, kinds := [], alts := [], laidByText := true, laidKinds := [.data, .pinned], laidTests := true, laidLooks := .later }
def OrderKindsUptoCardSaid : Prop := Claim7.holds Tryd.pinned (.plain (OpenSpec.upto orderKindsSpec)) orderKindsUptoCard

/-- THE SECOND FORM's CARD OF 'tenementlaw6.OrderStable'. -/
def orderStableUptoCard : Claim7 := { stood := { row := orderStableUptoRow, standIns := [], harness := (true, "496bcdaf1c91efc49e84a9a5533095b6d75b69c98928f5e0d8eaea2417f08c39"), looks := false }, kinds := [], alts := [], laidByText := true, laidKinds := [.data, .pinned], laidTests := true, laidLooks := .later }
def OrderStableUptoCardSaid : Prop := Claim7.holds Tryd.pinned (.plain (OpenSpec.upto orderStableSpec)) orderStableUptoCard
end Rows
end Go.Proofs.YtgaecjocolihjaaDoor
