/-
  DERIVED. GIVEN WITH THE SEED: THE CARDS: each row of YtpdoepjnkgffpaaDoorRows.lean that lists a variable, with what it lists TIED to the program's text (the seventh form; the later family's looks); each row that meets fmt, with fmt's text TOLD by the authors' own Lean function (tested against real Go, not proved from fmt's source: count such statements apart). THE CARD IS WHAT COUNTS. Prove the row's statement (the work); the ties are given (YtpdoepjnkgffpaaDoorTie.lean); close each card by the builder's one call (the guide's Derived/Test/ToyasCard.lean, 'card_holds'). Laid BY PROGRAM, IN A SANDBOX (cutbox-door.mjs). By AI agents, Wed Nov 11 2026. No macro, syntax, notation, axiom, sorry.
-/
import Derived.Test.YtpdoepjnkgffpaaDoorRows
import GoSem.ClaimSeven
namespace Go.Proofs.YtpdoepjnkgffpaaDoor
namespace Rows

/-- THE TIED CARD OF 'tenementlaw6.OrderStable'. -/
def orderStableCard : Claim7 := { stood := { row := orderStableRow, standIns := [], harness := (true, "567da4c93d76e9db62acbd10830ca98506ef0db151e533316cfc5b1cc394ff34"), looks := false }, kinds := [], alts := [], laidByText := true, laidKinds := [.data, .pinned], laidTests := true, laidLooks := .later }
def OrderStableCardSaid : Prop := Claim7.holds Tryd.pinned (.plain (OpenSpec.ofChange orderStableSpec)) orderStableCard

/-- THE TIED CARD OF 'tenementlaw6.OrderSorts'. -/
def orderSortsCard : Claim7 := { stood := { row := orderSortsRow, standIns := [], harness := (true, "567da4c93d76e9db62acbd10830ca98506ef0db151e533316cfc5b1cc394ff34"), looks := false }, kinds := [], alts := [], laidByText := true, laidKinds := [.data, .pinned], laidTests := true, laidLooks := .later }
def OrderSortsCardSaid : Prop := Claim7.holds Tryd.pinned (.plain (OpenSpec.ofChange orderSortsSpec)) orderSortsCard

/-- THE TIED CARD OF 'tenementlaw6.OrderKnown'. -/
def orderKnownCard : Claim7 := { stood := { row := orderKnownRow, standIns := [], harness := (true, "567da4c93d76e9db62acbd10830ca98506ef0db151e533316cfc5b1cc394ff34"), looks := false }, kinds := [], alts := [], laidByText := true, laidKinds := [.data, .pinned], laidTests := true, laidLooks := .later }
def OrderKnownCardSaid : Prop := Claim7.holds Tryd.pinned (.plain (OpenSpec.ofChange orderKnownSpec)) orderKnownCard

/-- THE TIED CARD OF 'tenementlaw5.TermSame'. -/
def termSameCard : Claim7 := { stood := { row := termSameRow, standIns := [], harness := (true, "567da4c93d76e9db62acbd10830ca98506ef0db151e533316cfc5b1cc394ff34"), looks := false }, kinds := [], alts := [], laidByText := true, laidKinds := [.data, .pinned], laidTests := true, laidLooks := .later }
def TermSameCardSaid : Prop := Claim7.holds Tryd.pinned (.plain (OpenSpec.ofChange termSameSpec)) termSameCard

/-- THE SECOND FORM's CARD OF 'tenementlaw6.OrderStable'. -/
def orderStableUptoCard : Claim7 := { stood := { row := orderStableUptoRow, standIns := [], harness := (true, "567da4c93d76e9db62acbd10830ca98506ef0db151e533316cfc5b1cc394ff34"), looks := false }, kinds := [], alts := [], laidByText := true, laidKinds := [.data, .pinned], laidTests := true, laidLooks := .later }
def OrderStableUptoCardSaid : Prop := Claim7.holds Tryd.pinned (.plain (OpenSpec.upto orderStableSpec)) orderStableUptoCard

/-- THE SECOND FORM's CARD OF 'tenementlaw6.OrderSorts'. -/
def orderSortsUptoCard : Claim7 := { stood := { row := orderSortsUptoRow, standIns := [], harness := (true, "567da4c93d76e9db62acbd10830ca98506ef0db151e533316cfc5b1cc394ff34"), looks := false }, kinds := [], alts := [], laidByText := true, laidKinds := [.data, .pinned], laidTests := true, laidLooks := .later }
def OrderSortsUptoCardSaid : Prop := Claim7.holds Tryd.pinned (.plain (OpenSpec.upto orderSortsSpec)) orderSortsUptoCard

/-- THE SECOND FORM's CARD OF 'tenementlaw6.OrderKnown'. -/
def orderKnownUptoCard : Claim7 := { stood := { row := orderKnownUptoRow, standIns := [], harness := (true, "567da4c93d76e9db62acbd10830ca98506ef0db151e533316cfc5b1cc394ff34"), looks := false }, kinds := [], alts := [], laidByText := true, laidKinds := [.data, .pinned], laidTests := true, laidLooks := .later }
def OrderKnownUptoCardSaid : Prop := Claim7.holds Tryd.pinned (.plain (OpenSpec.upto orderKnownSpec)) orderKnownUptoCard

/-- THE SECOND FORM's CARD OF 'tenementlaw5.TermSame'. -/
def termSameUptoCard : Claim7 := { stood := { row := termSameUptoRow, standIns := [], harness := (true, "567da4c93d76e9db62acbd10830ca98506ef0db151e533316cfc5b1cc394ff34"), looks := false }, kinds := [], alts := [], laidByText := true, laidKinds := [.data, .pinned], laidTests := true, laidLooks := .later }
def TermSameUptoCardSaid : Prop := Claim7.holds Tryd.pinned (.plain (OpenSpec.upto termSameSpec)) termSameUptoCard
end Rows
end Go.Proofs.YtpdoepjnkgffpaaDoor
