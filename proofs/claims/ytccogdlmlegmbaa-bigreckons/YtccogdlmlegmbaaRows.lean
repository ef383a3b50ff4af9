/-
  No cell of these rows narrows 'for every input' (looked for: loops, veiled, ifaces, maps, wideKeys, modest, calm, conditions, laid).
  DERIVED. THE GIVEN ROWS OF THIS SEAT. 6 by the template 'for every input the law returns true; each argument reads behind the call as it read before'; 0 by the template 'total and deterministic' (their statements: YtccogdlmlegmbaaTotals.lean).
  GIVEN WITH THE SEED: the statements are not yours to turn. If you find one false, say at which input.
  Laid BY PROGRAM, IN A SANDBOX (cutbox-rows.mjs): the forced cells as the released guide's own fill.sh prints them over the translation a08f81959805d3a0… (all of the seat's roots in one cut). By AI agents, Wed Nov 11 2026. No macro, syntax, notation, axiom, sorry.
-/
import Derived.Test.YtccogdlmlegmbaaChecked
import GoSem.Claim
import GoSem.ClaimJoined
import GoSem.ClaimMapViews
import Derived.JoinedTies
import Derived.KernelRfl
namespace Go.Proofs.Ytccogdlmlegmbaa
/- THE CELL 'sum', in the pinned program and in every row, IS THE sha256 OF THE DUMP (.gsa) THAT YtccogdlmlegmbaaProg.lean LOADS. Nothing in Lean hashes anything: it is a label: what it is worth is what the hold of that sum in a sandbox is worth. -/
noncomputable def Try.pinned : Pinned := { name := "ytccogdlmlegmbaa", sum := "a08f81959805d3a08e74a2f48c11fea45f14ae99f07777aae21fa70ad1947b72", checked := Try.checked }
namespace Rows
def none {H : Type} : Left H := { results := [], args := [] }

/-- 'tenementlaw3.BigKnown': WHATEVER THE INPUT: true; the input reads as it did. -/
def bigKnownSpec : ChangeSpec := { name := "bigKnown", fn := fun _ => fun
  | [] => { results := [.lit (.bool true)], args := [] }
  | _ => none }
def bigKnownRow : OpenClaim := { program := "ytccogdlmlegmbaa", sum := "a08f81959805d3a08e74a2f48c11fea45f14ae99f07777aae21fa70ad1947b72", func := "tenement/tenementlaw3.BigKnown", spec := "bigKnown", apart := false }
def BigKnownSaid : Prop := bigKnownRow.holds Try.pinned (OpenSpec.ofChange bigKnownSpec)

/-- ITS FALSE NEIGHBOUR: 'it returns false'. Refute it at one input. -/
def bigKnownWrong : ChangeSpec := { name := "bigKnown", fn := fun _ => fun
  | [] => { results := [.lit (.bool false)], args := [] }
  | _ => none }
def BigKnownWrongFalsely : Prop := bigKnownRow.holds Try.pinned (OpenSpec.ofChange bigKnownWrong)

/-- 'tenementlaw3.BigReckons': WHATEVER THE INPUT: true; the input reads as it did. -/
def bigReckonsSpec : ChangeSpec := { name := "bigReckons", fn := fun _ => fun
  | [d1, d2] => { results := [.lit (.bool true)], args := [d1, d2] }
  | _ => none }
def bigReckonsRow : OpenClaim := { program := "ytccogdlmlegmbaa", sum := "a08f81959805d3a08e74a2f48c11fea45f14ae99f07777aae21fa70ad1947b72", func := "tenement/tenementlaw3.BigReckons", spec := "bigReckons", apart := false }
def BigReckonsSaid : Prop := bigReckonsRow.holds Try.pinned (OpenSpec.ofChange bigReckonsSpec)

/-- ITS FALSE NEIGHBOUR: 'it returns false'. Refute it at one input. -/
def bigReckonsWrong : ChangeSpec := { name := "bigReckons", fn := fun _ => fun
  | [d1, d2] => { results := [.lit (.bool false)], args := [d1, d2] }
  | _ => none }
def BigReckonsWrongFalsely : Prop := bigReckonsRow.holds Try.pinned (OpenSpec.ofChange bigReckonsWrong)

/-- 'tenementlaw3.BigTexts': WHATEVER THE INPUT: true; the input reads as it did. -/
def bigTextsSpec : ChangeSpec := { name := "bigTexts", fn := fun _ => fun
  | [d1, d2, d3] => { results := [.lit (.bool true)], args := [d1, d2, d3] }
  | _ => none }
def bigTextsRow : OpenClaim := { program := "ytccogdlmlegmbaa", sum := "a08f81959805d3a08e74a2f48c11fea45f14ae99f07777aae21fa70ad1947b72", func := "tenement/tenementlaw3.BigTexts", spec := "bigTexts", apart := false }
def BigTextsSaid : Prop := bigTextsRow.holds Try.pinned (OpenSpec.ofChange bigTextsSpec)

/-- ITS FALSE NEIGHBOUR: 'it returns false'. Refute it at one input. -/
def bigTextsWrong : ChangeSpec := { name := "bigTexts", fn := fun _ => fun
  | [d1, d2, d3] => { results := [.lit (.bool false)], args := [d1, d2, d3] }
  | _ => none }
def BigTextsWrongFalsely : Prop := bigTextsRow.holds Try.pinned (OpenSpec.ofChange bigTextsWrong)

/-- 'tenementlaw3.BigRules': WHATEVER THE INPUT: true; the input reads as it did. -/
def bigRulesSpec : ChangeSpec := { name := "bigRules", fn := fun _ => fun
  | [d1, d2, d3] => { results := [.lit (.bool true)], args := [d1, d2, d3] }
  | _ => none }
def bigRulesRow : OpenClaim := { program := "ytccogdlmlegmbaa", sum := "a08f81959805d3a08e74a2f48c11fea45f14ae99f07777aae21fa70ad1947b72", func := "tenement/tenementlaw3.BigRules", spec := "bigRules", apart := false }
def BigRulesSaid : Prop := bigRulesRow.holds Try.pinned (OpenSpec.ofChange bigRulesSpec)

/-- ITS FALSE NEIGHBOUR: 'it returns false'. Refute it at one input. -/
def bigRulesWrong : ChangeSpec := { name := "bigRules", fn := fun _ => fun
  | [d1, d2, d3] => { results := [.lit (.bool false)], args := [d1, d2, d3] }
  | _ => none }
def BigRulesWrongFalsely : Prop := bigRulesRow.holds Try.pinned (OpenSpec.ofChange bigRulesWrong)

/-- 'tenementlaw3.BigSmalls': WHATEVER THE INPUT: true; the input reads as it did. -/
def bigSmallsSpec : ChangeSpec := { name := "bigSmalls", fn := fun _ => fun
  | [d1, d2] => { results := [.lit (.bool true)], args := [d1, d2] }
  | _ => none }
def bigSmallsRow : OpenClaim := { program := "ytccogdlmlegmbaa", sum := "a08f81959805d3a08e74a2f48c11fea45f14ae99f07777aae21fa70ad1947b72", func := "tenement/tenementlaw3.BigSmalls", spec := "bigSmalls", apart := false }
def BigSmallsSaid : Prop := bigSmallsRow.holds Try.pinned (OpenSpec.ofChange bigSmallsSpec)

/-- ITS FALSE NEIGHBOUR: 'it returns false'. Refute it at one input. -/
def bigSmallsWrong : ChangeSpec := { name := "bigSmalls", fn := fun _ => fun
  | [d1, d2] => { results := [.lit (.bool false)], args := [d1, d2] }
  | _ => none }
def BigSmallsWrongFalsely : Prop := bigSmallsRow.holds Try.pinned (OpenSpec.ofChange bigSmallsWrong)

/-- 'tenementlaw3.BigPowers': WHATEVER THE INPUT: true; the input reads as it did. -/
def bigPowersSpec : ChangeSpec := { name := "bigPowers", fn := fun _ => fun
  | [d1, d2] => { results := [.lit (.bool true)], args := [d1, d2] }
  | _ => none }
def bigPowersRow : OpenClaim := { program := "ytccogdlmlegmbaa", sum := "a08f81959805d3a08e74a2f48c11fea45f14ae99f07777aae21fa70ad1947b72", func := "tenement/tenementlaw3.BigPowers", spec := "bigPowers", apart := false }
def BigPowersSaid : Prop := bigPowersRow.holds Try.pinned (OpenSpec.ofChange bigPowersSpec)

/-- ITS FALSE NEIGHBOUR: 'it returns false'. Refute it at one input. -/
def bigPowersWrong : ChangeSpec := { name := "bigPowers", fn := fun _ => fun
  | [d1, d2] => { results := [.lit (.bool false)], args := [d1, d2] }
  | _ => none }
def BigPowersWrongFalsely : Prop := bigPowersRow.holds Try.pinned (OpenSpec.ofChange bigPowersWrong)

/- THE SECOND FORM. 'bulk': how many values and letters a reading holds, each counted each time it is reached (what is shared counts as often as it is met; a slice's spare places count too). A statement '..UptoSaid' is the law's where the arguments, and the package variables that the reading takes, are together of bulk at most 1048576: NARROWER than '..Said'. Prove '..Said' where nothing that the law and all that it calls make is longer than what came in: it says more and counts as full. Else prove '..UptoSaid'. A law counts once. -/
mutual
def uptoBulk {H : Type} : DataW H → Nat
  | .lit (.string bytes) => bytes.length + 1
  | .lit _ => 1
  | .nil => 1
  | .ptr d => uptoBulk d + 1
  | .slice elems spare => uptoBulkAll elems + uptoBulkAll spare + 1
  | .agg parts => uptoBulkAll parts + 1
  | .iface _ d => uptoBulk d + 1
  | .map entries => uptoBulkEntries entries + 1
  | .held _ => 1
def uptoBulkAll {H : Type} : List (DataW H) → Nat
  | [] => 0
  | d :: r => uptoBulk d + uptoBulkAll r
def uptoBulkEntries {H : Type} : List (Lit × DataW H) → Nat
  | [] => 0
  | x :: r => uptoBulkEntry x + uptoBulkEntries r
def uptoBulkEntry {H : Type} : Lit × DataW H → Nat
  | (.string bytes, d) => bytes.length + uptoBulk d + 1
  | (_, d) => uptoBulk d + 1
 end
def uptoSmall : (H : Type) → List (DataW H) → Bool := fun _ ds => decide (uptoBulkAll ds ≤ 1048576)
def OpenSpec.upto (s : _root_.Go.ChangeSpec) : _root_.Go.OpenSpec := { _root_.Go.OpenSpec.ofChange s with cond := some uptoSmall }

/-- 'tenementlaw3.BigKnown', WHERE WHAT IT READS IS OF BULK AT MOST 1048576: true; the input reads as it did. -/
def bigKnownUptoRow : OpenClaim := { program := "ytccogdlmlegmbaa", sum := "a08f81959805d3a08e74a2f48c11fea45f14ae99f07777aae21fa70ad1947b72", func := "tenement/tenementlaw3.BigKnown", spec := "bigKnown", apart := false, narrowed := true }
def BigKnownUptoSaid : Prop := bigKnownUptoRow.holds Try.pinned (OpenSpec.upto bigKnownSpec)

/-- 'tenementlaw3.BigReckons', WHERE WHAT IT READS IS OF BULK AT MOST 1048576: true; the input reads as it did. -/
def bigReckonsUptoRow : OpenClaim := { program := "ytccogdlmlegmbaa", sum := "a08f81959805d3a08e74a2f48c11fea45f14ae99f07777aae21fa70ad1947b72", func := "tenement/tenementlaw3.BigReckons", spec := "bigReckons", apart := false, narrowed := true }
def BigReckonsUptoSaid : Prop := bigReckonsUptoRow.holds Try.pinned (OpenSpec.upto bigReckonsSpec)

/-- 'tenementlaw3.BigTexts', WHERE WHAT IT READS IS OF BULK AT MOST 1048576: true; the input reads as it did. -/
def bigTextsUptoRow : OpenClaim := { program := "ytccogdlmlegmbaa", sum := "a08f81959805d3a08e74a2f48c11fea45f14ae99f07777aae21fa70ad1947b72", func := "tenement/tenementlaw3.BigTexts", spec := "bigTexts", apart := false, narrowed := true }
def BigTextsUptoSaid : Prop := bigTextsUptoRow.holds Try.pinned (OpenSpec.upto bigTextsSpec)

/-- 'tenementlaw3.BigRules', WHERE WHAT IT READS IS OF BULK AT MOST 1048576: true; the input reads as it did. -/
def bigRulesUptoRow : OpenClaim := { program := "ytccogdlmlegmbaa", sum := "a08f81959805d3a08e74a2f48c11fea45f14ae99f07777aae21fa70ad1947b72", func := "tenement/tenementlaw3.BigRules", spec := "bigRules", apart := false, narrowed := true }
def BigRulesUptoSaid : Prop := bigRulesUptoRow.holds Try.pinned (OpenSpec.upto bigRulesSpec)

/-- 'tenementlaw3.BigSmalls', WHERE WHAT IT READS IS OF BULK AT MOST 1048576: true; the input reads as it did. -/
def bigSmallsUptoRow : OpenClaim := { program := "ytccogdlmlegmbaa", sum := "a08f81959805d3a08e74a2f48c11fea45f14ae99f07777aae21fa70ad1947b72", func := "tenement/tenementlaw3.BigSmalls", spec := "bigSmalls", apart := false, narrowed := true }
def BigSmallsUptoSaid : Prop := bigSmallsUptoRow.holds Try.pinned (OpenSpec.upto bigSmallsSpec)

/-- 'tenementlaw3.BigPowers', WHERE WHAT IT READS IS OF BULK AT MOST 1048576: true; the input reads as it did. -/
def bigPowersUptoRow : OpenClaim := { program := "ytccogdlmlegmbaa", sum := "a08f81959805d3a08e74a2f48c11fea45f14ae99f07777aae21fa70ad1947b72", func := "tenement/tenementlaw3.BigPowers", spec := "bigPowers", apart := false, narrowed := true }
def BigPowersUptoSaid : Prop := bigPowersUptoRow.holds Try.pinned (OpenSpec.upto bigPowersSpec)

end Rows
end Go.Proofs.Ytccogdlmlegmbaa
