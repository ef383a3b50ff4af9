/- Texts of mine, one behind the other: BigSmall2, BigRSmall. -/
import Derived.Test.YtgaecjocolihjaaDoorTermBigA
namespace Go.Proofs.YtgaecjocolihjaaDoor
open Go.ChangeShapes Go.WideShapes Go.ChangeAt Go.RowKit
set_option linter.unusedSimpArgs false
set_option linter.unusedVariables false
/-- is it small, and which -/
def smlB (Z : Int) : Bool := decide (-576460752303423488 ≤ Z) && decide (Z < 576460752303423488)
def smlN (Z : Int) : Int := if smlB Z then Z else 0
theorem sml_yes {Z : Int} (h0 : -576460752303423488 ≤ Z) (h1 : Z < 576460752303423488) : smlB Z = true ∧ smlN Z = Z := by
  have : smlB Z = true := by simp [smlB, h0, h1]
  exact ⟨this, by simp [smlN, this]⟩
theorem sml_no {Z : Int} (h : ¬ (-576460752303423488 ≤ Z ∧ Z < 576460752303423488)) : smlB Z = false ∧ smlN Z = 0 := by
  have : smlB Z = false := by
    simp only [smlB, Bool.and_eq_false_iff, decide_eq_false_iff_not]
    omega
  exact ⟨this, by simp [smlN, this]⟩
theorem sml_long {Z : Int} (h : ¬ (glim 4294967296 Z.natAbs).length ≤ 2) : smlB Z = false ∧ smlN Z = 0 := by
  refine sml_no (fun e => h ((glim_len (by omega) _ _).2 ?_))
  omega
theorem wr1 {s : Nat} (h : (s : Int) ≤ 576460752303423488) : IntKind.i64.wrap (s : Int) = (s : Int) := by rw [IntKind.wrap_i64]; omega
theorem wr2 {s : Nat} (h : (s : Int) ≤ 576460752303423488) : IntKind.i64.wrap (-(s : Int)) = -(s : Int) := by rw [IntKind.wrap_i64]; omega
end Go.Proofs.YtgaecjocolihjaaDoor
namespace Go.Proofs.YtgaecjocolihjaaDoor
open Go.ChangeShapes Go.WideShapes Go.ChangeAt Go.RowKit
set_option linter.unusedSimpArgs false
set_option linter.unusedVariables false
theorem gval_drop {A : List Nat} {m x : Nat} (h : A[m]? = some x) : gval 4294967296 (A.drop m) = gval 4294967296 (A.drop (m + 1)) * 4294967296 + x := by
  have hm : m < A.length := (List.getElem?_eq_some_iff.1 h).1
  rw [List.drop_eq_getElem_cons hm, (List.getElem?_eq_some_iff.1 h).2]
  show x + 4294967296 * gval 4294967296 (A.drop (m + 1)) = _
  rw [Nat.mul_comm, Nat.add_comm]
theorem drop_lt {A : List Nat} (h : Lm 4294967296 A) (m : Nat) (hm : A.length ≤ m + 1) : gval 4294967296 (A.drop m) < 4294967296 := by
  have h1 := gval_lt (h.drop m)
  have h2 : (A.drop m).length ≤ 1 := by rw [List.length_drop]; omega
  have h3 : (4294967296 : Nat) ^ (A.drop m).length ≤ 4294967296 ^ 1 := Nat.pow_le_pow_right (by decide) h2
  omega
theorem w_shl {u : Nat} (h : u < 4294967296) : IntKind.u64.wrap ((u : Int) * 4294967296) = ((u * 4294967296 : Nat) : Int) := by rw [IntKind.wrap_u64]; omega
theorem w_x {x : Nat} (h : x < 4294967296) : IntKind.u64.wrap (x : Int) = (x : Int) := by rw [IntKind.wrap_u64]; omega
end Go.Proofs.YtgaecjocolihjaaDoor
