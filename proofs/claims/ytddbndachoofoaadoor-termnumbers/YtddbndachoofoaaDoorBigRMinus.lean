/- minus of the reference, on limbs. -/
import Derived.Test.YtddbndachoofoaaDoorBigRPlus
namespace Go.Proofs.YtddbndachoofoaaDoor
open Go.ChangeShapes Go.WideShapes Go.ChangeAt Go.RowKit
set_option linter.unusedSimpArgs false
set_option linter.unusedVariables false
theorem dif_step2 (x y c : Nat) (hx : x < 4294967296) (hy : y < 4294967296) (hc : c ≤ 1) : ∃ D1 D r q : Nat, IntKind.u64.wrap ((x : Int) - (y : Int)) = (D1 : Int) ∧ IntKind.u64.wrap ((D1 : Int) - (c : Int)) = (D : Int) ∧ IntKind.u32.wrap (D : Int) = (r : Int) ∧ (D : Int) / 9223372036854775808 = (q : Int) ∧ r + (c + y) = x + 4294967296 * q ∧ q ≤ 1 ∧ r < 4294967296 := by
  by_cases h : y ≤ x
  · by_cases h2 : y + c ≤ x
    · exact ⟨x - y, x - y - c, x - y - c, 0, by rw [IntKind.wrap_u64]; omega, by rw [IntKind.wrap_u64]; omega, by rw [IntKind.wrap_u32]; omega, by omega, by omega, by omega, by omega⟩
    · exact ⟨x - y, 18446744073709551615, 4294967295, 1, by rw [IntKind.wrap_u64]; omega, by rw [IntKind.wrap_u64]; omega, by rw [IntKind.wrap_u32]; omega, by omega, by omega, by omega, by omega⟩
  · exact ⟨18446744073709551616 + x - y, 18446744073709551616 + x - y - c, 4294967296 + x - y - c, 1, by rw [IntKind.wrap_u64]; omega, by rw [IntKind.wrap_u64]; omega, by rw [IntKind.wrap_u32]; omega, by omega, by omega, by omega, by omega⟩
theorem minus_step {L la lb : List Nat} {cn x y r q : Nat} (hH : gval 4294967296 L + gval 4294967296 (lb.take L.length) = gval 4294967296 (la.take L.length) + 4294967296 ^ L.length * cn) (hx : la[L.length]? = some x) (hy : lb.getD L.length 0 = y) (hr : r + (cn + y) = x + 4294967296 * q) :
    gval 4294967296 (L ++ [r]) + gval 4294967296 (lb.take (L.length + 1)) = gval 4294967296 (la.take (L.length + 1)) + 4294967296 ^ (L.length + 1) * q := by
  rw [gval_append, gval_take_getD, gval_take_succ _ hx, pow_step, hy]
  have := dif_sum (P := 4294967296 ^ L.length) (b := cn) (t := cn + y) (y := y) rfl hr hH
  simpa [gval] using this
end Go.Proofs.YtddbndachoofoaaDoor
