/- product, Mul, Of of package big. -/
import Derived.Test.YtddbndachoofoaaDoorBigSub
namespace Go.Proofs.YtddbndachoofoaaDoor
open Go.ChangeShapes Go.WideShapes Go.ChangeAt Go.RowKit
set_option linter.unusedSimpArgs false
set_option linter.unusedVariables false
theorem gval_set (b : Nat) {l : List Nat} {i old : Nat} (x : Nat) (h : l[i]? = some old) : gval b (l.set i x) + b ^ i * old = gval b l + b ^ i * x := by
  have hi : i < l.length := (List.getElem?_eq_some_iff.1 h).1
  have e1 := gval_split b (i + 1) l (by omega)
  have e2 := gval_split b (i + 1) (l.set i x) (by simp; omega)
  rw [gval_set_take b x hi, List.drop_set_of_lt (by omega)] at e2
  rw [gval_take_succ b h] at e1
  omega
/-- one place of a product -/
theorem mul_step {P G V W c x y old s G' : Nat} (hs : c + (x * y + old) = s) (hg : G' + P * old = G + P * (s % 4294967296)) (h : G + P * c = V + W) : G' + P * 4294967296 * (s / 4294967296) = V + (W + P * (x * y)) := by
  have e : P * s = P * c + (P * (x * y) + P * old) := by rw [← hs, Nat.mul_add, Nat.mul_add]
  have e2 : P * s = P * (s % 4294967296) + (P * 4294967296) * (s / 4294967296) := by
    rw [Nat.mul_assoc, ← Nat.mul_add, Nat.mod_add_div]
  omega
theorem mul_tail (k q x y : Nat) : (4294967296 : Nat) ^ (k + q) * (x * y) = 4294967296 ^ k * (x * (4294967296 ^ q * y)) := by
  rw [Nat.pow_add, Nat.mul_assoc]; congr 1; exact Nat.mul_left_comm _ _ _
/-- how many limbs a number has -/
def ln (Z : Int) : Nat := (glim 4294967296 Z.natAbs).length
/-- may a product be? -/
def mulOk (X Y : Int) : Bool := decide (ln X ≤ 128 ∧ ln Y ≤ 128 ∧ ln (X * Y) ≤ 128)
theorem sv_mul (X Y : Int) : sv (decide (X < 0) != decide (Y < 0)) (X.natAbs * Y.natAbs) = X * Y := by
  rw [← Int.natAbs_mul]
  unfold sv
  by_cases hx : X < 0 <;> by_cases hy : Y < 0 <;> simp only [hx, hy, decide_true, decide_false, bne_self_eq_false, Bool.false_eq_true, if_false]
  · have : 0 ≤ X * Y := Int.mul_nonneg_of_nonpos_of_nonpos (by omega) (by omega)
    omega
  · have : X * Y ≤ 0 := Int.mul_nonpos_of_nonpos_of_nonneg (by omega) (by omega)
    simp; omega
  · have : X * Y ≤ 0 := Int.mul_nonpos_of_nonneg_of_nonpos (by omega) (by omega)
    simp; omega
  · have : 0 ≤ X * Y := Int.mul_nonneg (by omega) (by omega)
    omega
theorem isC_zero (K : Nat) (w : World) : IsC (.agg #[.bool false, .slice none 0 0]) 0 K w := ⟨none, 0, by simp [glim_zero], fun j x hx => by simp [glim_zero] at hx, by simp [glim_zero], by simp [glim_zero]⟩
end Go.Proofs.YtddbndachoofoaaDoor
