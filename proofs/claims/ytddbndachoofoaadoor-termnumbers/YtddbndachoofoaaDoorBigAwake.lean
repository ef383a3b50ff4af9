/- awake, and what else the laws share. -/
import Derived.Test.YtddbndachoofoaaDoorBigRNorm
import Derived.ChangeMaps5
namespace Go.Proofs.YtddbndachoofoaaDoor
open Go.ChangeShapes Go.WideShapes Go.ChangeAt Go.ChangeMaps Go.RowKit
set_option linter.unusedSimpArgs false
set_option linter.unusedVariables false
theorem ln_le {Z : Int} {k : Nat} (h : Z.natAbs < 4294967296 ^ k) : ln Z ≤ k := (glim_len (by omega) _ _).2 h
theorem mulOk_of {X Y : Int} {a b : Nat} (hx : X.natAbs < 4294967296 ^ a) (hy : Y.natAbs < 4294967296 ^ b) (h : a + b ≤ 128) : mulOk X Y = true := by
  have h1 := ln_le hx
  have h2 := ln_le hy
  have h3 : ln (X * Y) ≤ a + b := ln_le (by
    rw [Int.natAbs_mul, Nat.pow_add]
    exact Nat.mul_lt_mul'' hx hy)
  unfold mulOk; simp; omega
theorem txt_word : txt (4294967296 * 4294967296) = [49, 56, 52, 52, 54, 55, 52, 52, 48, 55, 51, 55, 48, 57, 53, 53, 49, 54, 49, 54] := by
  have h := glim_canon (b := 10) (by omega) (l := [6, 1, 6, 1, 5, 5, 9, 0, 7, 3, 7, 0, 4, 4, 7, 6, 4, 4, 8, 1]) (by intro x hx; revert x; decide) (by intro x hx; simp at hx; omega)
  have e : gval 10 [6, 1, 6, 1, 5, 5, 9, 0, 7, 3, 7, 0, 4, 4, 7, 6, 4, 4, 8, 1] = 18446744073709551616 := by decide
  rw [e] at h
  unfold txt txtN
  rw [if_neg (by decide), show (4294967296 * 4294967296 : Int).natAbs = 18446744073709551616 from rfl, h]
  decide
end Go.Proofs.YtddbndachoofoaaDoor
