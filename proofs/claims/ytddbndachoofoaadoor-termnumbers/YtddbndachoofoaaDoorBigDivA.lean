/- raised, lower of package big. -/
import Derived.Test.YtddbndachoofoaaDoorBigText
namespace Go.Proofs.YtddbndachoofoaaDoor
open Go.ChangeShapes Go.WideShapes Go.ChangeAt Go.RowKit
set_option linter.unusedSimpArgs false
set_option linter.unusedVariables false
theorem or_low {s c y : Nat} (hc : c < 2 ^ s) (hy : y % 2 ^ s = 0) (hs : c + y < 18446744073709551616) : bits .or .u64 (c : Int) (y : Int) = ((c + y : Nat) : Int) := by
  rw [u64_or_nat c y (by omega) (by omega), Nat.or_comm, nat_join s y c hy hc, Nat.add_comm]
theorem pow32 {s : Nat} (hs : s < 32) : 1 ≤ 2 ^ s ∧ 2 ^ s ≤ 2147483648 := by
  refine ⟨Nat.pow_pos (by omega), ?_⟩
  have := Nat.pow_le_pow_right (n := 2) (by omega) (by omega : s ≤ 31)
  simpa using this
/-- one place of a shift -/
theorem raise_step {Q S T c x t P : Nat} (ht : c + x * P = t) (h : S + Q * c = T * P) : S + Q * (t % 4294967296) + Q * 4294967296 * (t / 4294967296) = (T + Q * x) * P := by
  have e2 : Q * t = Q * (t % 4294967296) + Q * 4294967296 * (t / 4294967296) := by
    rw [Nat.mul_assoc, ← Nat.mul_add, Nat.mod_add_div]
  have e : Q * t = Q * c + Q * (x * P) := by rw [← ht, Nat.mul_add]
  rw [Nat.add_mul, Nat.mul_assoc Q x P]; omega
/-- one place of a shift down -/
theorem lower_step {x y P G Gt : Nat} (hP : 0 < P) (hx : x < 4294967296) (hB : 4294967296 % P = 0) (hG : G = y + 4294967296 * Gt) : (x + 4294967296 * G) / P = ((y * 4294967296 + x) / P) % 4294967296 + 4294967296 * (G / P) := by
  obtain ⟨b, hb⟩ : ∃ b, 4294967296 = P * b := ⟨4294967296 / P, by have := Nat.div_add_mod 4294967296 P; omega⟩
  have hGP : G % P = y % P := by
    rw [hG, hb, Nat.mul_assoc, Nat.add_mul_mod_self_left]
  have h1 : (x + 4294967296 * G) / P = (x + 4294967296 * (y % P)) / P + 4294967296 * (G / P) := by
    have e : x + 4294967296 * G = (x + 4294967296 * (y % P)) + P * (4294967296 * (G / P)) := by
      have := Nat.div_add_mod G P
      rw [hGP] at this
      have e2 : 4294967296 * G = 4294967296 * (P * (G / P)) + 4294967296 * (y % P) := by rw [← Nat.mul_add, this]
      have e3 : 4294967296 * (P * (G / P)) = P * (4294967296 * (G / P)) := Nat.mul_left_comm _ _ _
      omega
    rw [e, Nat.add_mul_div_left _ _ hP]
  have h2 : ((y * 4294967296 + x) / P) % 4294967296 = (x + 4294967296 * (y % P)) / P := by
    have e : y * 4294967296 + x = (x + 4294967296 * (y % P)) + P * (4294967296 * (y / P)) := by
      have := Nat.div_add_mod y P
      have e2 : 4294967296 * y = 4294967296 * (P * (y / P)) + 4294967296 * (y % P) := by rw [← Nat.mul_add, this]
      have e3 : 4294967296 * (P * (y / P)) = P * (4294967296 * (y / P)) := Nat.mul_left_comm _ _ _
      omega
    rw [e, Nat.add_mul_div_left _ _ hP, Nat.add_mul_mod_self_left]
    refine Nat.mod_eq_of_lt ?_
    rw [Nat.div_lt_iff_lt_mul hP]
    have := Nat.mod_lt y hP
    have h3 : 4294967296 * (y % P + 1) ≤ 4294967296 * P := Nat.mul_le_mul_left _ this
    omega
  rw [h1, h2]
theorem pow_mod32 {s : Nat} (hs : s < 32) : 4294967296 % 2 ^ s = 0 := by
  have e : 4294967296 = 2 ^ s * 2 ^ (32 - s) := by rw [← Nat.pow_add]; rw [show s + (32 - s) = 32 by omega]
  rw [e]; exact Nat.mul_mod_right _ _
end Go.Proofs.YtddbndachoofoaaDoor
