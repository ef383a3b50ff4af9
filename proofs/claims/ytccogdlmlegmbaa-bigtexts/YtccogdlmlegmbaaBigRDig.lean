/- facts on digits. -/
import Derived.Test.YtccogdlmlegmbaaBigParse
import Derived.Test.YtccogdlmlegmbaaBigRMul
import Derived.Test.YtccogdlmlegmbaaBigRShort
import Derived.Test.YtccogdlmlegmbaaBigSame
namespace Go.Proofs.Ytccogdlmlegmbaa
open Go.ChangeShapes Go.WideShapes Go.ChangeAt Go.RowKit
set_option linter.unusedSimpArgs false
set_option linter.unusedVariables false
theorem ten_lt {j : Nat} (h : j ≤ 620) : (10 : Nat) ^ j < 4294967296 ^ 65 := by
  obtain ⟨k, hk⟩ : ∃ k, k = 20 := ⟨_, rfl⟩
  have h1 : (10 : Nat) ^ j ≤ 10 ^ (31 * k) := Nat.pow_le_pow_right (by omega) (by omega)
  rw [Nat.pow_mul] at h1
  have h2 : ((10 : Nat) ^ 31) ^ k < (2 ^ 104) ^ k := Nat.pow_lt_pow_left (by decide) (by omega)
  have h3 : (4294967296 : Nat) ^ 65 = (2 ^ 104) ^ k := by
    subst hk
    rw [show (4294967296 : Nat) = 2 ^ 32 by decide, ← Nat.pow_mul]
  rw [h3]
  exact Nat.lt_of_le_of_lt h1 h2
theorem digs_lt {d : List UInt8} {j : Nat} (hj : j ≤ d.length) (h620 : d.length ≤ 620) (hdg : isDigs d = true) : pval (d.take j) < 4294967296 ^ 65 := by
  have hl : (d.take j).length = j := by rw [List.length_take]; omega
  exact Nat.lt_trans (pval_lt j (d.take j) hl (isDigs_take hdg j)) (ten_lt (Nat.le_trans hj h620))
theorem digs_mul {V : Nat} (h : V < 4294967296 ^ 65) : mulOk (V : Int) 10 = true := mulOk_of (a := 65) (b := 1) (by rw [Int.natAbs_natCast]; exact h) (by decide) (by decide)
theorem digs_len {V : Nat} (h : V < 4294967296 ^ 65) : (glim 4294967296 ((V : Int).natAbs)).length ≤ 66 := Nat.le_trans ((glim_len (by decide) _ 65).2 (by rw [Int.natAbs_natCast]; exact h)) (by decide)
theorem digs_all {d : List UInt8} {j : Nat} (hj : j < d.length) (h620 : d.length ≤ 620) (hdg : isDigs d = true) :
    ∃ (x : UInt8) (n0 nx V V1 : Nat), d[j]? = some x ∧ x.toNat = nx ∧ nx = n0 + 48 ∧ n0 ≤ 9 ∧ pval (d.take j) = V ∧ pval (d.take (j + 1)) = V1 ∧ V1 = V * 10 + n0 ∧ mulOk (V : Int) 10 = true ∧ (glim 4294967296 ((V1 : Int).natAbs)).length ≤ 66 := by
  have hx : d[j]? = some d[j] := by simp
  have hxd : 48 ≤ (d[j]).toNat ∧ (d[j]).toNat ≤ 57 := by
    have := hdg
    unfold isDigs at this
    have h2 := List.all_eq_true.1 this d[j] (List.mem_of_getElem? hx)
    simpa using h2
  refine ⟨d[j], (d[j]).toNat - 48, (d[j]).toNat, _, _, hx, rfl, by omega, by omega, rfl, rfl, ?_, digs_mul (digs_lt (Nat.le_of_lt hj) h620 hdg), digs_len (digs_lt hj h620 hdg)⟩
  rw [List.take_add_one, hx]
  exact pval_snoc _ _
end Go.Proofs.Ytccogdlmlegmbaa
