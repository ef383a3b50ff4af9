/- Dividing bit by bit. -/
import Derived.Test.YtccogdlmlegmbaaBigRSmall
namespace Go.Proofs.Ytccogdlmlegmbaa
theorem limb_at {b : Nat} (hb : 0 < b) {l : List Nat} (h : Lm b l) {i x : Nat} (hx : l[i]? = some x) : gval b l / b ^ i % b = x := by
  have hi : i < l.length := (List.getElem?_eq_some_iff.1 hx).1
  have hs := gval_split b i l (Nat.le_of_lt hi)
  have hlt : gval b (l.take i) < b ^ i := by
    have := gval_lt (h.take i)
    rwa [List.length_take, Nat.min_eq_left (Nat.le_of_lt hi)] at this
  have hd : gval b (l.drop i) = x + b * gval b (l.drop (i + 1)) := by
    rw [List.drop_eq_getElem_cons hi, (List.getElem?_eq_some_iff.1 hx).2]; rfl
  have hp : 0 < b ^ i := Nat.pow_pos hb
  rw [hs, Nat.add_comm, Nat.add_comm, Nat.add_mul_div_left _ _ hp, Nat.div_eq_of_lt hlt, Nat.zero_add, hd, Nat.add_mul_mod_self_left, Nat.mod_eq_of_lt (h.at hx)]
theorem bit_at {n i k x : Nat} (hk : k < 32) (hx : n / 4294967296 ^ i % 4294967296 = x) : n / 2 ^ (32 * i + k) % 2 = x / 2 ^ k % 2 := by
  have e1 : n / 2 ^ (32 * i + k) = n / 4294967296 ^ i / 2 ^ k := by
    rw [Nat.pow_add, Nat.pow_mul, Nat.div_div_eq_div_mul]
  rw [e1]
  generalize n / 4294967296 ^ i = m at *
  have hm : m = x + 2 ^ k * (2 ^ (32 - k) * (m / 4294967296)) := by
    have h1 := Nat.mod_add_div m 4294967296
    rw [hx] at h1
    have h2 : 2 ^ k * (2 ^ (32 - k) * (m / 4294967296)) = 4294967296 * (m / 4294967296) := by
      rw [← Nat.mul_assoc, ← Nat.pow_add, show k + (32 - k) = 32 by omega]
    omega
  have hp : 0 < 2 ^ k := Nat.pow_pos (by decide)
  have h3 : m / 2 ^ k = x / 2 ^ k + 2 ^ (32 - k) * (m / 4294967296) := by
    conv => lhs; rw [hm]
    rw [Nat.add_mul_div_left _ _ hp]
  have h4 : 2 ^ (32 - k) = 2 * 2 ^ (31 - k) := by
    rw [show 32 - k = (31 - k) + 1 by omega, Nat.pow_succ, Nat.mul_comm]
  rw [h3, h4, Nat.mul_assoc, Nat.add_mul_mod_self_left]
theorem shift_down (n p : Nat) : n / 2 ^ p = 2 * (n / 2 ^ (p + 1)) + n / 2 ^ p % 2 := by
  have h : n / 2 ^ (p + 1) = n / 2 ^ p / 2 := by rw [Nat.pow_succ, Nat.div_div_eq_div_mul]
  rw [h]
  omega
theorem div_yes {T Y q r b : Nat} (h : q * Y + r = T) (hr : r < Y) (hb : b ≤ 1) (hle : Y ≤ r + r + b) : (2 * q + 1) * Y + (r + r + b - Y) = 2 * T + b ∧ r + r + b - Y < Y := by
  refine ⟨?_, by omega⟩
  have e : (2 * q + 1) * Y = 2 * (q * Y) + Y := by rw [Nat.add_mul, Nat.mul_assoc, Nat.one_mul]
  rw [e]; omega
theorem div_not {T Y q r b : Nat} (h : q * Y + r = T) : (2 * q) * Y + (r + r + b) = 2 * T + b := by
  have e : 2 * q * Y = 2 * (q * Y) := Nat.mul_assoc ..
  rw [e]; omega
theorem gval_put {b : Nat} {l : List Nat} {i y : Nat} (hy : l[i]? = some y) (d : Nat) : gval b (l.set i (y + d)) = gval b l + b ^ i * d := by
  have hi : i < l.length := (List.getElem?_eq_some_iff.1 hy).1
  have h1 := gval_split b (i + 1) (l.set i (y + d)) (by simp; omega)
  have h2 := gval_split b (i + 1) l (by omega)
  rw [gval_set_take b _ hi] at h1
  rw [gval_take_succ b hy] at h2
  have h3 : (l.set i (y + d)).drop (i + 1) = l.drop (i + 1) := by rw [List.drop_set_of_lt (by omega)]
  rw [h3] at h1
  rw [h1, h2, Nat.mul_add]
  omega
theorem low_clear {q i k y : Nat} (hk : k < 32) (hy : q * 2 ^ (32 * i + (k + 1)) / 4294967296 ^ i % 4294967296 = y) : y % 2 ^ (k + 1) = 0 ∧ y + 2 ^ k < 4294967296 := by
  have hp : 0 < (4294967296 : Nat) ^ i := Nat.pow_pos (by decide)
  have e1 : q * 2 ^ (32 * i + (k + 1)) = (q * 2 ^ (k + 1)) * 4294967296 ^ i := by
    rw [Nat.pow_add, Nat.pow_mul, Nat.mul_comm ((2 ^ 32) ^ i), Nat.mul_assoc]
  rw [e1, Nat.mul_div_cancel _ hp] at hy
  have hd : 2 ^ (k + 1) ∣ 4294967296 := ⟨2 ^ (31 - k), by rw [← Nat.pow_add, show k + 1 + (31 - k) = 32 by omega]⟩
  have h1 : y % 2 ^ (k + 1) = 0 := by rw [← hy, Nat.mod_mod_of_dvd _ hd, Nat.mul_mod_left]
  refine ⟨h1, ?_⟩
  have hlt : y < 4294967296 := by rw [← hy]; exact Nat.mod_lt _ (by decide)
  obtain ⟨a, ha⟩ := hd
  obtain ⟨c, hc⟩ := Nat.dvd_of_mod_eq_zero h1
  have hpk : 2 ^ (k + 1) = 2 * 2 ^ k := by rw [Nat.pow_succ, Nat.mul_comm]
  have hq : 0 < 2 ^ k := Nat.pow_pos (by decide)
  rw [ha, hc] at hlt
  have hca : c < a := Nat.lt_of_mul_lt_mul_left hlt
  have : 2 ^ (k + 1) * (c + 1) ≤ 2 ^ (k + 1) * a := Nat.mul_le_mul_left _ hca
  rw [Nat.mul_add, Nat.mul_one] at this
  rw [ha, hc]
  generalize 2 ^ (k + 1) * c = A at *
  generalize 2 ^ (k + 1) * a = B at *
  omega
theorem u32_join {s c y : Nat} (hc : c % 2 ^ s = 0) (hy : y < 2 ^ s) (h : c + y < 4294967296) : bits .or .u32 (c : Int) (y : Int) = ((c + y : Nat) : Int) := by
  rw [u32_or_nat c y (by omega) (by omega), nat_join s c y hc hy]
theorem u32_bit {x : Nat} (hx : x < 4294967296) : bits .and .u32 (x : Int) 1 = ((x % 2 : Nat) : Int) := by
  have := u32_and_nat x 1 hx (by decide)
  rw [show ((1 : Nat) : Int) = 1 from rfl] at this
  rw [this, Nat.and_one_is_mod]
end Go.Proofs.Ytccogdlmlegmbaa
