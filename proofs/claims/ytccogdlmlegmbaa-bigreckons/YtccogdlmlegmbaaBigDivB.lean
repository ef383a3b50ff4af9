/- LeadingZeros32, takeTimes, giveBack. -/
import Derived.Test.YtccogdlmlegmbaaBigDivA
import Derived.Test.YtccogdlmlegmbaaLays
import Derived.Shelf.Small.Wraps
namespace Go.Proofs.Ytccogdlmlegmbaa
open Go.ChangeShapes Go.WideShapes Go.ChangeAt Go.RowKit Go.Shelf
set_option linter.unusedSimpArgs false
set_option linter.unusedVariables false
theorem bitLen_lt (x : Nat) (hx : x < 2 ^ 64) : x < 2 ^ Lib.bitLen x := by
  induction x using Nat.strongRecOn with
  | ind x ih =>
    by_cases h0 : x = 0
    · subst h0; exact Nat.pow_pos (by omega)
    · have h := ih (x / 2) (by omega) (by omega)
      rw [Lib.bitLen_half x h0 hx, Nat.add_comm, Nat.pow_succ]
      omega
theorem lz_w (x : Nat) (w : World) (hx0 : 0 < x) (hx : x < 4294967296) :
    Calls Try.prog 57 #[.int .u32 (x : Int)] w fun e w' => ∃ s : Nat, e = .returned (.int .i64 (s : Int)) ∧ s < 32 ∧ x * 2 ^ s < 4294967296 ∧ w' = w := by
  refine (show Calls Try.prog 57 #[.int .u32 (x : Int)] w _ from Any.bits_LeadingZeros32 Try.lays133 (x : Int) w (by omega) (by omega)).mono ?_
  rintro e w' ⟨rfl, rfl⟩
  have hle := Any.bitLen_le32 (x : Int) (by omega) (by omega)
  simp only [Int.toNat_natCast] at hle ⊢
  have hlt := bitLen_lt x (by omega)
  obtain ⟨n, hn⟩ : ∃ n, Lib.bitLen x = n := ⟨_, rfl⟩
  rw [hn] at hle hlt ⊢
  have hn0 : 0 < n := by
    refine Nat.pos_of_ne_zero fun e => ?_
    subst e; simp at hlt; omega
  refine ⟨32 - n, ?_, by omega, ?_, by first | rfl | trivial⟩
  · congr 2; omega
  · have e : (4294967296 : Nat) = 2 ^ n * 2 ^ (32 - n) := by rw [← Nat.pow_add, show n + (32 - n) = 32 by omega]
    rw [e]
    exact (Nat.mul_lt_mul_right (Nat.pow_pos (by omega))).2 hlt
theorem take_step {P S U c T G y t x r q lo : Nat} (ht : c + T * y = t) (hlo : t % 4294967296 = lo) (hr : r + lo = x + 4294967296 * q) (h : S + T * G = U + P * c) : S + P * r + T * (G + P * y) = U + P * x + P * 4294967296 * (t / 4294967296 + q) := by
  have e0 : 4294967296 * (t / 4294967296) + lo = t := by rw [← hlo]; omega
  have e1 : P * c + P * (T * y) = P * (4294967296 * (t / 4294967296)) + P * lo := by rw [← Nat.mul_add, ← Nat.mul_add, ht, e0]
  have e2 : P * r + P * lo = P * x + P * (4294967296 * q) := by rw [← Nat.mul_add, hr, Nat.mul_add]
  have e3 : T * (G + P * y) = T * G + P * (T * y) := by rw [Nat.mul_add, Nat.mul_left_comm]
  have e4 : P * 4294967296 * (t / 4294967296 + q) = P * (4294967296 * (t / 4294967296)) + P * (4294967296 * q) := by rw [Nat.mul_assoc, Nat.mul_add, Nat.mul_add]
  omega
theorem drop_set_at (L : List Nat) (i k x : Nat) : (L.set (i + k) x).drop i = (L.drop i).set k x := by
  rw [List.drop_set, if_neg (by omega), Nat.add_sub_cancel_left]
set_option maxHeartbeats 1000000 in
theorem takeTimes_w (g i cp cf T : Nat) (o : Option Addr) (L lf : List Nat) (w : World) (hT : T < 4294967296) (hm : Lm 4294967296 L) (hmf : Lm 4294967296 lf) (hz : lf.length ≤ 1000000) (hiz : i ≤ 1000000) (hlen : i + lf.length + 1 ≤ L.length) (hO : Own g L w) (hf : ∀ w', Only g w w' → Lies o lf w') :
    Calls Try.prog 60 #[.slice (some ⟨g, i, none⟩) (lf.length + 1) cp, .slice o lf.length cf, .int .u64 (T : Int)] w fun e w' => ∃ (L' : List Nat) (c p : Nat), e = .returned (.bool (decide (p < c))) ∧ L[i + lf.length]? = some p ∧ Own g L' w' ∧ L'.length = L.length ∧ Lm 4294967296 L' ∧ (∀ j, j < i ∨ i + lf.length ≤ j → L'[j]? = L[j]?) ∧ gval 4294967296 ((L'.drop i).take lf.length) + T * gval 4294967296 lf = gval 4294967296 ((L.drop i).take lf.length) + 4294967296 ^ lf.length * c ∧ Only g w w' := by
  go_enter Try.func60, Try.ntmps60
  go_wp2
  go_loopw [7, 13] (fun cv iv wr => ∃ (k c : Nat) (M : List Nat), cv = .int .u64 (c : Int) ∧ iv = .int .i64 (k : Int) ∧ k ≤ lf.length ∧ c ≤ 4294967296 ∧ Own g M wr ∧ M.length = L.length ∧ Lm 4294967296 M ∧ Only g w wr ∧ Hid (∀ j, j < i ∨ i + k ≤ j → M[j]? = L[j]?) ∧ Hid (gval 4294967296 ((M.drop i).take k) + T * gval 4294967296 (lf.take k) = gval 4294967296 ((L.drop i).take k) + 4294967296 ^ k * c)) (fun _ iv _ => lf.length - (intOf iv).toNat)
  case atStart => exact ⟨0, 0, L, rfl, rfl, by omega, by omega, hO, rfl, hm, Only.refl _ _, hid fun _ _ => rfl, hid (by simp [gval])⟩
  case round =>
    obtain ⟨k, c, M, rfl, rfl, hk, hc, hM, hMl, hMm, hon, hJ, hH⟩ := hrel
    by_cases h1 : k < lf.length
    · have h1z : (k : Int) < (lf.length : Int) := by omega
      have h1y : (k : Int) < ((lf.length + 1 : Nat) : Int) := by omega
      obtain ⟨y, hy⟩ : ∃ y, lf[k]? = some y := ⟨lf[k], by simp [h1]⟩
      obtain ⟨a, rfl, cy⟩ := (hf _ hon) k y hy
      have hym := hmf.at hy
      obtain ⟨x, hx⟩ : ∃ x, M[i + k]? = some x := ⟨M[i + k]'(by omega), by simp⟩
      have hxL : Hid (L[i + k]? = some x) := hid (by rw [← hJ.out (i + k) (by omega), hx])
      have hxm := hMm.at hx
      have cx := hM.1 (i + k) x hx
      have fx := hM.2 (i + k)
      obtain ⟨p, hp⟩ : ∃ p, T * y = p := ⟨_, rfl⟩
      have hpm : p ≤ 18446744065119617025 := by rw [← hp]; exact Nat.mul_le_mul (by omega : T ≤ 4294967295) (by omega : y ≤ 4294967295)
      have hpz : (T : Int) * (y : Int) = (p : Int) := (Int.natCast_mul T y).symm.trans (congrArg (fun n : Nat => (n : Int)) hp)
      obtain ⟨t, ht⟩ : ∃ t, c + p = t := ⟨_, rfl⟩
      obtain ⟨lo, hlo⟩ : ∃ lo, t % 4294967296 = lo := ⟨_, rfl⟩
      obtain ⟨th, hth⟩ : ∃ th, t / 4294967296 = th := ⟨_, rfl⟩
      have w1 : IntKind.u64.wrap (p : Int) = (p : Int) := by rw [IntKind.wrap_u64]; omega
      have w2 : IntKind.u64.wrap ((c : Int) + (p : Int)) = (t : Int) := by rw [IntKind.wrap_u64]; omega
      have w3 : IntKind.u32.wrap (t : Int) = (lo : Int) := by rw [IntKind.wrap_u32]; omega
      have w4 : (t : Int) / 4294967296 = (th : Int) := by omega
      have w6 : IntKind.u64.wrap (lo : Int) = (lo : Int) := by rw [IntKind.wrap_u64]; omega
      obtain ⟨D, r, q, v1, v2, v3, hr, hq, hrm⟩ := dif_step x lo hxm (by omega)
      have w5 : IntKind.u64.wrap ((th : Int) + (q : Int)) = ((th + q : Nat) : Int) := by rw [IntKind.wrap_u64]; omega
      have hthm : th + q ≤ 4294967296 := by omega
      have hstep : Hid _ := hid (take_step (by rw [hp]; exact ht) hlo hr hH.out)
      rw [hth] at hstep
      clear hp ht hlo hth hr hpm
      go_wp2_with fail
      refine (below_w _ _).mono ?_
      rintro e w' ⟨rfl, rfl⟩
      rw [v3]
      go_wp2
      go_roundw
      case rel =>
        refine ⟨k + 1, th + q, M.set (i + k) r, rfl, by go_num, by omega, hthm, hM.set _ (by omega), by simp [hMl], hMm.set _ _ hrm, hon.setCell _ _, hid fun j hj => ?_, hid ?_⟩
        · rw [List.getElem?_set_ne (by omega)]; exact hJ.out j (by omega)
        · rw [drop_set_at, gval_set_take _ _ (by simp; omega), gval_take_succ _ hy, gval_take_succ (l := L.drop i) _ (by rw [List.getElem?_drop]; exact hxL.out), pow_step]
          exact hstep.out
      case measure => simp [intOf]; omega
    · have h1z : ¬ (k : Int) < (lf.length : Int) := by omega
      have hke : k = lf.length := by omega
      subst hke
      have h1y : (lf.length : Int) < ((lf.length + 1 : Nat) : Int) := by omega
      obtain ⟨p, hp⟩ : ∃ p, M[i + lf.length]? = some p := ⟨M[i + lf.length]'(by omega), by simp⟩
      have cp := hM.1 (i + lf.length) p hp
      have hpm := hMm.at hp
      have w6 : IntKind.u64.wrap (p : Int) = (p : Int) := by rw [IntKind.wrap_u64]; omega
      have hpL : Hid (L[i + lf.length]? = some p) := hid (by rw [← hJ.out (i + lf.length) (by omega), hp])
      clear hp
      go_wp2
      go_ret
      refine ⟨M, c, p, ?_, hpL.out, hM, hMl, hMm, hJ.out, ?_, hon⟩
      · simp
      · have := hH.out
        rw [List.take_length] at this
        exact this
set_option maxHeartbeats 1000000 in
theorem giveBack_w (g i cp cf : Nat) (o : Option Addr) (L lf : List Nat) (w : World) (hm : Lm 4294967296 L) (hmf : Lm 4294967296 lf) (hz : lf.length ≤ 1000000) (hiz : i ≤ 1000000) (hlen : i + lf.length + 1 ≤ L.length) (hO : Own g L w) (hf : ∀ w', Only g w w' → Lies o lf w') :
    Calls Try.prog 61 #[.slice (some ⟨g, i, none⟩) (lf.length + 1) cp, .slice o lf.length cf] w fun e w' => (∃ v, e = .returned v) ∧ ∃ (L' : List Nat), Own g L' w' ∧ L'.length = L.length ∧ Lm 4294967296 L' ∧ (∀ j, j < i ∨ i + lf.length ≤ j → L'[j]? = L[j]?) ∧ (∃ c, gval 4294967296 ((L'.drop i).take lf.length) + 4294967296 ^ lf.length * c = gval 4294967296 ((L.drop i).take lf.length) + gval 4294967296 lf) ∧ Only g w w' := by
  go_enter Try.func61, Try.ntmps61
  go_wp2
  go_loopw [4, 9] (fun cv iv wr => ∃ (k c : Nat) (M : List Nat), cv = .int .u64 (c : Int) ∧ iv = .int .i64 (k : Int) ∧ k ≤ lf.length ∧ c ≤ 1 ∧ Own g M wr ∧ M.length = L.length ∧ Lm 4294967296 M ∧ Only g w wr ∧ Hid (∀ j, j < i ∨ i + k ≤ j → M[j]? = L[j]?) ∧ Hid (gval 4294967296 ((M.drop i).take k) + 4294967296 ^ k * c = gval 4294967296 ((L.drop i).take k) + gval 4294967296 (lf.take k))) (fun _ iv _ => lf.length - (intOf iv).toNat)
  case atStart => exact ⟨0, 0, L, rfl, rfl, by omega, by omega, hO, rfl, hm, Only.refl _ _, hid fun _ _ => rfl, hid (by simp [gval])⟩
  case round =>
    obtain ⟨k, c, M, rfl, rfl, hk, hc, hM, hMl, hMm, hon, hJ, hH⟩ := hrel
    by_cases h1 : k < lf.length
    · have h1z : (k : Int) < (lf.length : Int) := by omega
      have h1y : (k : Int) < ((lf.length + 1 : Nat) : Int) := by omega
      obtain ⟨y, hy⟩ : ∃ y, lf[k]? = some y := ⟨lf[k], by simp [h1]⟩
      obtain ⟨a, rfl, cy⟩ := (hf _ hon) k y hy
      have hym := hmf.at hy
      obtain ⟨x, hx⟩ : ∃ x, M[i + k]? = some x := ⟨M[i + k]'(by omega), by simp⟩
      have hxL : Hid (L[i + k]? = some x) := hid (by rw [← hJ.out (i + k) (by omega), hx])
      have hxm := hMm.at hx
      have cx := hM.1 (i + k) x hx
      have fx := hM.2 (i + k)
      obtain ⟨t, ht⟩ : ∃ t, c + x + y = t := ⟨_, rfl⟩
      have w1 : IntKind.u64.wrap ((x : Int) + (y : Int)) = (x : Int) + (y : Int) := by rw [IntKind.wrap_u64]; omega
      have w2 : IntKind.u64.wrap ((c : Int) + ((x : Int) + (y : Int))) = (t : Int) := by rw [IntKind.wrap_u64]; omega
      have w3 : IntKind.u32.wrap (t : Int) = ((t % 4294967296 : Nat) : Int) := by rw [IntKind.wrap_u32]; omega
      have htm : t / 4294967296 ≤ 1 := by omega
      have hstep := hid (sum_step ht hH.out)
      clear ht
      go_wp2
      go_roundw
      case rel =>
        refine ⟨k + 1, t / 4294967296, M.set (i + k) (t % 4294967296), by congr 1, by go_num, by omega, htm, hM.set _ (by omega), by simp [hMl], hMm.set _ _ (Nat.mod_lt _ (by omega)), hon.setCell _ _, hid fun j hj => ?_, hid ?_⟩
        · rw [List.getElem?_set_ne (by omega)]; exact hJ.out j (by omega)
        · rw [drop_set_at, gval_set_take _ _ (by simp; omega), gval_take_succ _ hy, gval_take_succ (l := L.drop i) _ (by rw [List.getElem?_drop]; exact hxL.out), pow_step]
          exact hstep.out
      case measure => simp [intOf]; omega
    · have h1z : ¬ (k : Int) < (lf.length : Int) := by omega
      have hke : k = lf.length := by omega
      subst hke
      go_wp2
      go_end0
      refine ⟨⟨_, rfl⟩, M, hM, hMl, hMm, hJ.out, ⟨c, ?_⟩, hon⟩
      have := hH.out
      rw [List.take_length] at this
      exact this
end Go.Proofs.Ytccogdlmlegmbaa
