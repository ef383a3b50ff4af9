/- guess of package big. -/
import Derived.Test.YtccogdlmlegmbaaBigDivB
namespace Go.Proofs.Ytccogdlmlegmbaa
open Go.ChangeShapes Go.WideShapes Go.ChangeAt Go.RowKit
set_option linter.unusedSimpArgs false
set_option linter.unusedVariables false
theorem gval_top2 {D : List Nat} {m y z : Nat} (h0 : D[m]? = some y) (h1 : D[m + 1]? = some z) (hl : D.length = m + 2) : gval 4294967296 D = gval 4294967296 (D.take m) + 4294967296 ^ m * (y + 4294967296 * z) := by
  have e := gval_take_succ 4294967296 h1
  rw [List.take_of_length_le (by omega), gval_take_succ 4294967296 h0, pow_step] at e
  rw [e, Nat.mul_add, Nat.mul_assoc, Nat.add_assoc]
theorem gval_top3 {D : List Nat} {m x y z : Nat} (h0 : D[m]? = some x) (h1 : D[m + 1]? = some y) (h2 : D[m + 2]? = some z) (hl : D.length = m + 3) : gval 4294967296 D = gval 4294967296 (D.take m) + 4294967296 ^ m * (x + 4294967296 * (y + 4294967296 * z)) := by
  have e := gval_take_succ 4294967296 h2
  have p1 := pow_step m
  have p2 : (4294967296 : Nat) ^ (m + 2) = 4294967296 ^ m * 4294967296 * 4294967296 := by rw [pow_step (m + 1), pow_step]
  rw [List.take_of_length_le (by omega), gval_take_succ 4294967296 h1, gval_take_succ 4294967296 h0, p2, p1] at e
  rw [e]
  generalize (4294967296 : Nat) ^ m = P
  simp only [Nat.mul_add, Nat.mul_assoc, Nat.add_assoc]
/-- the true quotient against the highest limbs -/
theorem quo_top {u v U V M u' v' q : Nat} (hu : u = u' + M * U) (hv : v = v' + M * V) (hu' : u' < M) (hq : q * v ≤ u) : q * V ≤ U := by
  have hM : 0 < M := by omega
  have h1 : q * (M * V) ≤ q * v := Nat.mul_le_mul_left _ (by omega)
  have h3 : M * (q * V) ≤ u := by rw [Nat.mul_left_comm]; exact Nat.le_trans h1 hq
  have h4 : u < M * (U + 1) := by rw [hu, Nat.mul_add, Nat.mul_one]; omega
  have h2 : M * (q * V) < M * (U + 1) := Nat.lt_of_le_of_lt h3 h4
  exact Nat.le_of_lt_succ (Nat.lt_of_mul_lt_mul_left h2)
/-- a guess that the highest limbs bear is at most 1 too great -/
theorem guess_top {u v U V M u' v' t : Nat} (hu : u = u' + M * U) (hv : v = v' + M * V) (hv' : v' < M) (ht : t * V ≤ U) (htV : t ≤ V + 1) (hv0 : 0 < v) : t ≤ u / v + 1 := by
  by_cases ht0 : t = 0
  · rw [ht0]; exact Nat.zero_le _
  obtain ⟨s, rfl⟩ : ∃ s, t = s + 1 := ⟨t - 1, by omega⟩
  have hsv : s * v ≤ u := by
    have h1 : s * v = s * v' + M * (s * V) := by rw [hv, Nat.mul_add]; congr 1; exact Nat.mul_left_comm _ _ _
    have h2 : s * v' ≤ s * M := Nat.mul_le_mul_left _ (by omega)
    have h3 : s * M ≤ M * V := by rw [Nat.mul_comm]; exact Nat.mul_le_mul_left _ (by omega)
    have h4 : M * (s * V) + M * V ≤ M * U := by
      rw [← Nat.mul_add]
      refine Nat.mul_le_mul_left _ ?_
      rw [Nat.add_mul, Nat.one_mul] at ht
      exact ht
    omega
  have := (Nat.le_div_iff_mul_le hv0).2 hsv
  omega
/-- only draws lie between two worlds -/
def Dr (w w' : World) : Prop := ∃ m, w' = w.drewN m
theorem Dr.refl (w : World) : Dr w w := ⟨0, rfl⟩
theorem drewN_add (w : World) (m n : Nat) : (w.drewN m).drewN n = w.drewN (m + n) := by
  cases w; simp [World.drewN, Nat.add_assoc]
theorem Dr.more {w w' : World} (h : Dr w w') (n : Nat) : Dr w (w'.drewN n) := by
  obtain ⟨m, rfl⟩ := h
  exact ⟨m + n, drewN_add w m n⟩
theorem Dr.cell {w w' : World} (h : Dr w w') {a : Addr} {v : Value} (hc : w.cell? a = some v) : w'.cell? a = some v := by
  obtain ⟨m, rfl⟩ := h; exact hc
set_option maxHeartbeats 1000000 in
theorem guess_w (g i cp cf m M1 M2 M3 x y z N2 T : Nat) (af : Addr) (w : World) (e1 : M1 = m + 1) (e2 : M2 = m + 2) (e3 : M3 = m + 3) (hz : m ≤ 1000000) (hiz : i ≤ 1000000)
    (hx : x < 4294967296) (hy : y < 4294967296) (hzz : z < 4294967296) (hN : N2 < 4294967296) (hT : T < 4294967296) (hT0 : 0 < T)
    (cx : w.cell? ⟨g, i + m, none⟩ = some (.int .u32 (x : Int))) (cy : w.cell? ⟨g, i + M1, none⟩ = some (.int .u32 (y : Int))) (cz : w.cell? ⟨g, i + M2, none⟩ = some (.int .u32 (z : Int)))
    (cN : w.cell? (af.add m) = some (.int .u32 (N2 : Int))) (cT : w.cell? (af.add M1) = some (.int .u32 (T : Int)))
    (q : Nat) (hq : q < 4294967296) (hqV : q * (N2 + 4294967296 * T) ≤ x + 4294967296 * (y + 4294967296 * z)) (hA : z ≤ T) :
    Calls Try.prog 59 #[.slice (some ⟨g, i, none⟩) M3 cp, .slice (some af) M2 cf] w fun e w' => ∃ t : Nat, e = .returned (.int .u64 (t : Int)) ∧ q ≤ t ∧ t < 4294967296 ∧ t * (N2 + 4294967296 * T) ≤ x + 4294967296 * (y + 4294967296 * z) ∧ Dr w w' := by
  have hm1 : (M2 : Int) - 1 = (M1 : Int) := by omega
  have hm2 : (M2 : Int) - 2 = (m : Int) := by omega
  have wm1 : IntKind.i64.wrap ((M2 : Int) - 1) = (M1 : Int) := by rw [IntKind.wrap_i64]; omega
  have wm2 : IntKind.i64.wrap ((M2 : Int) - 2) = (m : Int) := by rw [IntKind.wrap_i64]; omega
  have b1 : (M1 : Int) < (M2 : Int) := by omega
  have b2 : (m : Int) < (M2 : Int) := by omega
  have b3 : (M2 : Int) < (M3 : Int) := by omega
  have b4 : (M1 : Int) < (M3 : Int) := by omega
  have b5 : (m : Int) < (M3 : Int) := by omega
  have he : Hid (M1 = m + 1 ∧ M2 = m + 2 ∧ M3 = m + 3) := hid ⟨e1, e2, e3⟩
  clear e1 e2 e3
  obtain ⟨A, hAe⟩ : ∃ A, z * 4294967296 + y = A := ⟨_, rfl⟩
  obtain ⟨zb, hzb⟩ : ∃ zb, z * 4294967296 = zb := ⟨_, rfl⟩
  have v1 : IntKind.u64.wrap ((z : Int) * 4294967296) = (zb : Int) := by rw [IntKind.wrap_u64]; omega
  have v2 : bits .or .u64 (zb : Int) (y : Int) = (A : Int) := by
    have := or32 (r := z) (x := y) hzz hy
    rw [hzb] at this
    rw [this, ← hAe, hzb]
  obtain ⟨t0, ht0⟩ : ∃ t0, A / T = t0 := ⟨_, rfl⟩
  obtain ⟨l0, hl0⟩ : ∃ l0, A % T = l0 := ⟨_, rfl⟩
  have hAm : A < 18446744073709551616 := by omega
  have ht0m : t0 ≤ A := by rw [← ht0]; exact Nat.div_le_self _ _
  have hl0m : l0 < T := by rw [← hl0]; exact Nat.mod_lt _ hT0
  have v3 : IntKind.u64.wrap ((A : Int) / (T : Int)) = (t0 : Int) := by
    rw [show (A : Int) / (T : Int) = (t0 : Int) by rw [← ht0]; exact (Int.natCast_ediv A T).symm, IntKind.wrap_u64]; omega
  have v4 : (A : Int) % (T : Int) = (l0 : Int) := by rw [← hl0]; exact (Int.natCast_emod A T).symm
  have hT1 : ¬ (T : Int) = 0 := by omega
  have hT2 : ((T : Int) == 0) = false := by simp; omega
  have hdm : t0 * T + l0 = A := by rw [← ht0, ← hl0, Nat.mul_comm]; exact Nat.div_add_mod A T
  have hq0 : q ≤ t0 := by
    rw [← ht0, Nat.le_div_iff_mul_le hT0]
    have h1 : q * (4294967296 * T) ≤ q * (N2 + 4294967296 * T) := Nat.mul_le_mul_left _ (by omega)
    have h2 : 4294967296 * (q * T) = q * (4294967296 * T) := Nat.mul_left_comm _ _ _
    omega
  have hbook : Hid (t0 * T + l0 = A ∧ z * 4294967296 + y = A) := hid ⟨hdm, hAe⟩
  clear hAe hzb ht0 hl0 hdm
  go_enter Try.func59, Try.ntmps59
  go_wp2
  go_quiet (fail)
  have d1 : Dr w (w.drewN nq) := (Dr.refl w).more nq
  generalize w.drewN nq = wq at *
  have cx1 := d1.cell cx
  have cy1 := d1.cell cy
  have cz1 := d1.cell cz
  clear nq
  go_wp2
  go_quiet (fail)
  have d2 : Dr w (wq.drewN nq) := d1.more _
  generalize wq.drewN nq = wr at *
  clear nq
  go_wp2
  go_quiet (fail)
  have d3 : Dr w (wr.drewN nq) := d2.more _
  generalize wr.drewN nq = ws at *
  have cx3 := d3.cell cx
  clear cx cy cz cN cT cx1 cy1 cz1 d1 d2
  go_wp2
  go_loopw [9, 10] (fun tv lv wx => ∃ t l : Nat, tv = .int .u64 (t : Int) ∧ lv = .int .u64 (l : Int) ∧ wx = ws ∧ Hid (t * T + l = A) ∧ q ≤ t ∧ t ≤ A ∧ l < 18446744073709551616) (fun tv _ _ => (intOf tv).toNat)
  case atStart => exact ⟨t0, l0, by rfl, by rw [v4], rfl, hid hbook.out.1, hq0, ht0m, by omega⟩
  case round =>
    obtain ⟨t, l, rfl, rfl, rfl, hdm, hqt, htA, hlm⟩ := hrel
    clear v1 v2 v3 v4 hT1 hT2 b1 b2 b3 b4 wm1 wm2 hm1
    have hAe : z * 4294967296 + y = A := hbook.out.2
    have hUV : x + 4294967296 * (y + 4294967296 * z) = x + 4294967296 * A := by omega
    have htV : t * (N2 + 4294967296 * T) + 4294967296 * l = t * N2 + 4294967296 * A := by
      have h1 : t * (4294967296 * T) = 4294967296 * (t * T) := Nat.mul_left_comm _ _ _
      have := hdm.out
      rw [Nat.mul_add, h1]; omega
    have hend : 4294967295 < l ∨ t ≤ 4294967295 ∧ t * N2 ≤ l * 4294967296 + x → t < 4294967296 ∧ t * (N2 + 4294967296 * T) ≤ x + 4294967296 * (y + 4294967296 * z) := by
      intro hor
      have htB : t < 4294967296 := by
        rcases Nat.lt_or_ge t 4294967296 with h | h
        · exact h
        · exfalso
          have h1 : 4294967296 * T ≤ t * T := Nat.mul_le_mul_right _ h
          have h2 : z * 4294967296 ≤ T * 4294967296 := Nat.mul_le_mul_right _ hA
          have := hdm.out
          omega
      refine ⟨htB, ?_⟩
      rw [hUV]
      rcases hor with h | ⟨_, h⟩
      · have h1 : t * N2 ≤ 4294967295 * 4294967295 := Nat.mul_le_mul (by omega) (by omega)
        omega
      · omega
    have hdec : t * N2 > l * 4294967296 + x ∨ 4294967295 < t → q ≤ t - 1 ∧ 0 < t := by
      intro hor
      rcases hor with h | h
      · have hlt : q * (N2 + 4294967296 * T) < t * (N2 + 4294967296 * T) := by
          rw [hUV] at hqV; omega
        have := Nat.lt_of_mul_lt_mul_right hlt
        omega
      · omega
    have hE := hid hend
    have hD := hid hdec
    clear hend hdec htV hUV hAe
    by_cases h1 : l ≤ 4294967295
    · have h1z : (l : Int) ≤ 4294967295 := by omega
      by_cases h2 : 4294967295 < t
      · have h2z : (4294967295 : Int) < (t : Int) := by omega
        have w1 : IntKind.u64.wrap ((t : Int) - 1) = ((t - 1 : Nat) : Int) := by rw [IntKind.wrap_u64]; omega
        have w2 : IntKind.u64.wrap ((l : Int) + (T : Int)) = ((l + T : Nat) : Int) := by rw [IntKind.wrap_u64]; omega
        go_wp2
        go_roundw
        case rel =>
          obtain ⟨hd1, hd2⟩ := hD.out (.inr h2)
          refine ⟨t - 1, l + T, by first | rfl | (congr 1), by first | rfl | (congr 1), by first | rfl | trivial, hid ?_, hd1, by omega, by omega⟩
          have := hdm.out
          obtain ⟨s, rfl⟩ : ∃ s, t = s + 1 := ⟨t - 1, by omega⟩
          rw [Nat.add_mul] at this
          rw [Nat.add_sub_cancel]; omega
        case measure => simp [intOf]; omega
      · have h2z : ¬ (4294967295 : Int) < (t : Int) := by omega
        obtain ⟨pr, hpr⟩ : ∃ pr, t * N2 = pr := ⟨_, rfl⟩
        have hprm : pr ≤ 4294967295 * 4294967295 := by rw [← hpr]; exact Nat.mul_le_mul (by omega) (by omega)
        have hprz : (t : Int) * (N2 : Int) = (pr : Int) := (Int.natCast_mul t N2).symm.trans (congrArg (fun n : Nat => (n : Int)) hpr)
        obtain ⟨lb, hlb⟩ : ∃ lb, l * 4294967296 = lb := ⟨_, rfl⟩
        obtain ⟨sx, hsx⟩ : ∃ sx, lb + x = sx := ⟨_, rfl⟩
        have w1 : IntKind.u64.wrap (pr : Int) = (pr : Int) := by rw [IntKind.wrap_u64]; omega
        have w2 : IntKind.u64.wrap ((l : Int) * 4294967296) = (lb : Int) := by rw [IntKind.wrap_u64]; omega
        have w3 : bits .or .u64 (lb : Int) (x : Int) = (sx : Int) := by
          have := or32 (r := l) (x := x) (by omega) hx
          rw [hlb] at this
          rw [this, ← hsx]
        rw [hpr, hlb, hsx] at hE hD
        clear hpr hlb hsx
        by_cases h3 : sx < pr
        · have h3z : (sx : Int) < (pr : Int) := by omega
          have w4 : IntKind.u64.wrap ((t : Int) - 1) = ((t - 1 : Nat) : Int) := by
            have := (hD.out (.inl h3)).2
            rw [IntKind.wrap_u64]; omega
          have w5 : IntKind.u64.wrap ((l : Int) + (T : Int)) = ((l + T : Nat) : Int) := by rw [IntKind.wrap_u64]; omega
          go_wp2
          go_roundw
          case rel =>
            obtain ⟨hd1, hd2⟩ := hD.out (.inl h3)
            refine ⟨t - 1, l + T, by first | rfl | (congr 1), by first | rfl | (congr 1), by first | rfl | trivial, hid ?_, hd1, by omega, by omega⟩
            have := hdm.out
            obtain ⟨s, rfl⟩ : ∃ s, t = s + 1 := ⟨t - 1, by omega⟩
            rw [Nat.add_mul] at this
            rw [Nat.add_sub_cancel]; omega
          case measure => have := (hD.out (.inl h3)).2; simp [intOf]; omega
        · have h3z : ¬ (sx : Int) < (pr : Int) := by omega
          have hf := hE.out (.inr ⟨by omega, by omega⟩)
          clear hE hD
          go_wp2
          go_ret
          exact ⟨t, rfl, hqt, hf.1, hf.2, d3⟩
    · have h1z : ¬ (l : Int) ≤ 4294967295 := by omega
      have hf := hE.out (.inl (by omega))
      clear hE hD
      go_wp2
      go_ret
      exact ⟨t, rfl, hqt, hf.1, hf.2, d3⟩
end Go.Proofs.Ytccogdlmlegmbaa
