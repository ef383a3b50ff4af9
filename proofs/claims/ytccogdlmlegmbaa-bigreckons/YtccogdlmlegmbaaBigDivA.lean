/- raised, lower of package big. -/
import Derived.Test.YtccogdlmlegmbaaBigText
namespace Go.Proofs.Ytccogdlmlegmbaa
open Go.ChangeShapes Go.WideShapes Go.ChangeAt Go.RowKit
set_option linter.unusedSimpArgs false
set_option linter.unusedVariables false
theorem or_low {s c y : Nat} (hc : c < 2 ^ s) (hy : y % 2 ^ s = 0) (hs : c + y < 18446744073709551616) : bits .or .u64 (c : Int) (y : Int) = ((c + y : Nat) : Int) := by
  rw [u64_or_nat c y (by omega) (by omega), Nat.or_comm, nat_join s y c hy hc, Nat.add_comm]
theorem pow32 {s : Nat} (hs : s < 32) : 1 ≤ 2 ^ s ∧ 2 ^ s ≤ 2147483648 := by
  refine ⟨Nat.pow_pos (by omega), ?_⟩
  have := Nat.pow_le_pow_right (n := 2) (by omega) (by omega : s ≤ 31)
  simpa using this
/-- one place of a shift -/
theorem raise_step {Q S T c x t P : Nat} (ht : c + x * P = t) (h : S + Q * c = T * P) : S + Q * (t % 4294967296) + Q * 4294967296 * (t / 4294967296) = (T + Q * x) * P := by
  have e2 : Q * t = Q * (t % 4294967296) + Q * 4294967296 * (t / 4294967296) := by
    rw [Nat.mul_assoc, ← Nat.mul_add, Nat.mod_add_div]
  have e : Q * t = Q * c + Q * (x * P) := by rw [← ht, Nat.mul_add]
  rw [Nat.add_mul, Nat.mul_assoc Q x P]; omega
set_option maxHeartbeats 1000000 in
theorem raised_w (oa : Option Addr) (ca s : Nat) (la : List Nat) (w : World) (hs : s < 32) (ma : Lm 4294967296 la) (za : la.length ≤ 1000000) (ha : Lies oa la w) :
    Calls Try.prog 58 #[.slice oa la.length ca, .int .i64 (s : Int)] w fun e w' => ∃ L, e = .returned (.slice (some ⟨w.heap.size, 0, none⟩) L.length L.length) ∧ Own w.heap.size L w' ∧ Lm 4294967296 L ∧ gval 4294967296 L = gval 4294967296 la * 2 ^ s ∧ L.length = la.length + 1 ∧ Below w.heap.size w w' ∧ w.heap.size < w'.heap.size := by
  have hmk := run_make_row' (P := Try.prog) 23 63 (.int .u32 0) 4 Try.underlying23 info32u rfl .i64 .i64 (la.length + 1) (by omega) (by omega) w
  rw [show (((la.length + 1 : Nat)) : Int) = (la.length : Int) + 1 by omega] at hmk
  have hOwn := Own.made (la.length + 1) w
  have hB1 : Below w.heap.size w (w.alloc (.cells (madeCells #[.int .u32 0] (la.length + 1)) 63)) := (Below.refl _ w).alloc (Nat.le_refl _) _
  have hz1 : w.heap.size < (w.alloc (.cells (madeCells #[.int .u32 0] (la.length + 1)) 63)).heap.size := by simp
  obtain ⟨hP0, hP1⟩ := pow32 hs
  go_enter Try.func58, Try.ntmps58
  go_wp2
  generalize w.alloc (.cells (madeCells #[.int .u32 0] (la.length + 1)) 63) = W1 at *
  go_loopw [6, 15] (fun c i wr => ∃ (k cn : Nat) (L : List Nat), c = .int .u64 (cn : Int) ∧ i = .int .i64 (k : Int) ∧ k ≤ la.length ∧ cn < 2 ^ s ∧ Own w.heap.size L wr ∧ L.length = la.length + 1 ∧ Lm 4294967296 L ∧ Below w.heap.size w wr ∧ w.heap.size < wr.heap.size ∧ Hid (gval 4294967296 (L.take k) + 4294967296 ^ k * cn = gval 4294967296 (la.take k) * 2 ^ s)) (fun _ i _ => la.length - (intOf i).toNat)
  case atStart => exact ⟨0, 0, _, rfl, rfl, by omega, hP0, hOwn, by simp, Lm.replicate (by omega) _, hB1, hz1, hid (by simp [gval])⟩
  case round =>
    obtain ⟨k, cn, L, rfl, rfl, hk, hcn, hL, hLl, hLm, hbw, hzw, hH⟩ := hrel
    clear hOwn hmk
    by_cases h1 : k < la.length
    · have h1z : (k : Int) < (la.length : Int) := by omega
      have h1y : (k : Int) < ((la.length + 1 : Nat) : Int) := by omega
      obtain ⟨x, hx⟩ : ∃ x, la[k]? = some x := ⟨la[k], by simp [h1]⟩
      obtain ⟨a, rfl, cx⟩ := (ha.below hbw) k x hx
      have hxm := ma.at hx
      have cL := hL.1 k L[k] (by simp)
      have fL := hL.2 k
      obtain ⟨xp, hxp⟩ : ∃ xp, x * 2 ^ s = xp := ⟨_, rfl⟩
      obtain ⟨t, ht⟩ : ∃ t, cn + xp = t := ⟨_, rfl⟩
      have hxpm : xp ≤ 4294967295 * 2147483648 := by rw [← hxp]; exact Nat.mul_le_mul (by omega) hP1
      have w1 : IntKind.u64.wrap ((x : Int) * 2 ^ s) = (xp : Int) := by
        have e : (x : Int) * 2 ^ s = (xp : Int) := by rw [← hxp, Int.natCast_mul, Int.natCast_pow]; rfl
        rw [e, IntKind.wrap_u64]; omega
      have w2 : bits .or .u64 (cn : Int) (xp : Int) = (t : Int) := by
        rw [or_low (s := s) hcn (by rw [← hxp]; exact Nat.mul_mod_left _ _) (by omega), ht]
      have w3 : IntKind.u32.wrap (t : Int) = ((t % 4294967296 : Nat) : Int) := by rw [IntKind.wrap_u32]; omega
      have htP : Hid (t / 4294967296 < 2 ^ s) := hid (by
        rw [Nat.div_lt_iff_lt_mul (by omega), ← ht, ← hxp]
        have : x * 2 ^ s + 1 * 2 ^ s ≤ 4294967296 * 2 ^ s := by rw [← Nat.add_mul]; exact Nat.mul_le_mul_right _ (by omega)
        rw [Nat.mul_comm (2 ^ s)]
        omega)
      have hstep := hid (raise_step (c := cn) (x := x) (t := t) (P := 2 ^ s) (by rw [hxp]; exact ht) hH.out)
      clear hxp ht
      go_wp2
      go_roundw
      case rel =>
        refine ⟨k + 1, t / 4294967296, L.set k (t % 4294967296), by congr 1, by go_num, by omega, htP.out, hL.set _ (by omega), by simp [hLl], hLm.set _ _ (Nat.mod_lt _ (by omega)), hbw.setCell (Nat.le_refl _) _, by simpa using hzw, hid ?_⟩
        rw [gval_set_take _ _ (by omega), gval_take_succ _ hx, pow_step]
        exact hstep.out
      case measure => simp [intOf]; omega
    · have h1z : ¬ (k : Int) < (la.length : Int) := by omega
      have hke : k = la.length := by omega
      subst hke
      have h1y : (la.length : Int) < ((la.length + 1 : Nat) : Int) := by omega
      have cL := hL.1 la.length (L[la.length]'(by omega)) (by simp)
      have fL := hL.2 la.length
      have hcn' : cn < 4294967296 := by omega
      have w3 : IntKind.u32.wrap (cn : Int) = (cn : Int) := by rw [IntKind.wrap_u32]; omega
      go_wp2
      go_ret
      have hl2 : (L.set la.length cn).length = la.length + 1 := by simp [hLl]
      refine ⟨L.set la.length cn, by rw [hl2]; rfl, hL.set _ (by omega), hLm.set _ _ (by omega), ?_, by omega, hbw.setCell (Nat.le_refl _) _, by simpa using hzw⟩
      have e := gval_set_take 4294967296 (l := L) (i := la.length) cn (by omega)
      rw [List.take_of_length_le (by omega)] at e
      rw [e, hH.out, List.take_of_length_le (by omega)]
/-- one place of a shift down -/
theorem lower_step {x y P G Gt : Nat} (hP : 0 < P) (hx : x < 4294967296) (hB : 4294967296 % P = 0) (hG : G = y + 4294967296 * Gt) : (x + 4294967296 * G) / P = ((y * 4294967296 + x) / P) % 4294967296 + 4294967296 * (G / P) := by
  obtain ⟨b, hb⟩ : ∃ b, 4294967296 = P * b := ⟨4294967296 / P, by have := Nat.div_add_mod 4294967296 P; omega⟩
  have hGP : G % P = y % P := by
    rw [hG, hb, Nat.mul_assoc, Nat.add_mul_mod_self_left]
  have h1 : (x + 4294967296 * G) / P = (x + 4294967296 * (y % P)) / P + 4294967296 * (G / P) := by
    have e : x + 4294967296 * G = (x + 4294967296 * (y % P)) + P * (4294967296 * (G / P)) := by
      have := Nat.div_add_mod G P
      rw [hGP] at this
      have e2 : 4294967296 * G = 4294967296 * (P * (G / P)) + 4294967296 * (y % P) := by rw [← Nat.mul_add, this]
      have e3 : 4294967296 * (P * (G / P)) = P * (4294967296 * (G / P)) := Nat.mul_left_comm _ _ _
      omega
    rw [e, Nat.add_mul_div_left _ _ hP]
  have h2 : ((y * 4294967296 + x) / P) % 4294967296 = (x + 4294967296 * (y % P)) / P := by
    have e : y * 4294967296 + x = (x + 4294967296 * (y % P)) + P * (4294967296 * (y / P)) := by
      have := Nat.div_add_mod y P
      have e2 : 4294967296 * y = 4294967296 * (P * (y / P)) + 4294967296 * (y % P) := by rw [← Nat.mul_add, this]
      have e3 : 4294967296 * (P * (y / P)) = P * (4294967296 * (y / P)) := Nat.mul_left_comm _ _ _
      omega
    rw [e, Nat.add_mul_div_left _ _ hP, Nat.add_mul_mod_self_left]
    refine Nat.mod_eq_of_lt ?_
    rw [Nat.div_lt_iff_lt_mul hP]
    have := Nat.mod_lt y hP
    have h3 : 4294967296 * (y % P + 1) ≤ 4294967296 * P := Nat.mul_le_mul_left _ this
    omega
  rw [h1, h2]
theorem pow_mod32 {s : Nat} (hs : s < 32) : 4294967296 % 2 ^ s = 0 := by
  have e : 4294967296 = 2 ^ s * 2 ^ (32 - s) := by rw [← Nat.pow_add]; rw [show s + (32 - s) = 32 by omega]
  rw [e]; exact Nat.mul_mod_right _ _
set_option maxHeartbeats 1000000 in
theorem lower_w (g c s : Nat) (l : List Nat) (w : World) (hs : s < 32) (hl : Lm 4294967296 l) (hlen : l.length ≤ 1000000) (hO : Own g l w) :
    Calls Try.prog 62 #[.slice (some ⟨g, 0, none⟩) l.length c, .int .i64 (s : Int)] w fun e w' => (∃ v, e = .returned v) ∧ ∃ L, Own g L w' ∧ Lm 4294967296 L ∧ gval 4294967296 L = gval 4294967296 l / 2 ^ s ∧ L.length = l.length ∧ Only g w w' := by
  obtain ⟨hP0, hP1⟩ := pow32 hs
  go_enter Try.func62, Try.ntmps62
  go_wp2
  go_loopw [4, 5] (fun rv i wr => ∃ (k r : Nat) (L : List Nat), rv = .int .u64 (r : Int) ∧ i = .int .i64 ((k : Int) - 1) ∧ k ≤ l.length ∧ r < 18446744073709551616 ∧ Own g L wr ∧ L.length = l.length ∧ Lm 4294967296 L ∧ Only g w wr ∧ Hid (gval 4294967296 (L.drop k) = gval 4294967296 (l.drop k) / 2 ^ s) ∧ Hid (L.take k = l.take k) ∧ Hid (∃ Gt, gval 4294967296 (l.drop k) = r % 4294967296 + 4294967296 * Gt)) (fun _ i _ => (intOf i + 1).toNat)
  case atStart => exact ⟨l.length, 0, l, rfl, by go_num, Nat.le_refl _, by omega, hO, rfl, hl, Only.refl _ _, hid (by simp [gval]), hid rfl, hid ⟨0, by simp [gval]⟩⟩
  case round =>
    obtain ⟨k, r, L, rfl, rfl, hk, hr, hL, hLl, hLm, hon, hH, hT, hG⟩ := hrel
    by_cases h0 : k = 0
    · subst h0
      have hh := hH.out
      simp only [List.drop_zero] at hh
      clear hH hT hG
      go_wp2
      go_end0
      exact ⟨⟨_, rfl⟩, L, hL, hLm, hh, hLl, hon⟩
    · obtain ⟨j, rfl⟩ : ∃ j, k = j + 1 := ⟨k - 1, by omega⟩
      obtain ⟨x, hx⟩ : ∃ x, l[j]? = some x := ⟨l[j]'(by omega), by simp⟩
      have hxL : L[j]? = some x := by
        have := congrArg (·[j]?) hT.out
        simp only [List.getElem?_take_of_lt (show j < j + 1 by omega)] at this
        rw [this, hx]
      have cx := hL.1 j x hxL
      have fx := hL.2 j
      have hxm := hl.at hx
      have e1 : (((j + 1 : Nat) : Int) - 1) = (j : Int) := by omega
      have hjl : (j : Int) < (l.length : Int) := by omega
      obtain ⟨y, hy⟩ : ∃ y, r % 4294967296 = y := ⟨_, rfl⟩
      obtain ⟨rb, hrb⟩ : ∃ rb, y * 4294967296 = rb := ⟨_, rfl⟩
      obtain ⟨cur, hcur⟩ : ∃ cur, rb + x = cur := ⟨_, rfl⟩
      have w1 : IntKind.u64.wrap ((r : Int) * 4294967296) = (rb : Int) := by rw [IntKind.wrap_u64]; omega
      have w2 : bits .or .u64 (rb : Int) (x : Int) = (cur : Int) := by
        have := or32 (r := y) (x := x) (by omega) hxm
        rw [hrb] at this
        rw [this, hcur]
      obtain ⟨sh, hsh⟩ : ∃ sh, cur / 2 ^ s = sh := ⟨_, rfl⟩
      have w3 : (cur : Int) / 2 ^ s = (sh : Int) := by rw [← hsh, Int.natCast_ediv, Int.natCast_pow]; rfl
      have w4 : IntKind.u32.wrap (sh : Int) = ((sh % 4294967296 : Nat) : Int) := by rw [IntKind.wrap_u32]; omega
      have hst : Hid (gval 4294967296 (l.drop j) / 2 ^ s = sh % 4294967296 + 4294967296 * gval 4294967296 (L.drop (j + 1))) := hid (by
        obtain ⟨Gt, hGt⟩ := hG.out
        rw [hy] at hGt
        rw [gval_drop_at _ hx, lower_step (P := 2 ^ s) (by omega) hxm (pow_mod32 hs) hGt, hrb, hcur, hsh, hH.out])
      have hcx : Hid (cur % 4294967296 = x ∧ cur < 18446744073709551616) := hid (by omega)
      clear hy hrb hcur hsh
      rw [e1]
      go_wp2
      go_roundw
      case rel =>
        refine ⟨j, cur, L.set j (sh % 4294967296), rfl, by go_num, by omega, hcx.out.2, hL.set _ (by omega), by simp [hLl], hLm.set _ _ (Nat.mod_lt _ (by omega)), hon.setCell _ _, hid ?_, hid ?_, hid ⟨_, by rw [hcx.out.1]; exact gval_drop_at _ hx⟩⟩
        · rw [gval_drop_set _ _ (by omega), hst.out]
        · rw [List.take_set_of_le (Nat.le_refl _)]
          have := congrArg (List.take j) hT.out
          rwa [List.take_take, List.take_take, Nat.min_eq_left (by omega)] at this
      case measure => simp [intOf]; try omega
end Go.Proofs.Ytccogdlmlegmbaa
