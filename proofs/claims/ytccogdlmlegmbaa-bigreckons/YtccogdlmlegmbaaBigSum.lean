/- sum, difference, compare of package big, on limbs. -/
import Derived.Test.YtccogdlmlegmbaaBigKit
namespace Go.Proofs.Ytccogdlmlegmbaa
open Go.ChangeShapes Go.WideShapes Go.ChangeAt Go.RowKit
set_option linter.unusedSimpArgs false
set_option linter.unusedVariables false

theorem pow_step (i : Nat) : (4294967296 : Nat) ^ (i + 1) = 4294967296 ^ i * 4294967296 := Nat.pow_succ ..
/-- one place of a sum: what is written and what is carried -/
theorem sum_step {P S T U c x y s : Nat} (hs : c + x + y = s) (h : S + P * c = T + U) : S + P * (s % 4294967296) + (P * 4294967296) * (s / 4294967296) = (T + P * x) + (U + P * y) := by
  have e : P * s = P * c + P * x + P * y := by rw [← hs, Nat.mul_add, Nat.mul_add]
  have e2 : P * s = P * (s % 4294967296) + (P * 4294967296) * (s / 4294967296) := by
    rw [Nat.mul_assoc, ← Nat.mul_add, Nat.mod_add_div]
  omega
theorem below_w (x : Int) (w : World) : Calls Try.prog 56 #[.int .u64 x] w fun e w' => e = .returned (.int .u64 (x / 9223372036854775808)) ∧ w' = w := by
  go_enter Try.func56, Try.ntmps56
  go_wp2
  go_ret
  exact ⟨rfl, rfl⟩
set_option maxHeartbeats 1000000 in
theorem sum_w (oa ob : Option Addr) (ca cb : Nat) (la lb : List Nat) (w : World) (ma : Lm 4294967296 la) (mb : Lm 4294967296 lb) (za : la.length ≤ 1000000) (zb : lb.length ≤ 1000000) (ha : Lies oa la w) (hb : Lies ob lb w) :
    Calls Try.prog 45 #[.slice oa la.length ca, .slice ob lb.length cb] w fun e w' => ∃ L, e = .returned (.slice (some ⟨w.heap.size, 0, none⟩) L.length L.length) ∧ Own w.heap.size L w' ∧ Lm 4294967296 L ∧ gval 4294967296 L = gval 4294967296 la + gval 4294967296 lb ∧ L.length ≤ la.length + lb.length + 1 ∧ Below w.heap.size w w' ∧ (L.length ≤ la.length + 1 ∨ L.length ≤ lb.length + 1) := by
  by_cases hlt : la.length < lb.length
  · have hz : (la.length : Int) < (lb.length : Int) := by omega
    (
      have hmk := run_make_row' (P := Try.prog) 23 63 (.int .u32 0) 4 Try.underlying23 info32u rfl .i64 .i64 (lb.length + 1) (by omega) (by omega) w
      rw [show (((lb.length + 1 : Nat)) : Int) = (lb.length : Int) + 1 by omega] at hmk
      have hOwn := Own.made (lb.length + 1) w
      have hB1 : Below w.heap.size w (w.alloc (.cells (madeCells #[.int .u32 0] (lb.length + 1)) 63)) := (Below.refl _ w).alloc (Nat.le_refl _) _
      go_enter Try.func45, Try.ntmps45
      go_wp2
      generalize w.alloc (.cells (madeCells #[.int .u32 0] (lb.length + 1)) 63) = W1 at *
      go_loopw [6, 22] (fun c i wr => ∃ (k cn : Nat) (L : List Nat), c = .int .u64 (cn : Int) ∧ i = .int .i64 (k : Int) ∧ k ≤ lb.length ∧ cn ≤ 1 ∧ Own w.heap.size L wr ∧ L.length = lb.length + 1 ∧ Lm 4294967296 L ∧ Below w.heap.size w wr ∧ Hid (gval 4294967296 (L.take k) + 4294967296 ^ k * cn = gval 4294967296 (lb.take k) + gval 4294967296 (la.take k))) (fun _ i _ => lb.length - (intOf i).toNat)
      case atStart => exact ⟨0, 0, _, rfl, rfl, by omega, by omega, hOwn, by simp, Lm.replicate (by omega) _, hB1, hid (by simp [gval])⟩
      case round =>
        obtain ⟨k, cn, L, rfl, rfl, hk, hcn, hL, hLl, hLm, hbw, hH⟩ := hrel
        clear hOwn hmk
        by_cases h1 : k < lb.length
        · have h1z : (k : Int) < (lb.length : Int) := by omega
          have h1y : (k : Int) < ((lb.length + 1 : Nat) : Int) := by omega
          obtain ⟨x, hx⟩ : ∃ x, lb[k]? = some x := ⟨lb[k], by simp [h1]⟩
          obtain ⟨a, rfl, cx⟩ := (hb.below hbw) k x hx
          have hxm := mb.at hx
          have cL := hL.1 k L[k] (by simp)
          have fL := hL.2 k
          by_cases h2 : k < la.length
          · have h2z : (k : Int) < (la.length : Int) := by omega
            obtain ⟨y, hy⟩ : ∃ y, la[k]? = some y := ⟨la[k], by simp [h2]⟩
            obtain ⟨b, rfl, cy⟩ := (ha.below hbw) k y hy
            have hym := ma.at hy
            have w1 : IntKind.u64.wrap ((cn : Int) + (x : Int)) = (cn : Int) + (x : Int) := by rw [IntKind.wrap_u64]; omega
            have w2 : IntKind.u64.wrap ((cn : Int) + (x : Int) + (y : Int)) = (cn : Int) + (x : Int) + (y : Int) := by rw [IntKind.wrap_u64]; omega
            have w3 : IntKind.u32.wrap ((cn : Int) + (x : Int) + (y : Int)) = (((cn + x + y) % 4294967296 : Nat) : Int) := by rw [IntKind.wrap_u32]; omega
            go_wp2
            go_roundw
            case rel =>
              refine ⟨k + 1, (cn + x + y) / 4294967296, L.set k ((cn + x + y) % 4294967296), by congr 1, by go_num, by omega, by omega, hL.set _ (by omega), by simp [hLl], hLm.set _ _ (Nat.mod_lt _ (by omega)), hbw.setCell (Nat.le_refl _) _, hid ?_⟩
              rw [gval_set_take _ _ (by omega), gval_take_succ _ hx, gval_take_succ _ hy, pow_step]
              exact sum_step rfl hH.out
            case measure => simp [intOf]; omega
          · have h2z : ¬ (k : Int) < (la.length : Int) := by omega
            have w1 : IntKind.u64.wrap ((cn : Int) + (x : Int)) = (cn : Int) + (x : Int) := by rw [IntKind.wrap_u64]; omega
            have w3 : IntKind.u32.wrap ((cn : Int) + (x : Int)) = (((cn + x) % 4294967296 : Nat) : Int) := by rw [IntKind.wrap_u32]; omega
            go_wp2
            go_roundw
            case rel =>
              refine ⟨k + 1, (cn + x) / 4294967296, L.set k ((cn + x) % 4294967296), by congr 1, by go_num, by omega, by omega, hL.set _ (by omega), by simp [hLl], hLm.set _ _ (Nat.mod_lt _ (by omega)), hbw.setCell (Nat.le_refl _) _, hid ?_⟩
              rw [gval_set_take _ _ (by omega), gval_take_succ _ hx, pow_step, List.take_of_length_le (by omega : la.length ≤ k + 1)]
              have := sum_step (y := 0) (x := x) (s := cn + x) (by omega) hH.out
              rw [List.take_of_length_le (by omega : la.length ≤ k)] at this
              simpa using this
            case measure => simp [intOf]; omega
        · have h1z : ¬ (k : Int) < (lb.length : Int) := by omega
          have hke : k = lb.length := by omega
          subst hke
          have h1y : (lb.length : Int) < ((lb.length + 1 : Nat) : Int) := by omega
          have cL := hL.1 lb.length (L[lb.length]'(by omega)) (by simp)
          have fL := hL.2 lb.length
          have w3 : IntKind.u32.wrap (cn : Int) = (cn : Int) := by rw [IntKind.wrap_u32]; omega
          go_wp2
          go_ret
          have hl2 : (L.set lb.length cn).length = lb.length + 1 := by simp [hLl]
          refine ⟨L.set lb.length cn, by rw [hl2]; rfl, hL.set _ (by omega), hLm.set _ _ (by omega), ?_, by omega, hbw.setCell (Nat.le_refl _) _, by omega⟩
          have e := gval_set_take 4294967296 (l := L) (i := lb.length) cn (by omega)
          rw [List.take_of_length_le (by omega)] at e
          rw [e, hH.out, List.take_of_length_le (by omega), List.take_of_length_le (by omega)]
          all_goals omega)
  · have hz : ¬ (la.length : Int) < (lb.length : Int) := by omega
    (
      have hmk := run_make_row' (P := Try.prog) 23 63 (.int .u32 0) 4 Try.underlying23 info32u rfl .i64 .i64 (la.length + 1) (by omega) (by omega) w
      rw [show (((la.length + 1 : Nat)) : Int) = (la.length : Int) + 1 by omega] at hmk
      have hOwn := Own.made (la.length + 1) w
      have hB1 : Below w.heap.size w (w.alloc (.cells (madeCells #[.int .u32 0] (la.length + 1)) 63)) := (Below.refl _ w).alloc (Nat.le_refl _) _
      go_enter Try.func45, Try.ntmps45
      go_wp2
      generalize w.alloc (.cells (madeCells #[.int .u32 0] (la.length + 1)) 63) = W1 at *
      go_loopw [6, 22] (fun c i wr => ∃ (k cn : Nat) (L : List Nat), c = .int .u64 (cn : Int) ∧ i = .int .i64 (k : Int) ∧ k ≤ la.length ∧ cn ≤ 1 ∧ Own w.heap.size L wr ∧ L.length = la.length + 1 ∧ Lm 4294967296 L ∧ Below w.heap.size w wr ∧ Hid (gval 4294967296 (L.take k) + 4294967296 ^ k * cn = gval 4294967296 (la.take k) + gval 4294967296 (lb.take k))) (fun _ i _ => la.length - (intOf i).toNat)
      case atStart => exact ⟨0, 0, _, rfl, rfl, by omega, by omega, hOwn, by simp, Lm.replicate (by omega) _, hB1, hid (by simp [gval])⟩
      case round =>
        obtain ⟨k, cn, L, rfl, rfl, hk, hcn, hL, hLl, hLm, hbw, hH⟩ := hrel
        clear hOwn hmk
        by_cases h1 : k < la.length
        · have h1z : (k : Int) < (la.length : Int) := by omega
          have h1y : (k : Int) < ((la.length + 1 : Nat) : Int) := by omega
          obtain ⟨x, hx⟩ : ∃ x, la[k]? = some x := ⟨la[k], by simp [h1]⟩
          obtain ⟨a, rfl, cx⟩ := (ha.below hbw) k x hx
          have hxm := ma.at hx
          have cL := hL.1 k L[k] (by simp)
          have fL := hL.2 k
          by_cases h2 : k < lb.length
          · have h2z : (k : Int) < (lb.length : Int) := by omega
            obtain ⟨y, hy⟩ : ∃ y, lb[k]? = some y := ⟨lb[k], by simp [h2]⟩
            obtain ⟨b, rfl, cy⟩ := (hb.below hbw) k y hy
            have hym := mb.at hy
            have w1 : IntKind.u64.wrap ((cn : Int) + (x : Int)) = (cn : Int) + (x : Int) := by rw [IntKind.wrap_u64]; omega
            have w2 : IntKind.u64.wrap ((cn : Int) + (x : Int) + (y : Int)) = (cn : Int) + (x : Int) + (y : Int) := by rw [IntKind.wrap_u64]; omega
            have w3 : IntKind.u32.wrap ((cn : Int) + (x : Int) + (y : Int)) = (((cn + x + y) % 4294967296 : Nat) : Int) := by rw [IntKind.wrap_u32]; omega
            go_wp2
            go_roundw
            case rel =>
              refine ⟨k + 1, (cn + x + y) / 4294967296, L.set k ((cn + x + y) % 4294967296), by congr 1, by go_num, by omega, by omega, hL.set _ (by omega), by simp [hLl], hLm.set _ _ (Nat.mod_lt _ (by omega)), hbw.setCell (Nat.le_refl _) _, hid ?_⟩
              rw [gval_set_take _ _ (by omega), gval_take_succ _ hx, gval_take_succ _ hy, pow_step]
              exact sum_step rfl hH.out
            case measure => simp [intOf]; omega
          · have h2z : ¬ (k : Int) < (lb.length : Int) := by omega
            have w1 : IntKind.u64.wrap ((cn : Int) + (x : Int)) = (cn : Int) + (x : Int) := by rw [IntKind.wrap_u64]; omega
            have w3 : IntKind.u32.wrap ((cn : Int) + (x : Int)) = (((cn + x) % 4294967296 : Nat) : Int) := by rw [IntKind.wrap_u32]; omega
            go_wp2
            go_roundw
            case rel =>
              refine ⟨k + 1, (cn + x) / 4294967296, L.set k ((cn + x) % 4294967296), by congr 1, by go_num, by omega, by omega, hL.set _ (by omega), by simp [hLl], hLm.set _ _ (Nat.mod_lt _ (by omega)), hbw.setCell (Nat.le_refl _) _, hid ?_⟩
              rw [gval_set_take _ _ (by omega), gval_take_succ _ hx, pow_step, List.take_of_length_le (by omega : lb.length ≤ k + 1)]
              have := sum_step (y := 0) (x := x) (s := cn + x) (by omega) hH.out
              rw [List.take_of_length_le (by omega : lb.length ≤ k)] at this
              simpa using this
            case measure => simp [intOf]; omega
        · have h1z : ¬ (k : Int) < (la.length : Int) := by omega
          have hke : k = la.length := by omega
          subst hke
          have h1y : (la.length : Int) < ((la.length + 1 : Nat) : Int) := by omega
          have cL := hL.1 la.length (L[la.length]'(by omega)) (by simp)
          have fL := hL.2 la.length
          have w3 : IntKind.u32.wrap (cn : Int) = (cn : Int) := by rw [IntKind.wrap_u32]; omega
          go_wp2
          go_ret
          have hl2 : (L.set la.length cn).length = la.length + 1 := by simp [hLl]
          refine ⟨L.set la.length cn, by rw [hl2]; rfl, hL.set _ (by omega), hLm.set _ _ (by omega), ?_, by omega, hbw.setCell (Nat.le_refl _) _, by omega⟩
          have e := gval_set_take 4294967296 (l := L) (i := la.length) cn (by omega)
          rw [List.take_of_length_le (by omega)] at e
          rw [e, hH.out, List.take_of_length_le (by omega), List.take_of_length_le (by omega)]
          all_goals omega)

/-- one place of a difference -/
theorem dif_step (x t : Nat) (hx : x < 4294967296) (ht : t ≤ 4294967296) : ∃ D r q : Nat, IntKind.u64.wrap ((x : Int) - (t : Int)) = (D : Int) ∧ IntKind.u32.wrap (D : Int) = (r : Int) ∧ (D : Int) / 9223372036854775808 = (q : Int) ∧ r + t = x + 4294967296 * q ∧ q ≤ 1 ∧ r < 4294967296 := by
  by_cases h : t ≤ x
  · exact ⟨x - t, x - t, 0, by rw [IntKind.wrap_u64]; omega, by rw [IntKind.wrap_u32]; omega, by omega, by omega, by omega, by omega⟩
  · exact ⟨18446744073709551616 + x - t, 4294967296 + x - t, 1, by rw [IntKind.wrap_u64]; omega, by rw [IntKind.wrap_u32]; omega, by omega, by omega, by omega, by omega⟩
theorem dif_sum {P S T U b t y x r q : Nat} (hb : b + y = t) (hr : r + t = x + 4294967296 * q) (h : S + U = T + P * b) : S + P * r + (U + P * y) = T + P * x + P * 4294967296 * q := by
  have e1 : P * t = P * b + P * y := by rw [← hb, Nat.mul_add]
  have e2 : P * r + P * t = P * x + P * 4294967296 * q := by rw [← Nat.mul_add, hr, Nat.mul_add, Nat.mul_assoc]
  omega
set_option maxHeartbeats 1000000 in
theorem difference_w (oa ob : Option Addr) (ca cb : Nat) (la lb : List Nat) (w : World) (ma : Lm 4294967296 la) (mb : Lm 4294967296 lb) (za : la.length ≤ 1000000) (zb : lb.length ≤ la.length) (hle : gval 4294967296 lb ≤ gval 4294967296 la) (ha : Lies oa la w) (hb : Lies ob lb w) :
    Calls Try.prog 46 #[.slice oa la.length ca, .slice ob lb.length cb] w fun e w' => ∃ L, e = .returned (.slice (some ⟨w.heap.size, 0, none⟩) L.length L.length) ∧ Own w.heap.size L w' ∧ Lm 4294967296 L ∧ gval 4294967296 L = gval 4294967296 la - gval 4294967296 lb ∧ L.length = la.length ∧ Below w.heap.size w w' := by
  have hmk := run_make_row' (P := Try.prog) 23 63 (.int .u32 0) 4 Try.underlying23 info32u rfl .i64 .i64 la.length (by omega) (by omega) w
  have hOwn := Own.made la.length w
  have hB1 : Below w.heap.size w (w.alloc (.cells (madeCells #[.int .u32 0] la.length) 63)) := (Below.refl _ w).alloc (Nat.le_refl _) _
  go_enter Try.func46, Try.ntmps46
  go_wp2
  generalize w.alloc (.cells (madeCells #[.int .u32 0] la.length) 63) = W1 at *
  have hle' := hid hle
  clear hle
  go_loopw [6, 15] (fun c i wr => ∃ (k cn : Nat) (L : List Nat), c = .int .u64 (cn : Int) ∧ i = .int .i64 (k : Int) ∧ k ≤ la.length ∧ cn ≤ 1 ∧ Own w.heap.size L wr ∧ L.length = la.length ∧ Lm 4294967296 L ∧ Below w.heap.size w wr ∧ Hid (gval 4294967296 (L.take k) + gval 4294967296 (lb.take k) = gval 4294967296 (la.take k) + 4294967296 ^ k * cn)) (fun _ i _ => la.length - (intOf i).toNat)
  case atStart => exact ⟨0, 0, _, rfl, rfl, by omega, by omega, hOwn, by simp, Lm.replicate (by omega) _, hB1, hid (by simp [gval])⟩
  case round =>
    obtain ⟨k, cn, L, rfl, rfl, hk, hcn, hL, hLl, hLm, hbw, hH⟩ := hrel
    clear hOwn hmk
    by_cases h1 : k < la.length
    · have h1z : (k : Int) < (la.length : Int) := by omega
      obtain ⟨x, hx⟩ : ∃ x, la[k]? = some x := ⟨la[k], by simp [h1]⟩
      obtain ⟨a, rfl, cx⟩ := (ha.below hbw) k x hx
      have hxm := ma.at hx
      have cL := hL.1 k L[k] (by simp)
      have fL := hL.2 k
      by_cases h2 : k < lb.length
      · have h2z : (k : Int) < (lb.length : Int) := by omega
        obtain ⟨y, hy⟩ : ∃ y, lb[k]? = some y := ⟨lb[k], by simp [h2]⟩
        obtain ⟨b, rfl, cy⟩ := (hb.below hbw) k y hy
        have hym := mb.at hy
        obtain ⟨t, ht⟩ : ∃ t, cn + y = t := ⟨_, rfl⟩
        have w1 : IntKind.u64.wrap ((cn : Int) + (y : Int)) = (t : Int) := by rw [IntKind.wrap_u64]; omega
        obtain ⟨D, r, q, w2, w3, w4, hr, hq, hrm⟩ := dif_step x t hxm (by omega)
        have hsum := hid (dif_sum ht hr hH.out)
        clear hr ht
        go_wp2_with fail
        refine (below_w _ _).mono ?_
        rintro e w' ⟨rfl, rfl⟩
        rw [w4]
        go_wp2
        go_roundw
        case rel =>
          refine ⟨k + 1, q, L.set k r, rfl, by go_num, by omega, by omega, hL.set _ (by omega), by simp [hLl], hLm.set _ _ hrm, hbw.setCell (Nat.le_refl _) _, hid ?_⟩
          rw [gval_set_take _ _ (by omega), gval_take_succ _ hx, gval_take_succ _ hy, pow_step]
          exact hsum.out
        case measure => simp [intOf]; omega
      · have h2z : ¬ (k : Int) < (lb.length : Int) := by omega
        obtain ⟨D, r, q, w2, w3, w4, hr, hq, hrm⟩ := dif_step x cn hxm (by omega)
        have hsum := hid (dif_sum (y := 0) rfl hr hH.out)
        clear hr
        go_wp2_with fail
        refine (below_w _ _).mono ?_
        rintro e w' ⟨rfl, rfl⟩
        rw [w4]
        go_wp2
        go_roundw
        case rel =>
          refine ⟨k + 1, q, L.set k r, rfl, by go_num, by omega, by omega, hL.set _ (by omega), by simp [hLl], hLm.set _ _ hrm, hbw.setCell (Nat.le_refl _) _, hid ?_⟩
          rw [gval_set_take _ _ (by omega), gval_take_succ _ hx, pow_step, List.take_of_length_le (by omega : lb.length ≤ k + 1)]
          have := hsum.out
          rw [List.take_of_length_le (by omega : lb.length ≤ k)] at this
          simpa using this
        case measure => simp [intOf]; omega
    · have h1z : ¬ (k : Int) < (la.length : Int) := by omega
      have hke : k = la.length := by omega
      subst hke
      go_wp2
      go_ret
      have hle := hle'.out
      have hh := hH.out
      rw [List.take_of_length_le (by omega), List.take_of_length_le (by omega), List.take_of_length_le (by omega)] at hh
      have hlt := gval_lt hLm
      rw [hLl] at hlt
      have hc0 : cn = 0 := by
        rcases Nat.lt_or_ge 0 cn with h | h
        · have : cn = 1 := by omega
          subst this; omega
        · omega
      subst hc0
      refine ⟨L, by rw [hLl]; rfl, hL, hLm, by omega, hLl, hbw⟩

/-- -1, 0, 1 -/
def cmpZ (x y : Int) : Int := if x < y then -1 else if y < x then 1 else 0
theorem isNaN_w (x : Int) (w : World) : Calls Try.prog 64 #[.int .i64 x] w fun e w' => e = .returned (.bool false) ∧ w' = w := by
  go_enter Try.func64, Try.ntmps64
  go_wp2
  go_ret
  exact ⟨by simp, rfl⟩
theorem isNaNu_w (x : Int) (w : World) : Calls Try.prog 65 #[.int .u32 x] w fun e w' => e = .returned (.bool false) ∧ w' = w := by
  go_enter Try.func65, Try.ntmps65
  go_wp2
  go_ret
  exact ⟨by simp, rfl⟩
theorem cmpi_w (x y : Int) (w : World) : Calls Try.prog 52 #[.int .i64 x, .int .i64 y] w fun e w' => e = .returned (.int .i64 (cmpZ x y)) ∧ w' = w := by
  unfold cmpZ
  by_cases h1 : x < y
  · go_enter Try.func52, Try.ntmps52
    go_wp2_with (go_at_call 64; refine (isNaN_w _ _).mono ?_; rintro e w1 ⟨rfl, rfl⟩)
    go_ret
    exact ⟨by simp [h1], rfl⟩
  · by_cases h2 : y < x
    · go_enter Try.func52, Try.ntmps52
      go_wp2_with (go_at_call 64; refine (isNaN_w _ _).mono ?_; rintro e w1 ⟨rfl, rfl⟩)
      go_ret
      exact ⟨by simp [h1, h2], rfl⟩
    · go_enter Try.func52, Try.ntmps52
      go_wp2_with (go_at_call 64; refine (isNaN_w _ _).mono ?_; rintro e w1 ⟨rfl, rfl⟩)
      go_ret
      exact ⟨by simp [h1, h2], rfl⟩
theorem cmpu_w (x y : Int) (w : World) : Calls Try.prog 53 #[.int .u32 x, .int .u32 y] w fun e w' => e = .returned (.int .i64 (cmpZ x y)) ∧ w' = w := by
  unfold cmpZ
  by_cases h1 : x < y
  · go_enter Try.func53, Try.ntmps53
    go_wp2_with (go_at_call 65; refine (isNaNu_w _ _).mono ?_; rintro e w1 ⟨rfl, rfl⟩)
    go_ret
    exact ⟨by simp [h1], rfl⟩
  · by_cases h2 : y < x
    · go_enter Try.func53, Try.ntmps53
      go_wp2_with (go_at_call 65; refine (isNaNu_w _ _).mono ?_; rintro e w1 ⟨rfl, rfl⟩)
      go_ret
      exact ⟨by simp [h1, h2], rfl⟩
    · go_enter Try.func53, Try.ntmps53
      go_wp2_with (go_at_call 65; refine (isNaNu_w _ _).mono ?_; rintro e w1 ⟨rfl, rfl⟩)
      go_ret
      exact ⟨by simp [h1, h2], rfl⟩
theorem cmpZ_lt {x y : Int} (h : x < y) : cmpZ x y = -1 := by unfold cmpZ; rw [if_pos h]
theorem cmpZ_gt {x y : Int} (h : y < x) : cmpZ x y = 1 := by unfold cmpZ; rw [if_neg (by omega), if_pos h]
theorem cmpZ_eq (x : Int) : cmpZ x x = 0 := by unfold cmpZ; rw [if_neg (by omega), if_neg (by omega)]
theorem glim_cmp_len {m n : Nat} (h : (glim 4294967296 m).length ≠ (glim 4294967296 n).length) : cmpZ (m : Int) (n : Int) = cmpZ ((glim 4294967296 m).length : Int) ((glim 4294967296 n).length : Int) := by
  rcases Nat.lt_or_gt_of_ne h with h | h
  · have := glim_len_lt (by omega) h
    rw [cmpZ_lt (by omega), cmpZ_lt (by omega)]
  · have := glim_len_lt (by omega) h
    rw [cmpZ_gt (by omega), cmpZ_gt (by omega)]
theorem glim_cmp_at {m n i x y : Nat} (hlen : (glim 4294967296 m).length = (glim 4294967296 n).length) (hd : (glim 4294967296 m).drop (i + 1) = (glim 4294967296 n).drop (i + 1)) (hx : (glim 4294967296 m)[i]? = some x) (hy : (glim 4294967296 n)[i]? = some y) (hxy : x ≠ y) : cmpZ (m : Int) (n : Int) = cmpZ (x : Int) (y : Int) := by
  rcases Nat.lt_or_gt_of_ne hxy with h | h
  · have := gval_order (lm_glim (by omega) m) hlen hd hx hy h
    rw [gval_glim (by omega), gval_glim (by omega)] at this
    rw [cmpZ_lt (by omega), cmpZ_lt (by omega)]
  · have := gval_order (lm_glim (by omega) n) hlen.symm hd.symm hy hx h
    rw [gval_glim (by omega), gval_glim (by omega)] at this
    rw [cmpZ_gt (by omega), cmpZ_gt (by omega)]
theorem below_drewNv {B : Nat} {a w : World} (h : Below B a w) (n : Nat) : Below B a (w.drewN n) := by
  induction n with
  | zero => exact h
  | succ n ih => exact ih.drew
set_option maxHeartbeats 1000000 in
theorem compare_w (oa ob : Option Addr) (ca cb : Nat) (m n : Nat) (w : World) (za : (glim 4294967296 m).length ≤ 1000000) (zb : (glim 4294967296 n).length ≤ 1000000) (ha : Lies oa (glim 4294967296 m) w) (hb : Lies ob (glim 4294967296 n) w) :
    Calls Try.prog 39 #[.slice oa (glim 4294967296 m).length ca, .slice ob (glim 4294967296 n).length cb] w fun e w' => e = .returned (.int .i64 (cmpZ (m : Int) (n : Int))) ∧ Below w.heap.size w w' := by
  obtain ⟨R, hR⟩ : ∃ R, cmpZ (m : Int) (n : Int) = R := ⟨_, rfl⟩
  rw [hR]
  have hlen' := glim_cmp_len (m := m) (n := n)
  have hat := fun i x y => glim_cmp_at (m := m) (n := n) (i := i) (x := x) (y := y)
  have heq : glim 4294967296 m = glim 4294967296 n → R = 0 := fun e => by
    have := glim_inj (by omega) e
    subst this; rw [← hR, cmpZ_eq]
  rw [hR] at hlen' hat
  generalize glim 4294967296 m = X at *
  generalize glim 4294967296 n = Y at *
  have hlen := hid hlen'
  clear hlen' hR
  by_cases hl : X.length = Y.length
  · have hlz : ((X.length : Int) != (Y.length : Int)) = false := by simp only [bne_eq_false_iff_eq]; omega
    go_enter Try.func39, Try.ntmps39
    go_wp2
    clear hlz
    go_loopw [5] (fun i wr => ∃ (k : Nat), i = .int .i64 ((k : Int) - 1) ∧ k ≤ X.length ∧ Below w.heap.size w wr ∧ Hid (X.drop k = Y.drop k)) (fun i _ => (intOf i + 1).toNat)
    case atStart => exact ⟨X.length, by go_num, Nat.le_refl _, Below.refl _ _, hid (by rw [List.drop_of_length_le (by omega), List.drop_of_length_le (by omega)])⟩
    case round =>
      obtain ⟨k, rfl, hk, hbw, hH⟩ := hrel
      by_cases h0 : k = 0
      · subst h0
        have hz := heq (by simpa using hH.out)
        go_wp2
        go_ret
        exact ⟨by rw [hz]; rfl, hbw⟩
      · obtain ⟨j, rfl⟩ : ∃ j, k = j + 1 := ⟨k - 1, by omega⟩
        obtain ⟨x, hx⟩ : ∃ x, X[j]? = some x := ⟨X[j]'(by omega), by simp⟩
        obtain ⟨y, hy⟩ : ∃ y, Y[j]? = some y := ⟨Y[j]'(by omega), by simp⟩
        obtain ⟨a, rfl, cx⟩ := (ha.below hbw) j x hx
        obtain ⟨b, rfl, cy⟩ := (hb.below hbw) j y hy
        have e1 : (((j + 1 : Nat) : Int) - 1) = (j : Int) := by omega
        have hjx : (j : Int) < (X.length : Int) := by omega
        have hjy : (j : Int) < (Y.length : Int) := by omega
        rw [e1]
        by_cases hxy : x = y
        · subst hxy
          have hdn : Hid (X.drop j = Y.drop j) := hid (by
            rw [List.drop_eq_getElem_cons (by omega : j < X.length), List.drop_eq_getElem_cons (by omega : j < Y.length), hH.out]
            congr 1
            rw [List.getElem?_eq_getElem (by omega)] at hx hy
            injection hx with hx; injection hy with hy; rw [hx, hy])
          go_wp2
          go_quiet (fail)
          go_wp2
          go_roundw
          case rel => exact ⟨j, by go_num, by omega, below_drewNv hbw _, hdn⟩
          case measure => simp [intOf]
        · have hxz : ((x : Int) != (y : Int)) = true := by simp only [bne_iff_ne, ne_eq]; omega
          have hres := hid (hat j x y hl hH.out hx hy hxy)
          clear hat heq
          go_wp2
          go_quiet (fail)
          have hbw' := below_drewNv hbw nq
          obtain ⟨a', ea, cx'⟩ := (ha.below hbw') j x hx
          obtain ⟨b', eb, cy'⟩ := (hb.below hbw') j y hy
          cases ea; cases eb
          clear cx cy hbw
          generalize wr.drewN nq = wq at *
          go_wp2
          go_quiet ((go_at_call 53; exact Calls.quiet_of_same (cmpu_w _ _ _)))
          go_wp2
          go_ret
          exact ⟨by rw [hres.out]; rfl, below_drewNv hbw' _⟩
  · have hlz : ((X.length : Int) != (Y.length : Int)) = true := by simp only [bne_iff_ne, ne_eq]; omega
    go_enter Try.func39, Try.ntmps39
    go_wp2_with fail
    refine (cmpi_w _ _ _).mono ?_
    rintro e w1 ⟨rfl, rfl⟩
    go_wp2
    go_ret
    exact ⟨by rw [hlen.out hl]; rfl, Below.refl _ _⟩
end Go.Proofs.Ytccogdlmlegmbaa
