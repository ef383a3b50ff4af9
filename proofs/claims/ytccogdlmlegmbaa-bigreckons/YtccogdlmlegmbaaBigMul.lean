/- product, Mul, Of of package big. -/
import Derived.Test.YtccogdlmlegmbaaBigSub
namespace Go.Proofs.Ytccogdlmlegmbaa
open Go.ChangeShapes Go.WideShapes Go.ChangeAt Go.RowKit
set_option linter.unusedSimpArgs false
set_option linter.unusedVariables false
theorem gval_set (b : Nat) {l : List Nat} {i old : Nat} (x : Nat) (h : l[i]? = some old) : gval b (l.set i x) + b ^ i * old = gval b l + b ^ i * x := by
  have hi : i < l.length := (List.getElem?_eq_some_iff.1 h).1
  have e1 := gval_split b (i + 1) l (by omega)
  have e2 := gval_split b (i + 1) (l.set i x) (by simp; omega)
  rw [gval_set_take b x hi, List.drop_set_of_lt (by omega)] at e2
  rw [gval_take_succ b h] at e1
  omega
/-- one place of a product -/
theorem mul_step {P G V W c x y old s G' : Nat} (hs : c + (x * y + old) = s) (hg : G' + P * old = G + P * (s % 4294967296)) (h : G + P * c = V + W) : G' + P * 4294967296 * (s / 4294967296) = V + (W + P * (x * y)) := by
  have e : P * s = P * c + (P * (x * y) + P * old) := by rw [← hs, Nat.mul_add, Nat.mul_add]
  have e2 : P * s = P * (s % 4294967296) + (P * 4294967296) * (s / 4294967296) := by
    rw [Nat.mul_assoc, ← Nat.mul_add, Nat.mod_add_div]
  omega
theorem mul_tail (k q x y : Nat) : (4294967296 : Nat) ^ (k + q) * (x * y) = 4294967296 ^ k * (x * (4294967296 ^ q * y)) := by
  rw [Nat.pow_add, Nat.mul_assoc]; congr 1; exact Nat.mul_left_comm _ _ _
set_option maxHeartbeats 2000000 in
theorem product_w (oa ob : Option Addr) (ca cb : Nat) (la lb : List Nat) (w : World) (ma : Lm 4294967296 la) (mb : Lm 4294967296 lb) (za : la.length ≤ 100000) (zb : lb.length ≤ 100000) (ha : Lies oa la w) (hb : Lies ob lb w) :
    Calls Try.prog 40 #[.slice oa la.length ca, .slice ob lb.length cb] w fun e w' => ∃ L, e = .returned (.slice (some ⟨w.heap.size, 0, none⟩) L.length L.length) ∧ Own w.heap.size L w' ∧ Lm 4294967296 L ∧ gval 4294967296 L = gval 4294967296 la * gval 4294967296 lb ∧ L.length = la.length + lb.length ∧ Below w.heap.size w w' := by
  have hmk := run_make_row' (P := Try.prog) 23 63 (.int .u32 0) 4 Try.underlying23 info32u rfl .i64 .i64 (la.length + lb.length) (by omega) (by omega) w
  rw [show (((la.length + lb.length : Nat)) : Int) = (la.length : Int) + (lb.length : Int) by omega] at hmk
  have hOwn := Own.made (la.length + lb.length) w
  have hB1 : Below w.heap.size w (w.alloc (.cells (madeCells #[.int .u32 0] (la.length + lb.length)) 63)) := (Below.refl _ w).alloc (Nat.le_refl _) _
  go_enter Try.func40, Try.ntmps40
  go_wp2
  generalize w.alloc (.cells (madeCells #[.int .u32 0] (la.length + lb.length)) 63) = W1 at *
  clear hmk
  go_loopw [19] (fun i wr => ∃ (k : Nat) (L : List Nat), i = .int .i64 (k : Int) ∧ k ≤ la.length ∧ Own w.heap.size L wr ∧ L.length = la.length + lb.length ∧ Lm 4294967296 L ∧ Below w.heap.size w wr ∧ Hid (gval 4294967296 L = gval 4294967296 (la.take k) * gval 4294967296 lb) ∧ Hid (∀ j, k + lb.length ≤ j → j < L.length → L[j]? = some 0)) (fun i _ => la.length - (intOf i).toNat)
  case atStart =>
    refine ⟨0, _, rfl, by omega, hOwn, by simp, Lm.replicate (by omega) _, hB1, hid ?_, hid fun j _ hj => ?_⟩
    · rw [gval_zeros _ _ (fun x hx => (List.mem_replicate.1 hx).2)]; simp [gval]
    · simp at hj; simp [hj]
  case round =>
    obtain ⟨k, L0, rfl, hk, hL0, hLl0, hLm0, hbw0, hG0, hZ0⟩ := hrel
    clear hOwn hB1
    by_cases h1 : k < la.length
    · have h1z : (k : Int) < (la.length : Int) := by omega
      obtain ⟨x, hx⟩ : ∃ x, la[k]? = some x := ⟨la[k], by simp [h1]⟩
      obtain ⟨a, rfl, cx⟩ := (ha.below hbw0) k x hx
      have hxm := ma.at hx
      have h1y : (k : Int) + (lb.length : Int) < ((la.length + lb.length : Nat) : Int) := by omega
      go_wp2
      clear cx
      go_loopw [8, 26] (fun c j wr => ∃ (q cn : Nat) (L : List Nat), c = .int .u64 (cn : Int) ∧ j = .int .i64 (q : Int) ∧ q ≤ lb.length ∧ cn < 4294967296 ∧ Own w.heap.size L wr ∧ L.length = la.length + lb.length ∧ Lm 4294967296 L ∧ Below w.heap.size w wr ∧ Hid (gval 4294967296 L + 4294967296 ^ (k + q) * cn = gval 4294967296 L0 + 4294967296 ^ k * (x * gval 4294967296 (lb.take q))) ∧ Hid (∀ j, k + lb.length ≤ j → j < L.length → L[j]? = some 0)) (fun _ j _ => lb.length - (intOf j).toNat)
      case atStart => exact ⟨0, 0, L0, rfl, rfl, by omega, by omega, hL0, hLl0, hLm0, hbw0, hid (by simp [gval]), hZ0⟩
      case round =>
        obtain ⟨q, cn, L, rfl, rfl, hq, hcn, hL, hLl, hLm, hbw, hH, hZ⟩ := hrel
        by_cases h2 : q < lb.length
        · have h2z : (q : Int) < (lb.length : Int) := by omega
          obtain ⟨y, hy⟩ : ∃ y, lb[q]? = some y := ⟨lb[q], by simp [h2]⟩
          obtain ⟨b, rfl, cy⟩ := (hb.below hbw) q y hy
          have hym := mb.at hy
          obtain ⟨t, ht⟩ : ∃ t, k + q = t := ⟨_, rfl⟩
          have htz : (k : Int) + (q : Int) = (t : Int) := by omega
          have htl : (t : Int) < ((la.length + lb.length : Nat) : Int) := by omega
          obtain ⟨old, hold⟩ : ∃ old, L[t]? = some old := ⟨L[t]'(by omega), by simp⟩
          have cL := hL.1 t old hold
          have fL := hL.2 t
          have hom := hLm.at hold
          obtain ⟨p, hp⟩ : ∃ p, x * y = p := ⟨_, rfl⟩
          have hpm : p ≤ 18446744065119617025 := by rw [← hp]; exact Nat.mul_le_mul (by omega : x ≤ 4294967295) (by omega : y ≤ 4294967295)
          have hpz : (x : Int) * (y : Int) = (p : Int) := (Int.natCast_mul x y).symm.trans (congrArg (fun n : Nat => (n : Int)) hp)
          obtain ⟨s, hs⟩ : ∃ s, cn + (p + old) = s := ⟨_, rfl⟩
          have w1 : IntKind.u64.wrap (p : Int) = (p : Int) := by rw [IntKind.wrap_u64]; omega
          have w2 : IntKind.u64.wrap ((p : Int) + (old : Int)) = (p : Int) + (old : Int) := by rw [IntKind.wrap_u64]; omega
          have w3 : IntKind.u64.wrap ((cn : Int) + ((p : Int) + (old : Int))) = (s : Int) := by rw [IntKind.wrap_u64]; omega
          have w4 : IntKind.u32.wrap (s : Int) = ((s % 4294967296 : Nat) : Int) := by rw [IntKind.wrap_u32]; omega
          have hH2 := hH.out
          rw [ht] at hH2
          have hs2 : cn + (x * y + old) = s := by rw [hp]; exact hs
          have hstep := hid (mul_step hs2 (gval_set 4294967296 (s % 4294967296) hold) hH2)
          clear hH2 hs2
          have hp' := hid hp
          have hs' := hid hs
          have ht' := hid ht
          clear hp hs ht
          go_wp2
          go_roundw
          case rel =>
            have hsm : s ≤ 18446744073709551615 := by have := hs'.out; omega
            have ht := ht'.out
            refine ⟨q + 1, s / 4294967296, L.set t (s % 4294967296), by congr 1, by go_num, by omega, by omega, hL.set _ (by omega), by simp [hLl], hLm.set _ _ (Nat.mod_lt _ (by omega)), hbw.setCell (Nat.le_refl _) _, hid ?_, hid fun j hj hjl => ?_⟩
            · rw [show k + (q + 1) = t + 1 by omega, pow_step, gval_take_succ _ hy, hstep.out, Nat.mul_add, Nat.mul_add, ← ht, mul_tail]
            · rw [List.getElem?_set_ne (by omega)]
              exact hZ.out j hj (by simpa using hjl)
          case measure => simp [intOf]; omega
        · have h2z : ¬ (q : Int) < (lb.length : Int) := by omega
          have hqe : q = lb.length := by omega
          subst hqe
          obtain ⟨t, ht⟩ : ∃ t, k + lb.length = t := ⟨_, rfl⟩
          have htz : (k : Int) + (lb.length : Int) = (t : Int) := by omega
          have htl : (t : Int) < ((la.length + lb.length : Nat) : Int) := by omega
          have hold := hZ.out t (by omega) (by omega)
          have cL := hL.1 t 0 hold
          have fL := hL.2 t
          have w3 : IntKind.u32.wrap (cn : Int) = (cn : Int) := by rw [IntKind.wrap_u32]; omega
          have ht' := hid ht
          have hold' := hid hold
          clear ht h1y hold
          go_wp2
          go_roundw
          case rel =>
            have ht := ht'.out
            refine ⟨k + 1, L.set t cn, by go_num, by omega, hL.set _ (by omega), by simp [hLl], hLm.set _ _ hcn, hbw.setCell (Nat.le_refl _) _, hid ?_, hid fun j hj hjl => ?_⟩
            · have e := gval_set 4294967296 cn hold'.out
              have hh := hH.out
              rw [ht, List.take_length, hG0.out] at hh
              rw [gval_take_succ _ hx, Nat.add_mul]
              have e2 : 4294967296 ^ k * (x * gval 4294967296 lb) = 4294967296 ^ k * x * gval 4294967296 lb := by rw [Nat.mul_assoc]
              omega
            · rw [List.getElem?_set_ne (by omega)]
              exact hZ.out j (by omega) (by simpa using hjl)
          case measure => simp [intOf]; omega
    · have h1z : ¬ (k : Int) < (la.length : Int) := by omega
      have hke : k = la.length := by omega
      subst hke
      go_wp2
      go_ret
      exact ⟨L0, by rw [hLl0]; rfl, hL0, hLm0, by rw [hG0.out, List.take_length], hLl0, hbw0⟩
theorem product_v (oa ob : Option Addr) (ca cb m n K : Nat) (w : World) (za : (glim 4294967296 m).length ≤ K) (zb : (glim 4294967296 n).length ≤ K) (hK : K ≤ 100000) (ha : Lies oa (glim 4294967296 m) w) (hb : Lies ob (glim 4294967296 n) w) :
    Calls Try.prog 40 #[.slice oa (glim 4294967296 m).length ca, .slice ob (glim 4294967296 n).length cb] w fun e w' => ∃ o z, e = .returned (.slice o z z) ∧ Sl (.slice o z z) (m * n) (2 * K) w' ∧ Below w.heap.size w w' := by
  refine (product_w oa ob ca cb _ _ w (lm_glim (by omega) m) (lm_glim (by omega) n) (by omega) (by omega) ha hb).mono ?_
  rintro e w' ⟨L, rfl, hO, hm, hg, hl, b⟩
  rw [gval_glim (by omega), gval_glim (by omega)] at hg
  exact ⟨_, _, rfl, fun s => own_isN s hO hm hg (by omega), b⟩
/-- how many limbs a number has -/
def ln (Z : Int) : Nat := (glim 4294967296 Z.natAbs).length
/-- may a product be? -/
def mulOk (X Y : Int) : Bool := decide (ln X ≤ 128 ∧ ln Y ≤ 128 ∧ ln (X * Y) ≤ 128)
theorem sv_mul (X Y : Int) : sv (decide (X < 0) != decide (Y < 0)) (X.natAbs * Y.natAbs) = X * Y := by
  rw [← Int.natAbs_mul]
  unfold sv
  by_cases hx : X < 0 <;> by_cases hy : Y < 0 <;> simp only [hx, hy, decide_true, decide_false, bne_self_eq_false, Bool.false_eq_true, if_false]
  · have : 0 ≤ X * Y := Int.mul_nonneg_of_nonpos_of_nonpos (by omega) (by omega)
    omega
  · have : X * Y ≤ 0 := Int.mul_nonpos_of_nonpos_of_nonneg (by omega) (by omega)
    simp; omega
  · have : X * Y ≤ 0 := Int.mul_nonpos_of_nonneg_of_nonpos (by omega) (by omega)
    simp; omega
  · have : 0 ≤ X * Y := Int.mul_nonneg (by omega) (by omega)
    omega
theorem isC_zero (K : Nat) (w : World) : IsC (.agg #[.bool false, .slice none 0 0]) 0 K w := ⟨none, 0, by simp [glim_zero], fun j x hx => by simp [glim_zero] at hx, by simp [glim_zero], by simp [glim_zero]⟩
set_option maxHeartbeats 2000000 in
theorem mul_w (va vb : Value) (X Y : Int) (K : Nat) (w : World) (hK : K ≤ 1000000) (ha : IsN va X K w) (hb : IsN vb Y K w) :
    Calls Try.prog 16 #[va, vb] w fun e w' => ∃ v', e = .returned (.tuple #[v', .bool (mulOk X Y)]) ∧ IsC v' (if mulOk X Y then X * Y else 0) 128 w' ∧ Below w.heap.size w w' := by
  have hA : ∀ w', Below w.heap.size w w' → IsN va X K w' := fun w' hw => ha.below hw
  have hB : ∀ w', Below w.heap.size w w' → IsN vb Y K w' := fun w' hw => hb.below hw
  obtain ⟨na, oa, la, ca, rfl, hLa, hca, hma, hsa, hka⟩ := ha
  obtain ⟨nb, ob, lb, cb, rfl, hLb, hcb, hmb, hsb, hkb⟩ := hb
  clear hsa hsb hma hmb hLa hLb hca hcb hka hkb
  obtain ⟨kA, kB, kC, hB0, hz0⟩ := boxes3 w (.bool na) (.slice oa la.length ca) (.bool nb) (.slice ob lb.length cb) (.bool false) (.slice none 0 0) 25 25 25
  obtain ⟨Z, hZ⟩ : ∃ Z, (if mulOk X Y then X * Y else 0) = Z := ⟨_, rfl⟩
  obtain ⟨ok, hok⟩ : ∃ ok, mulOk X Y = ok := ⟨_, rfl⟩
  rw [hZ]
  have hZ' := hid hZ
  rw [hok]
  have hok' := hid hok
  unfold mulOk at hok'
  clear hZ hok
  go_enter Try.func16, Try.ntmps16
  go_wp2
  generalize (((w.alloc (.cells #[.bool na, .slice oa la.length ca] 25)).alloc (.cells #[.bool nb, .slice ob lb.length cb] 25)).alloc (.cells #[.bool false, .slice none 0 0] 25)) = W0 at *
  obtain ⟨f1, f2, f3, f4⟩ := id kA
  obtain ⟨f5, f6, f7, f8⟩ := id kB
  go_cut [] from 7 to 10 (fun wx => Two X Y K w wx ∧ After w W0 wx)
  case first =>
    go_region_with (first
        | (go_at_call_of 32 oa
           refine (view_w _ X K _ (by omega) (hA _ hB0.drew)).mono ?_
           rintro e w1 ⟨v1, rfl, hv1, b1'⟩
           have b1 : Below W0.heap.size W0 w1 := ((Below.refl _ W0).drew).trans b1'
           clear b1'
           obtain ⟨o1, c1, rfl, L1, z1, q1⟩ := hv1 w (hA w (Below.refl _ _))
           have hB1 : Below w.heap.size w w1 := below_and hB0 (Nat.le_refl _) b1
           have hz1 := b1.size
           obtain ⟨p1, p2, p3, p4⟩ := kA.below b1 (by omega)
           obtain ⟨p5, p6, p7, p8⟩ := kB.below b1 (by omega))
        | (go_at_call_of 32 ob
           refine (view_w _ Y K _ (by omega) (hB _ hB1)).mono ?_
           rintro e w2 ⟨v2, rfl, hv2, b2'⟩
           have b2 : Below W0.heap.size W0 w2 := below_and b1 (Nat.le_refl _) b2'
           clear b2' p1 p2 p3 p4 p5 p6 p7 p8
           obtain ⟨o2, c2, rfl, L2, z2, q2⟩ := hv2 w (hB w (Below.refl _ _))
           obtain ⟨p1, p2, p3, p4⟩ := kA.below b2 (by omega)
           obtain ⟨p5, p6, p7, p8⟩ := kB.below b2 (by omega)))
    all_goals (go_wp2_with fail; go_meet)
    all_goals (have hAf := after_put (a0 := .bool (decide (X < 0))) (a1 := .slice o1 (glim 4294967296 X.natAbs).length c1) (b0 := .bool (decide (Y < 0))) (b1 := .slice o2 (glim 4294967296 Y.natAbs).length c2) hB0 (by omega) b2; exact ⟨⟨o1, c1, o2, c2, (boxes_put kA kB (by omega) b2).1, (boxes_put kA kB (by omega) b2).2, L1.below hAf.2.2, L2.below hAf.2.2, z1, z2, q1, q2⟩, hAf⟩)
  case rest =>
    obtain ⟨⟨o1, c1, o2, c2, kA', kB', L1, L2, z1, z2, q1, q2⟩, hAf⟩ := hcut
    have kC' := hAf.1 _ _ _ (by omega) (by omega) kC
    have hsz := hAf.2.1
    have hBx := hAf.2.2
    clear hAf kA kB kC f1 f2 f3 f4 f5 f6 f7 f8 hB0 hA hB
    obtain ⟨f1, f2, f3, f4⟩ := id kA'
    obtain ⟨f5, f6, f7, f8⟩ := id kB'
    obtain ⟨e1, e2, e3, e4⟩ := id kC'
    by_cases h1 : (glim 4294967296 X.natAbs).length ≤ 128
    · have h1z : ¬ (128 : Int) < ((glim 4294967296 X.natAbs).length : Int) := by omega
      by_cases h2 : (glim 4294967296 Y.natAbs).length ≤ 128
      · have h2z : ¬ (128 : Int) < ((glim 4294967296 Y.natAbs).length : Int) := by omega
        have hsv := sv_mul X Y
        go_wp2
        have hD : Below wc.heap.size wc wc.drew := (Below.refl _ _).drew
        have hDA : Below wc.heap.size wc (wc.drew.alloc (.cells #[.bool false, .slice none 0 0] 25)) := hD.alloc (Nat.le_refl _) _
        have hNew : Box wc.heap.size (.bool false) (.slice none 0 0) (wc.drew.alloc (.cells #[.bool false, .slice none 0 0] 25)) := Box.new wc.drew _ _ _
        have hDz : wc.heap.size < (wc.drew.alloc (.cells #[.bool false, .slice none 0 0] 25)).heap.size := by rw [World.size_alloc]; exact Nat.lt_succ_self _
        go_cut [6] from 22 to 33 (fun p6 wx => ∃ g o4 c4, p6 = .pointer (some ⟨g, 0, none⟩) ∧ Box g (.bool (decide (X * Y < 0))) (.slice o4 (glim 4294967296 (X * Y).natAbs).length c4) wx ∧ Lies o4 (glim 4294967296 (X * Y).natAbs) wx ∧ (glim 4294967296 (X * Y).natAbs).length ≤ c4 ∧ (glim 4294967296 (X * Y).natAbs).length ≤ 256 ∧ Box (w.heap.size + 1 + 1) (.bool false) (.slice none 0 0) wx ∧ Below w.heap.size w wx)
        case first =>
          go_region_held3 (fun w' => w'.cell? ⟨w.heap.size, 0, none⟩ = some (.bool (decide (X < 0))) ∧ w'.cell? ⟨w.heap.size, 1, none⟩ = some (.slice o1 (glim 4294967296 X.natAbs).length c1) ∧ w'.cell? ⟨w.heap.size + 1, 0, none⟩ = some (.bool (decide (Y < 0))) ∧ w'.cell? ⟨w.heap.size + 1, 1, none⟩ = some (.slice o2 (glim 4294967296 Y.natAbs).length c2)) (first | (refine ⟨?_, ?_, ?_, ?_⟩ <;> (rw [World.cell?_setCell_other _ _ _ _ (by simp; try omega), World.cell?_setCell_other _ _ _ _ (by simp; try omega)]; assumption)) | go_keep) (first
              | (go_at_call 40
                 refine (product_v o1 o2 c1 c2 _ _ 128 _ h1 h2 (by omega) (L1.below (by first | exact hD | exact hDA)) (L2.below (by first | exact hD | exact hDA))).mono ?_
                 rintro e w3 ⟨os, zs, rfl, hsl, b3'⟩
                 have b3 : Below wc.heap.size wc w3 := by first | exact below_and hD (Nat.le_refl _) b3' | exact below_and hDA (Nat.le_refl _) b3'
                 have hz3 := b3.size
                 have hN := hsl (decide (X < 0) != decide (Y < 0))
                 rw [hsv] at hN
                 have hB3 := below_and hBx (Nat.le_refl _) b3
                 obtain ⟨g1, g2, g3, g4⟩ := kA'.below b3 (by omega)
                 obtain ⟨g5, g6, g7, g8⟩ := kB'.below b3 (by omega)
                 have kC3 := kC'.below b3 (by omega)
                 first
                   | (have kM3 : Box wc.heap.size (.bool false) (.slice none 0 0) w3 := Box.below hNew b3' hDz
                      have hz3' : wc.heap.size < w3.heap.size := Nat.lt_of_lt_of_le hDz b3'.size
                      obtain ⟨m1, m2, m3, m4⟩ := id kM3)
                   | skip)
              | (go_at_call 32
                 refine (view_w _ (X * Y) 256 _ (by omega) (by first | exact hN | exact hN.below ((Below.refl _ _).alloc (Nat.le_refl _) _))).mono ?_
                 rintro e w4 ⟨v4, rfl, hv4, b4'⟩
                 have b4 : Below w3.heap.size w3 w4 := by first | exact b4' | exact below_and ((Below.refl _ _).alloc (Nat.le_refl _) _) (Nat.le_refl _) b4'
                 have hB4 := below_and hB3 (Nat.le_refl _) b4
                 have hz4 := b4.size
                 have hC4 := (hv4 _ hN).below b4
                 obtain ⟨o4, c4, rfl, L4, z4, q4⟩ := hC4
                 obtain ⟨g11, g12, g13, g14⟩ := Box.below ⟨g1, g2, g3, g4⟩ b4 (by omega)
                 obtain ⟨g15, g16, g17, g18⟩ := Box.below ⟨g5, g6, g7, g8⟩ b4 (by omega)
                 have kC4 := kC3.below b4 (by omega)
                 first
                   | (have kM4 : Box wc.heap.size (.bool false) (.slice none 0 0) w4 := kM3.below b4 (by omega)
                      obtain ⟨m11, m12, m13, m14⟩ := id kM4)
                   | (have kM4 : Box w3.heap.size (.bool false) (.slice none 0 0) w4 := Box.below (Box.new w3 _ _ 25) b4' (by simp)
                      obtain ⟨m11, m12, m13, m14⟩ := id kM4)
                   | skip))
          all_goals (go_wp2_with fail; go_meet)
          all_goals first
            | exact ⟨_, o4, c4, rfl, Box.new _ _ _ _, L4.below ((Below.refl _ _).alloc (Nat.le_refl _) _), z4, q4, kC4.alloc _ (by omega), hB4.alloc hB4.size _⟩
            | exact ⟨_, o4, c4, rfl, kM4.put, L4.box kM4 _ _, z4, q4, kC4.far (by omega), (hB4.setCell (p := ⟨_, 0, none⟩) (by simp; omega) _).setCell (p := ⟨_, 1, none⟩) (by simp; omega) _⟩
        case rest =>
          clear f1 f2 f3 f4 f5 f6 f7 f8 e1 e2 e3 e4 kA' kB' kC' hNew hD hDA hsv
          obtain ⟨g, o4, c4, rfl, kM, L4, z4, q4, kC4, hB4⟩ := hcut
          obtain ⟨m1, m2, m3, m4⟩ := id kM
          obtain ⟨e1, e2, e3, e4⟩ := id kC4
          by_cases h3 : (glim 4294967296 (X * Y).natAbs).length ≤ 128
          · have h3z : ¬ (128 : Int) < ((glim 4294967296 (X * Y).natAbs).length : Int) := by omega
            have hf : ok = true := by rw [← hok'.out]; unfold ln; simp; omega
            have hZ0 : Z = X * Y := by rw [← hZ'.out]; unfold mulOk ln; rw [if_pos (by simp; omega)]
            subst hf hZ0
            clear hok' hZ'
            go_wp2
            refine bodyPost_ret (v := .tuple #[.agg #[.bool (decide (X * Y < 0)), .slice o4 (glim 4294967296 (X * Y).natAbs).length c4], .bool true]) (by simp [results, Try.results16, go_sem, e1, e2]) rfl ⟨_, rfl, ?_, ?_⟩
            · exact (show IsC _ (X * Y) _ _ from ⟨o4, c4, rfl, L4, z4, h3⟩).box kC4
            · exact (hB4.setCell (p := ⟨w.heap.size + 1 + 1, 0, none⟩) (by simp; omega) _).setCell (p := ⟨w.heap.size + 1 + 1, 1, none⟩) (by simp; omega) _
          · have h3z : (128 : Int) < ((glim 4294967296 (X * Y).natAbs).length : Int) := by omega
            have hf : ok = false := by rw [← hok'.out]; unfold ln; simp; omega
            have hZ0 : Z = 0 := by rw [← hZ'.out]; unfold mulOk ln; rw [if_neg (by simp; omega)]
            subst hf hZ0
            clear hok' hZ'
            go_wp2
            refine bodyPost_ret (v := .tuple #[.agg #[.bool false, .slice none 0 0], .bool false]) (by simp [results, Try.results16, go_sem, e1, e2]) rfl ⟨_, rfl, isC_zero _ _, ?_⟩
            exact (hB4.setCell (p := ⟨w.heap.size + 1 + 1, 0, none⟩) (by simp; omega) _).setCell (p := ⟨w.heap.size + 1 + 1, 1, none⟩) (by simp; omega) _
      · have h2z : (128 : Int) < ((glim 4294967296 Y.natAbs).length : Int) := by omega
        have hf : ok = false := by rw [← hok'.out]; unfold ln; simp; omega
        have hZ0 : Z = 0 := by rw [← hZ'.out]; unfold mulOk ln; rw [if_neg (by simp; omega)]
        subst hf hZ0
        go_wp2
        refine bodyPost_ret (v := .tuple #[.agg #[.bool false, .slice none 0 0], .bool false]) (by simp [results, Try.results16, go_sem, e1, e2]) rfl ⟨_, rfl, isC_zero _ _, ?_⟩
        exact (hBx.setCell (p := ⟨w.heap.size + 1 + 1, 0, none⟩) (by simp; omega) _).setCell (p := ⟨w.heap.size + 1 + 1, 1, none⟩) (by simp; omega) _
    · have h1z : (128 : Int) < ((glim 4294967296 X.natAbs).length : Int) := by omega
      have hf : ok = false := by rw [← hok'.out]; unfold ln; simp; omega
      have hZ0 : Z = 0 := by rw [← hZ'.out]; unfold mulOk ln; rw [if_neg (by simp; omega)]
      subst hf hZ0
      go_wp2
      refine bodyPost_ret (v := .tuple #[.agg #[.bool false, .slice none 0 0], .bool false]) (by simp [results, Try.results16, go_sem, e1, e2]) rfl ⟨_, rfl, isC_zero _ _, ?_⟩
      exact (hBx.setCell (p := ⟨w.heap.size + 1 + 1, 0, none⟩) (by simp; omega) _).setCell (p := ⟨w.heap.size + 1 + 1, 1, none⟩) (by simp; omega) _
end Go.Proofs.Ytccogdlmlegmbaa
