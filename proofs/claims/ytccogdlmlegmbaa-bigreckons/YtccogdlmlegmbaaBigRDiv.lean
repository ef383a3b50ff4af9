/- Div of the reference. -/
import Derived.Test.YtccogdlmlegmbaaBigRDivM
import Derived.Test.YtccogdlmlegmbaaBigRMul
import Derived.Test.YtccogdlmlegmbaaBigGrown
namespace Go.Proofs.Ytccogdlmlegmbaa
open Go.ChangeShapes Go.WideShapes Go.ChangeAt Go.RowKit
set_option linter.unusedSimpArgs false
set_option linter.unusedVariables false
/-- what stands between two bits: the rest in block gr, the quotient's limbs in block gq; p bits are to come -/
def Dv (wc : World) (AL x y p : Nat) (wr : World) : Prop :=
  ∃ (Q : List Nat) (q r : Nat) (o : Option Addr) (c : Nat), Box (wc.heap.size + 1) (.bool false) (.slice o (glim 4294967296 r).length c) wr ∧ Fr (wc.heap.size + 2) (.slice o (glim 4294967296 r).length c) (glim 4294967296 r) wr ∧ Own wc.heap.size Q wr ∧ Q.length = AL ∧ Lm 4294967296 Q ∧ Below wc.heap.size wc wr ∧ wc.heap.size + 2 ≤ wr.heap.size ∧ Hid (q * y + r = x / 2 ^ p ∧ r < y ∧ gval 4294967296 Q = q * 2 ^ p)
theorem glim_le {m n : Nat} (h : m ≤ n) : (glim 4294967296 m).length ≤ (glim 4294967296 n).length := Nat.le_of_not_lt fun h' => by have := glim_len_lt (by omega) h'; omega
theorem Own.far {g : Nat} {l : List Nat} {w : World} (h : Own g l w) {p : Addr} (hp : p.block ≠ g) (hs : p.spot = none) (v : Value) : Own g l (w.setCell p v) := by
  refine ⟨fun j x hx => ?_, fun j => ?_⟩
  · rw [World.cell?_setCell_other _ _ _ _ (fun e => hp (by rw [e]))]; exact h.1 j x hx
  · rw [frozen_set _ _ hs _ _]; exact h.2 j
theorem bit_and {x k : Nat} (h : x < 4294967296) : bits .and .u32 ((x : Int) / 2 ^ k) 1 = ((x / 2 ^ k % 2 : Nat) : Int) := by
  have e : (x : Int) / 2 ^ k = ((x / 2 ^ k : Nat) : Int) := by rw [Int.natCast_ediv, Int.natCast_pow]; rfl
  rw [e]
  exact u32_bit (Nat.lt_of_le_of_lt (Nat.div_le_self _ _) h)
theorem or_one {x : Nat} (h : x % 2 = 0) (hx : x < 4294967296) : bits .or .u32 (x : Int) 1 = ((x + 1 : Nat) : Int) := u32_join (s := 1) (c := x) (y := 1) h (by decide) (by omega)
theorem bit_fact {A : List Nat} {n i k x bt : Nat} (hv : gval 4294967296 A = n) (hm : Lm 4294967296 A) (hx : A[i]? = some x) (hk : k < 32) (hbt : x / 2 ^ k % 2 = bt) : n / 2 ^ (32 * i + k) = 2 * (n / 2 ^ (32 * i + (k + 1))) + bt := by
  have h1 := limb_at (by decide) hm hx
  rw [hv] at h1
  have h2 := bit_at hk h1
  rw [hbt] at h2
  have h3 := shift_down n (32 * i + k)
  rw [h2] at h3
  exact h3
theorem two_pow_step (q i k : Nat) : q * 2 ^ (32 * i + (k + 1)) = 2 * q * 2 ^ (32 * i + k) := by
  rw [show 32 * i + (k + 1) = (32 * i + k) + 1 by omega, Nat.pow_succ, Nat.mul_comm 2 q, Nat.mul_assoc, Nat.mul_comm 2]
theorem or_bit {y k : Nat} (hk : k < 32) (h : y % 2 ^ (k + 1) = 0) (h2 : y + 2 ^ k < 4294967296) : bits .or .u32 (y : Int) (2 ^ k % 4294967296) = ((y + 2 ^ k : Nat) : Int) := by
  have hp := (pow32 hk).2
  have e : ((2 : Int) ^ k % 4294967296) = ((2 ^ k : Nat) : Int) := by
    rw [Int.natCast_pow]
    have : ((2 : Int) ^ k) = ((2 ^ k : Nat) : Int) := by rw [Int.natCast_pow]; rfl
    have h0 : (0 : Int) ≤ 2 ^ k := by rw [this]; exact Int.natCast_nonneg _
    rw [Int.emod_eq_of_lt h0 (by rw [this]; omega)]
    rfl
  rw [e]
  exact u32_join (s := k + 1) h (Nat.pow_lt_pow_right (by decide) (by omega)) h2
theorem odd_pow_step (q i k : Nat) : q * 2 ^ (32 * i + (k + 1)) + 4294967296 ^ i * 2 ^ k = (2 * q + 1) * 2 ^ (32 * i + k) := by
  rw [two_pow_step, Nat.add_mul, Nat.one_mul, show (4294967296 : Nat) = 2 ^ 32 by decide, ← Nat.pow_mul, ← Nat.pow_add]
theorem Box.off {g k j : Nat} {u v x : Value} {w : World} (h : Box g u v w) (hne : g ≠ k) : Box g u v (w.setCell ⟨k, j, none⟩ x) :=
  ⟨(World.cell?_setCell_other _ _ _ _ (by first | (simp; done) | (simp; omega) | (simp; intro e; exact absurd e.symm hne))).trans h.1, (World.cell?_setCell_other _ _ _ _ (by first | (simp; done) | (simp; omega) | (simp; intro e; exact absurd e.symm hne))).trans h.2.1, (frozen_set _ _ rfl _ _).trans h.2.2.1, (frozen_set _ _ rfl _ _).trans h.2.2.2⟩
theorem div_unique {q y r x : Nat} (h : q * y + r = x) (hr : r < y) : x / y = q ∧ x % y = r := by
  subst h
  rw [Nat.mul_comm q y]
  exact ⟨by rw [Nat.mul_add_div (by omega), Nat.div_eq_of_lt hr, Nat.add_zero], by rw [Nat.mul_add_mod, Nat.mod_eq_of_lt hr]⟩
theorem IsN.set1 {v : Value} {Z : Int} {K : Nat} {w : World} (h : IsN v Z K w) {p : Addr} {b : Bool} (hp : w.cell? p = some (.bool b)) (x : Value) : IsN v Z K (w.setCell p x) := by
  obtain ⟨neg, o, l, c, rfl, hL, rest⟩ := h
  exact ⟨neg, o, l, c, rfl, hL.set hp (by intro n; simp) x, rest⟩
theorem dv_start {wc w : World} {A : List Nat} {x y : Nat} (hv : gval 4294967296 A = x) (hm : Lm 4294967296 A) (hy : 0 < y) (kR : Box (wc.heap.size + 1) (.bool false) (.slice none 0 0) w) (hO : Own wc.heap.size (List.replicate A.length 0) w) (hb : Below wc.heap.size wc w) (hz : wc.heap.size + 2 ≤ w.heap.size) : Dv wc A.length x y (32 * A.length) w := by
  have hx : x / 2 ^ (32 * A.length) = 0 := by
    have := gval_lt hm
    rw [hv] at this
    refine Nat.div_eq_of_lt ?_
    rw [Nat.pow_mul]
    exact this
  refine ⟨_, 0, 0, none, 0, ?_, ?_, hO, by simp, Lm.replicate (by omega) _, hb, hz, hid ⟨by rw [hx]; omega, hy, ?_⟩⟩
  · rw [glim_zero]; exact kR
  · rw [glim_zero]; exact Fr.nil _ _
  · rw [gval_zeros _ _ (fun x hx => (List.mem_replicate.1 hx).2)]; simp
set_option maxRecDepth 4000 in
set_option maxHeartbeats 4000000 in
theorem rdiv_w (va vb : Value) (X Y : Int) (K : Nat) (w : World) (hK : K ≤ 10000) (ha : IsN va X K w) (hb : IsN vb Y K w) :
    Calls Try.prog 18 #[va, vb] w fun e w' => ∃ vq vr, e = .returned (.tuple #[vq, vr, .bool (decide (Y ≠ 0))]) ∧ IsC vq (X.tdiv Y) K w' ∧ IsC vr (if Y = 0 then 0 else X.tmod Y) K w' ∧ Below w.heap.size w w' := by
  have hA : ∀ w', Below w.heap.size w w' → IsN va X K w' := fun w' hw => ha.below hw
  have hB : ∀ w', Below w.heap.size w w' → IsN vb Y K w' := fun w' hw => hb.below hw
  obtain ⟨na, oa, la, ca, rfl, hLa, hca, hma, hsa, hka⟩ := ha
  obtain ⟨nb, ob, lb, cb, rfl, hLb, hcb, hmb, hsb, hkb⟩ := hb
  clear hsa hsb hma hmb hLa hLb hca hcb hka hkb
  obtain ⟨kA, kB, kC, kD, hB0, hz0⟩ := boxes4 w (.bool na) (.slice oa la.length ca) (.bool nb) (.slice ob lb.length cb) (.bool false) (.slice none 0 0) (.bool false) (.slice none 0 0) 34 34 34 34
  obtain ⟨Zr, hZr⟩ : ∃ Zr, (if Y = 0 then 0 else X.tmod Y) = Zr := ⟨_, rfl⟩
  rw [hZr]
  obtain ⟨Zq, hZq⟩ : ∃ Zq, X.tdiv Y = Zq := ⟨_, rfl⟩
  rw [hZq]
  obtain ⟨ok, hok⟩ : ∃ ok, decide (Y ≠ 0) = ok := ⟨_, rfl⟩
  rw [hok]
  have hZr' := hid hZr
  have hZq' := hid hZq
  have hok' := hid hok
  clear hZr hZq hok
  go_enter Try.func18, Try.ntmps18
  go_wp2
  generalize ((((w.alloc (.cells #[.bool na, .slice oa la.length ca] 34)).alloc (.cells #[.bool nb, .slice ob lb.length cb] 34)).alloc (.cells #[.bool false, .slice none 0 0] 34)).alloc (.cells #[.bool false, .slice none 0 0] 34)) = W0 at *
  obtain ⟨f1, f2, f3, f4⟩ := id kA
  obtain ⟨f5, f6, f7, f8⟩ := id kB
  go_cut [] from 11 to 14 (fun wx => Two X Y K w wx ∧ After w W0 wx)
  case first =>
    go_region_with (first
        | (go_at_call_of 28 oa
           refine (rnorm_w _ X K _ (by omega) (hA _ hB0.drew)).mono ?_
           rintro e w1 ⟨s1, rfl, hF1, q1, b1'⟩
           have b1 : Below W0.heap.size W0 w1 := ((Below.refl _ W0).drew).trans b1'
           clear b1'
           obtain ⟨o1, c1, rfl, L1, z1, _⟩ := hF1.parts
           have hB1 : Below w.heap.size w w1 := below_and hB0 (Nat.le_refl _) b1
           have hz1 := b1.size
           obtain ⟨p1, p2, p3, p4⟩ := kA.below b1 (by omega)
           obtain ⟨p5, p6, p7, p8⟩ := kB.below b1 (by omega))
        | (go_at_call_of 28 ob
           refine (rnorm_w _ Y K _ (by omega) (hB _ hB1)).mono ?_
           rintro e w2 ⟨s2, rfl, hF2, q2, b2'⟩
           have b2 : Below W0.heap.size W0 w2 := below_and b1 (Nat.le_refl _) b2'
           have L1' := L1.below b2'
           clear b2' p1 p2 p3 p4 p5 p6 p7 p8
           obtain ⟨o2, c2, rfl, L2, z2, _⟩ := hF2.parts
           have kA2 := kA.below b2 (by omega)
           have kB2 := kB.below b2 (by omega)
           obtain ⟨p1, p2, p3, p4⟩ := id kA2
           obtain ⟨p5, p6, p7, p8⟩ := id kB2))
    all_goals (go_wp2_with fail; go_meet)
    all_goals (have hAf := after_put (a0 := .bool (decide (X < 0))) (a1 := .slice o1 (glim 4294967296 X.natAbs).length c1) (b0 := .bool (decide (Y < 0))) (b1 := .slice o2 (glim 4294967296 Y.natAbs).length c2) hB0 (by omega) b2; exact ⟨⟨o1, c1, o2, c2, (boxes_put kA kB (by omega) b2).1, (boxes_put kA kB (by omega) b2).2, (L1'.box kA2 _ _).box (kB2.far (by omega)) _ _, (L2.box kA2 _ _).box (kB2.far (by omega)) _ _, z1, z2, q1, q2⟩, hAf⟩)
  case rest =>
    obtain ⟨⟨o1, c1, o2, c2, kA', kB', L1, L2, z1, z2, q1, q2⟩, hAf⟩ := hcut
    obtain ⟨V, rfl⟩ : ∃ x, x = wc := ⟨_, rfl⟩
    have kC' := hAf.1 _ _ _ (by omega) (by omega) kC
    have kD' := hAf.1 _ _ _ (by omega) (by omega) kD
    have hsz := hAf.2.1
    have hBx := hAf.2.2
    clear hAf kA kB kC kD f1 f2 f3 f4 f5 f6 f7 f8 hB0 hA hB
    obtain ⟨f1, f2, f3, f4⟩ := id kA'
    obtain ⟨f5, f6, f7, f8⟩ := id kB'
    by_cases hY : Y = 0
    · have hl0 : (glim 4294967296 Y.natAbs).length = 0 := by rw [hY]; simp [glim_zero]
      have hq0 : Zq = 0 := by rw [← hZq'.out, hY]; simp
      have hr0 : Zr = 0 := by rw [← hZr'.out, if_pos hY]
      have hd : ok = false := by rw [← hok'.out]; simp [hY]
      subst hq0 hr0 hd
      obtain ⟨e1, e2, e3, e4⟩ := id kC'
      obtain ⟨d1, d2, d3, d4⟩ := id kD'
      clear hY hok' hZq' hZr'
      go_wp2
      have kC2 := (kC'.put (u' := .bool false) (v' := .slice none 0 0)).far (k := w.heap.size + 1 + 1 + 1) (x := .bool false) (y := .slice none 0 0) (by omega)
      have kD2 := (kD'.far (k := w.heap.size + 1 + 1) (x := .bool false) (y := .slice none 0 0) (by omega)).put (u' := .bool false) (v' := .slice none 0 0)
      refine bodyPost_ret (v := .tuple #[.agg #[.bool false, .slice none 0 0], .agg #[.bool false, .slice none 0 0], .bool false]) (by simp [results, Try.results18, go_sem, kC2.1, kC2.2.1, kD2.1, kD2.2.1]) rfl ⟨_, _, rfl, isC_zero _ _, isC_zero _ _, ?_⟩
      exact (((hBx.setCell (p := ⟨w.heap.size + 1 + 1, 0, none⟩) (by simp; omega) _).setCell (p := ⟨w.heap.size + 1 + 1, 1, none⟩) (by simp; omega) _).setCell (p := ⟨w.heap.size + 1 + 1 + 1, 0, none⟩) (by simp; omega) _).setCell (p := ⟨w.heap.size + 1 + 1 + 1, 1, none⟩) (by simp; omega) _
    · have hl0 : (((glim 4294967296 Y.natAbs).length : Int) == 0) = false := by
        have := List.length_pos_iff.2 (glim_ne (b := 4294967296) (n := Y.natAbs) (by omega) (by omega))
        simp only [beq_eq_false_iff_ne, ne_eq]; omega
      have hd : ok = true := by rw [← hok'.out]; simp [hY]
      subst hd
      have hsq := sv_div X Y
      have hsr := sv_mod X Y
      rw [hZq'.out] at hsq
      rw [show X.tmod Y = Zr by rw [← hZr'.out, if_neg hY]] at hsr
      clear hok' hZq' hZr'
      have hyp : Hid (0 < Y.natAbs) := hid (by omega)
      have hmx := lm_glim (b := 4294967296) (by omega) X.natAbs
      have hvx := hid (gval_glim (b := 4294967296) (by omega) X.natAbs)
      have Hsq := hid hsq
      have Hsr := hid hsr
      clear hsq hsr hY
      obtain ⟨AX, hAX⟩ : ∃ AX, glim 4294967296 X.natAbs = AX := ⟨_, rfl⟩
      rw [hAX] at kA' L1 z1 q1 f2 hmx hvx
      have hmk := run_make_row' (P := Try.prog) 23 63 (.int .u32 0) 4 Try.underlying23 info32u rfl .i64 .i64 AX.length (by omega) (by omega) V
      have hOwn := Own.made AX.length V
      have hB1 : Below V.heap.size V (V.alloc (.cells (madeCells #[.int .u32 0] AX.length) 63)) := (Below.refl _ V).alloc (Nat.le_refl _) _
      have hg1 : (V.alloc (.cells (madeCells #[.int .u32 0] AX.length) 63)).heap.size = V.heap.size + 1 := by simp
      obtain ⟨f1', f2', f3', f4'⟩ := kA'.below hB1 (by omega)
      go_upto_region 5 with fail
      generalize V.alloc (.cells (madeCells #[.int .u32 0] AX.length) 63) = W1 at *
      obtain ⟨kR0, hBR, hzR⟩ := newbox W1 (.bool false) (.slice none 0 0) 34
      obtain ⟨g1, g2, g3, g4⟩ := kA'.below (below_and hB1 (Nat.le_refl _) hBR) (by omega)
      go_wp2_with fail
      rw [hg1] at kR0
      have hD0 : Dv V AX.length X.natAbs Y.natAbs (32 * AX.length) (W1.alloc (.cells #[.bool false, .slice none 0 0] 34)) := dv_start hvx.out hmx hyp.out kR0 (hOwn.below hBR (by omega)) (below_and hB1 (Nat.le_refl _) hBR) (by omega)
      generalize W1.alloc (.cells #[.bool false, .slice none 0 0] 34) = W2 at *
      clear hmk hOwn hB1 hBR hzR kR0 f1 f2 f3 f4 f5 f6 f7 f8 f1' f2' f3' f4' g1 g2 g3 g4 hl0
      clear hg1
      go_loopw [9] (fun iv wr => ∃ ii : Nat, iv = .int .i64 ((ii : Int) - 1) ∧ ii ≤ AX.length ∧ Dv V AX.length X.natAbs Y.natAbs (32 * ii) wr) (fun iv _ => (intOf iv + 1).toNat)
      case atStart => exact ⟨AX.length, by go_num, Nat.le_refl _, hD0⟩
      case round =>
        obtain ⟨ii, rfl, hii, hD⟩ := hrel
        clear hD0
        by_cases hi0 : ii = 0
        · subst hi0
          obtain ⟨Q, q, r, o, c, kR, hF, hQ, hQl, hQm, hbw, hzw, hI⟩ := hD
          obtain ⟨i1, i2, i3⟩ := hI.out
          simp only [Nat.mul_zero, Nat.pow_zero, Nat.div_one, Nat.mul_one] at i1 i3
          have eq := (div_unique i1 i2).1
          have er := (div_unique i1 i2).2
          have hsq := Hsq.out
          have hsr := Hsr.out
          rw [eq] at hsq
          rw [er] at hsr
          have hrl : (glim 4294967296 r).length ≤ K := Nat.le_trans (glim_le (Nat.le_of_lt i2)) q2
          clear i1 i2 eq er hI Hsq Hsr
          have kA2 := kA'.below hbw (by omega)
          have kB2 := kB'.below hbw (by omega)
          have kC2 := kC'.below hbw (by omega)
          have kD2 := kD'.below hbw (by omega)
          obtain ⟨dx, hdx⟩ : ∃ dx, decide (X < 0) = dx := ⟨_, rfl⟩
          obtain ⟨dy, hdy⟩ : ∃ dy, decide (Y < 0) = dy := ⟨_, rfl⟩
          rw [hdx] at kA2 hsq hsr
          rw [hdy] at kB2 hsq
          clear hdx hdy
          obtain ⟨o', c', eF, hLr, hcr, _⟩ := hF.parts
          injection eF with eo en ec
          subst eo; subst ec
          clear en
          have hNr := IsN.of_open (neg := dx) (K := K) hLr hcr (lm_glim (by omega) _) hrl
          rw [gval_glim (by omega), hsr] at hNr
          have hNq := own_isN (K := K) (dx != dy) hQ hQm i3 (by omega)
          rw [hQl, hsq] at hNq
          clear i3 hsq hsr hQm
          obtain ⟨nr, hnr⟩ : ∃ nr, (glim 4294967296 r).length = nr := ⟨_, rfl⟩
          rw [hnr] at kR hNr
          clear hnr hrl hLr hcr hF
          obtain ⟨s1, s2, s3, s4⟩ := id kR
          obtain ⟨a1, a2, a3, a4⟩ := id kA2
          obtain ⟨b1, b2, b3, b4⟩ := id kB2
          have kRE : Box (V.heap.size + 1) (.bool dx) (.slice o nr c) (wr.setCell ⟨V.heap.size + 1, 0, none⟩ (.bool dx)) := ⟨World.cell?_setCell_same _ _ _ s1, (World.cell?_setCell_other _ _ _ _ (by simp)).trans s2, (frozen_set _ _ rfl _ _).trans s3, (frozen_set _ _ rfl _ _).trans s4⟩
          have kAE := kA2.set1c (k := V.heap.size + 1) (x := .bool dx) (by omega)
          have kBE := kB2.set1c (k := V.heap.size + 1) (x := .bool dx) (by omega)
          have kCE := kC2.set1c (k := V.heap.size + 1) (x := .bool dx) (by omega)
          have kDE := kD2.set1c (k := V.heap.size + 1) (x := .bool dx) (by omega)
          have hNrE := hNr.set1 s1 (.bool dx)
          have hNqE := hNq.set1 s1 (.bool dx)
          have hBE := (below_and hBx (Nat.le_refl _) hbw).setCell (p := ⟨V.heap.size + 1, 0, none⟩) (by simp; omega) (.bool dx)
          have hzE : (wr.setCell ⟨V.heap.size + 1, 0, none⟩ (.bool dx)).heap.size = wr.heap.size := by simp
          go_wp2_with fail
          generalize wr.setCell ⟨V.heap.size + 1, 0, none⟩ (.bool dx) = WE at *
          clear s1 s2 s3 s4 a1 a2 a3 a4 b1 b2 b3 b4 kR kA2 kB2 kC2 kD2 hNr hNq hQ hbw
          obtain ⟨kk, rfl⟩ : ∃ x, x = K := ⟨_, rfl⟩
          have lA := kAE.lt
          have lB := kBE.lt
          have lC := kCE.lt
          have lD := kDE.lt
          have lR := kRE.lt
          have hDr : Below WE.heap.size WE WE.drew := (Below.refl _ _).drew
          have hnCA : w.heap.size ≠ w.heap.size + 1 + 1 := by omega
          have hS : Hid (∀ w', Below WE.heap.size WE w' → w'.cell? ⟨w.heap.size, 0, none⟩ = some (.bool dx) ∧ w'.cell? ⟨w.heap.size + 1, 0, none⟩ = some (.bool dy) ∧ w'.cell? ⟨V.heap.size + 1, 0, none⟩ = some (.bool dx) ∧ w'.cell? ⟨V.heap.size + 1, 1, none⟩ = some (.slice o nr c)) := hid fun w' h => ⟨(kAE.below h lA).1, (kBE.below h lB).1, (kRE.below h lR).1, (kRE.below h lR).2.1⟩
          refine wp_region_held_drew (S := fun w' => w'.cell? ⟨w.heap.size, 0, none⟩ = some (.bool dx) ∧ w'.cell? ⟨w.heap.size + 1, 0, none⟩ = some (.bool dy) ∧ w'.cell? ⟨V.heap.size + 1, 0, none⟩ = some (.bool dx) ∧ w'.cell? ⟨V.heap.size + 1, 1, none⟩ = some (.slice o nr c)) (by kernel_rfl) (hS.out _ hDr) (fun hHeld => ?_)
          refine wpAnyH_take (i := 0) (oi := _) (v := ?_) rfl (by kernel_rfl) (by kernel_rfl) (by kernel_rfl) (fun _ _ _ h => h) (Or.inl ⟨by rfl, ?_⟩) (by assumption) ?_
          rotate_left 1
          · (intro w hSw; (try dsimp only at hSw); go_simp; try with_reducible rfl)
          try simp (maxSteps := 10000000) only [List.getElem_toArray, List.getElem_cons_succ, List.getElem_cons_zero, Act.put, List.setIfInBounds_toArray, List.set_cons_zero, List.set_cons_succ]
          refine wpAnyH_take (i := 1) (oi := _) (v := ?_) rfl (by kernel_rfl) (by kernel_rfl) (by kernel_rfl) (fun _ _ _ h => h) (Or.inl ⟨by rfl, ?_⟩) (by assumption) ?_
          rotate_left 1
          · (intro w hSw; (try dsimp only at hSw); go_simp; try with_reducible rfl)
          try simp (maxSteps := 10000000) only [List.getElem_toArray, List.getElem_cons_succ, List.getElem_cons_zero, Act.put, List.setIfInBounds_toArray, List.set_cons_zero, List.set_cons_succ]
          refine wpAnyH_take (i := 2) (oi := _) (v := ?_) rfl (by kernel_rfl) (by kernel_rfl) (by kernel_rfl) (fun _ _ _ h => h) (Or.inl ⟨by rfl, ?_⟩) (by assumption) ?_
          rotate_left 1
          · (intro w hSw; (try dsimp only at hSw); go_simp; try with_reducible rfl)
          try simp (maxSteps := 10000000) only [List.getElem_toArray, List.getElem_cons_succ, List.getElem_cons_zero, Act.put, List.setIfInBounds_toArray, List.set_cons_zero, List.set_cons_succ]
          refine wpAnyH_take (i := 3) (oi := _) (v := ?_) rfl (by kernel_rfl) (by kernel_rfl) (by kernel_rfl) (fun _ _ _ h => h) (Or.inl ⟨by rfl, ?_⟩) (by assumption) ?_
          rotate_left 1
          · (intro w hSw; (try dsimp only at hSw); go_simp; try with_reducible rfl)
          try simp (maxSteps := 10000000) only [List.getElem_toArray, List.getElem_cons_succ, List.getElem_cons_zero, Act.put, List.setIfInBounds_toArray, List.set_cons_zero, List.set_cons_succ]
          refine wpAnyH_take (i := 4) (oi := _) (v := ?_) rfl (by kernel_rfl) (by kernel_rfl) (by kernel_rfl) (fun _ _ _ h => h) (Or.inl ⟨by rfl, ?_⟩) (by assumption) ?_
          rotate_left 1
          · (intro w hSw; (try dsimp only at hSw); go_simp; try with_reducible rfl)
          try simp (maxSteps := 10000000) only [List.getElem_toArray, List.getElem_cons_succ, List.getElem_cons_zero, Act.put, List.setIfInBounds_toArray, List.set_cons_zero, List.set_cons_succ]
          refine wpAnyH_take (i := 5) (oi := _) (v := ?_) rfl (by kernel_rfl) (by kernel_rfl) (by kernel_rfl) (fun _ _ _ h => h) (Or.inl ⟨by rfl, ?_⟩) (by assumption) ?_
          rotate_left 1
          · (intro w hSw; (try dsimp only at hSw); go_simp; try with_reducible rfl)
          try simp (maxSteps := 10000000) only [List.getElem_toArray, List.getElem_cons_succ, List.getElem_cons_zero, Act.put, List.setIfInBounds_toArray, List.set_cons_zero, List.set_cons_succ]
          refine wpAnyH_take (i := 6) (oi := _) (v := ?_) rfl (by kernel_rfl) (by kernel_rfl) (by kernel_rfl) (fun _ _ _ h => h) (Or.inl ⟨by rfl, ?_⟩) (by assumption) ?_
          rotate_left 1
          · (intro w hSw; (try dsimp only at hSw); go_simp; try with_reducible rfl)
          try simp (maxSteps := 10000000) only [List.getElem_toArray, List.getElem_cons_succ, List.getElem_cons_zero, Act.put, List.setIfInBounds_toArray, List.set_cons_zero, List.set_cons_succ]
          refine wpAnyH_take (i := 8) (oi := _) (v := ?_) rfl (by kernel_rfl) (by kernel_rfl) (by kernel_rfl) (fun _ _ _ h => h) (Or.inl ⟨by rfl, ?_⟩) (by assumption) ?_
          rotate_left 1
          · (intro w hSw; (try dsimp only at hSw); go_simp; try with_reducible rfl)
          try simp (maxSteps := 10000000) only [List.getElem_toArray, List.getElem_cons_succ, List.getElem_cons_zero, Act.put, List.setIfInBounds_toArray, List.set_cons_zero, List.set_cons_succ]
          refine wpAnyH_ready (rs := [7]) (by kernel_rfl) (by simp) ?_
          refine AllReadyH.cons rfl (fun K hK => ?_) AllReadyH.nil
          go_simp
          refine (rnorm_w _ Zq kk _ (by omega) (hNqE.below hDr)).mono ?_
          rintro e wa ⟨sa, rfl, hFa, hka, ba'⟩
          have ca : Below WE.heap.size WE wa := below_of_drew ba'
          have hCa := hFa.isC hka
          obtain ⟨oq, cq, rfl, _⟩ := hFa.parts
          obtain ⟨nq, hnq⟩ : ∃ n, (glim 4294967296 Zq.natAbs).length = n := ⟨_, rfl⟩
          obtain ⟨bq, hbq⟩ : ∃ b, decide (Zq < 0) = b := ⟨_, rfl⟩
          rw [hnq, hbq] at hCa ⊢
          clear hnq hbq hFa hka
          try go_simp
          refine hK.out _ _ ?_ (fun hHeld => ?_)
          · first | exact hSF | exact hS.out _ (by assumption) | assumption | go_keep
          clear hK K
          try simp (maxSteps := 10000000) only [List.getElem_toArray, List.getElem_cons_succ, List.getElem_cons_zero, Act.put, List.setIfInBounds_toArray, List.set_cons_zero, List.set_cons_succ]
          refine wpAnyH_ready (rs := [9]) (by kernel_rfl) (by simp) ?_
          refine AllReadyH.cons rfl (fun K hK => ?_) AllReadyH.nil
          go_simp
          refine (rnorm_w _ Zr kk _ (by omega) (hNrE.below ca)).mono ?_
          rintro e wb ⟨sb, rfl, hFb, hkb, bb'⟩
          have cb : Below WE.heap.size WE wb := below_and ca (Nat.le_refl _) bb'
          have hCb := hFb.isC hkb
          have hCa2 := hCa.below bb'
          obtain ⟨or', cr, rfl, _⟩ := hFb.parts
          obtain ⟨nr', hnr'⟩ : ∃ n, (glim 4294967296 Zr.natAbs).length = n := ⟨_, rfl⟩
          obtain ⟨br, hbr⟩ : ∃ b, decide (Zr < 0) = b := ⟨_, rfl⟩
          rw [hnr', hbr] at hCb ⊢
          clear hnr' hbr hFb hkb hCa
          have kC9 := kCE.below cb lC
          have kD9 := kDE.below cb lD
          have kA9 := kAE.below cb lA
          have kB9 := kBE.below cb lB
          have kR9 := kRE.below cb lR
          have hB9 := below_and hBE (Nat.le_refl _) cb
          obtain ⟨g1, g2, g3, g4⟩ := id kC9
          obtain ⟨g5, g6, g7, g8⟩ := id kD9
          try go_simp
          refine hK.out _ _ ?_ (fun hHeld => ?_)
          · first | exact hSF | exact hS.out _ (by assumption) | assumption | go_keep
          clear hK K
          try simp (maxSteps := 10000000) only [List.getElem_toArray, List.getElem_cons_succ, List.getElem_cons_zero, Act.put, List.setIfInBounds_toArray, List.set_cons_zero, List.set_cons_succ]
          refine wpAnyH_ready (rs := [10]) (by kernel_rfl) (by simp) ?_
          refine AllReadyH.cons rfl (fun K hK => ?_) AllReadyH.nil
          go_simp
          have kCs := kC9.put (u' := .bool bq) (v' := .slice oq nq cq)
          have kDs := kD9.far (k := w.heap.size + 1 + 1) (x := .bool bq) (y := .slice oq nq cq) (by omega)
          have kAs := kA9.far (k := w.heap.size + 1 + 1) (x := .bool bq) (y := .slice oq nq cq) (by omega)
          have kBs := kB9.far (k := w.heap.size + 1 + 1) (x := .bool bq) (y := .slice oq nq cq) (by omega)
          have kRs := kR9.far (k := w.heap.size + 1 + 1) (x := .bool bq) (y := .slice oq nq cq) (by omega)
          have hqs := hCa2.box kC9 (x := .bool bq) (y := .slice oq nq cq)
          have hrs := hCb.box kC9 (x := .bool bq) (y := .slice oq nq cq)
          have hBs := (hB9.setCell (p := ⟨w.heap.size + 1 + 1, 0, none⟩) (by simp; omega) (.bool bq)).setCell (p := ⟨w.heap.size + 1 + 1, 1, none⟩) (by simp; omega) (.slice oq nq cq)
          clear g1 g2 g3 g4 g5 g6 g7 g8 kA9 kB9 kC9 kD9 kR9 hCa2 hCb
          generalize ((wb.setCell ⟨w.heap.size + 1 + 1, 0, none⟩ (.bool bq)).setCell ⟨w.heap.size + 1 + 1, 1, none⟩ (.slice oq nq cq)) = wS at *
          have hSF := And.intro kAs.1 (And.intro kBs.1 (And.intro kRs.1 kRs.2.1))
          obtain ⟨g5, g6, g7, g8⟩ := id kDs
          try go_simp
          refine hK.out _ _ ?_ (fun hHeld => ?_)
          · first | exact hSF | exact hS.out _ (by assumption) | assumption | go_keep
          clear hK K
          try simp (maxSteps := 10000000) only [List.getElem_toArray, List.getElem_cons_succ, List.getElem_cons_zero, Act.put, List.setIfInBounds_toArray, List.set_cons_zero, List.set_cons_succ]
          refine wpAnyH_ready (rs := [11]) (by kernel_rfl) (by simp) ?_
          refine AllReadyH.cons rfl (fun K hK => ?_) AllReadyH.nil
          go_simp
          have kDf := kDs.put (u' := .bool br) (v' := .slice or' nr' cr)
          have kCf := kCs.far (k := w.heap.size + 1 + 1 + 1) (x := .bool br) (y := .slice or' nr' cr) (by omega)
          have kAf := kAs.far (k := w.heap.size + 1 + 1 + 1) (x := .bool br) (y := .slice or' nr' cr) (by omega)
          have kBf := kBs.far (k := w.heap.size + 1 + 1 + 1) (x := .bool br) (y := .slice or' nr' cr) (by omega)
          have kRf := kRs.far (k := w.heap.size + 1 + 1 + 1) (x := .bool br) (y := .slice or' nr' cr) (by omega)
          have hqF := hqs.box kDs (x := .bool br) (y := .slice or' nr' cr)
          have hrF := hrs.box kDs (x := .bool br) (y := .slice or' nr' cr)
          have hBF := (hBs.setCell (p := ⟨w.heap.size + 1 + 1 + 1, 0, none⟩) (by simp; omega) (.bool br)).setCell (p := ⟨w.heap.size + 1 + 1 + 1, 1, none⟩) (by simp; omega) (.slice or' nr' cr)
          clear g5 g6 g7 g8 kAs kBs kCs kDs kRs hqs hrs hBs hSF
          generalize ((wS.setCell ⟨w.heap.size + 1 + 1 + 1, 0, none⟩ (.bool br)).setCell ⟨w.heap.size + 1 + 1 + 1, 1, none⟩ (.slice or' nr' cr)) = wF at *
          have hSF := And.intro kAf.1 (And.intro kBf.1 (And.intro kRf.1 kRf.2.1))
          try go_simp
          refine hK.out _ _ ?_ (fun hHeld => ?_)
          · first | exact hSF | exact hS.out _ (by assumption) | assumption | go_keep
          clear hK K
          try simp (maxSteps := 10000000) only [List.getElem_toArray, List.getElem_cons_succ, List.getElem_cons_zero, Act.put, List.setIfInBounds_toArray, List.set_cons_zero, List.set_cons_succ]
          refine wpAnyH_take (i := 12) (oi := _) (v := ?_) rfl (by kernel_rfl) (by kernel_rfl) (by kernel_rfl) (fun _ _ _ h => h) (Or.inl ⟨by rfl, ?_⟩) (by assumption) ?_
          rotate_left 1
          · (intro w hSw; (try dsimp only at hSw); go_simp; try with_reducible rfl)
          try simp (maxSteps := 10000000) only [List.getElem_toArray, List.getElem_cons_succ, List.getElem_cons_zero, Act.put, List.setIfInBounds_toArray, List.set_cons_zero, List.set_cons_succ]
          refine wpAnyH_done (by kernel_rfl) ?_ _
          go_wp2_with fail
          refine bodyPost_ret (v := .tuple #[.agg #[.bool bq, .slice oq nq cq], .agg #[.bool br, .slice or' nr' cr], .bool true]) (by simp [results, Try.results18, go_sem, kCf.1, kCf.2.1, kDf.1, kDf.2.1]) rfl ⟨_, _, rfl, hqF, hrF, hBF⟩
        · obtain ⟨i, rfl⟩ : ∃ i, ii = i + 1 := ⟨ii - 1, by omega⟩
          have e1 : (((i + 1 : Nat) : Int) - 1) = (i : Int) := by omega
          have hiz : (0 : Int) ≤ (i : Int) := by omega
          rw [e1]
          go_wp2_with fail
          go_loopw [10] (fun kv wr => ∃ kk : Nat, kv = .int .i64 ((kk : Int) - 1) ∧ kk ≤ 32 ∧ Dv V AX.length X.natAbs Y.natAbs (32 * i + kk) wr) (fun kv _ => (intOf kv + 1).toNat)
          case atStart => exact ⟨32, by go_num, Nat.le_refl _, by rw [show 32 * i + 32 = 32 * (i + 1) by omega]; exact hD⟩
          case round =>
            obtain ⟨kk, rfl, hkk, hDk⟩ := hrel
            clear hD
            by_cases hk0 : kk = 0
            · subst hk0
              go_wp2
              go_roundw
              case rel => exact ⟨i, by go_num, by omega, by simpa using hDk⟩
              case measure => simp [intOf]; try omega
            · obtain ⟨k, rfl⟩ : ∃ k, kk = k + 1 := ⟨kk - 1, by omega⟩
              have e2 : (((k + 1 : Nat) : Int) - 1) = (k : Int) := by omega
              have hkz : (0 : Int) ≤ (k : Int) := by omega
              obtain ⟨Q, q, r, o, c, kR, hF, hQ, hQl, hQm, hbw, hzw, hI⟩ := hDk
              obtain ⟨s1, s2, s3, s4⟩ := id kR
              obtain ⟨o', c', eF, hLr, hcr, _⟩ := hF.parts
              injection eF with eo en ec
              subst eo; subst ec
              clear en
              have hrl : (glim 4294967296 r).length ≤ K := Nat.le_trans (glim_le (Nat.le_of_lt hI.out.2.1)) q2
              obtain ⟨x, hx⟩ : ∃ x, AX[i]? = some x := ⟨AX[i]'(by omega), by simp⟩
              have hxm := hmx.at hx
              go_wp2_with fail
              refine (plus_w o o c c _ _ _ (lm_glim (by omega) _) (lm_glim (by omega) _) (by omega) (by omega) hLr hLr).mono ?_
              rintro e w3 ⟨v3, L, rfl, hF3, hLm, hLv, hLl, hLp, b3⟩
              rw [gval_glim (by omega)] at hLv
              rcases hF3.shape with ⟨_, e0⟩ | ⟨g3, c3, rfl⟩
              · rw [e0] at hLp; simp at hLp
              have hLk : L.length ≤ K + 1 := by omega
              clear hLl
              have kR3 := kR.below b3 kR.lt
              have hz3 := b3.size
              obtain ⟨t1, t2, t3, t4⟩ := id kR3
              have kR4 := kR3.put (u' := .bool false) (v' := .slice (some ⟨g3, 0, none⟩) L.length c3)
              have hF4 := ((hF3.mono hzw).set (p := ⟨V.heap.size + 1, 0, none⟩) (by simp) (.bool false)).set (p := ⟨V.heap.size + 1, 1, none⟩) (by simp) (.slice (some ⟨g3, 0, none⟩) L.length c3)
              have hQ4 := ((hQ.below b3 (by omega)).far (p := ⟨V.heap.size + 1, 0, none⟩) (by simp) rfl (.bool false)).far (p := ⟨V.heap.size + 1, 1, none⟩) (by simp) rfl (.slice (some ⟨g3, 0, none⟩) L.length c3)
              have hb4 := ((below_and hbw (Nat.le_refl _) b3).setCell (p := ⟨V.heap.size + 1, 0, none⟩) (by simp) (.bool false)).setCell (p := ⟨V.heap.size + 1, 1, none⟩) (by simp) (.slice (some ⟨g3, 0, none⟩) L.length c3)
              have hz4 : V.heap.size + 2 ≤ ((w3.setCell ⟨V.heap.size + 1, 0, none⟩ (.bool false)).setCell ⟨V.heap.size + 1, 1, none⟩ (.slice (some ⟨g3, 0, none⟩) L.length c3)).heap.size := by simp; omega
              go_upto_region 13 with fail
              generalize ((w3.setCell ⟨V.heap.size + 1, 0, none⟩ (.bool false)).setCell ⟨V.heap.size + 1, 1, none⟩ (.slice (some ⟨g3, 0, none⟩) L.length c3)) = W4 at *
              clear t1 t2 t3 t4 kR3 kR hF hF3 hQ hbw hzw hLr b3 hz3 s1 s2 s3 s4
              obtain ⟨a1, a2, a3, a4⟩ := kA'.below hb4 (by omega)
              obtain ⟨ax, rfl, cx⟩ := (L1.below hb4) i x hx
              have hiA : (i : Int) < (AX.length : Int) := by omega
              obtain ⟨bt, hbt⟩ : ∃ bt, x / 2 ^ k % 2 = bt := ⟨_, rfl⟩
              have hbits := bit_and (x := x) (k := k) hxm
              rw [hbt] at hbits
              have hbt1 : bt ≤ 1 := by omega
              have Hbt := hid hbt
              clear hbt
              go_upto_if 53 with fail
              clear hbits
              go_cut [] from 54 to 61 (fun wx => ∃ L', Box (V.heap.size + 1) (.bool false) (.slice (some ⟨g3, 0, none⟩) L.length c3) wx ∧ Fr (V.heap.size + 2) (.slice (some ⟨g3, 0, none⟩) L.length c3) L' wx ∧ L'.length = L.length ∧ Lm 4294967296 L' ∧ Hid (gval 4294967296 L' = r + r + bt) ∧ Own V.heap.size Q wx ∧ Below V.heap.size V wx ∧ V.heap.size + 2 ≤ wx.heap.size)
              case first =>
                have h01 : bt = 0 ∨ bt = 1 := by omega
                rcases h01 with rfl | rfl
                · go_wp2
                  go_meet
                  exact ⟨L, kR4, hF4, rfl, hLm, hid (by rw [hLv]; rfl), hQ4, hb4, hz4⟩
                · obtain ⟨hgB, hgs, hO, hlc⟩ := hF4.own
                  obtain ⟨x0, t0, rfl⟩ : ∃ x0 t0, L = x0 :: t0 := by
                    cases L with
                    | nil => simp at hLp
                    | cons x0 t0 => exact ⟨x0, t0, rfl⟩
                  have hx0 := hO.1 0 x0 rfl
                  have hfx := hO.2 0
                  have hev : x0 % 2 = 0 := by
                    have : x0 + 4294967296 * gval 4294967296 t0 = r + r := hLv
                    omega
                  have hor := or_one (x := x0) hev hLm.head
                  obtain ⟨s1, s2, s3, s4⟩ := id kR4
                  have hlz : (0 : Int) < ((x0 :: t0).length : Int) := by simp
                  have hne : g3 ≠ V.heap.size + 1 := by omega
                  have hneq : g3 ≠ V.heap.size := by omega
                  have hres : Fr (V.heap.size + 2) (.slice (some ⟨g3, 0, none⟩) (x0 :: t0).length c3) ((x0 :: t0).set 0 (x0 + 1)) (W4.setCell ⟨g3, 0, none⟩ (.int .u32 ((x0 + 1 : Nat) : Int))) := hF4.put (x0 + 1) (by simp)
                  have kR5 := kR4.set1c (k := g3) (x := .int .u32 ((x0 + 1 : Nat) : Int)) (fun e => hne e.symm)
                  have hQ5 := hQ4.far (p := ⟨g3, 0, none⟩) hneq rfl (.int .u32 ((x0 + 1 : Nat) : Int))
                  have hb5 := hb4.setCell (p := ⟨g3, 0, none⟩) (by simp; omega) (.int .u32 ((x0 + 1 : Nat) : Int))
                  have hgv := gval_put (b := 4294967296) (l := x0 :: t0) (i := 0) (y := x0) rfl 1
                  have hx1 : x0 + 1 < 4294967296 := by have := hLm.head; omega
                  have hz5 : V.heap.size + 2 ≤ (W4.setCell ⟨g3, 0, none⟩ (.int .u32 ((x0 + 1 : Nat) : Int))).heap.size := by simp; omega
                  have Hgv := hid hgv
                  have HLv := hid hLv
                  clear hgv hLv hev
                  generalize hLL : (x0 :: t0).length = LL at *
                  have Hll := hid hLL
                  clear hLL
                  go_wp2
                  go_region
                  all_goals go_wp2
                  all_goals go_meet
                  all_goals exact ⟨(x0 :: t0).set 0 (x0 + 1), kR5, hres, by rw [List.length_set]; exact Hll.out, hLm.set _ _ hx1, hid (by rw [Hgv.out, HLv.out]; try simp), hQ5, hb5.drew, hz5⟩
              case rest =>
                obtain ⟨L', kR5, hF5, hl5, hLm5, hv5, hQ5, hb5, hz5⟩ := hcut
                clear kR4 hF4 hQ4 hb4 hz4 hLm hLv a1 a2 a3 a4 cx
                obtain ⟨r1, hr1⟩ : ∃ r1, r + r + bt = r1 := ⟨_, rfl⟩
                rw [hr1] at hv5
                have Hr1 := hid hr1
                clear hr1
                obtain ⟨o5, c5, e5, hL5, hc5, _⟩ := hF5.parts
                rw [← hl5] at e5 kR5 hF5 ⊢
                injection e5 with eo en ec
                subst eo; subst ec
                clear en
                have hN5 := IsN.of_open (neg := false) (K := K + 1) hL5 hc5 hLm5 (by omega)
                rw [hv5.out] at hN5
                clear hl5
                obtain ⟨s1, s2, s3, s4⟩ := id kR5
                have lR5 := kR5.lt
                go_wp2_with fail
                refine (rnorm_w _ (sv false r1) (K + 1) _ (by omega) hN5).mono ?_
                rintro e w6 ⟨s6, rfl, hF6, hk6, b6⟩
                have en6 : (sv false r1).natAbs = r1 := by simp [sv]
                have ed6 : decide (sv false r1 < 0) = false := by simp [sv]
                rw [en6] at hF6 hk6
                rw [ed6]
                clear en6 ed6
                obtain ⟨o6, c6, rfl, hL6, hc6, _⟩ := hF6.parts
                have kR6 := kR5.below b6 lR5
                obtain ⟨t1, t2, t3, t4⟩ := id kR6
                have hz6 := b6.size
                have kR7 := kR6.put (u' := .bool false) (v' := .slice o6 (glim 4294967296 r1).length c6)
                have hF7 := ((hF6.mono hz5).set (p := ⟨V.heap.size + 1, 0, none⟩) (by simp) (.bool false)).set (p := ⟨V.heap.size + 1, 1, none⟩) (by simp) (.slice o6 (glim 4294967296 r1).length c6)
                have hQ7 := ((hQ5.below b6 (by omega)).far (p := ⟨V.heap.size + 1, 0, none⟩) (by simp) rfl (.bool false)).far (p := ⟨V.heap.size + 1, 1, none⟩) (by simp) rfl (.slice o6 (glim 4294967296 r1).length c6)
                have hb7 := ((below_and hb5 (Nat.le_refl _) b6).setCell (p := ⟨V.heap.size + 1, 0, none⟩) (by simp) (.bool false)).setCell (p := ⟨V.heap.size + 1, 1, none⟩) (by simp) (.slice o6 (glim 4294967296 r1).length c6)
                have hz7 : V.heap.size + 2 ≤ ((w6.setCell ⟨V.heap.size + 1, 0, none⟩ (.bool false)).setCell ⟨V.heap.size + 1, 1, none⟩ (.slice o6 (glim 4294967296 r1).length c6)).heap.size := by simp; omega
                go_upto_region 16 with fail
                generalize ((w6.setCell ⟨V.heap.size + 1, 0, none⟩ (.bool false)).setCell ⟨V.heap.size + 1, 1, none⟩ (.slice o6 (glim 4294967296 r1).length c6)) = W7 at *
                clear t1 t2 t3 t4 s1 s2 s3 s4 kR5 kR6 hF5 hF6 hQ5 hb5 hz5 hL5 hL6 hc5 hc6 hLm5 hN5 b6 hz6 lR5 hv5
                obtain ⟨o7, c7, e7, hL7, hc7, _⟩ := hF7.parts
                injection e7 with eo en ec
                subst eo; subst ec
                clear en
                obtain ⟨s1, s2, s3, s4⟩ := id kR7
                obtain ⟨a1, a2, a3, a4⟩ := kB'.below hb7 (by omega)
                have hLb7 := L2.below hb7
                go_wp2_with fail
                refine (mags_w o6 o2 c6 c2 r1 Y.natAbs _ (by omega) (by omega) hL7 hLb7).mono ?_
                rintro e w8 ⟨rfl, b8⟩
                have kR8 := kR7.below b8 kR7.lt
                have hF8 := hF7.below b8
                have hQ8 := hQ7.below b8 (by omega)
                have hb8 := below_and hb7 (Nat.le_refl _) b8
                have hz8 := b8.size
                have hz8' : V.heap.size + 2 ≤ w8.heap.size := by omega
                have hL8 := hL7.below b8
                have hLb8 := hLb7.below b8
                have hbf := hid (bit_fact hvx.out hmx hx (show k < 32 by omega) Hbt.out)
                clear s1 s2 s3 s4 a1 a2 a3 a4 kR7 hF7 hQ7 hb7 hz7 hL7 hLb7 b8 hz8
                by_cases hlt : r1 < Y.natAbs
                · have hcz : cmpZ (r1 : Int) (Y.natAbs : Int) = -1 := cmpZ_lt (by omega)
                  rw [hcz]
                  have hfin : Dv V AX.length X.natAbs Y.natAbs (32 * i + k) w8 := by
                    obtain ⟨i1, i2, i3⟩ := hI.out
                    have h1 := hbf.out
                    have h2 := Hr1.out
                    refine ⟨Q, 2 * q, r1, o6, c6, kR8, hF8, hQ8, hQl, hQm, hb8, hz8', hid ⟨?_, hlt, ?_⟩⟩
                    · rw [h1, ← h2]; exact div_not i1
                    · rw [i3]; exact two_pow_step q i k
                  clear hI hbf Hr1 hlt hcz kR8 hF8 hQ8 hb8 hz8' hL8 hLb8
                  go_wp2
                  go_roundw
                  case rel => exact ⟨k, by go_num, by omega, hfin⟩
                  case measure => simp [intOf]; try omega
                · have hcz : (0 : Int) ≤ cmpZ (r1 : Int) (Y.natAbs : Int) := by
                    unfold cmpZ; rw [if_neg (by omega)]; split <;> omega
                  obtain ⟨cz, hcze⟩ : ∃ cz, cmpZ (r1 : Int) (Y.natAbs : Int) = cz := ⟨_, rfl⟩
                  rw [hcze] at hcz ⊢
                  clear hcze
                  obtain ⟨s1, s2, s3, s4⟩ := id kR8
                  obtain ⟨a1, a2, a3, a4⟩ := kB'.below hb8 (by omega)
                  go_wp2_with fail
                  refine (minus_w o6 o2 c6 c2 (glim 4294967296 r1) (glim 4294967296 Y.natAbs) _ (lm_glim (by omega) _) (lm_glim (by omega) _) (by omega) (glim_le (by omega)) (by rw [gval_glim (by omega), gval_glim (by omega)]; omega) hL8 hLb8).mono ?_
                  rintro e w9 ⟨v9, L9, rfl, hF9, hLm9, hLv9, hLl9, b9⟩
                  rw [gval_glim (by omega), gval_glim (by omega)] at hLv9
                  obtain ⟨o9, c9, rfl, hL9, hc9, _⟩ := hF9.parts
                  have hN9 := IsN.of_open (neg := false) (K := K + 1) hL9 hc9 hLm9 (by omega)
                  rw [hLv9] at hN9
                  obtain ⟨r2, hr2⟩ : ∃ r2, r1 - Y.natAbs = r2 := ⟨_, rfl⟩
                  rw [hr2] at hN9
                  have Hr2 := hid hr2
                  clear hr2 hLv9 hLl9
                  go_wp2_with fail
                  refine (rnorm_w _ (sv false r2) (K + 1) _ (by omega) hN9).mono ?_
                  rintro e w10 ⟨s10, rfl, hF10, hk10, b10⟩
                  have en6 : (sv false r2).natAbs = r2 := by simp [sv]
                  have ed6 : decide (sv false r2 < 0) = false := by simp [sv]
                  rw [en6] at hF10 hk10
                  rw [ed6]
                  clear en6 ed6
                  obtain ⟨o10, c10, rfl, hL10, hc10, _⟩ := hF10.parts
                  have b810 := below_and b9 (Nat.le_refl _) b10
                  have kR10 := kR8.below b810 kR8.lt
                  obtain ⟨t1, t2, t3, t4⟩ := id kR10
                  have hz10 := b810.size
                  have kR11 := kR10.put (u' := .bool false) (v' := .slice o10 (glim 4294967296 r2).length c10)
                  have hF11 := ((hF10.mono (show V.heap.size + 2 ≤ w9.heap.size by have := b9.size; omega)).set (p := ⟨V.heap.size + 1, 0, none⟩) (by simp) (.bool false)).set (p := ⟨V.heap.size + 1, 1, none⟩) (by simp) (.slice o10 (glim 4294967296 r2).length c10)
                  have hQ11 := ((hQ8.below b810 (by omega)).far (p := ⟨V.heap.size + 1, 0, none⟩) (by simp) rfl (.bool false)).far (p := ⟨V.heap.size + 1, 1, none⟩) (by simp) rfl (.slice o10 (glim 4294967296 r2).length c10)
                  have hb11 := ((below_and hb8 (Nat.le_refl _) b810).setCell (p := ⟨V.heap.size + 1, 0, none⟩) (by simp) (.bool false)).setCell (p := ⟨V.heap.size + 1, 1, none⟩) (by simp) (.slice o10 (glim 4294967296 r2).length c10)
                  have hz11 : V.heap.size + 2 ≤ ((w10.setCell ⟨V.heap.size + 1, 0, none⟩ (.bool false)).setCell ⟨V.heap.size + 1, 1, none⟩ (.slice o10 (glim 4294967296 r2).length c10)).heap.size := by simp; omega
                  go_upto_region 18 with fail
                  generalize ((w10.setCell ⟨V.heap.size + 1, 0, none⟩ (.bool false)).setCell ⟨V.heap.size + 1, 1, none⟩ (.slice o10 (glim 4294967296 r2).length c10)) = W11 at *
                  clear t1 t2 t3 t4 s1 s2 s3 s4 a1 a2 a3 a4 kR8 kR10 hF8 hF9 hF10 hQ8 hb8 hz8' hL8 hLb8 hL9 hc9 hLm9 hN9 b9 b10 b810 hz10 hL10 hc10
                  obtain ⟨y0, hy0⟩ : ∃ y0, Q[i]? = some y0 := ⟨Q[i]'(by omega), by simp⟩
                  have hlow := low_clear (q := q) (i := i) (k := k) (y := y0) (show k < 32 by omega) (by rw [← hI.out.2.2]; exact limb_at (by decide) hQm hy0)
                  have cq := hQ11.1 i y0 hy0
                  have fq := hQ11.2 i
                  have hiQ : (i : Int) < (AX.length : Int) := hiA
                  have hor := or_bit (y := y0) (k := k) (show k < 32 by omega) hlow.1 hlow.2
                  have hQ12 := hQ11.set (j := i) (y0 + 2 ^ k) (by omega)
                  have kR12 := kR11.off (k := V.heap.size) (j := i) (x := .int .u32 ((y0 + 2 ^ k : Nat) : Int)) (by omega)
                  have hF12 := hF11.set (p := ⟨V.heap.size, i, none⟩) (by simp) (.int .u32 ((y0 + 2 ^ k : Nat) : Int))
                  have hb12 := hb11.setCell (p := ⟨V.heap.size, i, none⟩) (by simp) (.int .u32 ((y0 + 2 ^ k : Nat) : Int))
                  have hz12 : V.heap.size + 2 ≤ (W11.setCell ⟨V.heap.size, i, none⟩ (.int .u32 ((y0 + 2 ^ k : Nat) : Int))).heap.size := by simpa using hz11
                  have hfin : Dv V AX.length X.natAbs Y.natAbs (32 * i + k) (W11.setCell ⟨V.heap.size, i, none⟩ (.int .u32 ((y0 + 2 ^ k : Nat) : Int))) := by
                    obtain ⟨i1, i2, i3⟩ := hI.out
                    have h1 := hbf.out
                    have h2 := Hr1.out
                    have h3 := div_yes (b := bt) i1 i2 hbt1 (by omega)
                    refine ⟨Q.set i (y0 + 2 ^ k), 2 * q + 1, r2, o10, c10, kR12, hF12, hQ12, by rw [List.length_set]; exact hQl, hQm.set _ _ hlow.2, hb12, hz12, hid ⟨?_, ?_, ?_⟩⟩
                    · rw [h1, ← Hr2.out, ← h2]; exact h3.1
                    · rw [← Hr2.out, ← h2]; exact h3.2
                    · rw [gval_put hy0, i3]; exact odd_pow_step q i k
                  generalize hdd : ((y0 + 2 ^ k : Nat) : Int) = yz at *
                  clear hI hbf Hr1 Hr2 hlt kR11 hF11 hQ11 hb11 hz11 hQ12 kR12 hF12 hb12 hz12 hlow hy0 hdd
                  go_wp2
                  exact ⟨⟨k, rfl, by omega, hfin⟩, by simp [intOf]; try omega⟩
end Go.Proofs.Ytccogdlmlegmbaa
