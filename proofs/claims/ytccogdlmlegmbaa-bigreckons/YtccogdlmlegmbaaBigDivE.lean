/- divide, Div of package big. -/
import Derived.Test.YtccogdlmlegmbaaBigDivD
namespace Go.Proofs.Ytccogdlmlegmbaa
open Go.ChangeShapes Go.WideShapes Go.ChangeAt Go.RowKit
set_option linter.unusedSimpArgs false
set_option linter.unusedVariables false
theorem Fr.slv {B : Nat} {v : Value} {l : List Nat} {w : World} {n K : Nat} (h : Fr B v l w) (hm : Lm 4294967296 l) (hn : gval 4294967296 l = n) (hK : l.length ≤ K) : SlV v n K w := by
  obtain ⟨o, c, rfl, h1, h2, _⟩ := h.parts
  exact ⟨o, l, c, _, rfl, rfl, h1, h2, hm, hn, hK⟩
theorem slv_nil (K : Nat) (w : World) : SlV (.slice none 0 0) 0 K w := ⟨none, [], 0, 0, rfl, rfl, fun j x hx => by simp at hx, by simp, Lm.nil _, rfl, by simp⟩
set_option maxHeartbeats 1000000 in
theorem divide_v (oa ob : Option Addr) (ca cb m n K : Nat) (w : World) (hK : K ≤ 100000) (hK1 : 1 ≤ K) (za : (glim 4294967296 m).length ≤ K) (zb : (glim 4294967296 n).length ≤ K) (hn0 : 0 < n) (ha : Lies oa (glim 4294967296 m) w) (hb : Lies ob (glim 4294967296 n) w) :
    Calls Try.prog 33 #[.slice oa (glim 4294967296 m).length ca, .slice ob (glim 4294967296 n).length cb] w fun e w' => ∃ vq vr, e = .returned (.tuple #[vq, vr]) ∧ SlV vq (m / n) K w' ∧ SlV vr (m % n) K w' ∧ Below w.heap.size w w' := by
  have hma := lm_glim (b := 4294967296) (by omega) m
  have hva := gval_glim (b := 4294967296) (by omega) m
  go_enter Try.func33, Try.ntmps33
  go_wp2_with fail
  refine (compare_w oa ob ca cb m n _ (by omega) (by omega) ha hb).mono ?_
  rintro e w1 ⟨rfl, b1⟩
  have ha1 := ha.below b1
  have hb1 := hb.below b1
  by_cases hlt : m < n
  · have hc : cmpZ (m : Int) (n : Int) = -1 := cmpZ_lt (by omega)
    rw [hc]
    go_wp2_with fail
    refine (clone_w oa ca _ _ (by omega) ha1).mono ?_
    rintro e w2 ⟨v2, rfl, hF, b2⟩
    go_wp2
    go_ret2
    refine ⟨_, _, rfl, ?_, hF.slv hma ?_ za, below_and b1 (Nat.le_refl _) b2⟩
    · rw [Nat.div_eq_of_lt hlt]; exact slv_nil _ _
    · rw [hva, Nat.mod_eq_of_lt hlt]
  · have hc : ¬ cmpZ (m : Int) (n : Int) < 0 := by unfold cmpZ; rw [if_neg (by omega)]; split <;> omega
    have hm0 : 0 < m := by omega
    have hneA : glim 4294967296 m ≠ [] := glim_ne (by omega) hm0
    by_cases hl1 : (glim 4294967296 n).length = 1
    · obtain ⟨d, hd⟩ : ∃ d, glim 4294967296 n = [d] := by
        match glim 4294967296 n, hl1 with
        | [d], _ => exact ⟨d, rfl⟩
      have hdn : d = n := by
        have := gval_glim (b := 4294967296) (by omega) n
        rw [hd] at this; simpa [gval] using this
      subst hdn
      have hdm : d < 4294967296 := by
        have := lm_glim (b := 4294967296) (by omega) d
        rw [hd] at this; exact this.head
      obtain ⟨a, rfl, cd⟩ := hb1 0 d (by rw [hd]; rfl)
      have hl1z : (((glim 4294967296 d).length : Int) == 1) = true := by rw [hl1]; rfl
      have hl0z : (0 : Int) < ((glim 4294967296 d).length : Int) := by omega
      clear hl1 hd
      go_wp2_with fail
      refine (clone_w oa ca _ _ (by omega) ha1).mono ?_
      rintro e w2 ⟨v2, rfl, hF, b2⟩
      have cd2 := (b2.cell (World.block_lt_of_cell? _ _ cd)).trans cd
      obtain ⟨o2, c2, rfl, hL2, hc2, hown⟩ := hF.parts
      obtain ⟨g, rfl, hg1, hg2, hO⟩ := hown hneA
      have cd3 : w2.cell? a = some (.int .u32 (d : Int)) := by simpa [Addr.add] using cd2
      clear hown hL2 hF cd cd2
      go_wp2_with fail
      refine (shrink_w g c2 d _ w2 hn0 hdm hma (by omega) hO).mono ?_
      rintro e w3 ⟨rfl, L, hO3, hm3, hv3, hl3, ho3⟩
      rw [hva] at hv3 ⊢
      have hz3 := ho3.2.1
      have hB3 : Below w.heap.size w w3 := (below_and b1 (Nat.le_refl _) b2).trans (ho3.below (by have := b1.size; omega))
      have hO4 := hO3.below' ((Below.refl w3.heap.size w3).alloc (Nat.le_refl _) (.cells #[.int .u32 ((m % d : Nat) : Int)] 63)) (by omega)
      have hN : Lies (some ⟨w3.heap.size, 0, none⟩) [m % d] (w3.alloc (.cells #[.int .u32 ((m % d : Nat) : Int)] 63)) := fun j x hx => by
        refine ⟨_, rfl, ?_⟩
        rw [addr_add, Nat.zero_add, World.cell?_alloc_mark]
        match j, hx with
        | 0, hx => simp at hx; subst hx; rfl
        | j + 1, hx => simp at hx
      have hB4 := hB3.alloc hB3.size (.cells #[.int .u32 ((m % d : Nat) : Int)] 63)
      have hmd : m % d < 4294967296 := Nat.lt_trans (Nat.mod_lt _ hn0) hdm
      have hzg : g < w3.heap.size := by omega
      clear hz3
      generalize hrd : m % d = r at *
      have hrd' := hid hrd
      clear hrd
      go_wp2
      go_ret2
      exact ⟨_, _, rfl, ⟨_, L, c2, _, rfl, hl3.symm, hO4.lies, by omega, hm3, hv3, by omega⟩, ⟨_, [r], 1, 1, rfl, rfl, hN, by simp, Lm.cons hmd (Lm.nil _), by rw [hrd'.out]; simp [gval], by simpa using hK1⟩, hB4⟩
    · have hl1z : (((glim 4294967296 n).length : Int) == 1) = false := by simp; omega
      have hl0 : 0 < (glim 4294967296 n).length := List.length_pos_iff.2 (glim_ne (by omega) hn0)
      go_wp2_with fail
      refine (divideLong_w oa ob ca cb m n K _ hK za (by omega) (by omega) ha1 hb1).mono ?_
      rintro e w2 ⟨vq, vr, rfl, hq, hr, b2⟩
      go_wp2
      go_ret2
      exact ⟨vq, vr, rfl, hq, hr, below_and b1 (Nat.le_refl _) b2⟩
theorem sv_div (X Y : Int) : sv (decide (X < 0) != decide (Y < 0)) (X.natAbs / Y.natAbs) = X.tdiv Y := by
  obtain ⟨a, ha⟩ : ∃ a, X.natAbs = a := ⟨_, rfl⟩
  obtain ⟨b, hb⟩ : ∃ b, Y.natAbs = b := ⟨_, rfl⟩
  rw [ha, hb]
  unfold sv
  by_cases hx : X < 0 <;> by_cases hy : Y < 0 <;> simp only [hx, hy, decide_true, decide_false, bne_self_eq_false, Bool.false_eq_true, if_false, Bool.true_bne, Bool.false_bne, Bool.not_false, if_true]
  · rw [show X = -(a : Int) by omega, show Y = -(b : Int) by omega, Int.neg_tdiv, Int.tdiv_neg, Int.neg_neg]; exact Int.ofNat_tdiv a b
  · rw [show X = -(a : Int) by omega, show Y = (b : Int) by omega, Int.neg_tdiv]; exact congrArg Neg.neg (Int.ofNat_tdiv a b)
  · rw [show X = (a : Int) by omega, show Y = -(b : Int) by omega, Int.tdiv_neg]; exact congrArg Neg.neg (Int.ofNat_tdiv a b)
  · rw [show X = (a : Int) by omega, show Y = (b : Int) by omega]; exact Int.ofNat_tdiv a b
theorem sv_mod (X Y : Int) : sv (decide (X < 0)) (X.natAbs % Y.natAbs) = X.tmod Y := by
  obtain ⟨a, ha⟩ : ∃ a, X.natAbs = a := ⟨_, rfl⟩
  obtain ⟨b, hb⟩ : ∃ b, Y.natAbs = b := ⟨_, rfl⟩
  rw [ha, hb]
  unfold sv
  by_cases hx : X < 0 <;> by_cases hy : Y < 0 <;> simp only [hx, decide_true, decide_false, Bool.false_eq_true, if_false, if_true]
  · rw [show X = -(a : Int) by omega, show Y = -(b : Int) by omega, Int.neg_tmod, Int.tmod_neg]; exact congrArg Neg.neg (Int.ofNat_tmod a b)
  · rw [show X = -(a : Int) by omega, show Y = (b : Int) by omega, Int.neg_tmod]; exact congrArg Neg.neg (Int.ofNat_tmod a b)
  · rw [show X = (a : Int) by omega, show Y = -(b : Int) by omega, Int.tmod_neg]; exact Int.ofNat_tmod a b
  · rw [show X = (a : Int) by omega, show Y = (b : Int) by omega]; exact Int.ofNat_tmod a b
theorem boxes4 (w : World) (a0 a1 b0 b1 c0 c1 d0 d1 : Value) (ta tb tc td : TypeId) :
    Box w.heap.size a0 a1 ((((w.alloc (.cells #[a0, a1] ta)).alloc (.cells #[b0, b1] tb)).alloc (.cells #[c0, c1] tc)).alloc (.cells #[d0, d1] td)) ∧ Box (w.heap.size + 1) b0 b1 ((((w.alloc (.cells #[a0, a1] ta)).alloc (.cells #[b0, b1] tb)).alloc (.cells #[c0, c1] tc)).alloc (.cells #[d0, d1] td)) ∧ Box (w.heap.size + 1 + 1) c0 c1 ((((w.alloc (.cells #[a0, a1] ta)).alloc (.cells #[b0, b1] tb)).alloc (.cells #[c0, c1] tc)).alloc (.cells #[d0, d1] td)) ∧ Box (w.heap.size + 1 + 1 + 1) d0 d1 ((((w.alloc (.cells #[a0, a1] ta)).alloc (.cells #[b0, b1] tb)).alloc (.cells #[c0, c1] tc)).alloc (.cells #[d0, d1] td)) ∧ Below w.heap.size w ((((w.alloc (.cells #[a0, a1] ta)).alloc (.cells #[b0, b1] tb)).alloc (.cells #[c0, c1] tc)).alloc (.cells #[d0, d1] td)) ∧ ((((w.alloc (.cells #[a0, a1] ta)).alloc (.cells #[b0, b1] tb)).alloc (.cells #[c0, c1] tc)).alloc (.cells #[d0, d1] td)).heap.size = w.heap.size + 4 := by
  obtain ⟨k1, k2, k3, hB, hz⟩ := boxes3 w a0 a1 b0 b1 c0 c1 ta tb tc
  have k4 := Box.new (((w.alloc (.cells #[a0, a1] ta)).alloc (.cells #[b0, b1] tb)).alloc (.cells #[c0, c1] tc)) d0 d1 td
  rw [hz] at k4
  exact ⟨k1.alloc _ (by omega), k2.alloc _ (by omega), k3.alloc _ (by omega), k4, hB.alloc hB.size _, by rw [World.size_alloc, hz]⟩
set_option maxHeartbeats 1000000 in
theorem div_w (va vb : Value) (X Y : Int) (K : Nat) (w : World) (hK : K ≤ 100000) (hK1 : 1 ≤ K) (ha : IsN va X K w) (hb : IsN vb Y K w) :
    Calls Try.prog 10 #[va, vb] w fun e w' => ∃ vq vr, e = .returned (.tuple #[vq, vr, .bool (decide (Y ≠ 0))]) ∧ IsC vq (X.tdiv Y) K w' ∧ IsC vr (if Y = 0 then 0 else X.tmod Y) K w' ∧ Below w.heap.size w w' := by
  have hA : ∀ w', Below w.heap.size w w' → IsN va X K w' := fun w' hw => ha.below hw
  have hB : ∀ w', Below w.heap.size w w' → IsN vb Y K w' := fun w' hw => hb.below hw
  obtain ⟨na, oa, la, ca, rfl, hLa, hca, hma, hsa, hka⟩ := ha
  obtain ⟨nb, ob, lb, cb, rfl, hLb, hcb, hmb, hsb, hkb⟩ := hb
  clear hsa hsb hma hmb hLa hLb hca hcb hka hkb
  obtain ⟨kA, kB, kC, kD, hB0, hz0⟩ := boxes4 w (.bool na) (.slice oa la.length ca) (.bool nb) (.slice ob lb.length cb) (.bool false) (.slice none 0 0) (.bool false) (.slice none 0 0) 25 25 25 25
  obtain ⟨Zr, hZr⟩ : ∃ Zr, (if Y = 0 then 0 else X.tmod Y) = Zr := ⟨_, rfl⟩
  rw [hZr]
  obtain ⟨Zq, hZq⟩ : ∃ Zq, X.tdiv Y = Zq := ⟨_, rfl⟩
  rw [hZq]
  obtain ⟨ok, hok⟩ : ∃ ok, decide (Y ≠ 0) = ok := ⟨_, rfl⟩
  rw [hok]
  have hZr' := hid hZr
  have hZq' := hid hZq
  have hok' := hid hok
  clear hZr hZq hok
  go_enter Try.func10, Try.ntmps10
  go_wp2
  generalize ((((w.alloc (.cells #[.bool na, .slice oa la.length ca] 25)).alloc (.cells #[.bool nb, .slice ob lb.length cb] 25)).alloc (.cells #[.bool false, .slice none 0 0] 25)).alloc (.cells #[.bool false, .slice none 0 0] 25)) = W0 at *
  obtain ⟨f1, f2, f3, f4⟩ := id kA
  obtain ⟨f5, f6, f7, f8⟩ := id kB
  go_cut [] from 9 to 12 (fun wx => Two X Y K w wx ∧ After w W0 wx)
  case first =>
    go_region_with (first
        | (go_at_call_of 32 oa
           refine (view_w _ X K _ (by omega) (hA _ hB0.drew)).mono ?_
           rintro e w1 ⟨v1, rfl, hv1, b1'⟩
           have b1 : Below W0.heap.size W0 w1 := ((Below.refl _ W0).drew).trans b1'
           clear b1'
           obtain ⟨o1, c1, rfl, L1, z1, q1⟩ := hv1 w (hA w (Below.refl _ _))
           have hB1 : Below w.heap.size w w1 := below_and hB0 (Nat.le_refl _) b1
           have hz1 := b1.size
           obtain ⟨p1, p2, p3, p4⟩ := kA.below b1 (by omega)
           obtain ⟨p5, p6, p7, p8⟩ := kB.below b1 (by omega))
        | (go_at_call_of 32 ob
           refine (view_w _ Y K _ (by omega) (hB _ hB1)).mono ?_
           rintro e w2 ⟨v2, rfl, hv2, b2'⟩
           have b2 : Below W0.heap.size W0 w2 := below_and b1 (Nat.le_refl _) b2'
           clear b2' p1 p2 p3 p4 p5 p6 p7 p8
           obtain ⟨o2, c2, rfl, L2, z2, q2⟩ := hv2 w (hB w (Below.refl _ _))
           obtain ⟨p1, p2, p3, p4⟩ := kA.below b2 (by omega)
           obtain ⟨p5, p6, p7, p8⟩ := kB.below b2 (by omega)))
    all_goals (go_wp2_with fail; go_meet)
    all_goals (have hAf := after_put (a0 := .bool (decide (X < 0))) (a1 := .slice o1 (glim 4294967296 X.natAbs).length c1) (b0 := .bool (decide (Y < 0))) (b1 := .slice o2 (glim 4294967296 Y.natAbs).length c2) hB0 (by omega) b2; exact ⟨⟨o1, c1, o2, c2, (boxes_put kA kB (by omega) b2).1, (boxes_put kA kB (by omega) b2).2, L1.below hAf.2.2, L2.below hAf.2.2, z1, z2, q1, q2⟩, hAf⟩)
  case rest =>
    obtain ⟨⟨o1, c1, o2, c2, kA', kB', L1, L2, z1, z2, q1, q2⟩, hAf⟩ := hcut
    have kC' := hAf.1 _ _ _ (by omega) (by omega) kC
    have kD' := hAf.1 _ _ _ (by omega) (by omega) kD
    have hsz := hAf.2.1
    have hBx := hAf.2.2
    clear hAf kA kB kC kD f1 f2 f3 f4 f5 f6 f7 f8 hB0 hA hB
    obtain ⟨f1, f2, f3, f4⟩ := id kA'
    obtain ⟨f5, f6, f7, f8⟩ := id kB'
    obtain ⟨e1, e2, e3, e4⟩ := id kC'
    obtain ⟨d1, d2, d3, d4⟩ := id kD'
    by_cases hY : Y = 0
    · have hl0 : (glim 4294967296 Y.natAbs).length = 0 := by rw [hY]; simp [glim_zero]
      have hq0 : Zq = 0 := by rw [← hZq'.out, hY]; simp
      have hr0 : Zr = 0 := by rw [← hZr'.out, if_pos hY]
      have hd : ok = false := by rw [← hok'.out]; simp [hY]
      subst hq0 hr0 hd
      clear hY hok' hZq' hZr'
      go_wp2
      have kC2 := (kC'.put (u' := .bool false) (v' := .slice none 0 0)).far (k := w.heap.size + 1 + 1 + 1) (x := .bool false) (y := .slice none 0 0) (by omega)
      have kD2 := (kD'.far (k := w.heap.size + 1 + 1) (x := .bool false) (y := .slice none 0 0) (by omega)).put (u' := .bool false) (v' := .slice none 0 0)
      refine bodyPost_ret (v := .tuple #[.agg #[.bool false, .slice none 0 0], .agg #[.bool false, .slice none 0 0], .bool false]) (by simp [results, Try.results10, go_sem, kC2.1, kC2.2.1, kD2.1, kD2.2.1]) rfl ⟨_, _, rfl, isC_zero _ _, isC_zero _ _, ?_⟩
      exact (((hBx.setCell (p := ⟨w.heap.size + 1 + 1, 0, none⟩) (by simp; omega) _).setCell (p := ⟨w.heap.size + 1 + 1, 1, none⟩) (by simp; omega) _).setCell (p := ⟨w.heap.size + 1 + 1 + 1, 0, none⟩) (by simp; omega) _).setCell (p := ⟨w.heap.size + 1 + 1 + 1, 1, none⟩) (by simp; omega) _
    · have hl0 : (((glim 4294967296 Y.natAbs).length : Int) == 0) = false := by
        have := List.length_pos_iff.2 (glim_ne (b := 4294967296) (n := Y.natAbs) (by omega) (by omega))
        simp only [beq_eq_false_iff_ne, ne_eq]; omega
      have hd : ok = true := by rw [← hok'.out]; simp [hY]
      subst hd
      clear hok'
      have hsq := sv_div X Y
      have hsr := sv_mod X Y
      rw [hZq'.out] at hsq
      rw [show X.tmod Y = Zr by rw [← hZr'.out, if_neg hY]] at hsr
      clear hZq' hZr'
      go_wp2_with fail
      refine (divide_v o1 o2 c1 c2 _ _ K _ hK hK1 q1 q2 (by omega) L1 L2).mono ?_
      rintro e w1 ⟨vq, vr, rfl, hq, hr, b1⟩
      have hqn := hq.isN (decide (X < 0) != decide (Y < 0))
      have hrn := hr.isN (decide (X < 0))
      rw [hsq] at hqn
      rw [hsr] at hrn
      have hqn' := hqn.below ((Below.refl w1.heap.size w1).drew)
      obtain ⟨oq, lq, cq, _, rfl, rfl, _, _, _, _, _⟩ := hq
      obtain ⟨orr, lr, cr, _, rfl, rfl, _, _, _, _, _⟩ := hr
      have hz1 := b1.size
      have hB1 := below_and hBx (Nat.le_refl _) b1
      have kA1 := kA'.below b1 (by omega)
      have kB1 := kB'.below b1 (by omega)
      have kC1 := kC'.below b1 (by omega)
      have kD1 := kD'.below b1 (by omega)
      clear f1 f2 f3 f4 f5 f6 f7 f8 e1 e2 e3 e4 d1 d2 d3 d4 kA' kB' kC' kD' hBx b1 L1 L2
      obtain ⟨f1, f2, f3, f4⟩ := id kA1
      obtain ⟨f5, f6, f7, f8⟩ := id kB1
      go_wp2
      go_region_held3 (fun w' => w'.cell? ⟨w.heap.size, 0, none⟩ = some (.bool (decide (X < 0))) ∧ w'.cell? ⟨w.heap.size + 1, 0, none⟩ = some (.bool (decide (Y < 0)))) (first | (refine ⟨?_, ?_⟩ <;> (rw [World.cell?_setCell_other _ _ _ _ (by simp; try omega), World.cell?_setCell_other _ _ _ _ (by simp; try omega)]; first | assumption | (rw [World.cell?_setCell_other _ _ _ _ (by simp; try omega), World.cell?_setCell_other _ _ _ _ (by simp; try omega)]; assumption))) | go_keep) (first
          | (go_at_call_of 32 oq
             refine (view_w _ Zq K _ (by omega) hqn').mono ?_
             rintro e w3 ⟨v3, rfl, hv3, b3'⟩
             have b3 := below_of_drew b3'
             clear b3'
             have hz3 := b3.size
             have hB3 := below_and hB1 (Nat.le_refl _) b3
             have hC3 := (hv3 _ hqn).below b3
             obtain ⟨o3, c3, rfl, L3, z3, q3⟩ := hC3
             have hrn3 := hrn.below b3
             obtain ⟨g1, g2, g3, g4⟩ := id (kA1.below b3 (by omega))
             obtain ⟨g5, g6, g7, g8⟩ := id (kB1.below b3 (by omega))
             have kA3 := kA1.below b3 (by omega)
             have kB3 := kB1.below b3 (by omega)
             have kC3 := kC1.below b3 (by omega)
             have kD3 := kD1.below b3 (by omega))
          | (go_at_call_of 32 orr
             refine (view_w _ Zr K _ (by omega) hrn3).mono ?_
             rintro e w4 ⟨v4, rfl, hv4, b4⟩
             have hz4 := b4.size
             have hB4 := below_and hB3 (Nat.le_refl _) b4
             have hC4 := (hv4 _ hrn3).below b4
             obtain ⟨o4, c4, rfl, L4, z4, q4⟩ := hC4
             have L34 := L3.below b4
             obtain ⟨g11, g12, g13, g14⟩ := id (kA3.below b4 (by omega))
             obtain ⟨g15, g16, g17, g18⟩ := id (kB3.below b4 (by omega))
             have kC4 := kC3.below b4 (by omega)
             have kD4 := kD3.below b4 (by omega)
             obtain ⟨e1, e2, e3, e4⟩ := id kC4
             obtain ⟨d1, d2, d3, d4⟩ := id kD4))
      all_goals go_wp2
      have hCq : IsC _ Zq K w4 := ⟨o3, c3, rfl, L34, z3, q3⟩
      have hCr : IsC _ Zr K w4 := ⟨o4, c4, rfl, L4, z4, q4⟩
      have kD5 := kD4.far (k := w.heap.size + 1 + 1) (x := .bool (decide (Zq < 0))) (y := .slice o3 (glim 4294967296 Zq.natAbs).length c3) (by omega)
      have kC2 := (kC4.put (u' := .bool (decide (Zq < 0))) (v' := .slice o3 (glim 4294967296 Zq.natAbs).length c3)).far (k := w.heap.size + 1 + 1 + 1) (x := .bool (decide (Zr < 0))) (y := .slice o4 (glim 4294967296 Zr.natAbs).length c4) (by omega)
      have kD2 := kD5.put (u' := .bool (decide (Zr < 0))) (v' := .slice o4 (glim 4294967296 Zr.natAbs).length c4)
      refine bodyPost_ret (v := .tuple #[.agg #[.bool (decide (Zq < 0)), .slice o3 (glim 4294967296 Zq.natAbs).length c3], .agg #[.bool (decide (Zr < 0)), .slice o4 (glim 4294967296 Zr.natAbs).length c4], .bool true]) (by simp [results, Try.results10, go_sem, kC2.1, kC2.2.1, kD2.1, kD2.2.1]) rfl ⟨_, _, rfl, (hCq.box kC4).box kD5, (hCr.box kC4).box kD5, ?_⟩
      exact (((hB4.setCell (p := ⟨w.heap.size + 1 + 1, 0, none⟩) (by simp; omega) _).setCell (p := ⟨w.heap.size + 1 + 1, 1, none⟩) (by simp; omega) _).setCell (p := ⟨w.heap.size + 1 + 1 + 1, 0, none⟩) (by simp; omega) _).setCell (p := ⟨w.heap.size + 1 + 1 + 1, 1, none⟩) (by simp; omega) _
end Go.Proofs.Ytccogdlmlegmbaa
