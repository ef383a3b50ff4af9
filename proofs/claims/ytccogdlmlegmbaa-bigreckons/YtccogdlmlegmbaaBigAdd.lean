/- Add, Sub, Compare of package big. -/
import Derived.Test.YtccogdlmlegmbaaBigSum
import Derived.Deep.RegionWith
import Derived.Deep.RegionHeld3
import Derived.Deep.CutRange
namespace Go.Proofs.Ytccogdlmlegmbaa
open Go.ChangeShapes Go.WideShapes Go.ChangeAt Go.RowKit
set_option linter.unusedSimpArgs false
set_option linter.unusedVariables false

theorem frozen_set (w : World) (p : Addr) (hp : p.spot = none) (v : Value) (a : Addr) : (w.setCell p v).frozen? a = w.frozen? a := by
  obtain ⟨g, o, sp⟩ := p
  simp only at hp; subst hp
  exact World.frozen?_setCells g [v] o w a
theorem Box.put {g : Nat} {u v u' v' : Value} {w : World} (h : Box g u v w) : Box g u' v' ((w.setCell ⟨g, 0, none⟩ u').setCell ⟨g, 1, none⟩ v') := by
  refine ⟨?_, ?_, ?_, ?_⟩
  · rw [World.cell?_setCell_other _ _ ⟨g, 0, none⟩ _ (by simp)]
    exact World.cell?_setCell_same _ _ _ h.1
  · refine World.cell?_setCell_same _ _ (u := v) _ ?_
    rw [World.cell?_setCell_other _ _ ⟨g, 1, none⟩ _ (by simp)]
    exact h.2.1
  · rw [frozen_set _ _ rfl, frozen_set _ _ rfl]; exact h.2.2.1
  · rw [frozen_set _ _ rfl, frozen_set _ _ rfl]; exact h.2.2.2
theorem Box.far {g k : Nat} {u v x y : Value} {w : World} (h : Box g u v w) (hne : g ≠ k) : Box g u v ((w.setCell ⟨k, 0, none⟩ x).setCell ⟨k, 1, none⟩ y) := by
  refine ⟨?_, ?_, ?_, ?_⟩
  · rw [World.cell?_setCell_other _ _ ⟨g, 0, none⟩ _ (by simp), World.cell?_setCell_other _ _ ⟨g, 0, none⟩ _ (by simp; try omega)]; exact h.1
  · rw [World.cell?_setCell_other _ _ ⟨g, 1, none⟩ _ (by simp; try omega), World.cell?_setCell_other _ _ ⟨g, 1, none⟩ _ (by simp)]; exact h.2.1
  · rw [frozen_set _ _ rfl, frozen_set _ _ rfl]; exact h.2.2.1
  · rw [frozen_set _ _ rfl, frozen_set _ _ rfl]; exact h.2.2.2
theorem Lies.set {o : Option Addr} {l : List Nat} {w : World} (h : Lies o l w) {p : Addr} {v : Value} (hp : w.cell? p = some v) (hv : ∀ n, v ≠ .int .u32 n) (x : Value) : Lies o l (w.setCell p x) := fun j y hy => by
  obtain ⟨a, ha, hc⟩ := h j y hy
  refine ⟨a, ha, ?_⟩
  rw [World.cell?_setCell_other _ _ _ _ (fun e => ?_)]
  · exact hc
  · rw [← e, hp] at hc
    injection hc with hc; exact hv _ hc
theorem Lies.box {o : Option Addr} {l : List Nat} {w : World} (h : Lies o l w) {g : Nat} {b : Bool} {o' : Option Addr} {n c : Nat} (hb : Box g (.bool b) (.slice o' n c) w) (x y : Value) : Lies o l ((w.setCell ⟨g, 0, none⟩ x).setCell ⟨g, 1, none⟩ y) := by
  refine (h.set hb.1 (fun _ => by simp) x).set (v := .slice o' n c) ?_ (fun _ => by simp) y
  rw [World.cell?_setCell_other _ _ ⟨g, 1, none⟩ _ (by simp)]
  exact hb.2.1
theorem IsC.box {v : Value} {Z : Int} {K : Nat} {w : World} (h : IsC v Z K w) {g : Nat} {b : Bool} {o' : Option Addr} {n c : Nat} (hb : Box g (.bool b) (.slice o' n c) w) {x y : Value} : IsC v Z K ((w.setCell ⟨g, 0, none⟩ x).setCell ⟨g, 1, none⟩ y) := by
  obtain ⟨o, c, rfl, hL, hc, hK⟩ := h
  exact ⟨o, c, rfl, hL.box hb x y, hc, hK⟩
/-- two Norms, laid where the parameters lay -/
def Two (X Y : Int) (K : Nat) (w wx : World) : Prop := ∃ o1 c1 o2 c2, Box w.heap.size (.bool (decide (X < 0))) (.slice o1 (glim 4294967296 X.natAbs).length c1) wx ∧ Box (w.heap.size + 1) (.bool (decide (Y < 0))) (.slice o2 (glim 4294967296 Y.natAbs).length c2) wx ∧ Lies o1 (glim 4294967296 X.natAbs) wx ∧ Lies o2 (glim 4294967296 Y.natAbs) wx ∧ (glim 4294967296 X.natAbs).length ≤ c1 ∧ (glim 4294967296 Y.natAbs).length ≤ c2 ∧ (glim 4294967296 X.natAbs).length ≤ K ∧ (glim 4294967296 Y.natAbs).length ≤ K
/-- what else there was is as it was -/
def After (w W0 wx : World) : Prop := (∀ g u v, w.heap.size + 2 ≤ g → g < W0.heap.size → Box g u v W0 → Box g u v wx) ∧ W0.heap.size ≤ wx.heap.size ∧ Below w.heap.size w wx
theorem after_put {w W0 w2 : World} {a0 a1 b0 b1 : Value} (hB0 : Below w.heap.size w W0) (hz : w.heap.size + 2 ≤ W0.heap.size) (hb : Below W0.heap.size W0 w2) :
    After w W0 ((((w2.setCell ⟨w.heap.size, 0, none⟩ a0).setCell ⟨w.heap.size, 1, none⟩ a1).setCell ⟨w.heap.size + 1, 0, none⟩ b0).setCell ⟨w.heap.size + 1, 1, none⟩ b1) := by
  refine ⟨fun g u v hg hgw h => ((h.below hb hgw).far (by omega)).far (by omega), ?_, ?_⟩
  · have := hb.size; simpa using this
  · exact (((((hB0.trans (below_le hb (by omega))).setCell (p := ⟨w.heap.size, 0, none⟩) (Nat.le_refl _) _).setCell (p := ⟨w.heap.size, 1, none⟩) (Nat.le_refl _) _).setCell (p := ⟨w.heap.size + 1, 0, none⟩) (by simp) _).setCell (p := ⟨w.heap.size + 1, 1, none⟩) (by simp) _)
theorem boxes_put {w W0 w2 : World} {a0 a1 b0 b1 x0 x1 y0 y1 : Value} (kA : Box w.heap.size x0 x1 W0) (kB : Box (w.heap.size + 1) y0 y1 W0) (hz : w.heap.size + 2 ≤ W0.heap.size) (hb : Below W0.heap.size W0 w2) :
    Box w.heap.size a0 a1 ((((w2.setCell ⟨w.heap.size, 0, none⟩ a0).setCell ⟨w.heap.size, 1, none⟩ a1).setCell ⟨w.heap.size + 1, 0, none⟩ b0).setCell ⟨w.heap.size + 1, 1, none⟩ b1) ∧ Box (w.heap.size + 1) b0 b1 ((((w2.setCell ⟨w.heap.size, 0, none⟩ a0).setCell ⟨w.heap.size, 1, none⟩ a1).setCell ⟨w.heap.size + 1, 0, none⟩ b0).setCell ⟨w.heap.size + 1, 1, none⟩ b1) :=
  ⟨((kA.below hb (by omega)).put).far (by omega), ((kB.below hb (by omega)).far (by omega)).put⟩
theorem Lies.drew {o : Option Addr} {l : List Nat} {w : World} (h : Lies o l w) : Lies o l w.drew := h
theorem below_of_drew {w w' : World} (h : Below w.drew.heap.size w.drew w') : Below w.heap.size w w' := ((Below.refl _ w).drew).trans h
theorem own_isN {g : Nat} {L : List Nat} {w : World} (s : Bool) {K n : Nat} (h : Own g L w) (hm : Lm 4294967296 L) (hn : gval 4294967296 L = n) (hk : L.length ≤ K) : IsN (.agg #[.bool s, .slice (some ⟨g, 0, none⟩) L.length L.length]) (sv s n) K w :=
  ⟨s, _, L, _, rfl, h.lies, Nat.le_refl _, hm, by rw [hn], hk⟩
/-- a slice of limbs that is worth n -/
def Sl (sl : Value) (n K : Nat) (w : World) : Prop := ∀ s, IsN (.agg #[.bool s, sl]) (sv s n) K w
theorem Sl.below {sl : Value} {n K : Nat} {w w' : World} (h : Sl sl n K w) (hb : Below w.heap.size w w') : Sl sl n K w' := fun s => (h s).below hb
theorem sum_v (oa ob : Option Addr) (ca cb m n K : Nat) (w : World) (za : (glim 4294967296 m).length ≤ K) (zb : (glim 4294967296 n).length ≤ K) (hK : K ≤ 1000000) (ha : Lies oa (glim 4294967296 m) w) (hb : Lies ob (glim 4294967296 n) w) :
    Calls Try.prog 45 #[.slice oa (glim 4294967296 m).length ca, .slice ob (glim 4294967296 n).length cb] w fun e w' => ∃ o z, e = .returned (.slice o z z) ∧ Sl (.slice o z z) (m + n) (K + 1) w' ∧ Below w.heap.size w w' := by
  refine (sum_w oa ob ca cb _ _ w (lm_glim (by omega) m) (lm_glim (by omega) n) (by omega) (by omega) ha hb).mono ?_
  rintro e w' ⟨L, rfl, hO, hm, hg, hl, b, hl2⟩
  rw [gval_glim (by omega), gval_glim (by omega)] at hg
  exact ⟨_, _, rfl, fun s => own_isN s hO hm hg (by omega), b⟩
theorem difference_v (oa ob : Option Addr) (ca cb m n K : Nat) (w : World) (za : (glim 4294967296 m).length ≤ K) (hK : K ≤ 1000000) (hle : n ≤ m) (ha : Lies oa (glim 4294967296 m) w) (hb : Lies ob (glim 4294967296 n) w) :
    Calls Try.prog 46 #[.slice oa (glim 4294967296 m).length ca, .slice ob (glim 4294967296 n).length cb] w fun e w' => ∃ o z, e = .returned (.slice o z z) ∧ Sl (.slice o z z) (m - n) K w' ∧ Below w.heap.size w w' := by
  have hll : (glim 4294967296 n).length ≤ (glim 4294967296 m).length := (glim_len (by omega) _ _).2 (Nat.lt_of_le_of_lt hle (glim_lt (by omega) m))
  refine (difference_w oa ob ca cb _ _ w (lm_glim (by omega) m) (lm_glim (by omega) n) (by omega) hll (by rw [gval_glim (by omega), gval_glim (by omega)]; exact hle) ha hb).mono ?_
  rintro e w' ⟨L, rfl, hO, hm, hg, hl, b⟩
  rw [gval_glim (by omega), gval_glim (by omega)] at hg
  exact ⟨_, _, rfl, fun s => own_isN s hO hm hg (by omega), b⟩
theorem sv_add_same {X Y : Int} (h : decide (X < 0) = decide (Y < 0)) : sv (decide (X < 0)) (X.natAbs + Y.natAbs) = X + Y := by
  unfold sv
  by_cases hx : X < 0
  · have hy : Y < 0 := by simpa [hx] using h
    simp only [hx, decide_true, if_true]; omega
  · have hy : ¬ Y < 0 := by simpa [hx] using h
    simp only [hx, decide_false, Bool.false_eq_true, if_false]; omega
theorem sv_add_sub {X Y : Int} (h : decide (X < 0) ≠ decide (Y < 0)) (hle : Y.natAbs ≤ X.natAbs) : sv (decide (X < 0)) (X.natAbs - Y.natAbs) = X + Y := by
  unfold sv
  by_cases hx : X < 0
  · have hy : ¬ Y < 0 := by simpa [hx] using h
    simp only [hx, decide_true, if_true]; omega
  · have hy : Y < 0 := by simpa [hx] using h
    simp only [hx, decide_false, Bool.false_eq_true, if_false]; omega
set_option maxHeartbeats 1000000 in
theorem add_w (va vb : Value) (X Y : Int) (K : Nat) (w : World) (hK : K + 1 ≤ 1000000) (ha : IsN va X K w) (hb : IsN vb Y K w) :
    Calls Try.prog 22 #[va, vb] w fun e w' => ∃ v', e = .returned v' ∧ IsC v' (X + Y) (K + 1) w' ∧ Below w.heap.size w w' := by
  have hA : ∀ w', Below w.heap.size w w' → IsN va X K w' := fun w' hw => ha.below hw
  have hB : ∀ w', Below w.heap.size w w' → IsN vb Y K w' := fun w' hw => hb.below hw
  obtain ⟨na, oa, la, ca, rfl, hLa, hca, hma, hsa, hka⟩ := ha
  obtain ⟨nb, ob, lb, cb, rfl, hLb, hcb, hmb, hsb, hkb⟩ := hb
  clear hsa hsb hma hmb hLa hLb hca hcb hka hkb
  obtain ⟨kA, kB, kC, hB0, hz0⟩ := boxes3 w (.bool na) (.slice oa la.length ca) (.bool nb) (.slice ob lb.length cb) (.bool false) (.slice none 0 0) 25 25 25
  go_enter Try.func22, Try.ntmps22
  go_wp2
  generalize (((w.alloc (.cells #[.bool na, .slice oa la.length ca] 25)).alloc (.cells #[.bool nb, .slice ob lb.length cb] 25)).alloc (.cells #[.bool false, .slice none 0 0] 25)) = W0 at *
  obtain ⟨f1, f2, f3, f4⟩ := id kA
  obtain ⟨f5, f6, f7, f8⟩ := id kB
  go_cut [] from 5 to 8 (fun wx => Two X Y K w wx ∧ After w W0 wx)
  case first =>
    go_region_with (first
        | (go_at_call_of 32 oa
           refine (view_w _ X K _ (by omega) (hA _ hB0.drew)).mono ?_
           rintro e w1 ⟨v1, rfl, hv1, b1'⟩
           have b1 : Below W0.heap.size W0 w1 := ((Below.refl _ W0).drew).trans b1'
           clear b1'
           obtain ⟨o1, c1, rfl, L1, z1, q1⟩ := hv1 w (hA w (Below.refl _ _))
           have hB1 : Below w.heap.size w w1 := below_and hB0 (Nat.le_refl _) b1
           have hz1 := b1.size
           obtain ⟨p1, p2, p3, p4⟩ := kA.below b1 (by omega)
           obtain ⟨p5, p6, p7, p8⟩ := kB.below b1 (by omega))
        | (go_at_call_of 32 ob
           refine (view_w _ Y K _ (by omega) (hB _ hB1)).mono ?_
           rintro e w2 ⟨v2, rfl, hv2, b2'⟩
           have b2 : Below W0.heap.size W0 w2 := below_and b1 (Nat.le_refl _) b2'
           clear b2' p1 p2 p3 p4 p5 p6 p7 p8
           obtain ⟨o2, c2, rfl, L2, z2, q2⟩ := hv2 w (hB w (Below.refl _ _))
           obtain ⟨p1, p2, p3, p4⟩ := kA.below b2 (by omega)
           obtain ⟨p5, p6, p7, p8⟩ := kB.below b2 (by omega)))
    all_goals (go_wp2_with fail; go_meet)
    all_goals (have hAf := after_put (a0 := .bool (decide (X < 0))) (a1 := .slice o1 (glim 4294967296 X.natAbs).length c1) (b0 := .bool (decide (Y < 0))) (b1 := .slice o2 (glim 4294967296 Y.natAbs).length c2) hB0 (by omega) b2; exact ⟨⟨o1, c1, o2, c2, (boxes_put kA kB (by omega) b2).1, (boxes_put kA kB (by omega) b2).2, L1.below hAf.2.2, L2.below hAf.2.2, z1, z2, q1, q2⟩, hAf⟩)
  case rest =>
    obtain ⟨⟨o1, c1, o2, c2, kA', kB', L1, L2, z1, z2, q1, q2⟩, hAf⟩ := hcut
    have kC' := hAf.1 _ _ _ (by omega) (by omega) kC
    have hsz := hAf.2.1
    have hBx := hAf.2.2
    clear hAf kA kB kC f1 f2 f3 f4 f5 f6 f7 f8 hB0 hA hB
    obtain ⟨f1, f2, f3, f4⟩ := id kA'
    obtain ⟨f5, f6, f7, f8⟩ := id kB'
    by_cases hs : decide (X < 0) = decide (Y < 0)
    · have hs' : (decide (X < 0) == decide (Y < 0)) = true := by rw [hs]; simp
      have hsv := sv_add_same hs
      clear hs
      go_wp2
      go_region_held3 (fun w' => w'.cell? ⟨w.heap.size, 0, none⟩ = some (.bool (decide (X < 0))) ∧ w'.cell? ⟨w.heap.size, 1, none⟩ = some (.slice o1 (glim 4294967296 X.natAbs).length c1) ∧ w'.cell? ⟨w.heap.size + 1, 0, none⟩ = some (.bool (decide (Y < 0))) ∧ w'.cell? ⟨w.heap.size + 1, 1, none⟩ = some (.slice o2 (glim 4294967296 Y.natAbs).length c2)) (first | (refine ⟨?_, ?_, ?_, ?_⟩ <;> (rw [World.cell?_setCell_other _ _ _ _ (by simp; try omega), World.cell?_setCell_other _ _ _ _ (by simp; try omega)]; assumption)) | go_keep) (first
          | (go_at_call 45
             refine (sum_v o1 o2 c1 c2 _ _ K _ q1 q2 (by omega) L1.drew L2.drew).mono ?_
             rintro e w3 ⟨os, zs, rfl, hsl, b3'⟩
             have b3 := below_of_drew b3'
             clear b3'
             have hz3 := b3.size
             have hN := hsl (decide (X < 0))
             rw [hsv] at hN
             have hB3 := below_and hBx (Nat.le_refl _) b3
             obtain ⟨g1, g2, g3, g4⟩ := kA'.below b3 (by omega)
             obtain ⟨g5, g6, g7, g8⟩ := kB'.below b3 (by omega)
             have kC3 := kC'.below b3 (by omega))
          | (go_at_call 32
             refine (view_w _ (X + Y) (K + 1) _ (by omega) hN).mono ?_
             rintro e w4 ⟨v4, rfl, hv4, b4⟩
             have hB4 := below_and hB3 (Nat.le_refl _) b4
             have hC4 := (hv4 _ hN).below b4
             obtain ⟨o4, c4, rfl, L4, z4, q4⟩ := hC4
             obtain ⟨g11, g12, g13, g14⟩ := Box.below ⟨g1, g2, g3, g4⟩ b4 (by omega)
             obtain ⟨g15, g16, g17, g18⟩ := Box.below ⟨g5, g6, g7, g8⟩ b4 (by omega)
             obtain ⟨g21, g22, g23, g24⟩ := id (kC3.below b4 (by omega))
             have kC4 := kC3.below b4 (by omega)))
      all_goals go_wp2
      all_goals (refine bodyPost_ret (v := .agg #[.bool (decide (X + Y < 0)), .slice o4 (glim 4294967296 (X + Y).natAbs).length c4]) (by simp [results, Try.results22, go_sem, g21, g22]) rfl ⟨_, rfl, ?_, ?_⟩)
      all_goals first
        | exact (show IsC _ (X + Y) _ w4 from ⟨o4, c4, rfl, L4, z4, by omega⟩).box kC4
        | exact (hB4.setCell (p := ⟨w.heap.size + 1 + 1, 0, none⟩) (by simp; omega) _).setCell (p := ⟨w.heap.size + 1 + 1, 1, none⟩) (by simp; omega) _
    · have hs' : (decide (X < 0) == decide (Y < 0)) = false := by simpa using hs
      go_wp2_with fail
      refine (compare_w o1 o2 c1 c2 _ _ _ (by omega) (by omega) L1 L2).mono ?_
      rintro e wd ⟨rfl, bd⟩
      have hBx' : Below w.heap.size w wd := below_and hBx (Nat.le_refl _) bd
      have kA2 := kA'.below bd (by omega)
      have kB2 := kB'.below bd (by omega)
      have kC2 := kC'.below bd (by omega)
      have L1' := L1.below bd
      have L2' := L2.below bd
      have hsz' := bd.size
      clear f1 f2 f3 f4 f5 f6 f7 f8 kA' kB' kC' hBx bd L1 L2
      have hBx := hBx'
      have kA' := kA2
      have kB' := kB2
      have kC' := kC2
      have L1 := L1'
      have L2 := L2'
      clear hBx' kA2 kB2 kC2 L1' L2'
      obtain ⟨f1, f2, f3, f4⟩ := id kA'
      obtain ⟨f5, f6, f7, f8⟩ := id kB'
      by_cases hlt : X.natAbs < Y.natAbs
      · have hc : cmpZ (X.natAbs : Int) (Y.natAbs : Int) = -1 := cmpZ_lt (by omega)
        have hsv := sv_add_sub (fun e => hs e.symm) (by omega : X.natAbs ≤ Y.natAbs)
        rw [Int.add_comm] at hsv
        rw [hc]
        clear hs hc
        go_wp2
        go_region_held3 (fun w' => w'.cell? ⟨w.heap.size, 0, none⟩ = some (.bool (decide (X < 0))) ∧ w'.cell? ⟨w.heap.size, 1, none⟩ = some (.slice o1 (glim 4294967296 X.natAbs).length c1) ∧ w'.cell? ⟨w.heap.size + 1, 0, none⟩ = some (.bool (decide (Y < 0))) ∧ w'.cell? ⟨w.heap.size + 1, 1, none⟩ = some (.slice o2 (glim 4294967296 Y.natAbs).length c2)) (first | (refine ⟨?_, ?_, ?_, ?_⟩ <;> (rw [World.cell?_setCell_other _ _ _ _ (by simp; try omega), World.cell?_setCell_other _ _ _ _ (by simp; try omega)]; assumption)) | go_keep) (first
            | (go_at_call 46
               refine (difference_v o2 o1 c2 c1 _ _ K _ q2 (by omega) (by omega) L2.drew L1.drew).mono ?_
               rintro e w3 ⟨os, zs, rfl, hsl, b3'⟩
               have b3 := below_of_drew b3'
               clear b3'
               have hz3 := b3.size
               have hN := hsl (decide (Y < 0))
               rw [hsv] at hN
               have hB3 := below_and hBx (Nat.le_refl _) b3
               obtain ⟨g1, g2, g3, g4⟩ := kA'.below b3 (by omega)
               obtain ⟨g5, g6, g7, g8⟩ := kB'.below b3 (by omega)
               have kC3 := kC'.below b3 (by omega))
            | (go_at_call 32
               refine (view_w _ (X + Y) (K) _ (by omega) hN).mono ?_
               rintro e w4 ⟨v4, rfl, hv4, b4⟩
               have hB4 := below_and hB3 (Nat.le_refl _) b4
               have hC4 := (hv4 _ hN).below b4
               obtain ⟨o4, c4, rfl, L4, z4, q4⟩ := hC4
               obtain ⟨g11, g12, g13, g14⟩ := Box.below ⟨g1, g2, g3, g4⟩ b4 (by omega)
               obtain ⟨g15, g16, g17, g18⟩ := Box.below ⟨g5, g6, g7, g8⟩ b4 (by omega)
               obtain ⟨g21, g22, g23, g24⟩ := id (kC3.below b4 (by omega))
               have kC4 := kC3.below b4 (by omega)))
        all_goals go_wp2
        all_goals (refine bodyPost_ret (v := .agg #[.bool (decide (X + Y < 0)), .slice o4 (glim 4294967296 (X + Y).natAbs).length c4]) (by simp [results, Try.results22, go_sem, g21, g22]) rfl ⟨_, rfl, ?_, ?_⟩)
        all_goals first
          | exact (show IsC _ (X + Y) _ w4 from ⟨o4, c4, rfl, L4, z4, by omega⟩).box kC4
          | exact (hB4.setCell (p := ⟨w.heap.size + 1 + 1, 0, none⟩) (by simp; omega) _).setCell (p := ⟨w.heap.size + 1 + 1, 1, none⟩) (by simp; omega) _
      · have hc : ¬ cmpZ (X.natAbs : Int) (Y.natAbs : Int) < 0 := by unfold cmpZ; rw [if_neg (by omega)]; split <;> omega
        have hsv := sv_add_sub hs (by omega : Y.natAbs ≤ X.natAbs)
        clear hs
        go_wp2
        go_region_held3 (fun w' => w'.cell? ⟨w.heap.size, 0, none⟩ = some (.bool (decide (X < 0))) ∧ w'.cell? ⟨w.heap.size, 1, none⟩ = some (.slice o1 (glim 4294967296 X.natAbs).length c1) ∧ w'.cell? ⟨w.heap.size + 1, 0, none⟩ = some (.bool (decide (Y < 0))) ∧ w'.cell? ⟨w.heap.size + 1, 1, none⟩ = some (.slice o2 (glim 4294967296 Y.natAbs).length c2)) (first | (refine ⟨?_, ?_, ?_, ?_⟩ <;> (rw [World.cell?_setCell_other _ _ _ _ (by simp; try omega), World.cell?_setCell_other _ _ _ _ (by simp; try omega)]; assumption)) | go_keep) (first
            | (go_at_call 46
               refine (difference_v o1 o2 c1 c2 _ _ K _ q1 (by omega) (by omega) L1.drew L2.drew).mono ?_
               rintro e w3 ⟨os, zs, rfl, hsl, b3'⟩
               have b3 := below_of_drew b3'
               clear b3'
               have hz3 := b3.size
               have hN := hsl (decide (X < 0))
               rw [hsv] at hN
               have hB3 := below_and hBx (Nat.le_refl _) b3
               obtain ⟨g1, g2, g3, g4⟩ := kA'.below b3 (by omega)
               obtain ⟨g5, g6, g7, g8⟩ := kB'.below b3 (by omega)
               have kC3 := kC'.below b3 (by omega))
            | (go_at_call 32
               refine (view_w _ (X + Y) (K) _ (by omega) hN).mono ?_
               rintro e w4 ⟨v4, rfl, hv4, b4⟩
               have hB4 := below_and hB3 (Nat.le_refl _) b4
               have hC4 := (hv4 _ hN).below b4
               obtain ⟨o4, c4, rfl, L4, z4, q4⟩ := hC4
               obtain ⟨g11, g12, g13, g14⟩ := Box.below ⟨g1, g2, g3, g4⟩ b4 (by omega)
               obtain ⟨g15, g16, g17, g18⟩ := Box.below ⟨g5, g6, g7, g8⟩ b4 (by omega)
               obtain ⟨g21, g22, g23, g24⟩ := id (kC3.below b4 (by omega))
               have kC4 := kC3.below b4 (by omega)))
        all_goals go_wp2
        all_goals (refine bodyPost_ret (v := .agg #[.bool (decide (X + Y < 0)), .slice o4 (glim 4294967296 (X + Y).natAbs).length c4]) (by simp [results, Try.results22, go_sem, g21, g22]) rfl ⟨_, rfl, ?_, ?_⟩)
        all_goals first
          | exact (show IsC _ (X + Y) _ w4 from ⟨o4, c4, rfl, L4, z4, by omega⟩).box kC4
          | exact (hB4.setCell (p := ⟨w.heap.size + 1 + 1, 0, none⟩) (by simp; omega) _).setCell (p := ⟨w.heap.size + 1 + 1, 1, none⟩) (by simp; omega) _
end Go.Proofs.Ytccogdlmlegmbaa
