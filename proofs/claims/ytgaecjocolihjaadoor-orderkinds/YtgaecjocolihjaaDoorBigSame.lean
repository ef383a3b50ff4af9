/- SameNum, OfInt of the reference; same; Small of package big. -/
import Derived.Test.YtgaecjocolihjaaDoorTermBigA
namespace Go.Proofs.YtgaecjocolihjaaDoor
open Go.ChangeShapes Go.WideShapes Go.ChangeAt Go.RowKit
set_option linter.unusedSimpArgs false
set_option linter.unusedVariables false
/-- two Norms are held against one another limb by limb: here of one number -/
theorem sameNum_w (va vb : Value) (Z : Int) (K : Nat) (w : World) (hK : K ≤ 1000000) (ha : IsC va Z K w) (hb : IsC vb Z K w) :
    Calls Tryd.prog 51 #[va, vb] w fun e w' => e = .returned (.bool true) ∧ Below w.heap.size w w' := by
  obtain ⟨oa, ca, rfl, hLa, hca, hka⟩ := ha
  obtain ⟨ob, cb, rfl, hLb, hcb, hkb⟩ := hb
  obtain ⟨bz, hbz⟩ : ∃ bz, decide (Z < 0) = bz := ⟨_, rfl⟩
  rw [hbz]
  generalize glim 4294967296 Z.natAbs = l at *
  clear hbz
  obtain ⟨kA, kB, hB0, hz0⟩ := boxes2 w (.bool bz) (.slice oa l.length ca) (.bool bz) (.slice ob l.length cb) 48 48
  have hbb : (bz != bz) = false := by cases bz <;> rfl
  have hll : ((l.length : Int) != (l.length : Int)) = false := by simp
  go_enter Tryd.func51, Tryd.ntmps51
  go_wp2
  generalize ((w.alloc (.cells #[.bool bz, .slice oa l.length ca] 48)).alloc (.cells #[.bool bz, .slice ob l.length cb] 48)) = W0 at *
  go_loopw [5] (fun iv wr => ∃ k : Nat, iv = .int .i64 (k : Int) ∧ k ≤ l.length ∧ Below W0.heap.size W0 wr) (fun iv _ => l.length - (intOf iv).toNat)
  case atStart => exact ⟨0, rfl, by omega, Below.refl _ _⟩
  case round =>
    obtain ⟨k, rfl, hk, hbw⟩ := hrel
    have hBw := below_and hB0 (Nat.le_refl _) hbw
    obtain ⟨f1, f2, f3, f4⟩ := id (kA.below hbw (by omega))
    obtain ⟨f5, f6, f7, f8⟩ := id (kB.below hbw (by omega))
    by_cases h1 : k < l.length
    · have h1z : (k : Int) < (l.length : Int) := by omega
      obtain ⟨x, hx⟩ : ∃ x, l[k]? = some x := ⟨l[k], by simp [h1]⟩
      obtain ⟨a, rfl, cx⟩ := (hLa.below hBw) k x hx
      obtain ⟨b, rfl, cy⟩ := (hLb.below hBw) k x hx
      go_wp2
      go_quiet (fail)
      go_wp2
      go_roundw
      case rel => exact ⟨k + 1, by go_num, by omega, below_drewNv hbw _⟩
      case measure => simp [intOf]; omega
    · have h1z : ¬ (k : Int) < (l.length : Int) := by omega
      go_wp2
      go_ret
      exact ⟨rfl, hBw⟩
set_option maxHeartbeats 1000000 in
theorem ofInt_w (n : Int) (w : World) (h0 : -9223372036854775808 ≤ n) (h1 : n < 9223372036854775808) :
    Calls Tryd.prog 26 #[.int .i64 n] w fun e w' => ∃ v', e = .returned v' ∧ IsC v' n 2 w' ∧ Below w.heap.size w w' := by
  obtain ⟨m, hm⟩ : ∃ m : Nat, n.natAbs = m := ⟨_, rfl⟩
  have hlo : IntKind.u32.wrap (m : Int) = ((m % 4294967296 : Nat) : Int) := by rw [IntKind.wrap_u32]; omega
  have hhi : IntKind.u32.wrap ((m : Int) / 4294967296) = ((m / 4294967296 : Nat) : Int) := by rw [IntKind.wrap_u32]; omega
  have hBx : Below w.heap.size w (w.alloc (.cells #[.bool false, .slice none 0 0] 48)) := (Below.refl _ w).alloc (Nat.le_refl _) _
  have hBy : Below w.heap.size w ((w.alloc (.cells #[.bool false, .slice none 0 0] 48)).alloc (.cells #[.int .u32 ((m % 4294967296 : Nat) : Int), .int .u32 ((m / 4294967296 : Nat) : Int)] 61)) := hBx.alloc (by simp) _
  have kC : Box w.heap.size (.bool false) (.slice none 0 0) ((w.alloc (.cells #[.bool false, .slice none 0 0] 48)).alloc (.cells #[.int .u32 ((m % 4294967296 : Nat) : Int), .int .u32 ((m / 4294967296 : Nat) : Int)] 61)) := (Box.new w _ _ _).alloc _ (by simp)
  have hL : Lies (some ⟨w.heap.size + 1, 0, none⟩) [m % 4294967296, m / 4294967296] ((w.alloc (.cells #[.bool false, .slice none 0 0] 48)).alloc (.cells #[.int .u32 ((m % 4294967296 : Nat) : Int), .int .u32 ((m / 4294967296 : Nat) : Int)] 61)) := by
    have := lies_pair (w.alloc (.cells #[.bool false, .slice none 0 0] 48)) (m % 4294967296) (m / 4294967296) 61
    simp only [World.size_alloc] at this
    exact this
  have hN : IsN (.agg #[.bool (decide (n < 0)), .slice (some ⟨w.heap.size + 1, 0, none⟩) 2 2]) n 2 ((w.alloc (.cells #[.bool false, .slice none 0 0] 48)).alloc (.cells #[.int .u32 ((m % 4294967296 : Nat) : Int), .int .u32 ((m / 4294967296 : Nat) : Int)] 61)) := by
    refine ⟨_, _, [m % 4294967296, m / 4294967296], 2, rfl, hL, by simp, ?_, ?_, by simp⟩
    · exact Lm.cons (by omega) (Lm.cons (by omega) (Lm.nil _))
    · have : gval 4294967296 [m % 4294967296, m / 4294967296] = m := by simp only [gval]; omega
      rw [this]; unfold sv
      by_cases hn : n < 0
      · simp only [hn, decide_true, if_true]; omega
      · simp only [hn, decide_false, Bool.false_eq_true, if_false]; omega
  generalize hg : m % 4294967296 = lo at *
  generalize hg2 : m / 4294967296 = hi at *
  have hz : ((w.alloc (.cells #[.bool false, .slice none 0 0] 48)).alloc (.cells #[.int .u32 (lo : Int), .int .u32 (hi : Int)] 61)).heap.size = w.heap.size + 2 := by simp
  by_cases hn : n < 0
  · have hd : decide (n < 0) = true := by simp [hn]
    rw [hd] at hN
    have w1 : IntKind.u64.wrap (-IntKind.u64.wrap n) = (m : Int) := by rw [IntKind.wrap_u64, IntKind.wrap_u64]; omega
    clear hm hg hg2 hd hL
    go_enter Tryd.func26, Tryd.ntmps26
    go_wp2_with fail
    generalize ((w.alloc (.cells #[.bool false, .slice none 0 0] 48)).alloc (.cells #[.int .u32 (lo : Int), .int .u32 (hi : Int)] 61)) = W0 at *
    refine (rnorm_w _ n 2 _ (by omega) hN).mono ?_
    rintro e w4 ⟨sl4, rfl, hF4, hk4, b4⟩
    have hC4 := hF4.isC hk4
    obtain ⟨o4, c4, rfl, L4, z4, _⟩ := hF4.parts
    have hB4 := below_and hBy (Nat.le_refl _) b4
    have kC4 := kC.below b4 (by omega)
    obtain ⟨e1, e2, e3, e4⟩ := id kC4
    go_wp2
    refine bodyPost_ret (v := .agg #[.bool (decide (n < 0)), .slice o4 (glim 4294967296 n.natAbs).length c4]) (by simp [results, Tryd.results26, go_sem, e1, e2, hn]) rfl ⟨_, rfl, ?_, ?_⟩
    · exact hC4.box kC4
    · exact (hB4.setCell (p := ⟨w.heap.size, 0, none⟩) (by simp) _).setCell (p := ⟨w.heap.size, 1, none⟩) (by simp) _
  · have hd : decide (n < 0) = false := by simp [hn]
    rw [hd] at hN
    have w1 : IntKind.u64.wrap n = (m : Int) := by rw [IntKind.wrap_u64]; omega
    clear hm hg hg2 hd hL
    go_enter Tryd.func26, Tryd.ntmps26
    go_wp2_with fail
    generalize ((w.alloc (.cells #[.bool false, .slice none 0 0] 48)).alloc (.cells #[.int .u32 (lo : Int), .int .u32 (hi : Int)] 61)) = W0 at *
    refine (rnorm_w _ n 2 _ (by omega) hN).mono ?_
    rintro e w4 ⟨sl4, rfl, hF4, hk4, b4⟩
    have hC4 := hF4.isC hk4
    obtain ⟨o4, c4, rfl, L4, z4, _⟩ := hF4.parts
    have hB4 := below_and hBy (Nat.le_refl _) b4
    have kC4 := kC.below b4 (by omega)
    obtain ⟨e1, e2, e3, e4⟩ := id kC4
    go_wp2
    refine bodyPost_ret (v := .agg #[.bool (decide (n < 0)), .slice o4 (glim 4294967296 n.natAbs).length c4]) (by simp [results, Tryd.results26, go_sem, e1, e2, hn]) rfl ⟨_, rfl, ?_, ?_⟩
    · exact hC4.box kC4
    · exact (hB4.setCell (p := ⟨w.heap.size, 0, none⟩) (by simp) _).setCell (p := ⟨w.heap.size, 1, none⟩) (by simp) _
end Go.Proofs.YtgaecjocolihjaaDoor
