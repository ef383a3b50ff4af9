/- Texts of mine, one behind the other: BigSame, TermInt, TermList, TermFacts, TermAwake, TermOf. -/
import Derived.Test.YtpdoepjnkgffpaaDoorTermBigA
import Derived.Test.YtpdoepjnkgffpaaDoorTermCopyAll
namespace Go.Proofs.YtpdoepjnkgffpaaDoor
open Go.ChangeShapes Go.WideShapes Go.ChangeAt Go.RowKit
set_option linter.unusedSimpArgs false
set_option linter.unusedVariables false
set_option maxRecDepth 2000
/-- two Norms are held against one another limb by limb: here of one number -/
theorem sameNum_w (va vb : Value) (Z : Int) (K : Nat) (w : World) (hK : K ≤ 1000000) (ha : IsC va Z K w) (hb : IsC vb Z K w) :
    Calls Tryd.prog 64 #[va, vb] w fun e w' => e = .returned (.bool true) ∧ Below w.heap.size w w' := by
  obtain ⟨oa, ca, rfl, hLa, hca, hka⟩ := ha
  obtain ⟨ob, cb, rfl, hLb, hcb, hkb⟩ := hb
  obtain ⟨bz, hbz⟩ : ∃ bz, decide (Z < 0) = bz := ⟨_, rfl⟩
  rw [hbz]
  generalize glim 4294967296 Z.natAbs = l at *
  clear hbz
  obtain ⟨kA, kB, hB0, hz0⟩ := boxes2 w (.bool bz) (.slice oa l.length ca) (.bool bz) (.slice ob l.length cb) 50 50
  have hbb : (bz != bz) = false := by cases bz <;> rfl
  have hll : ((l.length : Int) != (l.length : Int)) = false := by simp
  go_enter Tryd.func64, Tryd.ntmps64
  go_wp2
  generalize ((w.alloc (.cells #[.bool bz, .slice oa l.length ca] 50)).alloc (.cells #[.bool bz, .slice ob l.length cb] 50)) = W0 at *
  go_loopw [5] (fun iv wr => ∃ k : Nat, iv = .int .i64 (k : Int) ∧ k ≤ l.length ∧ Below W0.heap.size W0 wr) (fun iv _ => l.length - (intOf iv).toNat)
  case atStart => exact ⟨0, rfl, by omega, Below.refl _ _⟩
  case round =>
    obtain ⟨k, rfl, hk, hbw⟩ := hrel
    have hBw := below_and hB0 (Nat.le_refl _) hbw
    obtain ⟨f1, f2, f3, f4⟩ := id (kA.below hbw (by omega))
    obtain ⟨f5, f6, f7, f8⟩ := id (kB.below hbw (by omega))
    by_cases h1 : k < l.length
    · have h1z : (k : Int) < (l.length : Int) := by omega
      obtain ⟨x, hx⟩ : ∃ x, l[k]? = some x := ⟨l[k], by simp [h1]⟩
      obtain ⟨a, rfl, cx⟩ := (hLa.below hBw) k x hx
      obtain ⟨b, rfl, cy⟩ := (hLb.below hBw) k x hx
      go_wp2
      go_quiet (fail)
      go_wp2
      go_roundw
      case rel => exact ⟨k + 1, by go_num, by omega, below_drewNv hbw _⟩
      case measure => simp [intOf]; omega
    · have h1z : ¬ (k : Int) < (l.length : Int) := by omega
      go_wp2
      go_ret
      exact ⟨rfl, hBw⟩
set_option maxHeartbeats 1000000 in
theorem ofInt_w (n : Int) (w : World) (h0 : -9223372036854775808 ≤ n) (h1 : n < 9223372036854775808) :
    Calls Tryd.prog 30 #[.int .i64 n] w fun e w' => ∃ v', e = .returned v' ∧ IsC v' n 2 w' ∧ Below w.heap.size w w' := by
  obtain ⟨m, hm⟩ : ∃ m : Nat, n.natAbs = m := ⟨_, rfl⟩
  have hlo : IntKind.u32.wrap (m : Int) = ((m % 4294967296 : Nat) : Int) := by rw [IntKind.wrap_u32]; omega
  have hhi : IntKind.u32.wrap ((m : Int) / 4294967296) = ((m / 4294967296 : Nat) : Int) := by rw [IntKind.wrap_u32]; omega
  have hBx : Below w.heap.size w (w.alloc (.cells #[.bool false, .slice none 0 0] 50)) := (Below.refl _ w).alloc (Nat.le_refl _) _
  have hBy : Below w.heap.size w ((w.alloc (.cells #[.bool false, .slice none 0 0] 50)).alloc (.cells #[.int .u32 ((m % 4294967296 : Nat) : Int), .int .u32 ((m / 4294967296 : Nat) : Int)] 42)) := hBx.alloc (by simp) _
  have kC : Box w.heap.size (.bool false) (.slice none 0 0) ((w.alloc (.cells #[.bool false, .slice none 0 0] 50)).alloc (.cells #[.int .u32 ((m % 4294967296 : Nat) : Int), .int .u32 ((m / 4294967296 : Nat) : Int)] 42)) := (Box.new w _ _ _).alloc _ (by simp)
  have hL : Lies (some ⟨w.heap.size + 1, 0, none⟩) [m % 4294967296, m / 4294967296] ((w.alloc (.cells #[.bool false, .slice none 0 0] 50)).alloc (.cells #[.int .u32 ((m % 4294967296 : Nat) : Int), .int .u32 ((m / 4294967296 : Nat) : Int)] 42)) := by
    have := lies_pair (w.alloc (.cells #[.bool false, .slice none 0 0] 50)) (m % 4294967296) (m / 4294967296) 42
    simp only [World.size_alloc] at this
    exact this
  have hN : IsN (.agg #[.bool (decide (n < 0)), .slice (some ⟨w.heap.size + 1, 0, none⟩) 2 2]) n 2 ((w.alloc (.cells #[.bool false, .slice none 0 0] 50)).alloc (.cells #[.int .u32 ((m % 4294967296 : Nat) : Int), .int .u32 ((m / 4294967296 : Nat) : Int)] 42)) := by
    refine ⟨_, _, [m % 4294967296, m / 4294967296], 2, rfl, hL, by simp, ?_, ?_, by simp⟩
    · exact Lm.cons (by omega) (Lm.cons (by omega) (Lm.nil _))
    · have : gval 4294967296 [m % 4294967296, m / 4294967296] = m := by simp only [gval]; omega
      rw [this]; unfold sv
      by_cases hn : n < 0
      · simp only [hn, decide_true, if_true]; omega
      · simp only [hn, decide_false, Bool.false_eq_true, if_false]; omega
  generalize hg : m % 4294967296 = lo at *
  generalize hg2 : m / 4294967296 = hi at *
  have hz : ((w.alloc (.cells #[.bool false, .slice none 0 0] 50)).alloc (.cells #[.int .u32 (lo : Int), .int .u32 (hi : Int)] 42)).heap.size = w.heap.size + 2 := by simp
  by_cases hn : n < 0
  · have hd : decide (n < 0) = true := by simp [hn]
    rw [hd] at hN
    have w1 : IntKind.u64.wrap (-IntKind.u64.wrap n) = (m : Int) := by rw [IntKind.wrap_u64, IntKind.wrap_u64]; omega
    clear hm hg hg2 hd hL
    go_enter Tryd.func30, Tryd.ntmps30
    go_wp2_with fail
    generalize ((w.alloc (.cells #[.bool false, .slice none 0 0] 50)).alloc (.cells #[.int .u32 (lo : Int), .int .u32 (hi : Int)] 42)) = W0 at *
    refine (rnorm_w _ n 2 _ (by omega) hN).mono ?_
    rintro e w4 ⟨sl4, rfl, hF4, hk4, b4⟩
    have hC4 := hF4.isC hk4
    obtain ⟨o4, c4, rfl, L4, z4, _⟩ := hF4.parts
    have hB4 := below_and hBy (Nat.le_refl _) b4
    have kC4 := kC.below b4 (by omega)
    obtain ⟨e1, e2, e3, e4⟩ := id kC4
    go_wp2
    refine bodyPost_ret (v := .agg #[.bool (decide (n < 0)), .slice o4 (glim 4294967296 n.natAbs).length c4]) (by simp [results, Tryd.results30, go_sem, e1, e2, hn]) rfl ⟨_, rfl, ?_, ?_⟩
    · exact hC4.box kC4
    · exact (hB4.setCell (p := ⟨w.heap.size, 0, none⟩) (by simp) _).setCell (p := ⟨w.heap.size, 1, none⟩) (by simp) _
  · have hd : decide (n < 0) = false := by simp [hn]
    rw [hd] at hN
    have w1 : IntKind.u64.wrap n = (m : Int) := by rw [IntKind.wrap_u64]; omega
    clear hm hg hg2 hd hL
    go_enter Tryd.func30, Tryd.ntmps30
    go_wp2_with fail
    generalize ((w.alloc (.cells #[.bool false, .slice none 0 0] 50)).alloc (.cells #[.int .u32 (lo : Int), .int .u32 (hi : Int)] 42)) = W0 at *
    refine (rnorm_w _ n 2 _ (by omega) hN).mono ?_
    rintro e w4 ⟨sl4, rfl, hF4, hk4, b4⟩
    have hC4 := hF4.isC hk4
    obtain ⟨o4, c4, rfl, L4, z4, _⟩ := hF4.parts
    have hB4 := below_and hBy (Nat.le_refl _) b4
    have kC4 := kC.below b4 (by omega)
    obtain ⟨e1, e2, e3, e4⟩ := id kC4
    go_wp2
    refine bodyPost_ret (v := .agg #[.bool (decide (n < 0)), .slice o4 (glim 4294967296 n.natAbs).length c4]) (by simp [results, Tryd.results30, go_sem, e1, e2, hn]) rfl ⟨_, rfl, ?_, ?_⟩
    · exact hC4.box kC4
    · exact (hB4.setCell (p := ⟨w.heap.size, 0, none⟩) (by simp) _).setCell (p := ⟨w.heap.size, 1, none⟩) (by simp) _
end Go.Proofs.YtpdoepjnkgffpaaDoor
namespace Go.Proofs.YtpdoepjnkgffpaaDoor
open Go.ChangeShapes Go.WideShapes Go.ChangeAt Go.RowKit Go.Shelf
set_option linter.unusedSimpArgs false
set_option linter.unusedVariables false
set_option maxRecDepth 2000
def intT (Z : Int) : Tm := .mk 0 (decide (Z < 0)) (glim 4294967296 Z.natAbs) noS 0 [] []
theorem tv_int {S B : Nat} {w w' : World} {Z : Int} {o : Option Addr} {c : Nat} (h : w.ownsRow B 42 1 (.slice o (glim 4294967296 Z.natAbs).length c) (glim 4294967296 Z.natAbs).length (lim (glim 4294967296 Z.natAbs))) (hS : S ≤ B) (hk : ∀ g, B ≤ g → g < w.heap.size → w'.heap[g]? = w.heap[g]?) :
    TV (Zw S w') w' (intT Z) (tmV 0 (decide (Z < 0)) (.slice o (glim 4294967296 Z.natAbs).length c) noS 0 nilS nilS) := by
  have hc := own_sl h
  obtain ⟨_, _, e, hc⟩ := hc
  simp only [Value.slice.injEq, true_and] at e
  obtain ⟨rfl, rfl⟩ := e
  unfold intT TV
  refine ⟨o, c, none, 0, none, 0, rfl, own_ls h hS (fun g hg => ?_), hc, lm_glim (by omega) _, LsB.nil _ _ _, by simp, by simp, by unfold TR; trivial⟩
  subst hg
  obtain ⟨cur, hq, hB, _⟩ := own_blk h
  exact hk g hB (Array.getElem?_eq_some_iff.1 hq).1
theorem bx27 (w : World) (a0 a1 b0 b1 b2 b3 b4 b5 b6 : Value) (ta tb : TypeId) :
    Box w.heap.size a0 a1 ((w.alloc (.cells #[a0, a1] ta)).alloc (.cells #[b0, b1, b2, b3, b4, b5, b6] tb)) ∧ Bx (w.heap.size + 1) b0 b1 b2 b3 b4 b5 b6 ((w.alloc (.cells #[a0, a1] ta)).alloc (.cells #[b0, b1, b2, b3, b4, b5, b6] tb)) ∧ Below w.heap.size w ((w.alloc (.cells #[a0, a1] ta)).alloc (.cells #[b0, b1, b2, b3, b4, b5, b6] tb)) ∧ ((w.alloc (.cells #[a0, a1] ta)).alloc (.cells #[b0, b1, b2, b3, b4, b5, b6] tb)).heap.size = w.heap.size + 2 := by
  have h1 := Box.new w a0 a1 ta
  have h2 := Bx.new (w.alloc (.cells #[a0, a1] ta)) b0 b1 b2 b3 b4 b5 b6 tb
  rw [World.size_alloc] at h2
  exact ⟨h1.below ((Below.refl _ _).alloc (Nat.le_refl _) _) (by simp), h2, ((Below.refl _ w).alloc (Nat.le_refl _) _).alloc (by simp) _, by simp⟩
theorem bx72 (w : World) (a0 a1 a2 a3 a4 a5 a6 b0 b1 : Value) (ta tb : TypeId) :
    Bx w.heap.size a0 a1 a2 a3 a4 a5 a6 ((w.alloc (.cells #[a0, a1, a2, a3, a4, a5, a6] ta)).alloc (.cells #[b0, b1] tb)) ∧ Box (w.heap.size + 1) b0 b1 ((w.alloc (.cells #[a0, a1, a2, a3, a4, a5, a6] ta)).alloc (.cells #[b0, b1] tb)) ∧ Below w.heap.size w ((w.alloc (.cells #[a0, a1, a2, a3, a4, a5, a6] ta)).alloc (.cells #[b0, b1] tb)) ∧ ((w.alloc (.cells #[a0, a1, a2, a3, a4, a5, a6] ta)).alloc (.cells #[b0, b1] tb)).heap.size = w.heap.size + 2 := by
  have h1 := Bx.new w a0 a1 a2 a3 a4 a5 a6 ta
  have h2 := Box.new (w.alloc (.cells #[a0, a1, a2, a3, a4, a5, a6] ta)) b0 b1 tb
  rw [World.size_alloc] at h2
  exact ⟨h1.below ((Below.refl _ _).alloc (Nat.le_refl _) _), h2, ((Below.refl _ w).alloc (Nat.le_refl _) _).alloc (by simp) _, by simp⟩
set_option maxHeartbeats 1000000 in
theorem Num_w (v : Value) (Z : Int) (K : Nat) (w : World) (hK : K ≤ 1000000) (h : IsN v Z K w) :
    Calls Tryd.prog 57 #[v] w fun e w' => ∃ v', e = .returned v' ∧ TV (Zw w.heap.size w') w' (intT Z) v' ∧ (glim 4294967296 Z.natAbs).length ≤ K ∧ Below w.heap.size w w' := by
  have hN : ∀ w', Below w.heap.size w w' → IsN v Z K w' := fun w' hb => h.below hb
  obtain ⟨neg, o, l, c, rfl, hL, hc, hm, hs, hk⟩ := h
  clear hL hc hm hs hk
  obtain ⟨kA, kB, hB0, hz0⟩ := bx27 w (.bool neg) (.slice o l.length c) (.int .i64 0) (.bool false) nilS (.string noS) (.int .i64 0) nilS nilS 72 31
  go_enter Tryd.func57, Tryd.ntmps57
  go_wp2_with fail
  generalize ((w.alloc (.cells #[.bool neg, .slice o l.length c] 72)).alloc (.cells #[.int .i64 0, .bool false, .slice none 0 0, .string { data := #[] }, .int .i64 0, .slice none 0 0, .slice none 0 0] 31)) = W0 at *
  refine (norm_w _ Z K _ hK (hN _ hB0)).mono ?_
  rintro e w1 ⟨sl, rfl, hF, hKK, b1⟩
  obtain ⟨o1, c1, rfl, _, _, _⟩ := hF.parts
  have hF' : w1.ownsRow (w.heap.size + 2) 42 1 (.slice o1 (glim 4294967296 Z.natAbs).length c1) (glim 4294967296 Z.natAbs).length (lim (glim 4294967296 Z.natAbs)) := own_mono (show w1.ownsRow W0.heap.size 42 1 _ _ _ from hF) (by omega)
  clear hF
  have hHF := hid hF'
  clear hF'
  have hB1 := below_and hB0 (by omega) b1
  have kA1 := kA.below b1 (by omega)
  have kB1 := kB.below b1
  have hz1 := b1.size
  clear hB0 kA kB b1 hN
  obtain ⟨f1, f2, f3, f4⟩ := id kA1
  have kA2 : Box w.heap.size (.bool (decide (Z < 0))) (.slice o1 (glim 4294967296 Z.natAbs).length c1) ((w1.setCell ⟨w.heap.size, 0, none⟩ (.bool (decide (Z < 0)))).setCell ⟨w.heap.size, 1, none⟩ (.slice o1 (glim 4294967296 Z.natAbs).length c1)) := kA1.put
  have ho2 : Only w.heap.size w1 ((w1.setCell ⟨w.heap.size, 0, none⟩ (.bool (decide (Z < 0)))).setCell ⟨w.heap.size, 1, none⟩ (.slice o1 (glim 4294967296 Z.natAbs).length c1)) := (only_set w1 w.heap.size 0 _).setCell 1 _
  have kB2 := kB1.only ho2 (by omega)
  have hB2 := hB1.trans (ho2.below (B := w.heap.size) (Nat.le_refl _))
  have hz2 := ho2.2.1
  go_upto_region 2 with fail
  clear f1 f2 f3 f4 kA1 kB1
  generalize hW2 : (w1.setCell ⟨w.heap.size, 0, none⟩ (.bool (decide (Z < 0)))).setCell ⟨w.heap.size, 1, none⟩ (.slice o1 (glim 4294967296 Z.natAbs).length c1) = w2 at *
  clear hW2
  obtain ⟨f1, f2, f3, f4⟩ := id kA2
  have hf := kB2.fr
  obtain ⟨g0, g1, g2, g3, g4, g5, g6⟩ := kB2.res
  obtain ⟨zb, hzb⟩ : ∃ zb, decide (Z < 0) = zb := ⟨_, rfl⟩
  have hHz := hid hzb
  rw [hzb] at f1 ⊢
  clear hzb
  have hput := kB2.put (b0 := .int .i64 0) (b1 := .bool zb) (b2 := .slice o1 (glim 4294967296 Z.natAbs).length c1) (b3 := .string noS) (b4 := .int .i64 0) (b5 := nilS) (b6 := nilS)
  have hon := only_put w2 (w.heap.size + 1) (.int .i64 0) (.bool zb) (.slice o1 (glim 4294967296 Z.natAbs).length c1) (.string noS) (.int .i64 0) nilS nilS
  obtain ⟨r0, r1, r2, r3, r4, r5, r6⟩ := hput.res
  have hfin : TV (Zw w.heap.size (((((((w2.setCell ⟨w.heap.size + 1, 0, none⟩ (.int .i64 0)).setCell ⟨w.heap.size + 1, 1, none⟩ (.bool zb)).setCell ⟨w.heap.size + 1, 2, none⟩ (.slice o1 (glim 4294967296 Z.natAbs).length c1)).setCell ⟨w.heap.size + 1, 3, none⟩ (.string noS)).setCell ⟨w.heap.size + 1, 4, none⟩ (.int .i64 0)).setCell ⟨w.heap.size + 1, 5, none⟩ nilS).setCell ⟨w.heap.size + 1, 6, none⟩ nilS)) (((((((w2.setCell ⟨w.heap.size + 1, 0, none⟩ (.int .i64 0)).setCell ⟨w.heap.size + 1, 1, none⟩ (.bool zb)).setCell ⟨w.heap.size + 1, 2, none⟩ (.slice o1 (glim 4294967296 Z.natAbs).length c1)).setCell ⟨w.heap.size + 1, 3, none⟩ (.string noS)).setCell ⟨w.heap.size + 1, 4, none⟩ (.int .i64 0)).setCell ⟨w.heap.size + 1, 5, none⟩ nilS).setCell ⟨w.heap.size + 1, 6, none⟩ nilS) (intT Z) (tmV 0 zb (.slice o1 (glim 4294967296 Z.natAbs).length c1) noS 0 nilS nilS) := by
    have := tv_int (S := w.heap.size) (w' := (((((((w2.setCell ⟨w.heap.size + 1, 0, none⟩ (.int .i64 0)).setCell ⟨w.heap.size + 1, 1, none⟩ (.bool zb)).setCell ⟨w.heap.size + 1, 2, none⟩ (.slice o1 (glim 4294967296 Z.natAbs).length c1)).setCell ⟨w.heap.size + 1, 3, none⟩ (.string noS)).setCell ⟨w.heap.size + 1, 4, none⟩ (.int .i64 0)).setCell ⟨w.heap.size + 1, 5, none⟩ nilS).setCell ⟨w.heap.size + 1, 6, none⟩ nilS)) hHF.out (by omega) (fun g hg hg2 => (hon.2.2 g (by omega)).trans (ho2.2.2 g (by omega)))
    rw [hHz.out] at this
    exact this
  have hBf := hB2.trans (hon.below (B := w.heap.size) (by omega))
  have hHf := hid hfin
  have hHk := hid hKK
  clear hfin hHF hon ho2 hB2 hB1 hKK
  go_wp2
  exact bodyPost_ret (v := tmV 0 zb (.slice o1 (glim 4294967296 Z.natAbs).length c1) noS 0 nilS nilS) (by simp [results, Tryd.results57, go_sem, r0, r1, r2, r3, r4, r5, r6]) rfl ⟨_, rfl, hHf.out, hHk.out, hBf⟩
theorem bx1 (w : World) (b0 b1 b2 b3 b4 b5 b6 : Value) (tb : TypeId) :
    Bx w.heap.size b0 b1 b2 b3 b4 b5 b6 (w.alloc (.cells #[b0, b1, b2, b3, b4, b5, b6] tb)) ∧ Below w.heap.size w (w.alloc (.cells #[b0, b1, b2, b3, b4, b5, b6] tb)) ∧ (w.alloc (.cells #[b0, b1, b2, b3, b4, b5, b6] tb)).heap.size = w.heap.size + 1 :=
  ⟨Bx.new w b0 b1 b2 b3 b4 b5 b6 tb, (Below.refl _ w).alloc (Nat.le_refl _) _, by simp⟩
set_option maxHeartbeats 1000000 in
theorem Int_w (n : Int) (w : World) (h0 : -9223372036854775808 ≤ n) (h1 : n < 9223372036854775808) :
    Calls Tryd.prog 32 #[.int .i64 n] w fun e w' => ∃ v', e = .returned v' ∧ TV (Zw w.heap.size w') w' (intT n) v' ∧ Below w.heap.size w w' := by
  obtain ⟨kX, hBX, hz0⟩ := bx1 w (.int .i64 0) (.bool false) nilS (.string noS) (.int .i64 0) nilS nilS 31
  go_enter Tryd.func32, Tryd.ntmps32
  go_wp2_with fail
  generalize (w.alloc (.cells #[.int .i64 0, .bool false, .slice none 0 0, .string { data := #[] }, .int .i64 0, .slice none 0 0, .slice none 0 0] 31)) = W0 at *
  refine (of_w n _ h0 h1).mono ?_
  rintro e w1 ⟨v1, rfl, hC, b1⟩
  have hN := hC.isN
  obtain ⟨o1, c1, rfl, _⟩ := hC
  go_wp2_with fail
  refine (Num_w _ n 2 _ (by omega) hN).mono ?_
  rintro e w2 ⟨v2, rfl, hV, _, b2⟩
  have hBX := below_and (below_and hBX (by omega) b1) (by omega) b2
  have kX := (kX.below b1).below b2
  have hz1 := b1.size
  clear b1 b2 hN
  obtain ⟨k9, neg9, od9, ld9, cd9, nm9, n9, ol9, ll9, cl9, ob9, lb9, cb9, rfl⟩ := hV.form
  have hf9 := kX.fr
  obtain ⟨x0, x1, x2, x3, x4, x5, x6⟩ := kX.res
  have hput := kX.put (b0 := .int .i64 k9) (b1 := .bool neg9) (b2 := .slice od9 ld9 cd9) (b3 := .string nm9) (b4 := .int .i64 n9) (b5 := .slice ol9 ll9 cl9) (b6 := .slice ob9 lb9 cb9)
  have hon := only_put w2 w.heap.size (.int .i64 k9) (.bool neg9) (.slice od9 ld9 cd9) (.string nm9) (.int .i64 n9) (.slice ol9 ll9 cl9) (.slice ob9 lb9 cb9)
  obtain ⟨r0, r1, r2, r3, r4, r5, r6⟩ := hput.res
  have hfin := hid (zw_move (S' := w.heap.size) hV (fun k hk _ => hon.2.2 k (by omega)) (by omega))
  have hBf := hBX.trans (hon.below (B := w.heap.size) (by omega))
  clear hV hon kX hput hBX
  go_wp2
  exact bodyPost_ret (v := tmV k9 neg9 (.slice od9 ld9 cd9) nm9 n9 (.slice ol9 ll9 cl9) (.slice ob9 lb9 cb9)) (by simp [results, Tryd.results32, go_sem, r0, r1, r2, r3, r4, r5, r6]) rfl ⟨_, rfl, hfin.out, hBf⟩
def atomT (nm : ByteArray) : Tm := .mk 1 false [] nm 0 [] []
theorem tv_flat {Z : Nat → Prop} {w : World} (k : Int) (nm : ByteArray) (n : Int) : TV Z w (.mk k false [] nm n [] []) (tmV k false nilS nm n nilS nilS) := by
  unfold TV
  exact ⟨none, 0, none, 0, none, 0, rfl, Ls.nil _ _ _, by simp, Lm.nil _, LsB.nil _ _ _, by simp, by simp, by unfold TR; trivial⟩
theorem ok_flat (k : Int) {nm : ByteArray} (n : Int) (h : nm.size ≤ 1000000) : (Tm.mk k false [] nm n [] []).ok1 := ⟨by simp, h, by simp, by simp, Lm.nil _⟩
set_option maxHeartbeats 1000000 in
theorem Atom_w (nm : ByteArray) (w : World) (hn : nm.size ≤ 1000000) :
    Calls Tryd.prog 33 #[.string nm] w fun e w' => ∃ v', e = .returned v' ∧ TV (Zw w.heap.size w') w' (atomT nm) v' ∧ Below w.heap.size w w' := by
  obtain ⟨kX, hBX, hz0⟩ := bx1 w (.int .i64 0) (.bool false) nilS (.string noS) (.int .i64 0) nilS nilS 31
  go_enter Tryd.func33, Tryd.ntmps33
  go_wp2_with fail
  generalize (w.alloc (.cells #[.int .i64 0, .bool false, .slice none 0 0, .string { data := #[] }, .int .i64 0, .slice none 0 0, .slice none 0 0] 31)) = W0 at *
  refine (Copy_w (atomT nm) _ _ (by simp [atomT, parts]) (by simp only [atomT, parts]; intro p hp; simp at hp; subst hp; exact ok_flat _ _ hn) (tv_flat 1 nm 0)).mono ?_
  rintro e w2 ⟨v2, rfl, hV, b2⟩
  have hcp : cpT (atomT nm) = atomT nm := by simp [atomT, cpT, prT]
  rw [hcp] at hV
  clear hcp
  have hBX := below_and hBX (by omega) b2
  have kX := kX.below b2
  clear b2
  obtain ⟨k9, neg9, od9, ld9, cd9, nm9, n9, ol9, ll9, cl9, ob9, lb9, cb9, rfl⟩ := hV.form
  have hf9 := kX.fr
  obtain ⟨x0, x1, x2, x3, x4, x5, x6⟩ := kX.res
  have hput := kX.put (b0 := .int .i64 k9) (b1 := .bool neg9) (b2 := .slice od9 ld9 cd9) (b3 := .string nm9) (b4 := .int .i64 n9) (b5 := .slice ol9 ll9 cl9) (b6 := .slice ob9 lb9 cb9)
  have hon := only_put w2 w.heap.size (.int .i64 k9) (.bool neg9) (.slice od9 ld9 cd9) (.string nm9) (.int .i64 n9) (.slice ol9 ll9 cl9) (.slice ob9 lb9 cb9)
  obtain ⟨r0, r1, r2, r3, r4, r5, r6⟩ := hput.res
  have hfin := hid (zw_move (S' := w.heap.size) hV (fun k hk _ => hon.2.2 k (by omega)) (by omega))
  have hBf := hBX.trans (hon.below (B := w.heap.size) (by omega))
  clear hV hon kX hput hBX
  go_wp2
  exact bodyPost_ret (v := tmV k9 neg9 (.slice od9 ld9 cd9) nm9 n9 (.slice ol9 ll9 cl9) (.slice ob9 lb9 cb9)) (by simp [results, Tryd.results33, go_sem, r0, r1, r2, r3, r4, r5, r6]) rfl ⟨_, rfl, hfin.out, hBf⟩
end Go.Proofs.YtpdoepjnkgffpaaDoor
namespace Go.Proofs.YtpdoepjnkgffpaaDoor
open Go.ChangeShapes Go.WideShapes Go.ChangeAt Go.RowKit Go.Shelf
set_option linter.unusedSimpArgs false
set_option linter.unusedVariables false
set_option maxRecDepth 2000
def nilT : Tm := .mk 5 false [] noS 0 [] []
def consT (a b : Tm) : Tm := .mk 6 false [] noS 0 [a, b] []
def listT : List Tm → Tm
  | [] => nilT
  | t :: l => consT t (listT l)
def ZL (S gt : Nat) (w : World) : Nat → Prop := fun k => Zw S w k ∧ k ≠ gt
/-- zones follow memory -/
theorem zl_mono {S gt : Nat} {w w' : World} (hb : ∀ k, S ≤ k → k < w.heap.size → k ≠ gt → w'.heap[k]? = w.heap[k]?) : ∀ k, k < w.heap.size → ZL S gt w k → ZL S gt w' k := fun k hk hz => ⟨⟨hz.1.1, fun j => (World.frozen?_of_block (a := ⟨k, j, none⟩) (hb k hz.1.1 hk hz.2)).trans (hz.1.2 j)⟩, hz.2⟩
theorem zl_tv {S gt : Nat} {w w' : World} {t : Tm} {v : Value} (h : TV (ZL S gt w) w t v) (hb : ∀ k, S ≤ k → k < w.heap.size → k ≠ gt → w'.heap[k]? = w.heap[k]?) : TV (ZL S gt w') w' t v := by
  have h1 : TV (fun k => ZL S gt w k ∧ k < w.heap.size) w t v := TV.mono (fun k hk hz => ⟨hz, hk⟩) _ _ h
  have h2 := TV.zs (w' := w') (fun k hk => hb k hk.1.1.1 hk.2 hk.1.2) _ _ h1
  exact TV.mono (fun k _ hz => zl_mono hb k hz.2 hz.1) _ _ h2
theorem zl_tr {S gt : Nat} {w w' : World} {l : List Tm} {o : Option Addr} (h : TR (ZL S gt w) w l o) (hb : ∀ k, S ≤ k → k < w.heap.size → k ≠ gt → w'.heap[k]? = w.heap[k]?) : TR (ZL S gt w') w' l o := by
  have h1 : TR (fun k => ZL S gt w k ∧ k < w.heap.size) w l o := TR.mono (fun k hk hz => ⟨hz, hk⟩) _ _ h
  have h2 := TR.zs (w' := w') (fun k hk => hb k hk.1.1.1 hk.2 hk.1.2) _ _ h1
  exact TR.mono (fun k _ hz => zl_mono hb k hz.2 hz.1) _ _ h2
/-- two terms in a row of two -/
theorem tr_two {Z : Nat → Prop} {w : World} {t t' : Tm} {k k' : Int} {neg neg' : Bool} {od od' : Option Addr} {ld cd ld' cd' : Nat} {nm nm' : ByteArray} {n n' : Int} {ol ol' : Option Addr} {ll cl ll' cl' : Nat} {ob ob' : Option Addr} {lb cb lb' cb' : Nat} {g : Nat}
    (h : TV Z w t (tmV k neg (.slice od ld cd) nm n (.slice ol ll cl) (.slice ob lb cb))) (h' : TV Z w t' (tmV k' neg' (.slice od' ld' cd') nm' n' (.slice ol' ll' cl') (.slice ob' lb' cb'))) {ty : TypeId}
    (hg : w.heap[g]? = some (.cells #[.int .i64 k, .bool neg, .slice od ld cd, .string nm, .int .i64 n, .slice ol ll cl, .slice ob lb cb, .int .i64 k', .bool neg', .slice od' ld' cd', .string nm', .int .i64 n', .slice ol' ll' cl', .slice ob' lb' cb'] ty (0, 0))) (hZ : Z g) :
    TR Z w [t, t'] (some ⟨g, 0, none⟩) := by
  have q : ∀ j, w.cell? ((⟨g, 0, none⟩ : Addr).add j) = (#[.int .i64 k, .bool neg, .slice od ld cd, .string nm, .int .i64 n, .slice ol ll cl, .slice ob lb cb, .int .i64 k', .bool neg', .slice od' ld' cd', .string nm', .int .i64 n', .slice ol' ll' cl', .slice ob' lb' cb'] : Array Value)[j]? := fun j => by
    rw [addr_add, Nat.zero_add]; simp [World.cell?, hg]
  have q7 : ∀ j, w.cell? (((⟨g, 0, none⟩ : Addr).add 7).add j) = (#[.int .i64 k, .bool neg, .slice od ld cd, .string nm, .int .i64 n, .slice ol ll cl, .slice ob lb cb, .int .i64 k', .bool neg', .slice od' ld' cd', .string nm', .int .i64 n', .slice ol' ll' cl', .slice ob' lb' cb'] : Array Value)[7 + j]? := fun j => by
    rw [add_add]; exact q _
  have q0 := q 0
  have q70 := q7 0
  rw [add_zero] at q0 q70
  unfold TR
  refine ⟨_, _, rfl, hZ, ⟨_, _, _, _, _, _, _, rfl, q0, q 1, q 2, q 3, q 4, q 5, q 6⟩, h, ?_⟩
  unfold TR
  exact ⟨_, _, rfl, by rw [block_add]; exact hZ, ⟨_, _, _, _, _, _, _, rfl, q70, q7 1, q7 2, q7 3, q7 4, q7 5, q7 6⟩, h', by unfold TR; trivial⟩
theorem drop_at {l : List Tm} {i : Nat} {t : Tm} (h : l[i]? = some t) : l.drop i = t :: l.drop (i + 1) := by
  obtain ⟨hi, he⟩ := List.getElem?_eq_some_iff.1 h
  rw [List.drop_eq_getElem_cons hi, he]
set_option maxHeartbeats 2000000 in
set_option maxRecDepth 4000 in
theorem List_w (ls : List Tm) (o : Option Addr) (c : Nat) (w : World) (hne : ls ≠ []) (hlen : (partsL ls).length ≤ 500000) (hl : ls.length ≤ 500000) (hok : ∀ p ∈ partsL ls, p.ok1) (hT : TR (Low w) w ls o) :
    Calls Tryd.prog 31 #[.slice o ls.length c] w fun e w' => ∃ v', e = .returned v' ∧ TV (Zw w.heap.size w') w' (listT (cpL ls)) v' ∧ Below w.heap.size w w' := by
  obtain ⟨kX, hBX, hz0⟩ := bx1 w (.int .i64 0) (.bool false) nilS (.string noS) (.int .i64 0) nilS nilS 31
  go_enter Tryd.func31, Tryd.ntmps31
  go_wp2_with fail
  generalize (w.alloc (.cells #[.int .i64 0, .bool false, .slice none 0 0, .string { data := #[] }, .int .i64 0, .slice none 0 0, .slice none 0 0] 31)) = W0 at *
  refine (copies_w ls _ _ _ hne hlen hl hok (tr_below hT hBX)).mono ?_
  rintro e w1 ⟨g', c', rfl, hR, hc', b1⟩
  have hB1 := below_and hBX (by omega) b1
  have kX1 := kX.below b1
  have hz1 := b1.size
  clear hT hBX kX
  have hgl : Hid (cpL ls ≠ []) := hid (fun e => hne (by have := cpL_len ls; rw [e] at this; exact List.eq_nil_of_length_eq_zero this.symm))
  go_wp2_with fail
  refine (Nil_w _).mono ?_
  rintro e w2 ⟨rfl, b2⟩
  have hB2 := below_and hB1 (by omega) b2
  have kX2 := kX1.below b2
  have hz2 := b2.size
  obtain ⟨kT, hBT, hzT⟩ := bx1 w2 (.int .i64 5) (.bool false) nilS (.string noS) (.int .i64 0) nilS nilS 31
  have hB3 := hB2.trans (below_le hBT (by omega))
  have kX3 := kX2.below hBT
  have hR3 : TR (ZL (w.heap.size + 1) w2.heap.size (w2.alloc (.cells #[.int .i64 5, .bool false, nilS, .string noS, .int .i64 0, nilS, nilS] 31))) (w2.alloc (.cells #[.int .i64 5, .bool false, nilS, .string noS, .int .i64 0, nilS, nilS] 31)) (cpL ls) (some ⟨g', 0, none⟩) := by
    have h1 : TR (fun k => Zw W0.heap.size w1 k ∧ k < w1.heap.size) w1 (cpL ls) (some ⟨g', 0, none⟩) := TR.mono (fun k hk hz => ⟨hz, hk⟩) _ _ hR
    have hq : ∀ k, k < w1.heap.size → (w2.alloc (.cells #[.int .i64 5, .bool false, nilS, .string noS, .int .i64 0, nilS, nilS] 31)).heap[k]? = w1.heap[k]? := fun k hk => (hBT.block k (by omega)).trans (b2.block k hk)
    refine TR.mono (fun k _ hz => ⟨⟨by have := hz.1.1; omega, fun j => (World.frozen?_of_block (a := ⟨k, j, none⟩) (hq k hz.2)).trans (hz.1.2 j)⟩, by have := hz.2; omega⟩) _ _ (TR.zs (fun k hk => hq k hk.2) _ _ h1)
  have hn3 : w.heap.size + 1 < w2.heap.size + 1 := by omega
  clear hR b1 b2 hBT hB1 hB2 kX1 kX2
  go_wp2_with fail
  generalize (w2.alloc (.cells #[.int .i64 5, .bool false, nilS, .string noS, .int .i64 0, nilS, nilS] 31)) = W3 at *
  have hHl := hid hl
  have hcl := cpL_len ls
  go_loopg [5] ls.length (fun t v5 wr => ∃ (k : Int) (neg : Bool) (od : Option Addr) (ld cd : Nat) (nm : ByteArray) (n : Int) (ol : Option Addr) (ll cl : Nat) (ob : Option Addr) (lb cb : Nat), v5 = .int .i64 ((t : Int) - 1) ∧ t ≤ ls.length ∧ TV (ZL (w.heap.size + 1) w2.heap.size wr) wr (listT ((cpL ls).drop t)) (tmV k neg (.slice od ld cd) nm n (.slice ol ll cl) (.slice ob lb cb)) ∧ Bx w2.heap.size (.int .i64 k) (.bool neg) (.slice od ld cd) (.string nm) (.int .i64 n) (.slice ol ll cl) (.slice ob lb cb) wr ∧ TR (ZL (w.heap.size + 1) w2.heap.size wr) wr (cpL ls) (some ⟨g', 0, none⟩) ∧ Bx w.heap.size (.int .i64 0) (.bool false) nilS (.string noS) (.int .i64 0) nilS nilS wr ∧ Below w.heap.size w wr)
  case atStart =>
    refine ⟨5, false, none, 0, 0, noS, 0, none, 0, 0, none, 0, 0, rfl, Nat.le_refl _, ?_, kT, hR3, kX3, hB3⟩
    rw [List.drop_of_length_le (by omega)]
    exact tv_flat 5 noS 0
  case round =>
    obtain ⟨k, neg, od, ld, cd, nm, n, ol, ll, cl, ob, lb, cb, rfl, hgk, hV, kt, hRr, kx, hBr⟩ := hrel
    clear kT hR3 kX3 hB3
    generalize gk = m at *
    cases m with
    | zero =>
      rw [List.drop_zero] at hV
      obtain ⟨y0, y1, y2, y3, y4, y5, y6⟩ := kt.res
      have hf9 := kx.fr
      obtain ⟨x0, x1, x2, x3, x4, x5, x6⟩ := kx.res
      have hput := kx.put (b0 := .int .i64 k) (b1 := .bool neg) (b2 := .slice od ld cd) (b3 := .string nm) (b4 := .int .i64 n) (b5 := .slice ol ll cl) (b6 := .slice ob lb cb)
      have hon := only_put wr w.heap.size (.int .i64 k) (.bool neg) (.slice od ld cd) (.string nm) (.int .i64 n) (.slice ol ll cl) (.slice ob lb cb)
      obtain ⟨r0, r1, r2, r3, r4, r5, r6⟩ := hput.res
      have hfin := hid hV
      have hBf := hBr.trans (hon.below (B := w.heap.size) (by omega))
      clear hV kx hput hBr hRr
      go_wp2
      have hres : TV (Zw w.heap.size (((((((wr.setCell ⟨w.heap.size, 0, none⟩ (.int .i64 k)).setCell ⟨w.heap.size, 1, none⟩ (.bool neg)).setCell ⟨w.heap.size, 2, none⟩ (.slice od ld cd)).setCell ⟨w.heap.size, 3, none⟩ (.string nm)).setCell ⟨w.heap.size, 4, none⟩ (.int .i64 n)).setCell ⟨w.heap.size, 5, none⟩ (.slice ol ll cl)).setCell ⟨w.heap.size, 6, none⟩ (.slice ob lb cb))) (((((((wr.setCell ⟨w.heap.size, 0, none⟩ (.int .i64 k)).setCell ⟨w.heap.size, 1, none⟩ (.bool neg)).setCell ⟨w.heap.size, 2, none⟩ (.slice od ld cd)).setCell ⟨w.heap.size, 3, none⟩ (.string nm)).setCell ⟨w.heap.size, 4, none⟩ (.int .i64 n)).setCell ⟨w.heap.size, 5, none⟩ (.slice ol ll cl)).setCell ⟨w.heap.size, 6, none⟩ (.slice ob lb cb)) (listT (cpL ls)) (tmV k neg (.slice od ld cd) nm n (.slice ol ll cl) (.slice ob lb cb)) := by
        exact TV.mono (fun k _ hz => ⟨by have := hz.1.1; omega, hz.1.2⟩) _ _ (zl_tv hfin.out (fun k hk _ _ => hon.2.2 k (by omega)))
      exact bodyPost_ret (v := tmV k neg (.slice od ld cd) nm n (.slice ol ll cl) (.slice ob lb cb)) (by simp [results, Tryd.results31, go_sem, r0, r1, r2, r3, r4, r5, r6]) rfl ⟨_, rfl, hres, hBf⟩
    | succ m =>
      obtain ⟨t, ht⟩ : ∃ t, (cpL ls)[m]? = some t := ⟨(cpL ls)[m]'(by omega), by simp⟩
      obtain ⟨v, hZg, hA, hTv⟩ := TR.at _ _ m t hRr ht
      rw [addr_add, Nat.zero_add, Nat.mul_comm] at hA
      obtain ⟨k', neg', od', ld', cd', nm', n', ol', ll', cl', ob', lb', cb', rfl⟩ := hTv.form
      obtain ⟨c0, c1, c2, c3, c4, c5, c6⟩ := hA.tm
      simp only at c1 c2 c3 c4 c5 c6
      obtain ⟨y0, y1, y2, y3, y4, y5, y6⟩ := kt.res
      have hf9 := kt.fr
      have hgeq : (0 : Int) ≤ ((m + 1 : Nat) : Int) - 1 := by omega
      have hHt := hid ht
      clear ht
      have hBd : Below wr.heap.size wr (wr.alloc (.cells #[.int .i64 k', .bool neg', .slice od' ld' cd', .string nm', .int .i64 n', .slice ol' ll' cl', .slice ob' lb' cb', .int .i64 k, .bool neg, .slice od ld cd, .string nm, .int .i64 n, .slice ol ll cl, .slice ob lb cb] 31)) := (Below.refl _ wr).alloc (Nat.le_refl _) _
      have kt2 := kt.below hBd
      obtain ⟨z0, z1, z2, z3, z4, z5, z6⟩ := kt2.res
      have hf2 := kt2.fr
      go_wp2_with fail
      go_region
      have hF : ∀ F : World, F = (((((((((wr.alloc (.cells #[.int .i64 k', .bool neg', .slice od' ld' cd', .string nm', .int .i64 n', .slice ol' ll' cl', .slice ob' lb' cb', .int .i64 k, .bool neg, .slice od ld cd, .string nm, .int .i64 n, .slice ol ll cl, .slice ob lb cb] 31)).setCell ⟨w2.heap.size, 0, none⟩ (.int .i64 6)).setCell ⟨w2.heap.size, 1, none⟩ (.bool false)).setCell ⟨w2.heap.size, 2, none⟩ nilS).setCell ⟨w2.heap.size, 3, none⟩ (.string noS)).setCell ⟨w2.heap.size, 4, none⟩ (.int .i64 0)).setCell ⟨w2.heap.size, 5, none⟩ (.slice (some ⟨wr.heap.size, 0, none⟩) 2 2)).setCell ⟨w2.heap.size, 6, none⟩ nilS).drew) → TV (ZL (w.heap.size + 1) w2.heap.size F) F (listT ((cpL ls).drop m)) (tmV 6 false nilS noS 0 (.slice (some ⟨wr.heap.size, 0, none⟩) 2 2) nilS) ∧ Bx w2.heap.size (.int .i64 6) (.bool false) nilS (.string noS) (.int .i64 0) (.slice (some ⟨wr.heap.size, 0, none⟩) 2 2) nilS F ∧ TR (ZL (w.heap.size + 1) w2.heap.size F) F (cpL ls) (some ⟨g', 0, none⟩) ∧ Bx w.heap.size (.int .i64 0) (.bool false) nilS (.string noS) (.int .i64 0) nilS nilS F ∧ Below w.heap.size w F := by
        have k3 := kt2.put (b0 := .int .i64 6) (b1 := .bool false) (b2 := nilS) (b3 := .string noS) (b4 := .int .i64 0) (b5 := .slice (some ⟨wr.heap.size, 0, none⟩) 2 2) (b6 := nilS)
        have hon := only_put (wr.alloc (.cells #[.int .i64 k', .bool neg', .slice od' ld' cd', .string nm', .int .i64 n', .slice ol' ll' cl', .slice ob' lb' cb', .int .i64 k, .bool neg, .slice od ld cd, .string nm, .int .i64 n, .slice ol ll cl, .slice ob lb cb] 31)) w2.heap.size (.int .i64 6) (.bool false) nilS (.string noS) (.int .i64 0) (.slice (some ⟨wr.heap.size, 0, none⟩) 2 2) nilS
        have hnw := heap_alloc_new wr (.cells #[.int .i64 k', .bool neg', .slice od' ld' cd', .string nm', .int .i64 n', .slice ol' ll' cl', .slice ob' lb' cb', .int .i64 k, .bool neg, .slice od ld cd, .string nm, .int .i64 n, .slice ol ll cl, .slice ob lb cb] 31)
        generalize (wr.alloc (.cells #[.int .i64 k', .bool neg', .slice od' ld' cd', .string nm', .int .i64 n', .slice ol' ll' cl', .slice ob' lb' cb', .int .i64 k, .bool neg, .slice od ld cd, .string nm, .int .i64 n, .slice ol ll cl, .slice ob lb cb] 31)) = W at *
        generalize (((((((W.setCell ⟨w2.heap.size, 0, none⟩ (.int .i64 6)).setCell ⟨w2.heap.size, 1, none⟩ (.bool false)).setCell ⟨w2.heap.size, 2, none⟩ nilS).setCell ⟨w2.heap.size, 3, none⟩ (.string noS)).setCell ⟨w2.heap.size, 4, none⟩ (.int .i64 0)).setCell ⟨w2.heap.size, 5, none⟩ (.slice (some ⟨wr.heap.size, 0, none⟩) 2 2)).setCell ⟨w2.heap.size, 6, none⟩ nilS) = V at *
        rintro F rfl
        have hbd : Below V.heap.size V V.drew := (Below.refl _ V).drew
        have hgt := kt.lt
        have hs1 := hBd.size
        have hs2 := hon.2.1
        have hh : ∀ k, w.heap.size + 1 ≤ k → k < wr.heap.size → k ≠ w2.heap.size → V.drew.heap[k]? = wr.heap[k]? := fun k _ hk hne => ((hbd.block k (by omega)).trans (hon.2.2 k hne)).trans (hBd.block k hk)
        have hnw' : V.drew.heap[wr.heap.size]? = some (.cells #[.int .i64 k', .bool neg', .slice od' ld' cd', .string nm', .int .i64 n', .slice ol' ll' cl', .slice ob' lb' cb', .int .i64 k, .bool neg, .slice od ld cd, .string nm, .int .i64 n, .slice ol ll cl, .slice ob lb cb] 31 (0, 0)) := ((hbd.block _ (by have := (Array.getElem?_eq_some_iff.1 hnw).1; omega)).trans (hon.2.2 _ (by omega))).trans hnw
        refine ⟨?_, k3.below hbd, zl_tr hRr hh, ((kx.below hBd).only hon (by omega)).below hbd, ?_⟩
        · rw [drop_at hHt.out]
          unfold listT consT TV
          refine ⟨none, 0, some ⟨wr.heap.size, 0, none⟩, 2, none, 0, rfl, Ls.nil _ _ _, by simp, Lm.nil _, LsB.nil _ _ _, by simp, by simp, ?_⟩
          exact tr_two (zl_tv hTv hh) (zl_tv hV hh) hnw' ⟨zw_of (by omega) hnw', by omega⟩
        · exact ((hBr.trans (below_le hBd hBr.size)).trans (hon.below (B := w.heap.size) (by omega))).trans (below_le hbd (by have := hBr.size; omega))
      have hHF := hid hF
      clear hF hV kt hRr kx hBr hTv hA hZg kt2 hBd c0 c1 c2 c3 c4 c5 c6 y0 y1 y2 y3 y4 y5 y6 z0 z1 z2 z3 z4 z5 z6 hf2 hf9
      have hm5 : m ≤ 500000 := by have := hHl.out; omega
      go_wp2
      go_roundg m
      case measure => omega
      case rel =>
        obtain ⟨q1, q2, q3, q4, q5⟩ := hHF.out _ rfl
        exact ⟨6, false, none, 0, 0, noS, 0, some ⟨wr.heap.size, 0, none⟩, 2, 2, none, 0, 0, by first | rfl | go_num, by omega, q1, q2, q3, q4, q5⟩
end Go.Proofs.YtpdoepjnkgffpaaDoor
namespace Go.Proofs.YtpdoepjnkgffpaaDoor
open Go.ChangeShapes Go.WideShapes Go.ChangeAt Go.RowKit Go.Shelf
set_option linter.unusedSimpArgs false
set_option linter.unusedVariables false
set_option maxRecDepth 2000
theorem sv_int (Z : Int) : sv (decide (Z < 0)) (gval 4294967296 (glim 4294967296 Z.natAbs)) = Z := by
  rw [gval_glim (by omega)]
  unfold sv
  by_cases hz : Z < 0
  · simp only [hz, decide_true, if_true]; omega
  · simp only [hz, decide_false, Bool.false_eq_true, if_false]; omega
theorem normB_int (Z : Int) : normB (decide (Z < 0)) (glim 4294967296 Z.natAbs) = true := by
  unfold normB
  rw [sv_int]
  simp
theorem prT_int (Z : Int) : prT (intT Z) = intT Z := by simp [intT, prT]
theorem prT_atom (nm : ByteArray) : prT (atomT nm) = atomT nm := by simp [atomT, prT]
theorem leanB_of {T : Tm} (h : prT T = T) : leanB T = true := by
  unfold leanB
  rw [h]
  cases T with | mk k neg d nm n l b =>
  simp [eqF]
theorem fairB_int (Z : Int) : fairB (intT Z) = decide ((glim 4294967296 Z.natAbs).length ≤ 64) := by
  unfold fairB
  rw [leanB_of (prT_int Z)]
  have h := normB_int Z
  unfold intT withinB
  simp only [if_true, h, Bool.and_true, Bool.true_and]
  apply decide_eq_decide.2
  omega
theorem parts_int (Z : Int) : parts (intT Z) = [intT Z] := by simp [intT, parts]
theorem dep_int (Z : Int) : dep (intT Z) = 0 := by simp [intT, dep]
theorem ok_int {Z : Int} (h : (glim 4294967296 Z.natAbs).length ≤ 1000000) : (intT Z).ok1 := ⟨h, by decide, by simp, by simp, lm_glim (by omega) _⟩
theorem room_int (Z : Int) : roomN (intT Z) = if smlB Z then 0 else 1 + (glim 4294967296 Z.natAbs).length := by
  unfold intT roomN
  simp only [if_true, sv_int]
theorem words_int (Z : Int) : wordsN (intT Z) = if smlB Z then 0 else 1 + (glim 4294967296 Z.natAbs).length := by
  unfold wordsN
  rw [parts_int]
  simp only [List.map_cons, List.map_nil, List.sum_cons, List.sum_nil, Nat.add_zero, room_int]
theorem may_int (Z : Int) : mayB (intT Z) = decide ((glim 4294967296 Z.natAbs).length ≤ 64) := by
  unfold mayB treeN
  rw [parts_int]
  simp [fairB_int]
theorem cpT_int (Z : Int) : cpT (intT Z) = intT Z := by simp [intT, cpT, prT]
theorem cpT_atom (nm : ByteArray) : cpT (atomT nm) = atomT nm := by simp [atomT, cpT, prT]
theorem parts_atom (nm : ByteArray) : parts (atomT nm) = [atomT nm] := by simp [atomT, parts]
theorem parts_nil : parts nilT = [nilT] := by simp [nilT, parts]
theorem parts_cons (a b : Tm) : parts (consT a b) = consT a b :: (parts a ++ parts b) := by simp [consT, parts, partsL]
theorem glim_one : glim 4294967296 1 = [1] := by rw [glim_pos (by omega) (by omega)]; simp [glim_zero]
abbrev sA : ByteArray := { data := #[97] }
def awT : Tm := listT [intT 1, atomT sA]
theorem aw_parts : parts awT = [consT (intT 1) (consT (atomT sA) nilT), intT 1, consT (atomT sA) nilT, atomT sA, nilT] := by
  simp only [awT, listT, parts_cons, parts_int, parts_atom, parts_nil, List.cons_append, List.nil_append]
theorem aw_tree : treeN awT = 5 := by unfold treeN; rw [aw_parts]; rfl
theorem aw_words : wordsN awT = 6 := by
  unfold wordsN
  rw [aw_parts]
  simp only [List.map_cons, List.map_nil, List.sum_cons, List.sum_nil, room_int]
  simp [roomN, consT, atomT, nilT, smlB]
theorem ok_cons (a b : Tm) : (consT a b).ok1 := ⟨by simp, by decide, by simp, by simp, Lm.nil _⟩
theorem aw_ok : ∀ p ∈ parts awT, p.ok1 := by
  rw [aw_parts]
  intro p hp
  simp only [List.mem_cons, List.not_mem_nil, or_false] at hp
  rcases hp with rfl | rfl | rfl | rfl | rfl
  · exact ok_cons _ _
  · exact ok_int (by decide +kernel)
  · exact ok_cons _ _
  · exact ok_flat 1 0 (by decide)
  · exact ok_flat 5 0 (by decide)
theorem fair_cons (a b : Tm) : fairB (consT a b) = true := by
  unfold fairB
  rw [leanB_of (by simp [consT, prT])]
  simp [consT, withinB]
theorem fair_nil : fairB nilT = true := by
  unfold fairB
  rw [leanB_of (by simp [nilT, prT])]
  simp [nilT, withinB]
theorem fair_atom (nm : ByteArray) : fairB (atomT nm) = (decide (0 ≤ countZ nm.data.toList) && decide (countZ nm.data.toList ≤ 255)) := by
  unfold fairB
  rw [leanB_of (prT_atom nm)]
  simp [atomT, withinB]
theorem aw_may : mayB awT = true := by
  have h1 : countZ sA.data.toList = 1 := by decide +kernel
  unfold mayB
  rw [aw_tree, aw_parts]
  simp only [List.all_cons, List.all_nil, fair_cons, fair_nil, fair_atom, fairB_int, h1]
  decide +kernel
theorem aw_dep : dep awT ≤ 1000000 := by
  simp [awT, listT, consT, nilT, dep, depL, dep_int, atomT]
theorem aw_cp : listT (cpL [intT 1, atomT sA]) = awT := by simp [cpL, cpT_int, cpT_atom, awT]
end Go.Proofs.YtpdoepjnkgffpaaDoor
namespace Go.Proofs.YtpdoepjnkgffpaaDoor
open Go.ChangeShapes Go.WideShapes Go.ChangeAt Go.RowKit Go.Shelf
set_option linter.unusedSimpArgs false
set_option linter.unusedVariables false
set_option maxRecDepth 2000
set_option maxHeartbeats 2000000 in
theorem awake_w (w : World) (hTa : Tabs w) :
    Calls Tryd.prog 17 #[] w fun e w' => e = .returned (.bool true) ∧ Below w.heap.size w w' := by
  go_enter Tryd.func17, Tryd.ntmps17
  go_wp2_with fail
  refine (Int_w 1 _ (by omega) (by omega)).mono ?_
  rintro e w1 ⟨v1, rfl, hV1, b1⟩
  go_wp2_with fail
  refine (Atom_w sA _ (by decide)).mono ?_
  rintro e w2 ⟨v2, rfl, hV2, b2⟩
  have hB2 := below_and b1 (Nat.le_refl _) b2
  have hV1' := tv_below (tv_low hV1) b2
  have hV2' := tv_low hV2
  obtain ⟨k, neg, od, ld, cd, nm, n, ol, ll, cl, ob, lb, cb, rfl⟩ := hV1.form
  obtain ⟨k', neg', od', ld', cd', nm', n', ol', ll', cl', ob', lb', cb', rfl⟩ := hV2.form
  clear hV1 hV2 b1 b2
  have hB3 := hB2.alloc hB2.size (.cells #[.int .i64 k, .bool neg, .slice od ld cd, .string nm, .int .i64 n, .slice ol ll cl, .slice ob lb cb, .int .i64 k', .bool neg', .slice od' ld' cd', .string nm', .int .i64 n', .slice ol' ll' cl', .slice ob' lb' cb'] 31)
  have hbb := (Below.refl _ w2).alloc (Nat.le_refl _) (.cells #[.int .i64 k, .bool neg, .slice od ld cd, .string nm, .int .i64 n, .slice ol ll cl, .slice ob lb cb, .int .i64 k', .bool neg', .slice od' ld' cd', .string nm', .int .i64 n', .slice ol' ll' cl', .slice ob' lb' cb'] 31)
  have hR3 := tr_two (tv_below hV1' hbb) (tv_below hV2' hbb) (heap_alloc_new w2 _) (show w2.heap.size < _ by simp)
  unfold tmV
  go_wp2_with fail
  generalize (w2.alloc (.cells #[.int .i64 k, .bool neg, .slice od ld cd, .string nm, .int .i64 n, .slice ol ll cl, .slice ob lb cb, .int .i64 k', .bool neg', .slice od' ld' cd', .string nm', .int .i64 n', .slice ol' ll' cl', .slice ob' lb' cb'] 31)) = W3 at *
  clear hV1' hV2' hbb
  refine (List_w [intT 1, atomT sA] _ _ _ (by simp) (by simp [partsL, parts_int, parts_atom]) (by simp) ?ok hR3).mono ?_
  case ok =>
    intro p hp
    refine aw_ok p ?_
    rw [aw_parts]
    simp only [partsL, parts_int, parts_atom, List.cons_append, List.nil_append, List.mem_cons, List.not_mem_nil, or_false] at hp ⊢
    rcases hp with rfl | rfl <;> simp
  rintro e w4 ⟨v4, rfl, hV4, b4⟩
  rw [aw_cp] at hV4
  have hB4 := below_and hB3 (by have := hB3.size; omega) b4
  have hk6 : Hid (awT.kind = 6) := hid rfl
  have hV5 := tv_low hV4
  clear hV4 hR3 hB3 b4
  have hform : ∃ od ld cd nm n ol ll cl ob lb cb, v4 = tmV 6 false (.slice od ld cd) nm n (.slice ol ll cl) (.slice ob lb cb) := by
    have h := hV5
    unfold awT listT consT TV at h
    obtain ⟨_, _, _, _, _, _, rfl, _⟩ := h
    exact ⟨_, _, _, _, _, _, _, _, _, _, _, rfl⟩
  obtain ⟨od2, ld2, cd2, nm2, n2, ol2, ll2, cl2, ob2, lb2, cb2, rfl⟩ := hform
  unfold tmV
  obtain ⟨kT, hBT, hzT⟩ := bx1 w4 (.int .i64 6) (.bool false) (.slice od2 ld2 cd2) (.string nm2) (.int .i64 n2) (.slice ol2 ll2 cl2) (.slice ob2 lb2 cb2) 31
  have hV6 := tv_below hV5 hBT
  have hB5 := below_and hB4 (by have := hB4.size; omega) hBT
  clear hB4 hBT hV5
  go_upto_region 2 with fail
  generalize (w4.alloc (.cells #[.int .i64 6, .bool false, .slice od2 ld2 cd2, .string nm2, .int .i64 n2, .slice ol2 ll2 cl2, .slice ob2 lb2 cb2] 31)) = W5 at *
  obtain ⟨x0, x1, x2, x3, x4, x5, x6⟩ := kT.res
  go_wp2_with fail
  refine (Words_w awT _ _ aw_dep aw_ok (by rw [aw_parts]; simp) hV6).mono ?_
  rintro e w6 ⟨rfl, b6⟩
  rw [aw_words]
  have hV7 := tv_below hV6 b6
  have hB6 := below_and hB5 (by have := hB5.size; omega) b6
  have kT6 := kT.below b6
  clear x0 x1 x2 x3 x4 x5 x6 hB5 b6 hV6 kT
  obtain ⟨x0, x1, x2, x3, x4, x5, x6⟩ := kT6.res
  go_wp2_with fail
  refine (Tree_w awT _ _ aw_dep hV7).mono ?_
  rintro e w7 ⟨rfl, b7⟩
  rw [aw_tree]
  have hV8 := tv_below hV7 b7
  have hB7 := below_and hB6 (by have := hB6.size; omega) b7
  have kT7 := kT6.below b7
  clear x0 x1 x2 x3 x4 x5 x6 hB6 b7 hV7 kT6
  obtain ⟨x0, x1, x2, x3, x4, x5, x6⟩ := kT7.res
  go_wp2_with fail
  refine (May_w awT _ _ aw_dep aw_ok hV8 (hTa.below hB7)).mono ?_
  rintro e w8 ⟨rfl, b8⟩
  rw [aw_may]
  have hB8 := below_and hB7 (by have := hB7.size; omega) b8
  go_wp2
  go_ret
  exact ⟨rfl, hB8⟩
end Go.Proofs.YtpdoepjnkgffpaaDoor
namespace Go.Proofs.YtpdoepjnkgffpaaDoor
open Go.ChangeShapes Go.WideShapes Go.ChangeAt Go.RowKit Go.Shelf
set_option linter.unusedSimpArgs false
set_option linter.unusedVariables false
set_option maxRecDepth 2000
theorem tv_intN {Z : Int} {w : World} {v : Value} {K : Nat} (h : TV (Low w) w (intT Z) v) (hK : (glim 4294967296 Z.natAbs).length ≤ K) : ∃ z m od cd ol cl ob cb, v = tmV 0 z (.slice od m cd) noS 0 (.slice ol 0 cl) (.slice ob 0 cb) ∧ ∀ w', Below w.heap.size w w' → IsN (.agg #[.bool z, .slice od m cd]) Z K w' := by
  unfold intT TV at h
  obtain ⟨od, cd, ol, cl, ob, cb, rfl, h1, h2, h3, h4, h5, h6, h7⟩ := h
  exact ⟨_, _, od, cd, ol, cl, ob, cb, rfl, fun w' hb => ⟨_, od, _, cd, rfl, (h1.zs (fun k hk => hb.block k hk)).lies, h2, h3, sv_int Z, hK⟩⟩
theorem rnorm_c (v : Value) (Z : Int) (K : Nat) (w : World) (hK : K ≤ 1000000) (h : IsN v Z K w) :
    Calls Tryd.prog 55 #[v] w fun e w' => ∃ b o n c, e = .returned (.agg #[.bool b, .slice o n c]) ∧ IsC (.agg #[.bool b, .slice o n c]) Z K w' ∧ Below w.heap.size w w' := by
  refine (rnorm_w v Z K w hK h).mono ?_
  rintro e w' ⟨sl, rfl, hF, hKK, hb⟩
  obtain ⟨o1, c1, rfl, _, _, _⟩ := hF.parts
  exact ⟨_, _, _, _, rfl, hF.isC hKK, hb⟩
theorem ofInt_c (n : Int) (w : World) (h0 : -9223372036854775808 ≤ n) (h1 : n < 9223372036854775808) :
    Calls Tryd.prog 30 #[.int .i64 n] w fun e w' => ∃ b o m c, e = .returned (.agg #[.bool b, .slice o m c]) ∧ IsC (.agg #[.bool b, .slice o m c]) n 2 w' ∧ Below w.heap.size w w' := by
  refine (ofInt_w n w h0 h1).mono ?_
  rintro e w' ⟨v', rfl, hC, hb⟩
  obtain ⟨b, o, m, c, rfl⟩ := hC.shape
  exact ⟨_, _, _, _, rfl, hC, hb⟩
theorem len2 {N : Int} (h0 : -9223372036854775808 ≤ N) (h1 : N < 9223372036854775808) : (glim 4294967296 N.natAbs).length ≤ 2 := (glim_len (by omega) _ _).2 (by omega)
theorem words_sml (Z : Int) : (((wordsN (intT Z) : Nat) : Int) == 0) = smlB Z := by
  rw [words_int]
  cases smlB Z with
  | true => rfl
  | false =>
    simp only [Bool.false_eq_true, if_false]
    rw [beq_eq_false_iff_ne]
    omega
end Go.Proofs.YtpdoepjnkgffpaaDoor
