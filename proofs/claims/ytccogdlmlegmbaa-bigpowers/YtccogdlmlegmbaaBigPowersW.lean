/- BigPowers, walked. -/
import Derived.Test.YtccogdlmlegmbaaBigOpen
import Derived.Laws.Concat
namespace Go.Proofs.Ytccogdlmlegmbaa
open Go.ChangeShapes Go.WideShapes Go.ChangeAt Go.ChangeMaps Go.RowKit
set_option linter.unusedSimpArgs false
set_option linter.unusedVariables false
theorem num_w (b : Bool) (o : Option Addr) (n c : Nat) (w : World) : Calls Try.prog 15 #[.agg #[.bool b, .slice o n c]] w fun e w' => e = .returned (.agg #[.bool b, .slice o n c]) ∧ Below w.heap.size w w' := by
  go_enter Try.func15, Try.ntmps15
  go_wp2
  exact bodyPost_ret (v := .agg #[.bool b, .slice o n c]) (by simp [results, Try.results15, go_sem]) rfl ⟨rfl, ((Below.refl _ w).alloc (Nat.le_refl _) _).alloc (by simp) _⟩
theorem cell_alloc_lt (w : World) (a : Addr) (o : Obj) (h : a.block < w.heap.size) : (w.alloc o).cell? a = w.cell? a := ((Below.refl w.heap.size w).alloc (Nat.le_refl _) o).cell h
theorem field34 (b : Bool) (o : Option Addr) (n c : Nat) (w : World) : (Instr.field 34 (.agg #[.bool b, .slice o n c]) 1).run Try.prog w = .ok (.slice o n c) w := by
  have ht := run_underlying (P := Try.prog) Try.underlying34
  have ht2 := run_underlying (P := Try.prog) Try.underlying23
  simp [Instr.field, ht, asAgg, part, isAgg, ht2, go_sem]
end Go.Proofs.Ytccogdlmlegmbaa
namespace Go.Proofs.Ytccogdlmlegmbaa.bigPowers
open Go.ChangeShapes Go.WideShapes Go.ChangeAt Go.ChangeMaps Go.RowKit
set_option linter.unusedSimpArgs false
set_option linter.unusedVariables false
theorem glim_ten {n : Nat} (h : 0 < n) : glim 10 (n * 10) = 0 :: glim 10 n := by
  rw [glim_pos (by omega) (by omega), Nat.mul_mod_left, Nat.mul_div_cancel _ (by omega)]
theorem txt_ten {Z : Int} (h : Z ≠ 0) : txt (Z * 10) = txt Z ++ [48] := by
  unfold txt txtN
  rw [if_neg (by omega), if_neg h, show (Z * 10).natAbs = Z.natAbs * 10 by omega, glim_ten (by omega)]
  by_cases hz : Z < 0
  · rw [if_pos hz, if_pos (by omega)]; simp
  · rw [if_neg hz, if_neg (by omega)]; simp
theorem ba_append (a b : List UInt8) : (⟨a.toArray⟩ : ByteArray) ++ ⟨b.toArray⟩ = ⟨(a ++ b).toArray⟩ := by
  apply ByteArray.ext; simp
theorem txt_len {Z : Int} {k : Nat} (h : Z.natAbs < 4294967296 ^ k) : (txt Z).length ≤ 32 * k + 2 := by
  unfold txt txtN
  by_cases hz : Z = 0
  · rw [if_pos hz]; simp
  · rw [if_neg hz]
    have hl : (glim 10 Z.natAbs).length ≤ 32 * k + 1 := by
      have h1 := glim_ge (b := 10) (by omega) (n := Z.natAbs) (by omega)
      have := len_bound (s := (glim 10 Z.natAbs).length - 1) (N := 1) (M := Z.natAbs) (K := k) (by omega) (by omega) h
      omega
    split <;> simp <;> omega
/-- two structs laid behind the calls, in whatever order -/
def Ends (N : Nat) (a0 : World) (ga gb : Nat) (q0 q1 r0 r1 : Value) (oq : Option Addr) (l : List Nat) (W : World) : Prop := Box ga q0 q1 W ∧ Box gb r0 r1 W ∧ Lies oq l W ∧ Below N a0 W
theorem endA1 {N : Nat} {a0 w4 : World} {q0 q1 r0 r1 : Value} {oq : Option Addr} {l : List Nat} {t u : TypeId} (hB : Below N a0 w4) (hN : N ≤ w4.heap.size) (hL : Lies oq l w4) : Ends N a0 w4.heap.size (w4.heap.size + 1) q0 q1 r0 r1 oq l ((w4.alloc (.cells #[q0, q1] t)).alloc (.cells #[r0, r1] u)) := by
  obtain ⟨k1, k2, k3, _⟩ := boxes2 w4 q0 q1 r0 r1 t u
  exact ⟨k1, k2, hL.below k3, hB.trans (below_le k3 hN)⟩
theorem endA2 {N : Nat} {a0 w4 : World} {q0 q1 r0 r1 : Value} {oq : Option Addr} {l : List Nat} {t u : TypeId} (hB : Below N a0 w4) (hN : N ≤ w4.heap.size) (hL : Lies oq l w4) : Ends N a0 (w4.heap.size + 1) w4.heap.size q0 q1 r0 r1 oq l ((w4.alloc (.cells #[r0, r1] t)).alloc (.cells #[q0, q1] u)) := by
  obtain ⟨k1, k2, k3, _⟩ := boxes2 w4 r0 r1 q0 q1 t u
  exact ⟨k2, k1, hL.below k3, hB.trans (below_le k3 hN)⟩
theorem endB1 {N ga : Nat} {a0 w4 : World} {q0 q1 r0 r1 : Value} {oq : Option Addr} {l : List Nat} {t : TypeId} (hB : Below N a0 w4) (hN : N ≤ w4.heap.size) (hL : Lies oq l w4) (k : Box ga (.bool false) (.slice none 0 0) w4) (hg : N ≤ ga) : Ends N a0 ga w4.heap.size q0 q1 r0 r1 oq l (((w4.setCell ⟨ga, 0, none⟩ q0).setCell ⟨ga, 1, none⟩ q1).alloc (.cells #[r0, r1] t)) := by
  have hz : ((w4.setCell ⟨ga, 0, none⟩ q0).setCell ⟨ga, 1, none⟩ q1).heap.size = w4.heap.size := by simp
  have hlt : ga < w4.heap.size := World.block_lt_of_cell? _ _ k.1
  have kn := Box.new ((w4.setCell ⟨ga, 0, none⟩ q0).setCell ⟨ga, 1, none⟩ q1) r0 r1 t
  rw [hz] at kn
  have hbA := (Below.refl ((w4.setCell ⟨ga, 0, none⟩ q0).setCell ⟨ga, 1, none⟩ q1).heap.size ((w4.setCell ⟨ga, 0, none⟩ q0).setCell ⟨ga, 1, none⟩ q1)).alloc (Nat.le_refl _) (.cells #[r0, r1] t)
  exact ⟨k.put.alloc _ (by omega), kn, (hL.box k _ _).below hbA, ((hB.setCell (p := ⟨ga, 0, none⟩) hg _).setCell (p := ⟨ga, 1, none⟩) hg _).alloc (by omega) _⟩
theorem endB2 {N gb : Nat} {a0 w4 : World} {q0 q1 r0 r1 : Value} {oq : Option Addr} {l : List Nat} {t : TypeId} (hB : Below N a0 w4) (hN : N ≤ w4.heap.size) (hL : Lies oq l w4) (k : Box gb (.bool false) (.slice none 0 0) w4) (hg : N ≤ gb) : Ends N a0 w4.heap.size gb q0 q1 r0 r1 oq l (((w4.setCell ⟨gb, 0, none⟩ r0).setCell ⟨gb, 1, none⟩ r1).alloc (.cells #[q0, q1] t)) := by
  obtain ⟨h1, h2, h3, h4⟩ := endB1 (q0 := r0) (q1 := r1) (r0 := q0) (r1 := q1) (t := t) hB hN hL k hg
  exact ⟨h2, h1, h3, h4⟩
theorem endC {N ga gb : Nat} {a0 w4 : World} {q0 q1 r0 r1 : Value} {oq : Option Addr} {l : List Nat} (hB : Below N a0 w4) (hL : Lies oq l w4) (k : Box ga (.bool false) (.slice none 0 0) w4) (k' : Box gb (.bool false) (.slice none 0 0) w4) (hne : ga ≠ gb) (hg : N ≤ ga) (hg' : N ≤ gb) : Ends N a0 ga gb q0 q1 r0 r1 oq l ((((w4.setCell ⟨ga, 0, none⟩ q0).setCell ⟨ga, 1, none⟩ q1).setCell ⟨gb, 0, none⟩ r0).setCell ⟨gb, 1, none⟩ r1) := by
  have k2 := k'.far (k := ga) (x := q0) (y := q1) (fun e => hne e.symm)
  exact ⟨k.put.far hne, k2.put, (hL.box k _ _).box k2 _ _, (((hB.setCell (p := ⟨ga, 0, none⟩) hg _).setCell (p := ⟨ga, 1, none⟩) hg _).setCell (p := ⟨gb, 0, none⟩) hg' _).setCell (p := ⟨gb, 1, none⟩) hg' _⟩
set_option maxHeartbeats 4000000 in
theorem walk {H : Type} (enc : TypeId × Value → H) (base : Nat) (w : World) (v0 v1 : Value) (d0 d1 : DataW H) (p0 p1 : List MemPlace)
    (o0 : Value.okWide Try.prog w .any base 34 v0) (h0 : DataW.Trod enc Try.prog w 0 (fun _ => true) true 34 v0 d0 p0)
    (o1 : Value.okWide Try.prog w .any base 5 v1) (h1 : DataW.Trod enc Try.prog w 0 (fun _ => true) true 5 v1 d1 p1) :
    Calls Try.prog 8 #[v0, v1] w fun e w' => e = .returned (.bool true) ∧ Below w.heap.size w w' := by
  obtain ⟨neg, o, l, c, rfl, hL, hc, hm, hml⟩ := open_num o0 h0
  obtain ⟨n, rfl, rfl, rfl, hn⟩ := open_int Try.underlying5 o1 h1
  unfold maxLen at hml
  have hnb : 0 ≤ n ∧ n < 256 := by
    simp [Lit.wf, IntKind.min, IntKind.max, IntKind.bits, IntKind.signed] at hn; omega
  clear o0 h0 o1 h1
  have kA := Box.new w (.bool neg) (.slice o l.length c) 34
  have hB0 : Below w.heap.size w (w.alloc (.cells #[.bool neg, .slice o l.length c] 34)) := (Below.refl _ w).alloc (Nat.le_refl _) _
  have hz0 : (w.alloc (.cells #[.bool neg, .slice o l.length c] 34)).heap.size = w.heap.size + 1 := by simp
  go_enter Try.func8, Try.ntmps8
  go_wp2_with fail
  generalize (w.alloc (.cells #[.bool neg, .slice o l.length c] 34)) = W0 at *
  refine (awake_w _).mono ?_
  rintro e w1 ⟨rfl, b1⟩
  have kA1 := kA.below b1 (by omega)
  have hB1 := below_and hB0 (Nat.le_refl _) b1
  obtain ⟨f1, f2, f3, f4⟩ := id kA1
  have hs1 := b1.size
  by_cases hl30 : l.length ≤ 30
  · have h30 : ¬ (30 : Int) < (l.length : Int) := by omega
    have hN := IsN.of_open (neg := neg) (K := 30) hL hc hm hl30
    have hfd := field34
    obtain ⟨X, hX⟩ : ∃ X, sv neg (gval 4294967296 l) = X := ⟨_, rfl⟩
    rw [hX] at hN
    go_wp2_with fail
    refine (rnorm_w _ X 30 _ (by omega) (hN.below hB1)).mono ?_
    rintro e w2 ⟨sl2, rfl, hF2, hk2, b2⟩
    obtain ⟨o2, c2, rfl, L2, z2, _⟩ := hF2.parts
    have kA2 := kA1.below b2 (by omega)
    have hB2 := below_and hB1 (Nat.le_refl _) b2
    have hs2 := b2.size
    clear f1 f2 f3 f4
    obtain ⟨f1, f2, f3, f4⟩ := id kA2
    by_cases hX0 : X = 0
    · have hl0 : (glim 4294967296 X.natAbs).length = 0 := by rw [hX0]; simp [glim_zero]
      clear hX0
      go_wp2
      go_ret
      exact ⟨rfl, hB2⟩
    · have hl0 : (((glim 4294967296 X.natAbs).length : Int) == 0) = false := by
        have := List.length_pos_iff.2 (glim_ne (b := 4294967296) (n := X.natAbs) (by omega) (by omega))
        simp only [beq_eq_false_iff_ne, ne_eq]; omega
      go_wp2_with fail
      refine (num_w _ _ _ _ _).mono ?_
      rintro e w3 ⟨rfl, b3⟩
      have kA3 := kA2.below b3 (by omega)
      have hB3 := below_and hB2 (Nat.le_refl _) b3
      have hs3 := b3.size
      go_wp2_with fail
      refine (norm_w _ X 30 _ (by omega) (hN.below hB3)).mono ?_
      rintro e w4 ⟨sl4, rfl, hF4, hk4, b4⟩
      have hC4 := hF4.isC hk4
      obtain ⟨o4, c4, rfl, L4, z4, _⟩ := hF4.parts
      have hB4 := below_and hB3 (Nat.le_refl _) b4
      have hW5 : Below w4.heap.size w4 (w4.alloc (.cells #[.bool (decide (X < 0)), .slice o4 (glim 4294967296 X.natAbs).length c4] 25)) := (Below.refl _ _).alloc (Nat.le_refl _) _
      have kX5 := Box.new w4 (.bool (decide (X < 0))) (.slice o4 (glim 4294967296 X.natAbs).length c4) 25
      have hz5 : w4.heap.size < (w4.alloc (.cells #[.bool (decide (X < 0)), .slice o4 (glim 4294967296 X.natAbs).length c4] 25)).heap.size := by simp
      have hC5 := hC4.below hW5
      have hB5 := below_and hB4 (Nat.le_refl _) hW5
      go_wp2_with fail
      generalize (w4.alloc (.cells #[.bool (decide (X < 0)), .slice o4 (glim 4294967296 X.natAbs).length c4] 25)) = W5 at *
      refine (text_w _ X 30 _ (by omega) hC5.isN).mono ?_
      rintro e w6 ⟨rfl, b6⟩
      have kX6 := kX5.below b6 hz5
      have hC6 := hC5.below b6
      have hB6 := below_and hB5 (Nat.le_refl _) b6
      have hz6 := b6.size
      obtain ⟨x1, x2, x3, x4⟩ := id kX6
      obtain ⟨kn, hkn⟩ : ∃ kn : Nat, n % 60 = (kn : Int) := ⟨(n % 60).toNat, by omega⟩
      have hknm : kn < 60 := by omega
      have hW7 : Below w6.heap.size w6 (w6.alloc (.cells #[.bool (decide (X < 0)), .slice o4 (glim 4294967296 X.natAbs).length c4] 25)) := (Below.refl _ _).alloc (Nat.le_refl _) _
      have kY7 := Box.new w6 (.bool (decide (X < 0))) (.slice o4 (glim 4294967296 X.natAbs).length c4) 25
      have hz7 : w6.heap.size < (w6.alloc (.cells #[.bool (decide (X < 0)), .slice o4 (glim 4294967296 X.natAbs).length c4] 25)).heap.size := by simp
      have hC7 := hC6.below hW7
      have hB7 := below_and hB6 (Nat.le_refl _) hW7
      have kX7 := kX6.below hW7 (by omega)
      have hgz : w4.heap.size < w6.heap.size := by omega
      have hgw := hB4.size
      clear f1 f2 f3 f4 kA kA1 kA2 kA3 L2 L4 hF2 hF4 b1 b2 b3 b4 b6 hC4 hC5 hC6 kX5 kX6 hB0 hB1 hB2 hB3 hB4 hB5 hW5 hL hN hfd
      go_wp2
      generalize (w6.alloc (.cells #[.bool (decide (X < 0)), .slice o4 (glim 4294967296 X.natAbs).length c4] 25)) = W7 at *
      generalize w4.heap.size = gx at *
      generalize w6.heap.size = gy at *
      rw [hkn]
      clear x1 x2 x3 x4 hkn
      have hXm : X.natAbs < 4294967296 ^ 30 := (glim_len (by omega) _ _).1 hk4
      go_loopg [6, 9] kn (fun t sv iv wr => ∃ (i : Nat) (Y : Int) (oy : Option Addr) (cy : Nat), t + i = kn ∧ Hid (Y = X * 10 ^ i) ∧ iv = .int .i64 (i : Int) ∧ sv = .string ⟨(txt Y).toArray⟩ ∧ Box gy (.bool (decide (Y < 0))) (.slice oy (glim 4294967296 Y.natAbs).length cy) wr ∧ Lies oy (glim 4294967296 Y.natAbs) wr ∧ (glim 4294967296 Y.natAbs).length ≤ cy ∧ (glim 4294967296 Y.natAbs).length ≤ 128 ∧ Box gx (.bool (decide (X < 0))) (.slice o4 (glim 4294967296 X.natAbs).length c4) wr ∧ Lies o4 (glim 4294967296 X.natAbs) wr ∧ Below w.heap.size w wr ∧ gy < wr.heap.size)
      case atStart =>
        obtain ⟨o7, c7, e7, L7, z7, q7⟩ := hC7
        simp only [Value.agg.injEq, Array.mk.injEq, List.cons.injEq, Value.slice.injEq, true_and, and_true] at e7
        obtain ⟨rfl, rfl⟩ := e7
        exact ⟨0, X, o4, c4, by omega, hid (by simp), rfl, rfl, kY7, L7, z7, by omega, kX7, L7, hB7, hz7⟩
      case round =>
        obtain ⟨i, Y, oy, cy, hti, hY, rfl, rfl, kY, LY, zY, qY, kX, LX, hB, hgr⟩ := hrel
        clear kY7 kX7 hC7 hB7 hz7 hW7 hB6
        have hY0 : Y ≠ 0 := by rw [hY.out]; exact Int.mul_ne_zero hX0 (Int.pow_ne_zero (by omega))
        have hYm : Y.natAbs < 4294967296 ^ 37 := by
          rw [hY.out, Int.natAbs_mul, Int.natAbs_pow]
          have h10 : (10 : Nat) ^ i < 4294967296 ^ 7 := Nat.lt_of_le_of_lt (Nat.pow_le_pow_right (by omega) (by omega : i ≤ 60)) (by decide)
          rw [show 37 = 30 + 7 from rfl, Nat.pow_add]
          exact Nat.mul_lt_mul'' hXm h10
        have hIY : IsC _ Y 128 wr := ⟨oy, cy, rfl, LY, zY, qY⟩
        have hgy : gy < wr.heap.size := hgr
        by_cases hik : i < kn
        · have hikz : (i : Int) < (kn : Int) := by omega
          have hmo : mulOk Y 10 = true := mulOk_of (a := 37) (b := 1) hYm (by decide) (by omega)
          have hD : Below wr.heap.size wr wr.drew := (Below.refl _ _).drew
          have hDA : Below wr.heap.size wr (wr.drew.alloc (.cells #[.bool false, .slice none 0 0] 25)) := hD.alloc (Nat.le_refl _) _
          have hNew : Box wr.heap.size (.bool false) (.slice none 0 0) (wr.drew.alloc (.cells #[.bool false, .slice none 0 0] 25)) := Box.new wr.drew _ _ _
          have hDz : wr.heap.size < (wr.drew.alloc (.cells #[.bool false, .slice none 0 0] 25)).heap.size := by rw [World.size_alloc]; exact Nat.lt_succ_self _
          obtain ⟨y1, y2, y3, y4⟩ := id kY
          go_wp2
          go_cut [10, 11] from 38 to 53 (fun p10 v11 wx => ∃ g o5 c5, p10 = .pointer (some ⟨g, 0, none⟩) ∧ v11 = .bool true ∧ Box g (.bool (decide (Y * 10 < 0))) (.slice o5 (glim 4294967296 (Y * 10).natAbs).length c5) wx ∧ Lies o5 (glim 4294967296 (Y * 10).natAbs) wx ∧ (glim 4294967296 (Y * 10).natAbs).length ≤ c5 ∧ (glim 4294967296 (Y * 10).natAbs).length ≤ 128 ∧ Below wr.heap.size wr wx)
          case first =>
            go_region_held3 (fun w' => w'.cell? ⟨gy, 0, none⟩ = some (.bool (decide (Y < 0))) ∧ w'.cell? ⟨gy, 1, none⟩ = some (.slice oy (glim 4294967296 Y.natAbs).length cy)) (first | (refine ⟨?_, ?_⟩ <;> (rw [World.cell?_setCell_other _ _ _ _ (by simp; try omega), World.cell?_setCell_other _ _ _ _ (by simp; try omega)]; assumption)) | go_keep) (first
                | (go_at_call 11
                   refine (of_w 10 _ (by omega) (by omega)).mono ?_
                   rintro e w3 ⟨v3, rfl, h3, b3'⟩
                   have b3 : Below wr.heap.size wr w3 := by first | exact below_and hD (Nat.le_refl _) b3' | exact below_and hDA (Nat.le_refl _) b3'
                   have hz3 := b3.size
                   have hN3 := (h3.mono (show 2 ≤ 128 by omega)).isN
                   have hIY3 := (hIY.below b3).isN
                   obtain ⟨g1, g2, g3, g4⟩ := kY.below b3 hgy
                   obtain ⟨o3, c3, rfl, _, _, _⟩ := h3
                   first
                     | (have kM3 : Box wr.heap.size (.bool false) (.slice none 0 0) w3 := Box.below hNew b3' hDz
                        have hz3' : wr.heap.size < w3.heap.size := Nat.lt_of_lt_of_le hDz b3'.size
                        obtain ⟨m1, m2, m3, m4⟩ := id kM3)
                     | skip)
                | (go_at_call 16
                   refine (mul_w _ _ Y 10 128 _ (by omega) (by first | exact hIY3 | exact hIY3.below ((Below.refl _ _).alloc (Nat.le_refl _) _)) (by first | exact hN3 | exact hN3.below ((Below.refl _ _).alloc (Nat.le_refl _) _))).mono ?_
                   rintro e w4 ⟨v4, rfl, h4, b4'⟩
                   rw [hmo] at h4 ⊢
                   rw [if_pos rfl] at h4
                   have b4 : Below w3.heap.size w3 w4 := by first | exact b4' | exact below_and ((Below.refl _ _).alloc (Nat.le_refl _) _) (Nat.le_refl _) b4'
                   have hB4 := below_and b3 (Nat.le_refl _) b4
                   have hz4 := b4.size
                   obtain ⟨o5, c5, rfl, L5, z5, q5⟩ := h4
                   obtain ⟨g11, g12, g13, g14⟩ := Box.below ⟨g1, g2, g3, g4⟩ b4 (by omega)
                   first
                     | (have kM4 : Box wr.heap.size (.bool false) (.slice none 0 0) w4 := kM3.below b4 (by omega)
                        obtain ⟨m11, m12, m13, m14⟩ := id kM4)
                     | (have kM4 : Box w3.heap.size (.bool false) (.slice none 0 0) w4 := Box.below (Box.new w3 _ _ 25) b4' (by simp)
                        obtain ⟨m11, m12, m13, m14⟩ := id kM4)
                     | skip))
            all_goals (go_wp2_with fail; go_meet)
            all_goals first
              | exact ⟨_, o5, c5, rfl, rfl, Box.new _ _ _ _, L5.below ((Below.refl _ _).alloc (Nat.le_refl _) _), z5, q5, hB4.alloc hB4.size _⟩
              | exact ⟨_, o5, c5, rfl, rfl, kM4.put, L5.box kM4 _ _, z5, q5, (hB4.setCell (p := ⟨_, 0, none⟩) (by simp; try omega) _).setCell (p := ⟨_, 1, none⟩) (by simp; try omega) _⟩
          case rest =>
            obtain ⟨g, o5, c5, rfl, rfl, kM, L5, z5, q5, hBc⟩ := hcut
            have kYc := kY.below hBc hgy
            have kXc := kX.below hBc (by omega)
            have LXc := LX.below hBc
            have hsc := hBc.size
            have hBw := below_and hB (Nat.le_refl _) hBc
            clear y1 y2 y3 y4 hNew hD hDA
            obtain ⟨y1, y2, y3, y4⟩ := id kYc
            obtain ⟨m1, m2, m3, m4⟩ := id kM
            have htl : ¬ 9223372036854775807 < (txt Y).length + 1 := by
              have := txt_len hYm; omega
            go_wp2
            go_roundg (gk - 1)
            case measure => omega
            case rel =>
              refine ⟨i + 1, Y * 10, o5, c5, by omega, hid ?_, by go_num, ?_, kYc.put, L5.box kYc _ _, z5, q5, kXc.far (by omega), LXc.box kYc _ _, (hBw.setCell (p := ⟨gy, 0, none⟩) (by simp; omega) _).setCell (p := ⟨gy, 1, none⟩) (by simp; omega) _, by simp; omega⟩
              · rw [hY.out, Int.pow_succ, Int.mul_assoc]
              · rw [txt_ten hY0]
                congr 1
        · have hik' : i = kn := by omega
          subst hik'
          have hikz : ¬ (i : Int) < (i : Int) := by omega
          obtain ⟨y1, y2, y3, y4⟩ := id kY
          go_wp2_with fail
          refine (text_w _ Y 128 _ (by omega) hIY.isN).mono ?_
          rintro e w8 ⟨rfl, b8⟩
          have kY8 := kY.below b8 hgy
          have kX8 := kX.below b8 (by omega)
          have LY8 := LY.below b8
          have LX8 := LX.below b8
          have hB8 := below_and hB (Nat.le_refl _) b8
          have hs8 := b8.size
          clear y1 y2 y3 y4 kY kX LY LX b8 hIY
          go_wp2
          go_loopg [12] i (fun t iv wr => ∃ (j : Nat) (Y : Int) (oy : Option Addr) (cy : Nat), t + j = i ∧ Hid (Y = X * 10 ^ t) ∧ iv = .int .i64 (j : Int) ∧ Box gy (.bool (decide (Y < 0))) (.slice oy (glim 4294967296 Y.natAbs).length cy) wr ∧ Lies oy (glim 4294967296 Y.natAbs) wr ∧ (glim 4294967296 Y.natAbs).length ≤ cy ∧ (glim 4294967296 Y.natAbs).length ≤ 128 ∧ Box gx (.bool (decide (X < 0))) (.slice o4 (glim 4294967296 X.natAbs).length c4) wr ∧ Lies o4 (glim 4294967296 X.natAbs) wr ∧ Below w.heap.size w wr ∧ gy < wr.heap.size)
          case atStart => exact ⟨0, Y, oy, cy, by omega, hid hY.out, rfl, kY8, LY8, zY, qY, kX8, LX8, hB8, by omega⟩
          case round =>
            clear kY8 kX8 LY8 LX8 hB8 hY hY0 hYm zY qY hgy hgr hB
            obtain ⟨j, Y2, oy2, cy2, hti2, hY2, rfl, kY, LY, zY, qY, kX, LX, hB, hgr⟩ := hrel
            have hIY : IsC _ Y2 128 _ := ⟨oy2, cy2, rfl, LY, zY, qY⟩
            by_cases hj : j < i
            · have hjz : (j : Int) < (i : Int) := by omega
              obtain ⟨t, rfl⟩ : ∃ t, gk = t + 1 := ⟨gk - 1, by omega⟩
              obtain ⟨Q, hQ⟩ : ∃ Q, X * 10 ^ t = Q := ⟨_, rfl⟩
              have hYQ : Y2 = Q * 10 := by rw [hY2.out, ← hQ, Int.pow_succ, Int.mul_assoc]
              have hdq : Y2.tdiv 10 = Q := by rw [hYQ]; exact Int.mul_tdiv_cancel _ (by omega)
              have hdr : (if (10 : Int) = 0 then 0 else Y2.tmod 10) = 0 := by rw [if_neg (by omega), hYQ]; exact Int.mul_tmod_left _ _
              have hQ' := hid hQ
              clear hQ hYQ hY2
              obtain ⟨y1, y2, y3, y4⟩ := id kY
              have hD0 : Below wr.heap.size wr wr.drew := (Below.refl _ _).drew
              have hD1 : Below wr.heap.size wr (wr.drew.alloc (.cells #[.bool false, .slice none 0 0] 25)) := hD0.alloc (Nat.le_refl _) _
              have hD2 : Below wr.heap.size wr ((wr.drew.alloc (.cells #[.bool false, .slice none 0 0] 25)).alloc (.cells #[.bool false, .slice none 0 0] 25)) := hD1.alloc hD1.size _
              obtain ⟨hE1, hE2, _, hE3⟩ := boxes2 wr.drew (.bool false) (.slice none 0 0) (.bool false) (.slice none 0 0) 25 25
              have hE0 := Box.new wr.drew (.bool false) (.slice none 0 0) 25
              have hE4 : (wr.drew.alloc (.cells #[.bool false, .slice none 0 0] 25)).heap.size = wr.drew.heap.size + 1 := by simp
              have hDz1 : wr.heap.size < (wr.drew.alloc (.cells #[.bool false, .slice none 0 0] 25)).heap.size := by rw [hE4]; exact Nat.lt_succ_self _
              have hDz2 : wr.heap.size + 1 < ((wr.drew.alloc (.cells #[.bool false, .slice none 0 0] 25)).alloc (.cells #[.bool false, .slice none 0 0] 25)).heap.size := by rw [hE3]; exact Nat.lt_succ_self _
              go_wp2
              go_cut [13, 14, 15] from 58 to 78 (fun p13 p14 v15 wx => ∃ ga gb oq cq od cd, p13 = .pointer (some ⟨ga, 0, none⟩) ∧ p14 = .pointer (some ⟨gb, 0, none⟩) ∧ v15 = .bool true ∧ Box ga (.bool (decide (Q < 0))) (.slice oq (glim 4294967296 Q.natAbs).length cq) wx ∧ Box gb (.bool false) (.slice od 0 cd) wx ∧ Lies oq (glim 4294967296 Q.natAbs) wx ∧ (glim 4294967296 Q.natAbs).length ≤ cq ∧ (glim 4294967296 Q.natAbs).length ≤ 128 ∧ Below wr.heap.size wr wx)
              case first =>
                go_region_held3 (fun w' => w'.cell? ⟨gy, 0, none⟩ = some (.bool (decide (Y2 < 0))) ∧ w'.cell? ⟨gy, 1, none⟩ = some (.slice oy2 (glim 4294967296 Y2.natAbs).length cy2)) (first | go_keep | (refine ⟨?_, ?_⟩ <;> ((repeat (first | rw [cell_alloc_lt _ _ _ (by first | (simp; done) | (simp; omega))] | rw [World.cell?_setCell_other _ _ _ _ (by first | (simp; done) | (simp; omega))])); assumption))) (first
                    | (go_at_call 11
                       refine (of_w 10 _ (by omega) (by omega)).mono ?_
                       rintro e w3 ⟨v3, rfl, h3, b3'⟩
                       have b3 : Below wr.heap.size wr w3 := by first | exact below_and hD0 (Nat.le_refl _) b3' | exact below_and hD1 (Nat.le_refl _) b3' | exact below_and hD2 (Nat.le_refl _) b3'
                       have hz3 := b3.size
                       have hN3 := (h3.mono (show 2 ≤ 128 by omega)).isN
                       have hIY3 := (hIY.below b3).isN
                       obtain ⟨g1, g2, g3, g4⟩ := kY.below b3 hgr
                       obtain ⟨o3, c3, rfl, _, _, _⟩ := h3
                       first
                         | (have k1 : Box wr.heap.size (.bool false) (.slice none 0 0) w3 := Box.below hE1 b3' (Nat.lt_of_succ_lt hDz2)
                            have k2 : Box (wr.heap.size + 1) (.bool false) (.slice none 0 0) w3 := Box.below hE2 b3' hDz2
                            have hz3' : wr.heap.size + 1 < w3.heap.size := Nat.lt_of_lt_of_le hDz2 b3'.size
                            obtain ⟨m1, m2, m3, m4⟩ := id k1
                            obtain ⟨m5, m6, m7, m8⟩ := id k2)
                         | (have k1 : Box wr.heap.size (.bool false) (.slice none 0 0) w3 := Box.below hE0 b3' hDz1
                            have hz3' : wr.heap.size < w3.heap.size := Nat.lt_of_lt_of_le hDz1 b3'.size
                            obtain ⟨m1, m2, m3, m4⟩ := id k1)
                         | skip)
                    | (go_at_call 10
                       refine (div_w _ _ Y2 10 128 _ (by omega) (by omega) (by first | exact hIY3 | exact hIY3.below ((Below.refl _ _).alloc (Nat.le_refl _) _) | exact hIY3.below (((Below.refl _ _).alloc (Nat.le_refl _) _).alloc (by simp) _)) (by first | exact hN3 | exact hN3.below ((Below.refl _ _).alloc (Nat.le_refl _) _) | exact hN3.below (((Below.refl _ _).alloc (Nat.le_refl _) _).alloc (by simp) _))).mono ?_
                       rintro e w4 ⟨v4, v5, rfl, h4, h5, b4'⟩
                       rw [hdq] at h4
                       rw [hdr] at h5
                       have b4 : Below w3.heap.size w3 w4 := by first | exact b4' | exact below_and ((Below.refl _ _).alloc (Nat.le_refl _) _) (Nat.le_refl _) b4' | exact below_and (((Below.refl _ _).alloc (Nat.le_refl _) _).alloc (by simp) _) (Nat.le_refl _) b4'
                       have hB4 := below_and b3 (Nat.le_refl _) b4
                       have hz4 := b4.size
                       obtain ⟨oq, cq, rfl, Lq, zq, qq⟩ := h4
                       obtain ⟨od, cd, rfl, Ld, zd, qd⟩ := h5
                       obtain ⟨g11, g12, g13, g14⟩ := Box.below ⟨g1, g2, g3, g4⟩ b4 (by omega)
                       have hd10 : decide ((10 : Int) ≠ 0) = true := by decide
                       have hg0 : (glim 4294967296 (0 : Int).natAbs).length = 0 := by simp [glim_zero]
                       rw [hd10, hg0]
                       first
                         | (have k1' : Box wr.heap.size (.bool false) (.slice none 0 0) w4 := k1.below b4 (by omega)
                            have lk1 : wr.heap.size < w4.heap.size := World.block_lt_of_cell? _ _ k1'.1
                            have k2' : Box (wr.heap.size + 1) (.bool false) (.slice none 0 0) w4 := k2.below b4 (by omega)
                            have lk2 : (wr.heap.size + 1) < w4.heap.size := World.block_lt_of_cell? _ _ k2'.1
                            obtain ⟨n1, n2, n3, n4⟩ := id k1'
                            obtain ⟨n5, n6, n7, n8⟩ := id k2')
                         | (have k1' : Box wr.heap.size (.bool false) (.slice none 0 0) w4 := k1.below b4 (by omega)
                            have lk1 : wr.heap.size < w4.heap.size := World.block_lt_of_cell? _ _ k1'.1
                            have k2' : Box w3.heap.size (.bool false) (.slice none 0 0) w4 := Box.below (Box.new w3 _ _ 25) b4' (by simp)
                            have lk2 : w3.heap.size < w4.heap.size := World.block_lt_of_cell? _ _ k2'.1
                            obtain ⟨n1, n2, n3, n4⟩ := id k1'
                            obtain ⟨n5, n6, n7, n8⟩ := id k2')
                         | (have k1' : Box wr.heap.size (.bool false) (.slice none 0 0) w4 := k1.below b4 (by omega)
                            have lk1 : wr.heap.size < w4.heap.size := World.block_lt_of_cell? _ _ k1'.1
                            obtain ⟨n1, n2, n3, n4⟩ := id k1')
                         | (have k1' : Box w3.heap.size (.bool false) (.slice none 0 0) w4 := Box.below (boxes2 w3 _ _ _ _ 25 25).1 b4' (by first | (simp; done) | (simp; omega))
                            have lk1 : w3.heap.size < w4.heap.size := World.block_lt_of_cell? _ _ k1'.1
                            have k2' : Box (w3.heap.size + 1) (.bool false) (.slice none 0 0) w4 := Box.below (boxes2 w3 _ _ _ _ 25 25).2.1 b4' (by first | (simp; done) | (simp; omega))
                            have lk2 : (w3.heap.size + 1) < w4.heap.size := World.block_lt_of_cell? _ _ k2'.1
                            obtain ⟨n1, n2, n3, n4⟩ := id k1'
                            obtain ⟨n5, n6, n7, n8⟩ := id k2')
                         | (have k1' : Box w3.heap.size (.bool false) (.slice none 0 0) w4 := Box.below (Box.new w3 _ _ 25) b4' (by simp)
                            have lk1 : w3.heap.size < w4.heap.size := World.block_lt_of_cell? _ _ k1'.1
                            obtain ⟨n1, n2, n3, n4⟩ := id k1')
                         | skip))
                all_goals (go_wp2_with fail; go_meet)
                all_goals first
                  | (have hh := endA1 (q0 := .bool (decide (Q < 0))) (q1 := .slice oq (glim 4294967296 Q.natAbs).length cq) (r0 := .bool false) (r1 := .slice od 0 cd) (t := 25) (u := 25) hB4 hB4.size Lq; obtain ⟨e1, e2, e3, e4⟩ := hh; with_reducible exact ⟨_, _, oq, cq, od, cd, rfl, rfl, rfl, e1, e2, e3, zq, qq, e4⟩)
                  | (have hh := endA2 (q0 := .bool (decide (Q < 0))) (q1 := .slice oq (glim 4294967296 Q.natAbs).length cq) (r0 := .bool false) (r1 := .slice od 0 cd) (t := 25) (u := 25) hB4 hB4.size Lq; obtain ⟨e1, e2, e3, e4⟩ := hh; with_reducible exact ⟨_, _, oq, cq, od, cd, rfl, rfl, rfl, e1, e2, e3, zq, qq, e4⟩)
                  | (have hh := endB1 (q0 := .bool (decide (Q < 0))) (q1 := .slice oq (glim 4294967296 Q.natAbs).length cq) (r0 := .bool false) (r1 := .slice od 0 cd) (t := 25) hB4 hB4.size Lq k1' (by omega); obtain ⟨e1, e2, e3, e4⟩ := hh; with_reducible exact ⟨_, _, oq, cq, od, cd, rfl, rfl, rfl, e1, e2, e3, zq, qq, e4⟩)
                  | (have hh := endB2 (q0 := .bool (decide (Q < 0))) (q1 := .slice oq (glim 4294967296 Q.natAbs).length cq) (r0 := .bool false) (r1 := .slice od 0 cd) (t := 25) hB4 hB4.size Lq k1' (by omega); obtain ⟨e1, e2, e3, e4⟩ := hh; with_reducible exact ⟨_, _, oq, cq, od, cd, rfl, rfl, rfl, e1, e2, e3, zq, qq, e4⟩)
                  | (have hh := endC (q0 := .bool (decide (Q < 0))) (q1 := .slice oq (glim 4294967296 Q.natAbs).length cq) (r0 := .bool false) (r1 := .slice od 0 cd) hB4 Lq k1' k2' (by omega) (by omega) (by omega); obtain ⟨e1, e2, e3, e4⟩ := hh; with_reducible exact ⟨_, _, oq, cq, od, cd, rfl, rfl, rfl, e1, e2, e3, zq, qq, e4⟩)
                  | (have hh := endC (q0 := .bool (decide (Q < 0))) (q1 := .slice oq (glim 4294967296 Q.natAbs).length cq) (r0 := .bool false) (r1 := .slice od 0 cd) hB4 Lq k2' k1' (by omega) (by omega) (by omega); obtain ⟨e1, e2, e3, e4⟩ := hh; with_reducible exact ⟨_, _, oq, cq, od, cd, rfl, rfl, rfl, e1, e2, e3, zq, qq, e4⟩)
              case rest =>
                obtain ⟨ga, gb, oq, cq, od, cd, rfl, rfl, rfl, kQ, kR, Lq, zq, qq, hBc⟩ := hcut
                have kYc := kY.below hBc hgr
                have kXc := kX.below hBc (by omega)
                have LXc := LX.below hBc
                have hsc := hBc.size
                have hBw := below_and hB (Nat.le_refl _) hBc
                clear y1 y2 y3 y4 hD0 hD1 hD2 hE0 hE1 hE2 hE3 hE4 hDz1 hDz2
                obtain ⟨y1, y2, y3, y4⟩ := id kYc
                obtain ⟨m1, m2, m3, m4⟩ := id kQ
                obtain ⟨m5, m6, m7, m8⟩ := id kR
                go_wp2
                go_roundg t
                case measure => omega
                case rel =>
                  exact ⟨j + 1, Q, oq, cq, by omega, hid hQ'.out.symm, by go_num, kYc.put, Lq.box kYc _ _, zq, qq, kXc.far (by omega), LXc.box kYc _ _, (hBw.setCell (p := ⟨gy, 0, none⟩) (by simp; omega) _).setCell (p := ⟨gy, 1, none⟩) (by simp; omega) _, by simp; omega⟩
            · have hjz : ¬ (j : Int) < (i : Int) := by omega
              have hYX : Y2 = X := by rw [hY2.out, show gk = 0 by omega]; simp
              subst hYX
              obtain ⟨y1, y2, y3, y4⟩ := id kY
              obtain ⟨x1, x2, x3, x4⟩ := id kX
              have hIX : IsC _ Y2 128 _ := ⟨o4, c4, rfl, LX, z4, by omega⟩
              clear hY2
              go_wp2_with fail
              refine (Compare_w _ _ Y2 Y2 128 _ (by omega) hIX.isN hIY.isN).mono ?_
              rintro e w9 ⟨rfl, b9⟩
              rw [cmpZ_eq]
              go_wp2
              go_ret
              exact ⟨rfl, below_and hB (Nat.le_refl _) b9⟩
  · have h30 : (30 : Int) < (l.length : Int) := by omega
    go_wp2
    go_ret
    exact ⟨rfl, hB1⟩
end Go.Proofs.Ytccogdlmlegmbaa.bigPowers
