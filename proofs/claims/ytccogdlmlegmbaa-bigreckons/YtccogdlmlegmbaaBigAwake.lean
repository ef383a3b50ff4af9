/- awake, and what else the laws share. -/
import Derived.Test.YtccogdlmlegmbaaBigDivE
import Derived.Test.YtccogdlmlegmbaaBigRNorm
import Derived.ChangeMaps5
namespace Go.Proofs.Ytccogdlmlegmbaa
open Go.ChangeShapes Go.WideShapes Go.ChangeAt Go.ChangeMaps Go.RowKit
set_option linter.unusedSimpArgs false
set_option linter.unusedVariables false
theorem ln_le {Z : Int} {k : Nat} (h : Z.natAbs < 4294967296 ^ k) : ln Z ≤ k := (glim_len (by omega) _ _).2 h
theorem mulOk_of {X Y : Int} {a b : Nat} (hx : X.natAbs < 4294967296 ^ a) (hy : Y.natAbs < 4294967296 ^ b) (h : a + b ≤ 128) : mulOk X Y = true := by
  have h1 := ln_le hx
  have h2 := ln_le hy
  have h3 : ln (X * Y) ≤ a + b := ln_le (by
    rw [Int.natAbs_mul, Nat.pow_add]
    exact Nat.mul_lt_mul'' hx hy)
  unfold mulOk; simp; omega
theorem txt_word : txt (4294967296 * 4294967296) = [49, 56, 52, 52, 54, 55, 52, 52, 48, 55, 51, 55, 48, 57, 53, 53, 49, 54, 49, 54] := by
  have h := glim_canon (b := 10) (by omega) (l := [6, 1, 6, 1, 5, 5, 9, 0, 7, 3, 7, 0, 4, 4, 7, 6, 4, 4, 8, 1]) (by intro x hx; revert x; decide) (by intro x hx; simp at hx; omega)
  have e : gval 10 [6, 1, 6, 1, 5, 5, 9, 0, 7, 3, 7, 0, 4, 4, 7, 6, 4, 4, 8, 1] = 18446744073709551616 := by decide
  rw [e] at h
  unfold txt txtN
  rw [if_neg (by decide), show (4294967296 * 4294967296 : Int).natAbs = 18446744073709551616 from rfl, h]
  decide
set_option maxHeartbeats 1000000 in
theorem awake_w (w : World) : Calls Try.prog 9 #[] w fun e w' => e = .returned (.bool true) ∧ Below w.heap.size w w' := by
  have hmo : mulOk 4294967296 4294967296 = true := mulOk_of (a := 2) (b := 2) (by decide) (by decide) (by omega)
  go_enter Try.func9, Try.ntmps9
  go_wp2_with fail
  refine (of_w 4294967296 _ (by omega) (by omega)).mono ?_
  rintro e w1 ⟨v1, rfl, h1, b1⟩
  go_wp2_with fail
  refine (of_w 4294967296 _ (by omega) (by omega)).mono ?_
  rintro e w2 ⟨v2, rfl, h2, b2⟩
  go_wp2_with fail
  refine (mul_w v1 v2 4294967296 4294967296 2 _ (by omega) (h1.isN.below b2) h2.isN).mono ?_
  rintro e w3 ⟨v3, rfl, h3, b3⟩
  rw [hmo] at h3 ⊢
  rw [if_pos rfl] at h3
  have B3 := below_and (below_and b1 (Nat.le_refl _) b2) (Nat.le_refl _) b3
  have hN3 := h3.isN
  obtain ⟨o, c, rfl, _, _, _⟩ := h3
  have hbA : Below w3.heap.size w3 (w3.alloc (.cells #[.bool (decide ((4294967296 * 4294967296 : Int) < 0)), .slice o (glim 4294967296 (4294967296 * 4294967296 : Int).natAbs).length c] 25)) := (Below.refl _ _).alloc (Nat.le_refl _) _
  obtain ⟨nl, hnl⟩ : ∃ nl, (glim 4294967296 (4294967296 * 4294967296 : Int).natAbs).length = nl := ⟨_, rfl⟩
  obtain ⟨ng, hng⟩ : ∃ ng, decide ((4294967296 * 4294967296 : Int) < 0) = ng := ⟨_, rfl⟩
  rw [hnl, hng] at hN3 hbA ⊢
  clear hnl hng
  go_wp2_with fail
  refine (text_w _ (4294967296 * 4294967296) 128 _ (by omega) (hN3.below hbA)).mono ?_
  rintro e w4 ⟨rfl, b4⟩
  rw [txt_word]
  go_wp2
  go_ret
  exact ⟨rfl, below_and (below_and B3 (Nat.le_refl _) hbA) (Nat.le_refl _) b4⟩
end Go.Proofs.Ytccogdlmlegmbaa
