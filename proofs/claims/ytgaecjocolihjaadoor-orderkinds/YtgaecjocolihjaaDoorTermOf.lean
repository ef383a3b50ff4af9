/- Of of package term, of a number; Fits of the reference. -/
import Derived.Test.YtgaecjocolihjaaDoorTermAwake
import Derived.Test.YtgaecjocolihjaaDoorBigSame
import Derived.Test.YtgaecjocolihjaaDoorTermBigA
namespace Go.Proofs.YtgaecjocolihjaaDoor
open Go.ChangeShapes Go.WideShapes Go.ChangeAt Go.RowKit Go.Shelf
set_option linter.unusedSimpArgs false
set_option linter.unusedVariables false
theorem tv_intN {Z : Int} {w : World} {v : Value} {K : Nat} (h : TV (Low w) w (intT Z) v) (hK : (glim 4294967296 Z.natAbs).length ≤ K) : ∃ z m od cd ol cl ob cb, v = tmV 0 z (.slice od m cd) noS 0 (.slice ol 0 cl) (.slice ob 0 cb) ∧ ∀ w', Below w.heap.size w w' → IsN (.agg #[.bool z, .slice od m cd]) Z K w' := by
  unfold intT TV at h
  obtain ⟨od, cd, ol, cl, ob, cb, rfl, h1, h2, h3, h4, h5, h6, h7⟩ := h
  exact ⟨_, _, od, cd, ol, cl, ob, cb, rfl, fun w' hb => ⟨_, od, _, cd, rfl, (h1.zs (fun k hk => hb.block k hk)).lies, h2, h3, sv_int Z, hK⟩⟩
theorem rnorm_c (v : Value) (Z : Int) (K : Nat) (w : World) (hK : K ≤ 1000000) (h : IsN v Z K w) :
    Calls Tryd.prog 38 #[v] w fun e w' => ∃ b o n c, e = .returned (.agg #[.bool b, .slice o n c]) ∧ IsC (.agg #[.bool b, .slice o n c]) Z K w' ∧ Below w.heap.size w w' := by
  refine (rnorm_w v Z K w hK h).mono ?_
  rintro e w' ⟨sl, rfl, hF, hKK, hb⟩
  obtain ⟨o1, c1, rfl, _, _, _⟩ := hF.parts
  exact ⟨_, _, _, _, rfl, hF.isC hKK, hb⟩
theorem ofInt_c (n : Int) (w : World) (h0 : -9223372036854775808 ≤ n) (h1 : n < 9223372036854775808) :
    Calls Tryd.prog 26 #[.int .i64 n] w fun e w' => ∃ b o m c, e = .returned (.agg #[.bool b, .slice o m c]) ∧ IsC (.agg #[.bool b, .slice o m c]) n 2 w' ∧ Below w.heap.size w w' := by
  refine (ofInt_w n w h0 h1).mono ?_
  rintro e w' ⟨v', rfl, hC, hb⟩
  obtain ⟨b, o, m, c, rfl⟩ := hC.shape
  exact ⟨_, _, _, _, rfl, hC, hb⟩
theorem len2 {N : Int} (h0 : -9223372036854775808 ≤ N) (h1 : N < 9223372036854775808) : (glim 4294967296 N.natAbs).length ≤ 2 := (glim_len (by omega) _ _).2 (by omega)
theorem words_sml (Z : Int) : (((wordsN (intT Z) : Nat) : Int) == 0) = smlB Z := by
  rw [words_int]
  cases smlB Z with
  | true => rfl
  | false =>
    simp only [Bool.false_eq_true, if_false]
    rw [beq_eq_false_iff_ne]
    omega
end Go.Proofs.YtgaecjocolihjaaDoor
