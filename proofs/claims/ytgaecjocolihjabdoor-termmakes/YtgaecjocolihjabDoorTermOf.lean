/- Of of package term, of a number; Fits of the reference. -/
import Derived.Test.YtgaecjocolihjabDoorTermAwake
import Derived.Test.YtgaecjocolihjabDoorBigSame
import Derived.Test.YtgaecjocolihjabDoorTermBigA
namespace Go.Proofs.YtgaecjocolihjabDoor
open Go.ChangeShapes Go.WideShapes Go.ChangeAt Go.RowKit Go.Shelf
set_option linter.unusedSimpArgs false
set_option linter.unusedVariables false
theorem tv_intN {Z : Int} {w : World} {v : Value} {K : Nat} (h : TV (Low w) w (intT Z) v) (hK : (glim 4294967296 Z.natAbs).length ≤ K) : ∃ z m od cd ol cl ob cb, v = tmV 0 z (.slice od m cd) noS 0 (.slice ol 0 cl) (.slice ob 0 cb) ∧ ∀ w', Below w.heap.size w w' → IsN (.agg #[.bool z, .slice od m cd]) Z K w' := by
  unfold intT TV at h
  obtain ⟨od, cd, ol, cl, ob, cb, rfl, h1, h2, h3, h4, h5, h6, h7⟩ := h
  exact ⟨_, _, od, cd, ol, cl, ob, cb, rfl, fun w' hb => ⟨_, od, _, cd, rfl, (h1.zs (fun k hk => hb.block k hk)).lies, h2, h3, sv_int Z, hK⟩⟩
set_option maxHeartbeats 1000000 in
theorem Of_w (Z : Int) (K : Nat) (zb : Bool) (m : Nat) (od : Option Addr) (cd : Nat) (ol ob : Option Addr) (ll cl lb cb : Nat) (nm : ByteArray) (n : Int) (w : World) (hK : K ≤ 1000000) (hN : ∀ w', Below w.heap.size w w' → IsN (.agg #[.bool zb, .slice od m cd]) Z K w') :
    Calls Tryd.prog 9 #[tmV 0 zb (.slice od m cd) nm n (.slice ol ll cl) (.slice ob lb cb)] w fun e w' => ∃ b o n c, e = .returned (.tuple #[.agg #[.bool b, .slice o n c], .bool true]) ∧ IsC (.agg #[.bool b, .slice o n c]) Z K w' ∧ Below w.heap.size w w' := by
  obtain ⟨kA, kB, hB0, hz0⟩ := bx72 w (.int .i64 0) (.bool zb) (.slice od m cd) (.string nm) (.int .i64 n) (.slice ol ll cl) (.slice ob lb cb) (.bool false) nilS 30 34
  go_enter Tryd.func9, Tryd.ntmps9
  go_wp2_with fail
  generalize ((w.alloc (.cells #[.int .i64 0, .bool zb, .slice od m cd, .string nm, .int .i64 n, .slice ol ll cl, .slice ob lb cb] 30)).alloc (.cells #[.bool false, .slice none 0 0] 34)) = W0 at *
  refine (number_w 0 zb od m cd nm n ol ll cl ob lb cb _).mono ?_
  rintro e w1 ⟨rfl, b1⟩
  have hB1 := below_and hB0 (by omega) b1
  have kB1 := kB.below b1 (by omega)
  have hz1 := b1.size
  go_wp2_with fail
  refine (norm_w _ Z K _ hK (hN _ hB1)).mono ?_
  rintro e w2 ⟨sl, rfl, hF, hKK, b2⟩
  have hB2 := below_and hB1 (by omega) b2
  have kB2 := kB1.below b2 (by omega)
  have hz2 := b2.size
  obtain ⟨yb, hyb⟩ : ∃ yb, decide (Z < 0) = yb := ⟨_, rfl⟩
  rw [hyb]
  have hF2 := (hF.set (p := ⟨w.heap.size + 1, 0, none⟩) (by show w.heap.size + 1 < _; omega) (.bool yb)).set (p := ⟨w.heap.size + 1, 1, none⟩) (by show w.heap.size + 1 < _; omega) sl
  obtain ⟨o1, c1, rfl, _, _, _⟩ := hF.parts
  have hC := hF2.isC hKK
  rw [hyb] at hC
  clear hyb
  generalize (glim 4294967296 Z.natAbs).length = q at *
  have hHC := hid hC
  have hBf := (hB2.setCell (p := ⟨w.heap.size + 1, 0, none⟩) (by simp) (.bool yb)).setCell (p := ⟨w.heap.size + 1, 1, none⟩) (by simp) (.slice o1 q c1)
  obtain ⟨g1, g2, g3, g4⟩ := id kB2
  obtain ⟨r1, r2, r3, r4⟩ := id (show Box (w.heap.size + 1) (.bool yb) (.slice o1 q c1) ((w2.setCell ⟨w.heap.size + 1, 0, none⟩ (.bool yb)).setCell ⟨w.heap.size + 1, 1, none⟩ (.slice o1 q c1)) from kB2.put)
  clear hF hF2 hC kB2 kB1 kB kA hN
  go_wp2
  exact bodyPost_ret (v := .tuple #[.agg #[.bool yb, .slice o1 q c1], .bool true]) (by simp [results, Tryd.results9, go_sem, r1, r2]) rfl ⟨_, _, _, _, rfl, hHC.out, hBf⟩
theorem rnorm_c (v : Value) (Z : Int) (K : Nat) (w : World) (hK : K ≤ 1000000) (h : IsN v Z K w) :
    Calls Tryd.prog 17 #[v] w fun e w' => ∃ b o n c, e = .returned (.agg #[.bool b, .slice o n c]) ∧ IsC (.agg #[.bool b, .slice o n c]) Z K w' ∧ Below w.heap.size w w' := by
  refine (rnorm_w v Z K w hK h).mono ?_
  rintro e w' ⟨sl, rfl, hF, hKK, hb⟩
  obtain ⟨o1, c1, rfl, _, _, _⟩ := hF.parts
  exact ⟨_, _, _, _, rfl, hF.isC hKK, hb⟩
theorem len2 {N : Int} (h0 : -9223372036854775808 ≤ N) (h1 : N < 9223372036854775808) : (glim 4294967296 N.natAbs).length ≤ 2 := (glim_len (by omega) _ _).2 (by omega)
theorem words_sml (Z : Int) : (((wordsN (intT Z) : Nat) : Int) == 0) = smlB Z := by
  rw [words_int]
  cases smlB Z with
  | true => rfl
  | false =>
    simp only [Bool.false_eq_true, if_false]
    rw [beq_eq_false_iff_ne]
    omega
end Go.Proofs.YtgaecjocolihjabDoor
