/- SmallOf of the reference. -/
import Derived.Test.YtccogdlmlegmbaaBigSmall2
import Derived.Test.YtccogdlmlegmbaaBigRSub
namespace Go.Proofs.Ytccogdlmlegmbaa
open Go.ChangeShapes Go.WideShapes Go.ChangeAt Go.RowKit
set_option linter.unusedSimpArgs false
set_option linter.unusedVariables false
theorem gval_drop {A : List Nat} {m x : Nat} (h : A[m]? = some x) : gval 4294967296 (A.drop m) = gval 4294967296 (A.drop (m + 1)) * 4294967296 + x := by
  have hm : m < A.length := (List.getElem?_eq_some_iff.1 h).1
  rw [List.drop_eq_getElem_cons hm, (List.getElem?_eq_some_iff.1 h).2]
  show x + 4294967296 * gval 4294967296 (A.drop (m + 1)) = _
  rw [Nat.mul_comm, Nat.add_comm]
theorem drop_lt {A : List Nat} (h : Lm 4294967296 A) (m : Nat) (hm : A.length ≤ m + 1) : gval 4294967296 (A.drop m) < 4294967296 := by
  have h1 := gval_lt (h.drop m)
  have h2 : (A.drop m).length ≤ 1 := by rw [List.length_drop]; omega
  have h3 : (4294967296 : Nat) ^ (A.drop m).length ≤ 4294967296 ^ 1 := Nat.pow_le_pow_right (by decide) h2
  omega
theorem w_shl {u : Nat} (h : u < 4294967296) : IntKind.u64.wrap ((u : Int) * 4294967296) = ((u * 4294967296 : Nat) : Int) := by rw [IntKind.wrap_u64]; omega
theorem w_x {x : Nat} (h : x < 4294967296) : IntKind.u64.wrap (x : Int) = (x : Int) := by rw [IntKind.wrap_u64]; omega
set_option maxRecDepth 4000 in
set_option maxHeartbeats 1000000 in
theorem rsmall_w (v : Value) (Z : Int) (K : Nat) (w : World) (hK : K ≤ 1000000) (h : IsN v Z K w) :
    Calls Try.prog 20 #[v] w fun e w' => e = .returned (.tuple #[.int .i64 (smlN Z), .bool (smlB Z)]) ∧ Below w.heap.size w w' := by
  obtain ⟨RN, hRN⟩ : ∃ RN, smlN Z = RN := ⟨_, rfl⟩
  obtain ⟨RB, hRB⟩ : ∃ RB, smlB Z = RB := ⟨_, rfl⟩
  rw [hRN, hRB]
  have HRN := hid (And.intro hRN hRB)
  clear hRN hRB
  have hA : ∀ w', Below w.heap.size w w' → IsN v Z K w' := fun w' hw => h.below hw
  obtain ⟨neg, o, l, c, rfl, hL, hc, hm, hs, hk⟩ := h
  clear hL hc hm hs hk
  have kA := Box.new w (.bool neg) (.slice o l.length c) 34
  have hB0 : Below w.heap.size w (w.alloc (.cells #[.bool neg, .slice o l.length c] 34)) := (Below.refl _ w).alloc (Nat.le_refl _) _
  have hz0 : (w.alloc (.cells #[.bool neg, .slice o l.length c] 34)).heap.size = w.heap.size + 1 := by simp
  go_enter Try.func20, Try.ntmps20
  go_wp2_with fail
  generalize (w.alloc (.cells #[.bool neg, .slice o l.length c] 34)) = W0 at *
  refine (rnorm_w _ Z K _ hK (hA _ hB0)).mono ?_
  rintro e w1 ⟨s1, rfl, hF1, q1, b1⟩
  obtain ⟨o1, c1, rfl, L1, z1, _⟩ := hF1.parts
  have hB1 := below_and hB0 (Nat.le_refl _) b1
  have kA1 := kA.below b1 (by omega)
  obtain ⟨p1, p2, p3, p4⟩ := id kA1
  clear b1 hA kA hF1
  by_cases hl2 : (glim 4294967296 Z.natAbs).length ≤ 2
  case neg =>
    obtain ⟨hn2, hb2⟩ := HRN.out
    rw [(sml_long hl2).2] at hn2
    rw [(sml_long hl2).1] at hb2
    subst hn2; subst hb2
    have hl2z : (2 : Int) < ((glim 4294967296 Z.natAbs).length : Int) := by omega
    have hB2 := (hB1.setCell (p := ⟨w.heap.size, 0, none⟩) (Nat.le_refl _) (.bool (decide (Z < 0)))).setCell (p := ⟨w.heap.size, 1, none⟩) (Nat.le_refl _) (.slice o1 (glim 4294967296 Z.natAbs).length c1)
    clear hl2 HRN
    go_wp2
    go_ret2
    exact ⟨rfl, hB2⟩
  have hm := lm_glim (b := 4294967296) (by omega) Z.natAbs
  have hv := gval_glim (b := 4294967296) (by omega) Z.natAbs
  have hl2z : ¬ (2 : Int) < ((glim 4294967296 Z.natAbs).length : Int) := by omega
  obtain ⟨nz, hnz⟩ : ∃ nz, decide (Z < 0) = nz := ⟨_, rfl⟩
  rw [hnz]
  have hnz' := hid hnz
  have hv' := hid hv
  clear hnz hv
  have L1b := L1.box kA1 (.bool nz) (.slice o1 (glim 4294967296 Z.natAbs).length c1)
  generalize glim 4294967296 Z.natAbs = A at *
  have kA2 : Box w.heap.size (.bool nz) (.slice o1 A.length c1) ((w1.setCell ⟨w.heap.size, 0, none⟩ (.bool nz)).setCell ⟨w.heap.size, 1, none⟩ (.slice o1 A.length c1)) := kA1.put
  have hB2 := (hB1.setCell (p := ⟨w.heap.size, 0, none⟩) (Nat.le_refl _) (.bool nz)).setCell (p := ⟨w.heap.size, 1, none⟩) (Nat.le_refl _) (.slice o1 A.length c1)
  go_wp2
  generalize ((w1.setCell ⟨w.heap.size, 0, none⟩ (.bool nz)).setCell ⟨w.heap.size, 1, none⟩ (.slice o1 A.length c1)) = W2 at *
  clear L1 p1 p2 p3 p4 kA1 hB1
  go_loopw [4, 5] (fun sv iv wr => ∃ (k s : Nat), sv = .int .u64 (s : Int) ∧ iv = .int .i64 ((k : Int) - 1) ∧ k ≤ A.length ∧ wr = W2 ∧ Hid (s = gval 4294967296 (A.drop k)) ∧ s < 18446744073709551616) (fun _ iv _ => (intOf iv + 1).toNat)
  case atStart => exact ⟨A.length, 0, rfl, by go_num, by omega, rfl, hid (by simp [gval]), by omega⟩
  case round =>
    obtain ⟨k, s, rfl, rfl, hk, rfl, hs, hsm⟩ := hrel
    obtain ⟨f1, f2, f3, f4⟩ := id kA2
    by_cases h0 : k = 0
    · subst h0
      have hsZ : s = Z.natAbs := by rw [hs.out, List.drop_zero, hv'.out]
      have hnzv := hnz'.out
      obtain ⟨hn2, hb2⟩ := HRN.out
      by_cases hgt : 576460752303423488 < (s : Int)
      · have hgtd : decide (576460752303423488 < (s : Int)) = true := by simp [hgt]
        have hy := sml_no (Z := Z) (by omega)
        rw [hy.2] at hn2
        rw [hy.1] at hb2
        subst hn2; subst hb2
        clear hs hnzv hnz' hv' hsZ HRN hy
        go_wp2
        go_ret2
        exact ⟨rfl, hB2⟩
      · have hgtd : decide (576460752303423488 < (s : Int)) = false := by simp; omega
        have hle : (s : Int) ≤ 576460752303423488 := by omega
        have w1 := wr1 hle
        have w2 := wr2 hle
        cases nz with
        | true =>
          have hZn : Z < 0 := by simpa using hnzv
          have hy := sml_yes (Z := Z) (by omega) (by omega)
          rw [hy.2] at hn2
          rw [hy.1] at hb2
          have Hr : Hid (-(s : Int) = RN) := hid (by omega)
          subst hb2
          by_cases heq : (s : Int) = 576460752303423488
          · have heqd : ((s : Int) == 576460752303423488) = true := by simp [heq]
            clear hs hnzv hnz' hv' hsZ hZn hn2 HRN hy heq hgt
            go_wp2
            go_ret2
            exact ⟨by rw [← Hr.out]; first | rfl | simp [w2], hB2⟩
          · have heqd : ((s : Int) == 576460752303423488) = false := by simp [heq]
            clear hs hnzv hnz' hv' hsZ hZn hn2 HRN hy heq hgt
            go_wp2
            go_ret2
            exact ⟨by rw [← Hr.out]; first | rfl | simp [w2], hB2⟩
        | false =>
          have hZn : ¬ Z < 0 := by simpa using hnzv
          by_cases heq : (s : Int) = 576460752303423488
          · have heqd : ((s : Int) == 576460752303423488) = true := by simp [heq]
            have hy := sml_no (Z := Z) (by omega)
            rw [hy.2] at hn2
            rw [hy.1] at hb2
            subst hn2; subst hb2
            clear hs hnzv hnz' hv' hsZ hZn HRN hy heq hgt
            go_wp2
            go_ret2
            exact ⟨rfl, hB2⟩
          · have heqd : ((s : Int) == 576460752303423488) = false := by simp [heq]
            have hy := sml_yes (Z := Z) (by omega) (by omega)
            rw [hy.2] at hn2
            rw [hy.1] at hb2
            have Hr : Hid ((s : Int) = RN) := hid (by omega)
            subst hb2
            clear hs hnzv hnz' hv' hsZ hZn hn2 HRN hy heq hgt
            go_wp2
            go_ret2
            exact ⟨by rw [← Hr.out]; first | rfl | simp [w1], hB2⟩
    · obtain ⟨m, rfl⟩ : ∃ m, k = m + 1 := ⟨k - 1, by omega⟩
      obtain ⟨x, hx⟩ : ∃ x, A[m]? = some x := ⟨A[m]'(by omega), by simp⟩
      obtain ⟨a, rfl, cx⟩ := L1b m x hx
      have hxm := hm.at hx
      have hst := gval_drop hx
      rw [← hs.out] at hst
      have hs32 : s < 4294967296 := by rw [hs.out]; exact drop_lt hm (m + 1) (by omega)
      have e1 : (((m + 1 : Nat) : Int) - 1) = (m : Int) := by omega
      have hml : (m : Int) < (A.length : Int) := by omega
      have w1 := w_shl hs32
      have w0 := w_x hxm
      obtain ⟨rb, hrb⟩ : ∃ rb, s * 4294967296 = rb := ⟨_, rfl⟩
      have w2 := or32 (r := s) (x := x) (by omega) hxm
      obtain ⟨t, ht⟩ : ∃ t, s * 4294967296 + x = t := ⟨_, rfl⟩
      rw [ht] at w2 hst
      rw [hrb] at w1 w2
      have hst' := hid hst
      have htm : t < 18446744073709551616 := by omega
      clear hst hrb ht hx
      go_wp2
      go_roundw
      case rel => exact ⟨m, t, rfl, by go_num, by omega, by first | rfl | trivial, hid hst'.out.symm, htm⟩
      case measure => simp [intOf]; try omega
end Go.Proofs.Ytccogdlmlegmbaa
