/- Texts of mine, one behind the other: BigDivA, BigSmall2, BigRSmall. -/
import Derived.Test.YtpdoepjnkgffpaaDoorTermBigA
namespace Go.Proofs.YtpdoepjnkgffpaaDoor
open Go.ChangeShapes Go.WideShapes Go.ChangeAt Go.RowKit
set_option linter.unusedSimpArgs false
set_option linter.unusedVariables false
set_option maxRecDepth 2000
theorem or_low {s c y : Nat} (hc : c < 2 ^ s) (hy : y % 2 ^ s = 0) (hs : c + y < 18446744073709551616) : bits .or .u64 (c : Int) (y : Int) = ((c + y : Nat) : Int) := by
  rw [u64_or_nat c y (by omega) (by omega), Nat.or_comm, nat_join s y c hy hc, Nat.add_comm]
theorem pow32 {s : Nat} (hs : s < 32) : 1 ≤ 2 ^ s ∧ 2 ^ s ≤ 2147483648 := by
  refine ⟨Nat.pow_pos (by omega), ?_⟩
  have := Nat.pow_le_pow_right (n := 2) (by omega) (by omega : s ≤ 31)
  simpa using this
/-- one place of a shift -/
theorem raise_step {Q S T c x t P : Nat} (ht : c + x * P = t) (h : S + Q * c = T * P) : S + Q * (t % 4294967296) + Q * 4294967296 * (t / 4294967296) = (T + Q * x) * P := by
  have e2 : Q * t = Q * (t % 4294967296) + Q * 4294967296 * (t / 4294967296) := by
    rw [Nat.mul_assoc, ← Nat.mul_add, Nat.mod_add_div]
  have e : Q * t = Q * c + Q * (x * P) := by rw [← ht, Nat.mul_add]
  rw [Nat.add_mul, Nat.mul_assoc Q x P]; omega
/-- one place of a shift down -/
theorem lower_step {x y P G Gt : Nat} (hP : 0 < P) (hx : x < 4294967296) (hB : 4294967296 % P = 0) (hG : G = y + 4294967296 * Gt) : (x + 4294967296 * G) / P = ((y * 4294967296 + x) / P) % 4294967296 + 4294967296 * (G / P) := by
  obtain ⟨b, hb⟩ : ∃ b, 4294967296 = P * b := ⟨4294967296 / P, by have := Nat.div_add_mod 4294967296 P; omega⟩
  have hGP : G % P = y % P := by
    rw [hG, hb, Nat.mul_assoc, Nat.add_mul_mod_self_left]
  have h1 : (x + 4294967296 * G) / P = (x + 4294967296 * (y % P)) / P + 4294967296 * (G / P) := by
    have e : x + 4294967296 * G = (x + 4294967296 * (y % P)) + P * (4294967296 * (G / P)) := by
      have := Nat.div_add_mod G P
      rw [hGP] at this
      have e2 : 4294967296 * G = 4294967296 * (P * (G / P)) + 4294967296 * (y % P) := by rw [← Nat.mul_add, this]
      have e3 : 4294967296 * (P * (G / P)) = P * (4294967296 * (G / P)) := Nat.mul_left_comm _ _ _
      omega
    rw [e, Nat.add_mul_div_left _ _ hP]
  have h2 : ((y * 4294967296 + x) / P) % 4294967296 = (x + 4294967296 * (y % P)) / P := by
    have e : y * 4294967296 + x = (x + 4294967296 * (y % P)) + P * (4294967296 * (y / P)) := by
      have := Nat.div_add_mod y P
      have e2 : 4294967296 * y = 4294967296 * (P * (y / P)) + 4294967296 * (y % P) := by rw [← Nat.mul_add, this]
      have e3 : 4294967296 * (P * (y / P)) = P * (4294967296 * (y / P)) := Nat.mul_left_comm _ _ _
      omega
    rw [e, Nat.add_mul_div_left _ _ hP, Nat.add_mul_mod_self_left]
    refine Nat.mod_eq_of_lt ?_
    rw [Nat.div_lt_iff_lt_mul hP]
    have := Nat.mod_lt y hP
    have h3 : 4294967296 * (y % P + 1) ≤ 4294967296 * P := Nat.mul_le_mul_left _ this
    omega
  rw [h1, h2]
theorem pow_mod32 {s : Nat} (hs : s < 32) : 4294967296 % 2 ^ s = 0 := by
  have e : 4294967296 = 2 ^ s * 2 ^ (32 - s) := by rw [← Nat.pow_add]; rw [show s + (32 - s) = 32 by omega]
  rw [e]; exact Nat.mul_mod_right _ _
end Go.Proofs.YtpdoepjnkgffpaaDoor
namespace Go.Proofs.YtpdoepjnkgffpaaDoor
open Go.ChangeShapes Go.WideShapes Go.ChangeAt Go.RowKit
set_option linter.unusedSimpArgs false
set_option linter.unusedVariables false
set_option maxRecDepth 2000
/-- is it small, and which -/
def smlB (Z : Int) : Bool := decide (-576460752303423488 ≤ Z) && decide (Z < 576460752303423488)
def smlN (Z : Int) : Int := if smlB Z then Z else 0
theorem sml_yes {Z : Int} (h0 : -576460752303423488 ≤ Z) (h1 : Z < 576460752303423488) : smlB Z = true ∧ smlN Z = Z := by
  have : smlB Z = true := by simp [smlB, h0, h1]
  exact ⟨this, by simp [smlN, this]⟩
theorem sml_no {Z : Int} (h : ¬ (-576460752303423488 ≤ Z ∧ Z < 576460752303423488)) : smlB Z = false ∧ smlN Z = 0 := by
  have : smlB Z = false := by
    simp only [smlB, Bool.and_eq_false_iff, decide_eq_false_iff_not]
    omega
  exact ⟨this, by simp [smlN, this]⟩
theorem sml_long {Z : Int} (h : ¬ (glim 4294967296 Z.natAbs).length ≤ 2) : smlB Z = false ∧ smlN Z = 0 := by
  refine sml_no (fun e => h ((glim_len (by omega) _ _).2 ?_))
  omega
theorem wr1 {s : Nat} (h : (s : Int) ≤ 576460752303423488) : IntKind.i64.wrap (s : Int) = (s : Int) := by rw [IntKind.wrap_i64]; omega
theorem wr2 {s : Nat} (h : (s : Int) ≤ 576460752303423488) : IntKind.i64.wrap (-(s : Int)) = -(s : Int) := by rw [IntKind.wrap_i64]; omega
set_option maxRecDepth 4000 in
set_option maxHeartbeats 1000000 in
theorem small_w (v : Value) (Z : Int) (K : Nat) (w : World) (hK : K ≤ 1000000) (h : IsN v Z K w) :
    Calls Tryd.prog 82 #[v] w fun e w' => e = .returned (.tuple #[.int .i64 (smlN Z), .bool (smlB Z)]) ∧ Below w.heap.size w w' := by
  obtain ⟨RN, hRN⟩ : ∃ RN, smlN Z = RN := ⟨_, rfl⟩
  obtain ⟨RB, hRB⟩ : ∃ RB, smlB Z = RB := ⟨_, rfl⟩
  rw [hRN, hRB]
  have HRN := hid (And.intro hRN hRB)
  clear hRN hRB
  have hA : ∀ w', Below w.heap.size w w' → IsN v Z K w' := fun w' hw => h.below hw
  obtain ⟨neg, o, l, c, rfl, hL, hc, hm, hs, hk⟩ := h
  clear hL hc hm hs hk
  have kA := Box.new w (.bool neg) (.slice o l.length c) 72
  have hB0 : Below w.heap.size w (w.alloc (.cells #[.bool neg, .slice o l.length c] 72)) := (Below.refl _ w).alloc (Nat.le_refl _) _
  have hz0 : (w.alloc (.cells #[.bool neg, .slice o l.length c] 72)).heap.size = w.heap.size + 1 := by simp
  go_enter Tryd.func82, Tryd.ntmps82
  go_wp2_with fail
  generalize (w.alloc (.cells #[.bool neg, .slice o l.length c] 72)) = W0 at *
  refine (view_w _ Z K _ hK (hA _ hB0)).mono ?_
  rintro e w1 ⟨v1, rfl, hv1, b1⟩
  obtain ⟨o1, c1, rfl, L1, z1, q1⟩ := hv1 w (hA w (Below.refl _ _))
  have hB1 := below_and hB0 (Nat.le_refl _) b1
  have kA1 := kA.below b1 (by omega)
  obtain ⟨p1, p2, p3, p4⟩ := id kA1
  clear b1 hA kA hv1
  by_cases hl2 : (glim 4294967296 Z.natAbs).length ≤ 2
  case neg =>
    obtain ⟨hn2, hb2⟩ := HRN.out
    rw [(sml_long hl2).2] at hn2
    rw [(sml_long hl2).1] at hb2
    subst hn2; subst hb2
    have hl2z : (2 : Int) < ((glim 4294967296 Z.natAbs).length : Int) := by omega
    have hB2 := (hB1.setCell (p := ⟨w.heap.size, 0, none⟩) (Nat.le_refl _) (.bool (decide (Z < 0)))).setCell (p := ⟨w.heap.size, 1, none⟩) (Nat.le_refl _) (.slice o1 (glim 4294967296 Z.natAbs).length c1)
    clear hl2 HRN
    go_wp2
    go_ret2
    exact ⟨rfl, hB2⟩
  have hm := lm_glim (b := 4294967296) (by omega) Z.natAbs
  have hv := gval_glim (b := 4294967296) (by omega) Z.natAbs
  have hl2z : ¬ (2 : Int) < ((glim 4294967296 Z.natAbs).length : Int) := by omega
  obtain ⟨nz, hnz⟩ : ∃ nz, decide (Z < 0) = nz := ⟨_, rfl⟩
  rw [hnz]
  have hnz' := hid hnz
  have hv' := hid hv
  clear hnz hv
  generalize glim 4294967296 Z.natAbs = A at *
  have kA2 : Box w.heap.size (.bool nz) (.slice o1 A.length c1) ((w1.setCell ⟨w.heap.size, 0, none⟩ (.bool nz)).setCell ⟨w.heap.size, 1, none⟩ (.slice o1 A.length c1)) := kA1.put
  have hB2 := (hB1.setCell (p := ⟨w.heap.size, 0, none⟩) (Nat.le_refl _) (.bool nz)).setCell (p := ⟨w.heap.size, 1, none⟩) (Nat.le_refl _) (.slice o1 A.length c1)
  have L2 := L1.below hB2
  go_wp2
  generalize ((w1.setCell ⟨w.heap.size, 0, none⟩ (.bool nz)).setCell ⟨w.heap.size, 1, none⟩ (.slice o1 A.length c1)) = W2 at *
  go_loopw [4, 16] (fun sv iv wr => ∃ (k s : Nat), sv = .int .u64 (s : Int) ∧ iv = .int .i64 (k : Int) ∧ k ≤ A.length ∧ wr = W2 ∧ Hid (s = gval 4294967296 (A.take k)) ∧ s < 18446744073709551616) (fun _ iv _ => A.length - (intOf iv).toNat)
  case atStart => exact ⟨0, 0, rfl, rfl, by omega, rfl, hid (by simp [gval]), by omega⟩
  case round =>
    obtain ⟨k, s, rfl, rfl, hk, rfl, hs, hsm⟩ := hrel
    by_cases h1 : k < A.length
    · obtain ⟨x, hx⟩ : ∃ x, A[k]? = some x := ⟨A[k], by simp [h1]⟩
      obtain ⟨a, rfl, cx⟩ := L2 k x hx
      have hxm := hm.at hx
      have hst := gval_take_succ 4294967296 hx
      rw [← hs.out] at hst
      have hst' := hid hst
      clear hst
      have hk01 : k = 0 ∨ k = 1 := by omega
      rcases hk01 with rfl | rfl
      · have hs0 : s = 0 := by rw [hs.out]; simp [gval]
        subst hs0
        have h1z : (0 : Int) < (A.length : Int) := by omega
        have cx0 : wr.cell? a = some (.int .u32 (x : Int)) := by simpa [Addr.add] using cx
        have w2 : bits .or .u64 (0 : Int) (x : Int) = (x : Int) := by
          have := or_low (s := 0) (c := 0) (y := x) (by omega) (by omega) (by omega)
          simpa using this
        have w3 : IntKind.u64.wrap (x : Int) = (x : Int) := by rw [IntKind.wrap_u64]; omega
        clear cx
        go_wp2
        go_roundw
        case rel => exact ⟨1, x, rfl, by go_num, by omega, by first | rfl | trivial, hid (by rw [show (1 : Nat) = 0 + 1 from rfl, hst'.out]; simp), by omega⟩
        case measure => simp [intOf]; try omega
      · have h1z : (1 : Int) < (A.length : Int) := by omega
        obtain ⟨xb, hxb⟩ : ∃ xb, x * 4294967296 = xb := ⟨_, rfl⟩
        obtain ⟨t, ht⟩ : ∃ t, s + xb = t := ⟨_, rfl⟩
        have hs32 : s < 4294967296 := by
          rw [hs.out]
          have := gval_lt (hm.take 1)
          rw [List.length_take, Nat.min_eq_left (by omega)] at this
          simpa using this
        have w1 : IntKind.u64.wrap ((x : Int) * 4294967296) = (xb : Int) := by rw [IntKind.wrap_u64]; omega
        have w2 : bits .or .u64 (s : Int) (xb : Int) = (t : Int) := by
          rw [or_low (s := 32) (by omega) (by omega) (by omega), ht]
        have htg : Hid (t = gval 4294967296 (A.take 2)) := hid (by rw [show (2 : Nat) = 1 + 1 from rfl, hst'.out, Nat.pow_one, Nat.mul_comm]; omega)
        have cx1 : wr.cell? { block := a.block, off := a.off + 1, spot := none } = some (.int .u32 (x : Int)) := by simpa [Addr.add] using cx
        clear hxb ht
        go_wp2
        go_roundw
        case rel => exact ⟨2, t, rfl, by go_num, by omega, by first | rfl | trivial, htg, by rw [htg.out]; have := gval_lt (hm.take 2); rw [List.length_take, Nat.min_eq_left (by omega)] at this; omega⟩
        case measure => simp [intOf]; try omega
    · have h1z : ¬ (k : Int) < (A.length : Int) := by omega
      have hsZ : s = Z.natAbs := by rw [hs.out, List.take_of_length_le (by omega), hv'.out]
      obtain ⟨f1, f2, f3, f4⟩ := id kA2
      have hnzv := hnz'.out
      obtain ⟨hn2, hb2⟩ := HRN.out
      cases nz with
      | true =>
        have hZn : Z < 0 := by simpa using hnzv
        by_cases hle : (s : Int) ≤ 576460752303423488
        · have hled : decide ((s : Int) ≤ 576460752303423488) = true := by simp [hle]
          have hy := sml_yes (Z := Z) (by omega) (by omega)
          rw [hy.2] at hn2
          rw [hy.1] at hb2
          have w1 := wr1 hle
          have w2 := wr2 hle
          have Hr : Hid (-(s : Int) = RN) := hid (by omega)
          subst hb2
          clear hs hnzv hnz' hv' hsZ hZn hn2 HRN hy
          go_wp2
          go_ret2
          exact ⟨by rw [← Hr.out]; first | rfl | simp [w2], hB2⟩
        · have hled : decide ((s : Int) ≤ 576460752303423488) = false := by simp; omega
          have hy := sml_no (Z := Z) (by omega)
          rw [hy.2] at hn2
          rw [hy.1] at hb2
          subst hn2; subst hb2
          clear hs hnzv hnz' hv' hsZ hZn HRN hy
          go_wp2
          go_ret2
          exact ⟨rfl, hB2⟩
      | false =>
        have hZn : ¬ Z < 0 := by simpa using hnzv
        by_cases hlt : (s : Int) < 576460752303423488
        · have hltd : decide ((s : Int) < 576460752303423488) = true := by simp [hlt]
          have hy := sml_yes (Z := Z) (by omega) (by omega)
          rw [hy.2] at hn2
          rw [hy.1] at hb2
          have w1 := wr1 (Int.le_of_lt hlt)
          have Hr : Hid ((s : Int) = RN) := hid (by omega)
          subst hb2
          clear hs hnzv hnz' hv' hsZ hZn hn2 HRN hy
          go_wp2
          go_ret2
          exact ⟨by rw [← Hr.out]; first | rfl | simp [w1], hB2⟩
        · have hltd : decide ((s : Int) < 576460752303423488) = false := by simp; omega
          have hy := sml_no (Z := Z) (by omega)
          rw [hy.2] at hn2
          rw [hy.1] at hb2
          subst hn2; subst hb2
          clear hs hnzv hnz' hv' hsZ hZn HRN hy
          go_wp2
          go_ret2
          exact ⟨rfl, hB2⟩
end Go.Proofs.YtpdoepjnkgffpaaDoor
namespace Go.Proofs.YtpdoepjnkgffpaaDoor
open Go.ChangeShapes Go.WideShapes Go.ChangeAt Go.RowKit
set_option linter.unusedSimpArgs false
set_option linter.unusedVariables false
set_option maxRecDepth 2000
theorem gval_drop {A : List Nat} {m x : Nat} (h : A[m]? = some x) : gval 4294967296 (A.drop m) = gval 4294967296 (A.drop (m + 1)) * 4294967296 + x := by
  have hm : m < A.length := (List.getElem?_eq_some_iff.1 h).1
  rw [List.drop_eq_getElem_cons hm, (List.getElem?_eq_some_iff.1 h).2]
  show x + 4294967296 * gval 4294967296 (A.drop (m + 1)) = _
  rw [Nat.mul_comm, Nat.add_comm]
theorem drop_lt {A : List Nat} (h : Lm 4294967296 A) (m : Nat) (hm : A.length ≤ m + 1) : gval 4294967296 (A.drop m) < 4294967296 := by
  have h1 := gval_lt (h.drop m)
  have h2 : (A.drop m).length ≤ 1 := by rw [List.length_drop]; omega
  have h3 : (4294967296 : Nat) ^ (A.drop m).length ≤ 4294967296 ^ 1 := Nat.pow_le_pow_right (by decide) h2
  omega
theorem w_shl {u : Nat} (h : u < 4294967296) : IntKind.u64.wrap ((u : Int) * 4294967296) = ((u * 4294967296 : Nat) : Int) := by rw [IntKind.wrap_u64]; omega
theorem w_x {x : Nat} (h : x < 4294967296) : IntKind.u64.wrap (x : Int) = (x : Int) := by rw [IntKind.wrap_u64]; omega
end Go.Proofs.YtpdoepjnkgffpaaDoor
