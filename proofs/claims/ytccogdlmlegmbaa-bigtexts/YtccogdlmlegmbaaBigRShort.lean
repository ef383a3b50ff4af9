/- short, digits at base 10, NumText of the reference. -/
import Derived.Test.YtccogdlmlegmbaaBigOrd
import Derived.Test.YtccogdlmlegmbaaBigRPlus
import Derived.Laws.Concat
namespace Go.Proofs.Ytccogdlmlegmbaa
open Go.ChangeShapes Go.WideShapes Go.ChangeAt Go.RowKit
set_option linter.unusedSimpArgs false
set_option linter.unusedVariables false
set_option maxHeartbeats 1000000 in
theorem short_w (o : Option Addr) (c d : Nat) (l : List Nat) (w : World) (hd0 : 0 < d) (hd : d < 4294967296) (hl : Lm 4294967296 l) (hlen : l.length ≤ 1000000) (hO : Lies o l w) :
    Calls Try.prog 48 #[.slice o l.length c, .int .u64 (d : Int)] w fun e w' => ∃ sl, e = .returned (.tuple #[sl, .int .u64 ((gval 4294967296 l % d : Nat) : Int)]) ∧ Fr w.heap.size sl (glim 4294967296 (gval 4294967296 l / d)) w' ∧ Below w.heap.size w w' := by
  obtain ⟨R, hR⟩ : ∃ R, gval 4294967296 l % d = R := ⟨_, rfl⟩
  obtain ⟨G, hG⟩ : ∃ G, gval 4294967296 l / d = G := ⟨_, rfl⟩
  rw [hR, hG]
  have hR' := hid hR
  have hG' := hid hG
  clear hR hG
  have hmk := run_make_row' (P := Try.prog) 23 63 (.int .u32 0) 4 Try.underlying23 info32u rfl .i64 .i64 l.length (by omega) (by omega) w
  have hOwn := Own.made l.length w
  have hB1 : Below w.heap.size w (w.alloc (.cells (madeCells #[.int .u32 0] l.length) 63)) := (Below.refl _ w).alloc (Nat.le_refl _) _
  have hg1 : w.heap.size < (w.alloc (.cells (madeCells #[.int .u32 0] l.length) 63)).heap.size := by simp
  go_enter Try.func48, Try.ntmps48
  go_wp2
  generalize w.alloc (.cells (madeCells #[.int .u32 0] l.length) 63) = W1 at *
  clear hmk
  go_loopw [7, 8] (fun rv i wr => ∃ (k r : Nat) (L : List Nat), rv = .int .u64 (r : Int) ∧ i = .int .i64 ((k : Int) - 1) ∧ k ≤ l.length ∧ r < d ∧ Own w.heap.size L wr ∧ w.heap.size < wr.heap.size ∧ L.length = l.length ∧ Lm 4294967296 L ∧ Below w.heap.size w wr ∧ Hid (gval 4294967296 (L.drop k) * d + r = gval 4294967296 (l.drop k))) (fun _ i _ => (intOf i + 1).toNat)
  case atStart => exact ⟨l.length, 0, _, rfl, by go_num, Nat.le_refl _, hd0, hOwn, hg1, by simp, Lm.replicate (by omega) _, hB1, hid (by simp [gval])⟩
  case round =>
    obtain ⟨k, r, L, rfl, rfl, hk, hr, hL, hg, hLl, hLm, hbw, hH⟩ := hrel
    clear hOwn hB1 hg1
    by_cases h0 : k = 0
    · subst h0
      have hh := hH.out
      simp only [List.drop_zero] at hh
      have e1 : gval 4294967296 L = G := by
        rw [← hG'.out, ← hh, Nat.add_comm, Nat.add_mul_div_right _ _ hd0, Nat.div_eq_of_lt hr]; omega
      have e2 : R = r := by rw [← hR'.out, ← hh, Nat.add_comm, Nat.add_mul_mod_self_right, Nat.mod_eq_of_lt hr]
      have hN := own_isN (K := 1000000) false hL hLm e1 (by omega)
      rw [hLl] at hN
      subst e2
      have hfd := field34
      clear hh hH hR' hG' e1
      go_wp2_with fail
      refine (rnorm_w _ (sv false G) 1000000 _ (by omega) hN).mono ?_
      rintro e w4 ⟨s4, rfl, hF4, hk4, b4⟩
      have en : (sv false G).natAbs = G := by simp [sv]
      rw [en] at hF4
      have hF5 := hF4.mono hbw.size
      obtain ⟨o4, c4, rfl, _, _, _⟩ := hF4.parts
      have hBw := below_and hbw (Nat.le_refl _) b4
      clear en
      go_wp2
      exact bodyPost_ret (v := .tuple #[.slice o4 (glim 4294967296 G).length c4, .int .u64 (R : Int)]) (by simp [results, Try.results48, go_sem]) rfl ⟨_, rfl, hF5, hBw⟩
    · obtain ⟨j, rfl⟩ : ∃ j, k = j + 1 := ⟨k - 1, by omega⟩
      obtain ⟨x, hx⟩ : ∃ x, l[j]? = some x := ⟨l[j]'(by omega), by simp⟩
      obtain ⟨a, rfl, cx⟩ := (hO.below hbw) j x hx
      have cL := hL.1 j (L[j]'(by omega)) (by simp)
      have fx := hL.2 j
      have hxm := hl.at hx
      have e1 : (((j + 1 : Nat) : Int) - 1) = (j : Int) := by omega
      have hjl : (j : Int) < (l.length : Int) := by omega
      obtain ⟨cur, hcur⟩ : ∃ cur, r * 4294967296 + x = cur := ⟨_, rfl⟩
      obtain ⟨rb, hrb⟩ : ∃ rb, r * 4294967296 = rb := ⟨_, rfl⟩
      have w0 : IntKind.u64.wrap (x : Int) = (x : Int) := by rw [IntKind.wrap_u64]; omega
      have w1 : IntKind.u64.wrap ((r : Int) * 4294967296) = (rb : Int) := by rw [IntKind.wrap_u64]; omega
      have w2 : bits .or .u64 (rb : Int) (x : Int) = (cur : Int) := by
        have := or32 (r := r) (x := x) (by omega) hxm
        rw [hrb] at this
        rw [this, ← hcur, hrb]
      have hq : cur / d < 4294967296 := by
        rw [Nat.div_lt_iff_lt_mul hd0, ← hcur]
        have : (r + 1) * 4294967296 ≤ d * 4294967296 := Nat.mul_le_mul_right _ hr
        rw [Nat.mul_comm d] at this
        omega
      have hdz : ((d : Int) == 0) = false := by simp; omega
      have hdn : ¬ (d : Int) = 0 := by omega
      obtain ⟨Q, hQ⟩ : ∃ Q, cur / d = Q := ⟨_, rfl⟩
      obtain ⟨r2, hr2⟩ : ∃ r2, cur % d = r2 := ⟨_, rfl⟩
      have hr2d : r2 < d := by rw [← hr2]; exact Nat.mod_lt _ hd0
      rw [hQ] at hq
      have w3 : IntKind.u64.wrap ((cur : Int) / (d : Int)) = (Q : Int) := by
        rw [show (cur : Int) / (d : Int) = (Q : Int) by rw [← hQ]; exact (Int.natCast_ediv cur d).symm, IntKind.wrap_u64]; omega
      have w4 : IntKind.u32.wrap (Q : Int) = (Q : Int) := by rw [IntKind.wrap_u32]; omega
      have w5 : (cur : Int) % (d : Int) = (r2 : Int) := by rw [← hr2]; exact (Int.natCast_emod cur d).symm
      have hdm : Hid (Q * d + r2 = r * 4294967296 + x) := hid (by rw [← hQ, ← hr2, hcur, Nat.mul_comm]; exact Nat.div_add_mod cur d)
      clear hQ hr2
      have hc1 := hid hcur
      have hc2 := hid hrb
      clear hcur hrb
      rw [e1]
      go_wp2
      go_roundw
      case rel =>
        refine ⟨j, r2, L.set j Q, by rw [w5], by go_num, by omega, hr2d, hL.set _ (by omega), by simpa using hg, by simp [hLl], hLm.set _ _ hq, hbw.setCell (Nat.le_refl _) _, hid ?_⟩
        rw [gval_drop_set _ _ (by omega), gval_drop_at _ hx]
        exact shrink_step hdm.out hH.out
      case measure => simp [intOf]; try omega
theorem app_mk (x y : Array UInt8) : (⟨x⟩ : ByteArray) ++ ⟨y⟩ = ⟨x ++ y⟩ := by
  apply ByteArray.ext; simp
theorem digits10 : ∀ k : Fin 10, ((⟨#[48, 49, 50, 51, 52, 53, 54, 55, 56, 57, 97, 98, 99, 100, 101, 102]⟩ : ByteArray).extract k.val (k.val + 1)) = ⟨#[UInt8.ofNat (48 + k.val)]⟩ := by decide +kernel
theorem slice10 (q : Nat) (hq : q < 10) (w : World) : (Instr.slice 9 (.string ⟨#[48, 49, 50, 51, 52, 53, 54, 55, 56, 57, 97, 98, 99, 100, 101, 102]⟩) (some (.int .u64 (q : Int))) (some (.int .u64 ((q : Int) + 1))) none).run Try.prog w = .ok (.string ⟨#[UInt8.ofNat (48 + q)]⟩) w := by
  have h := run_slice_string (P := Try.prog) w 9 ⟨#[48, 49, 50, 51, 52, 53, 54, 55, 56, 57, 97, 98, 99, 100, 101, 102]⟩ .u64 .u64 (q : Int) ((q : Int) + 1) Try.underlying9 (by omega) (by omega) (by show (q : Int) + 1 ≤ 16; omega)
  rw [show ((q : Int)).toNat = q by omega, show ((q : Int) + 1).toNat = q + 1 by omega] at h
  have hd := digits10 ⟨q, hq⟩
  simp only [] at hd
  rw [hd] at h
  exact h
set_option maxHeartbeats 1000000 in
theorem digits10_w (r : Nat) (hr : r < 10) (w : World) :
    Calls Try.prog 49 #[.int .u64 (r : Int), .int .u64 10] w fun e w' => e = .returned (.string ⟨#[UInt8.ofNat (48 + r)]⟩) ∧ Below w.heap.size w w' := by
  have hsl := slice10 r hr
  obtain ⟨ch, hch⟩ : ∃ ch, UInt8.ofNat (48 + r) = ch := ⟨_, rfl⟩
  rw [hch] at hsl ⊢
  clear hch
  go_enter Try.func49, Try.ntmps49
  go_wp2
  go_loopw [0, 5] (fun n s wr => Below w.heap.size w wr ∧ n = .int .u64 (r : Int) ∧ s = .string ⟨#[]⟩) (fun n _ _ => (intOf n).toNat)
  case atStart => exact ⟨Below.refl _ _, rfl, rfl⟩
  case round =>
    obtain ⟨hbw, rfl, rfl⟩ := hrel
    have hm : ((r : Int)) % 10 = (r : Int) := by omega
    have hm' : ((r : Int)).tmod 10 = (r : Int) := by rw [Int.tmod_eq_emod_of_nonneg (by omega)]; omega
    have hw : IntKind.u64.wrap ((r : Int) + 1) = (r : Int) + 1 := by rw [IntKind.wrap_u64]; omega
    have hdv : ((r : Int)).tdiv 10 = 0 := by rw [Int.tdiv_eq_ediv_of_nonneg (by omega)]; omega
    have hdv' : ((r : Int)) / 10 = 0 := by omega
    go_wp2
    go_quiet (fail)
    go_wp2
    go_ret
    refine ⟨?_, below_drewNv hbw _⟩
    show Ending.returned (Value.string _) = _
    rw [app_mk]; rfl
theorem glim_step {m : Nat} (h : 0 < m) : glim 10 m = m % 10 :: glim 10 (m / 10) := glim_pos (by omega) h
/-- the bytes of digits, lowest first, as they are written -/
def dtx (ds : List Nat) : List UInt8 := ((ds.map fun d => 48 + d).reverse).map UInt8.ofNat
theorem dtx_snoc (ds : List Nat) (r : Nat) : dtx (ds ++ [r]) = UInt8.ofNat (48 + r) :: dtx ds := by
  unfold dtx; simp
theorem dtx_len (ds : List Nat) : (dtx ds).length = ds.length := by unfold dtx; simp
theorem txt_pos {Z : Int} (h : Z ≠ 0) : txt Z = (if Z < 0 then [45] else []) ++ dtx (glim 10 Z.natAbs) := by
  unfold txt txtN dtx
  rw [if_neg h]
  by_cases hz : Z < 0
  · rw [if_pos hz, if_pos hz]; simp
  · rw [if_neg hz, if_neg hz]; simp
set_option maxHeartbeats 2000000 in
theorem numText_w (va : Value) (Z : Int) (K : Nat) (w : World) (hK : K ≤ 1000) (ha : IsN va Z K w) :
    Calls Try.prog 30 #[va] w fun e w' => e = .returned (.string ⟨(txt Z).toArray⟩) ∧ Below w.heap.size w w' := by
  have hA : ∀ w', Below w.heap.size w w' → IsN va Z K w' := fun w' hw => ha.below hw
  obtain ⟨na, oa, la, ca, rfl, hLa, hca, hma, hsa, hka⟩ := ha
  clear hLa hca hma hsa hka
  obtain ⟨kA, hB0, hz0⟩ := newbox w (.bool na) (.slice oa la.length ca) 34
  obtain ⟨T, hT⟩ : ∃ T, txt Z = T := ⟨_, rfl⟩
  rw [hT]
  have hT' := hid hT
  clear hT
  obtain ⟨f1, f2, f3, f4⟩ := id kA
  go_enter Try.func30, Try.ntmps30
  go_wp2_with fail
  generalize (w.alloc (.cells #[.bool na, .slice oa la.length ca] 34)) = W0 at *
  refine (rnorm_w _ Z K _ (by omega) (hA _ hB0)).mono ?_
  rintro e w1 ⟨s1, rfl, hF1, hk1, b1⟩
  have hB1 := below_and hB0 (Nat.le_refl _) b1
  have kA1 := kA.below b1 (by omega)
  obtain ⟨o1, c1, rfl, L1, z1, _⟩ := hF1.parts
  have kA2 := kA1.put (u' := .bool (decide (Z < 0))) (v' := .slice o1 (glim 4294967296 Z.natAbs).length c1)
  have L2 := L1.box kA1 (.bool (decide (Z < 0))) (.slice o1 (glim 4294967296 Z.natAbs).length c1)
  have hB2 := (hB1.setCell (p := ⟨w.heap.size, 0, none⟩) (Nat.le_refl _) (.bool (decide (Z < 0)))).setCell (p := ⟨w.heap.size, 1, none⟩) (Nat.le_refl _) (.slice o1 (glim 4294967296 Z.natAbs).length c1)
  have hg2 : w.heap.size < ((w1.setCell ⟨w.heap.size, 0, none⟩ (.bool (decide (Z < 0)))).setCell ⟨w.heap.size, 1, none⟩ (.slice o1 (glim 4294967296 Z.natAbs).length c1)).heap.size := kA2.lt
  clear f1 f2 f3 f4
  obtain ⟨f1, f2, f3, f4⟩ := id kA1
  go_wp2
  generalize ((w1.setCell ⟨w.heap.size, 0, none⟩ (.bool (decide (Z < 0)))).setCell ⟨w.heap.size, 1, none⟩ (.slice o1 (glim 4294967296 Z.natAbs).length c1)) = W2 at *
  clear f1 f2 f3 f4 kA kA1 L1 hF1 hA
  have hZm : Z.natAbs < 4294967296 ^ K := (glim_len (by omega) _ _).1 hk1
  have hdl : (glim 10 Z.natAbs).length ≤ 32 * K + 1 := by
    by_cases hz : Z = 0
    · subst hz; simp [glim_zero]
    · have h1 := glim_ge (b := 10) (by omega) (n := Z.natAbs) (by omega)
      have := len_bound (s := (glim 10 Z.natAbs).length - 1) (N := 1) (M := Z.natAbs) (K := K) (by omega) (by omega) hZm
      omega
  obtain ⟨zn, hzn⟩ : ∃ zn, decide (Z < 0) = zn := ⟨_, rfl⟩
  rw [hzn] at kA2
  have hzn' := hid hzn
  clear hzn
  go_loopg [3, 4] (glim 10 Z.natAbs).length (fun t sv dv wr => ∃ (ds : List Nat) (m : Nat) (o : Option Addr) (c : Nat), t = (glim 10 m).length ∧ sv = .string ⟨(dtx ds).toArray⟩ ∧ dv = .slice o (glim 4294967296 m).length c ∧ Lies o (glim 4294967296 m) wr ∧ (glim 4294967296 m).length ≤ K ∧ Hid (glim 10 Z.natAbs = ds ++ glim 10 m) ∧ Box w.heap.size (.bool zn) (.slice o1 (glim 4294967296 Z.natAbs).length c1) wr ∧ w.heap.size < wr.heap.size ∧ Below w.heap.size w wr)
  case atStart => exact ⟨[], Z.natAbs, o1, c1, rfl, rfl, rfl, L2, hk1, hid (by simp), kA2, hg2, hB2⟩
  case round =>
    obtain ⟨ds, m, o, c, ht, rfl, rfl, hL, hkm, hH, kA, hg, hbw⟩ := hrel
    clear kA2 hg2 hB2 L2
    obtain ⟨f1, f2, f3, f4⟩ := id kA
    have hdsl : ds.length ≤ 32 * K + 1 := by
      have := congrArg List.length hH.out
      rw [List.length_append] at this
      omega
    by_cases hm : 0 < m
    · have hlz : (0 : Int) < ((glim 4294967296 m).length : Int) := by
        have := List.length_pos_iff.2 (glim_ne (b := 4294967296) (n := m) (by omega) (by omega))
        omega
      have hgm := gval_glim (b := 4294967296) (by omega) m
      have hsh := fun w' hw' => short_w o c 10 (glim 4294967296 m) w' (by omega) (by omega) (lm_glim (by omega) m) (by omega) hw'
      rw [hgm] at hsh
      have hsh' := hid hsh
      have hgs := glim_step hm
      have hgs' := hid hgs
      clear hgm hsh hgs
      go_wp2_with fail
      refine (hsh'.out _ hL).mono ?_
      rintro e w3 ⟨sl, rfl, hF3, b3⟩
      obtain ⟨o3, c3, rfl, L3, z3, _⟩ := hF3.parts
      obtain ⟨r, hr⟩ : ∃ r, m % 10 = r := ⟨_, rfl⟩
      rw [hr]
      have hr10 : r < 10 := by omega
      have hr' := hid hr
      clear hr
      go_wp2_with fail
      refine (digits10_w r hr10 _).mono ?_
      rintro e w4 ⟨rfl, b4⟩
      obtain ⟨ch, hch⟩ : ∃ ch, UInt8.ofNat (48 + r) = ch := ⟨_, rfl⟩
      rw [hch]
      have hch' := hid hch
      clear hch
      have b34 := below_and b3 (Nat.le_refl _) b4
      have hcl : ¬ 9223372036854775807 < 1 + (dtx ds).length := by rw [dtx_len]; omega
      go_wp2
      go_roundg (gk - 1)
      case measure =>
        rw [ht, hgs'.out]; simp
      case rel =>
        refine ⟨ds ++ [r], m / 10, o3, c3, ?_, ?_, rfl, L3.below b4, ?_, hid ?_, kA.below b34 hg, Nat.lt_of_lt_of_le hg b34.size, below_and hbw (Nat.le_refl _) b34⟩
        · rw [ht, hgs'.out]; simp
        · rw [dtx_snoc, hch'.out, app_mk]; simp
        · refine Nat.le_trans (Nat.le_of_not_lt fun h => ?_) hkm
          have := glim_len_lt (by omega) h
          omega
        · rw [hH.out, hgs'.out, hr'.out]; simp
    · have hm0 : m = 0 := by omega
      subst hm0
      have hds : glim 10 Z.natAbs = ds := by have := hH.out; rwa [glim_zero, List.append_nil] at this
      have hds' := hid hds
      have hl0 : (glim 4294967296 0).length = 0 := by rw [glim_zero]; rfl
      clear hds hH
      by_cases hZ0 : Z = 0
      · have hd0 : ds = [] := by rw [← hds'.out, hZ0]; simp [glim_zero]
        have hz0 : zn = false := by rw [← hzn'.out, hZ0]; rfl
        have hTe : T = [48] := by rw [← hT'.out, hZ0]; simp [txt, txtN]
        subst hd0 hz0 hTe
        clear hT' hds' hzn'
        go_wp2
        go_ret
        exact ⟨by first | rfl | simp, hbw⟩
      · have hTe := txt_pos hZ0
        rw [hT'.out, hds'.out] at hTe
        have hdn : ds ≠ [] := by rw [← hds'.out]; exact glim_ne (by omega) (by omega)
        obtain ⟨D, hD⟩ : ∃ D, dtx ds = D := ⟨_, rfl⟩
        have hDl : D.length = ds.length := by rw [← hD, dtx_len]
        have hDn : D ≠ [] := by intro e; rw [e] at hDl; exact hdn (List.eq_nil_of_length_eq_zero hDl.symm)
        rw [hD] at hTe ⊢
        have hDe : D.isEmpty = false := by cases D with
          | nil => exact absurd rfl hDn
          | cons _ _ => rfl
        clear hDn
        cases hzb : zn with
        | false =>
          rw [hzb] at f1 kA hzn'
          have hnz : ¬ Z < 0 := by have := hzn'.out; simpa using this
          rw [if_neg hnz, List.nil_append] at hTe
          subst hTe
          clear hT' hds' hzn' hD
          go_wp2
          go_ret
          exact ⟨rfl, hbw⟩
        | true =>
          rw [hzb] at f1 kA hzn'
          have hnz : Z < 0 := by have := hzn'.out; simpa using this
          rw [if_pos hnz] at hTe
          have hTe' := hid hTe
          clear hT' hds' hzn' hD hTe
          have hcl : ¬ 9223372036854775807 < 1 + D.length := by omega
          go_wp2
          go_ret
          exact ⟨by rw [hTe'.out, app_mk]; simp, hbw⟩
end Go.Proofs.Ytccogdlmlegmbaa
