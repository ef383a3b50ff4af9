/- grown of package big. -/
import Derived.Test.YtccogdlmlegmbaaBigAwake
namespace Go.Proofs.Ytccogdlmlegmbaa
open Go.ChangeShapes Go.WideShapes Go.ChangeAt Go.RowKit
set_option linter.unusedSimpArgs false
set_option linter.unusedVariables false
theorem Fr.put {B g c n : Nat} {l : List Nat} {w : World} (h : Fr B (.slice (some ⟨g, 0, none⟩) n c) l w) {j : Nat} (x : Nat) (hj : j < l.length) : Fr B (.slice (some ⟨g, 0, none⟩) n c) (l.set j x) (w.setCell ⟨g, j, none⟩ (.int .u32 (x : Int))) := by
  rcases h.2 with ⟨hv, h0⟩ | ⟨g', cap, cur, hv, hb, hg, hnc, hcm, hcs, htake⟩
  · simp at hv
  · simp only [Value.slice.injEq, Option.some.injEq, Addr.mk.injEq, and_true] at hv
    obtain ⟨rfl, rfl, rfl⟩ := hv
    refine ⟨by simp, .inr ⟨g, c, cur.setIfInBounds j (.int .u32 (x : Int)), by simp, hb, ?_, by simpa using hnc, hcm, by simpa using hcs, ?_⟩⟩
    · simp [World.setCell, Array.getElem?_modify, hg]
    · rw [Array.toList_setIfInBounds, List.length_set, List.map_set, List.take_set, htake]
theorem glim_of_len {l : List Nat} (hm : Lm 4294967296 l) (h : l.length ≤ (glim 4294967296 (gval 4294967296 l)).length) : glim 4294967296 (gval 4294967296 l) = l := by
  obtain ⟨k, hk, e⟩ := glim_is_take hm
  rw [e] at h ⊢
  rw [List.length_take] at h
  exact List.take_of_length_le (by omega)
theorem grown_end {n d : Nat} {L : List Nat} (hm : Lm 4294967296 L) (hl : L.length = (glim 4294967296 n).length) (hv : gval 4294967296 L = n * 10 + d) : glim 4294967296 (n * 10 + d) = L := by
  rw [← hv]
  refine glim_of_len hm ?_
  rw [hv, hl]
  refine Nat.le_of_not_lt fun h => ?_
  have := glim_len_lt (by omega) h
  omega
theorem grown_more {n c d : Nat} {L : List Nat} (hm : Lm 4294967296 L) (hc : c < 4294967296) (hc0 : 0 < c) (hl : L.length = (glim 4294967296 n).length) (hv : gval 4294967296 L + 4294967296 ^ L.length * c = n * 10 + d) : glim 4294967296 (n * 10 + d) = L ++ [c] := by
  have e : gval 4294967296 (L ++ [c]) = n * 10 + d := by rw [gval_append]; simpa [gval] using hv
  rw [← e]
  refine glim_canon (by omega) (hm.append (Lm.cons hc (Lm.nil _))) fun x hx => ?_
  simp at hx; omega
theorem grow_step {P S T c x t d : Nat} (ht : c + x * 10 = t) (h : S + P * c = T * 10 + d) : S + P * (t % 4294967296) + P * 4294967296 * (t / 4294967296) = (T + P * x) * 10 + d := by
  have e2 : P * t = P * (t % 4294967296) + P * 4294967296 * (t / 4294967296) := by
    rw [Nat.mul_assoc, ← Nat.mul_add, Nat.mod_add_div]
  have e : P * t = P * c + P * (x * 10) := by rw [← ht, Nat.mul_add]
  rw [Nat.add_mul, Nat.mul_assoc P x 10]; omega
set_option maxHeartbeats 1000000 in
theorem grown_w (B n d : Nat) (v : Value) (w : World) (hd : d < 10) (hF : Fr B v (glim 4294967296 n) w) (hlen : (glim 4294967296 n).length ≤ 1000000) (hBw : B ≤ w.heap.size) :
    Calls Try.prog 36 #[v, .int .u32 10, .int .u32 (d : Int)] w fun e w' => ∃ v', e = .returned v' ∧ Fr B v' (glim 4294967296 (n * 10 + d)) w' ∧ Below B w w' := by
  obtain ⟨i0, hi, hy0, hy1, hy2⟩ := info_parts info32u
  have hm := lm_glim (b := 4294967296) (by omega) n
  have hv := gval_glim (b := 4294967296) (by omega) n
  rcases hF.shape with ⟨rfl, h2⟩ | ⟨g, c, rfl⟩
  · have hn0 : n = 0 := (glim_nil (by omega)).1 h2
    subst hn0
    rw [Nat.zero_mul, Nat.zero_add]
    have hgd : 0 < d → glim 4294967296 d = [d] := fun h => by
      have := glim_canon (b := 4294967296) (by omega) (l := [d]) (Lm.cons (by omega) (Lm.nil _)) (fun x hx => by simp at hx; omega)
      simpa [gval] using this
    have hgd' := hid hgd
    clear hgd hv hm h2
    have wd : IntKind.u64.wrap (d : Int) = (d : Int) := by rw [IntKind.wrap_u64]; omega
    have wd2 : IntKind.u32.wrap (d : Int) = (d : Int) := by rw [IntKind.wrap_u32]; omega
    go_enter Try.func36, Try.ntmps36
    go_wp2
    go_loopw [7, 14] (fun cv iv wr => cv = .int .u64 (d : Int) ∧ iv = .int .i64 0 ∧ wr = w) (fun _ _ _ => 0)
    case atStart => exact ⟨rfl, rfl, rfl⟩
    case round =>
      obtain ⟨rfl, rfl, rfl⟩ := hrel
      by_cases hd0 : d = 0
      · subst hd0
        go_wp2
        go_ret
        exact ⟨_, rfl, by rw [glim_zero]; exact Fr.nil _ _, Below.refl _ _⟩
      · have hdp : (0 : Int) < (d : Int) := by omega
        have hN : wr.ownsRow B 63 1 (.slice none 0 0) 0 [] := World.ownsRow_nil _ _ _ _
        go_wp2_with (at_builtin; refine wpList_append_own _ rfl _ _ 23 rfl B 63 i0 (.int .u32 0) 1 4 Try.underlying23 hi hy0 hy1 hy2 rfl (by decide) _ _ _ rfl (World.ownsRow.alloc hN _) ⟨wr.heap.size, 0, none⟩ 1 1 [.int .u32 (d : Int)] rfl rfl ?c1 ?c2 ?c3 ?c4 ?c5 ?_)
        first
          | (case c1 =>
              intro j u hj
              match j, hj with
              | 0, hj => simp at hj; subst hj; simp [Addr.add]
              | j + 1, hj => simp at hj)
          | skip
        case c2 => first | rfl | (intro u hu; simp at hu; subst hu; rfl)
        case c3 => unfold maxLen; omega
        case c4 => omega
        case c5 => first | omega | (simp; omega)
        intro v' w2 hown' hgrow _
        have hB2 : Below B wr w2 := ((Below.refl B wr).alloc hBw _).grown hgrow (by simp; omega) (fun q hq => by simp [Value.ownBlock] at hq)
        go_wp2
        go_ret
        refine ⟨v', rfl, ?_, hB2⟩
        rw [hgd'.out (by omega)]
        unfold Fr
        simpa using hown'
  · obtain ⟨hgB, hgw, hOwn, hlc⟩ := hF.own
    have wd : IntKind.u64.wrap (d : Int) = (d : Int) := by rw [IntKind.wrap_u64]; omega
    have hlc' := hlc
    obtain ⟨A, hA⟩ : ∃ A, glim 4294967296 n = A := ⟨_, rfl⟩
    obtain ⟨G, hG⟩ : ∃ G, glim 4294967296 (n * 10 + d) = G := ⟨_, rfl⟩
    have hge := fun (L : List Nat) => grown_end (n := n) (d := d) (L := L)
    have hgm := fun (L : List Nat) (c : Nat) => grown_more (n := n) (d := d) (c := c) (L := L)
    rw [hA] at hF hlen hm hv hOwn hlc hlc' hge hgm ⊢
    rw [hG] at hge hgm ⊢
    have hge' := hid hge
    have hgm' := hid hgm
    have hv' := hid hv
    clear hA hG hge hgm hv
    go_enter Try.func36, Try.ntmps36
    go_wp2
    go_loopw [7, 14] (fun cv iv wr => ∃ (k cn : Nat) (L : List Nat), cv = .int .u64 (cn : Int) ∧ iv = .int .i64 (k : Int) ∧ k ≤ A.length ∧ cn < 4294967296 ∧ Fr B (.slice (some ⟨g, 0, none⟩) A.length c) L wr ∧ L.length = A.length ∧ Lm 4294967296 L ∧ Below B w wr ∧ Hid (∀ j, k ≤ j → L[j]? = A[j]?) ∧ Hid (gval 4294967296 (L.take k) + 4294967296 ^ k * cn = gval 4294967296 (A.take k) * 10 + d)) (fun _ iv _ => A.length - (intOf iv).toNat)
    case atStart => exact ⟨0, d, A, rfl, rfl, by omega, by omega, hF, rfl, hm, Below.refl _ _, hid fun _ _ => rfl, hid (by simp [gval])⟩
    case round =>
      obtain ⟨k, cn, L, rfl, rfl, hk, hcn, hFL, hLl, hLm, hbw, hJ, hH⟩ := hrel
      obtain ⟨_, hgw2, hOL, _⟩ := hFL.own
      by_cases h1 : k < A.length
      · have h1z : (k : Int) < (A.length : Int) := by omega
        obtain ⟨x, hx⟩ : ∃ x, A[k]? = some x := ⟨A[k], by simp [h1]⟩
        have hxm := hm.at hx
        have hxL : L[k]? = some x := by rw [hJ.out k (Nat.le_refl _), hx]
        have cx := hOL.1 k x hxL
        have fx := hOL.2 k
        obtain ⟨xt, hxt⟩ : ∃ xt, x * 10 = xt := ⟨_, rfl⟩
        obtain ⟨t, ht⟩ : ∃ t, cn + xt = t := ⟨_, rfl⟩
        have w1 : IntKind.u64.wrap ((x : Int) * 10) = (xt : Int) := by rw [IntKind.wrap_u64]; omega
        have w2 : IntKind.u64.wrap ((cn : Int) + (xt : Int)) = (t : Int) := by rw [IntKind.wrap_u64]; omega
        have w3 : IntKind.u32.wrap (t : Int) = ((t % 4294967296 : Nat) : Int) := by rw [IntKind.wrap_u32]; omega
        have htm : t / 4294967296 < 4294967296 := by omega
        have hstep := hid (grow_step (x := x) (t := t) (by rw [hxt]; exact ht) hH.out)
        clear hxt ht hxL
        go_wp2
        go_roundw
        case rel =>
          refine ⟨k + 1, t / 4294967296, L.set k (t % 4294967296), by congr 1, by go_num, by omega, htm, hFL.put _ (by omega), by simp [hLl], hLm.set _ _ (Nat.mod_lt _ (by omega)), hbw.setCell (p := ⟨g, k, none⟩) hgB _, hid fun j hj => ?_, hid ?_⟩
          · rw [List.getElem?_set_ne (by omega)]; exact hJ.out j (by omega)
          · rw [gval_set_take _ _ (by omega), gval_take_succ _ hx, pow_step]
            exact hstep.out
        case measure => simp [intOf]; omega
      · have h1z : ¬ (k : Int) < (A.length : Int) := by omega
        have hke : k = A.length := by omega
        subst hke
        have hh := hH.out
        rw [List.take_of_length_le (by omega), List.take_length, hv'.out] at hh
        have hbz := hbw.size
        by_cases hc0 : cn = 0
        · subst hc0
          have hGe := hge'.out L hLm hLl (by omega)
          have hGe' := hid hGe
          clear hH hJ hh hge' hgm' hGe
          go_wp2
          go_ret
          exact ⟨_, rfl, by rw [hGe'.out]; exact hFL, hbw⟩
        · have hcp : (0 : Int) < (cn : Int) := by omega
          have hGe := hgm'.out L cn hLm hcn (by omega) hLl (by rw [hLl]; exact hh)
          have hGe' := hid hGe
          have wc : IntKind.u32.wrap (cn : Int) = (cn : Int) := by rw [IntKind.wrap_u32]; omega
          have hFL' : wr.ownsRow B 63 1 (.slice (some ⟨g, 0, none⟩) A.length c) A.length (L.map fun (x : Nat) => Value.int .u32 (x : Int)) := by
            have := hFL; unfold Fr at this; rw [hLl] at this; exact this
          clear hH hJ hh hge' hgm' hGe
          go_wp2_with (at_builtin; refine wpList_append_own _ rfl _ _ 23 rfl B 63 i0 (.int .u32 0) 1 4 Try.underlying23 hi hy0 hy1 hy2 rfl (by decide) _ _ _ rfl (World.ownsRow.alloc hFL' _) ⟨wr.heap.size, 0, none⟩ 1 1 [.int .u32 (cn : Int)] rfl rfl ?c1 ?c2 ?c3 ?c4 ?c5 ?_)
          first
            | (case c1 =>
                intro j u hj
                match j, hj with
                | 0, hj => simp at hj; subst hj; simp [Addr.add]
                | j + 1, hj => simp at hj)
            | skip
          case c2 => first | rfl | (intro u hu; simp at hu; subst hu; rfl)
          case c3 => unfold maxLen; omega
          case c4 => omega
          case c5 => first | omega | (simp; omega)
          intro v' w2 hown' hgrow _
          have hB2 : Below B w w2 := (hbw.alloc (by omega) _).grown hgrow (by simp; omega) (fun q hq => by simp only [Value.ownBlock, Option.some.injEq] at hq; omega)
          go_wp2
          go_ret
          refine ⟨v', rfl, ?_, hB2⟩
          rw [hGe'.out]
          unfold Fr
          have el : (L ++ [cn]).length = A.length + 1 := by simp [hLl]
          rw [el, List.map_append]
          exact hown'
end Go.Proofs.Ytccogdlmlegmbaa
