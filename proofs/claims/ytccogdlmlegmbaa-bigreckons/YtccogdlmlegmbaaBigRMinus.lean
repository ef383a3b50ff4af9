/- minus of the reference, on limbs. -/
import Derived.Test.YtccogdlmlegmbaaBigRPlus
namespace Go.Proofs.Ytccogdlmlegmbaa
open Go.ChangeShapes Go.WideShapes Go.ChangeAt Go.RowKit
set_option linter.unusedSimpArgs false
set_option linter.unusedVariables false
theorem dif_step2 (x y c : Nat) (hx : x < 4294967296) (hy : y < 4294967296) (hc : c ≤ 1) : ∃ D1 D r q : Nat, IntKind.u64.wrap ((x : Int) - (y : Int)) = (D1 : Int) ∧ IntKind.u64.wrap ((D1 : Int) - (c : Int)) = (D : Int) ∧ IntKind.u32.wrap (D : Int) = (r : Int) ∧ (D : Int) / 9223372036854775808 = (q : Int) ∧ r + (c + y) = x + 4294967296 * q ∧ q ≤ 1 ∧ r < 4294967296 := by
  by_cases h : y ≤ x
  · by_cases h2 : y + c ≤ x
    · exact ⟨x - y, x - y - c, x - y - c, 0, by rw [IntKind.wrap_u64]; omega, by rw [IntKind.wrap_u64]; omega, by rw [IntKind.wrap_u32]; omega, by omega, by omega, by omega, by omega⟩
    · exact ⟨x - y, 18446744073709551615, 4294967295, 1, by rw [IntKind.wrap_u64]; omega, by rw [IntKind.wrap_u64]; omega, by rw [IntKind.wrap_u32]; omega, by omega, by omega, by omega, by omega⟩
  · exact ⟨18446744073709551616 + x - y, 18446744073709551616 + x - y - c, 4294967296 + x - y - c, 1, by rw [IntKind.wrap_u64]; omega, by rw [IntKind.wrap_u64]; omega, by rw [IntKind.wrap_u32]; omega, by omega, by omega, by omega, by omega⟩
theorem minus_step {L la lb : List Nat} {cn x y r q : Nat} (hH : gval 4294967296 L + gval 4294967296 (lb.take L.length) = gval 4294967296 (la.take L.length) + 4294967296 ^ L.length * cn) (hx : la[L.length]? = some x) (hy : lb.getD L.length 0 = y) (hr : r + (cn + y) = x + 4294967296 * q) :
    gval 4294967296 (L ++ [r]) + gval 4294967296 (lb.take (L.length + 1)) = gval 4294967296 (la.take (L.length + 1)) + 4294967296 ^ (L.length + 1) * q := by
  rw [gval_append, gval_take_getD, gval_take_succ _ hx, pow_step, hy]
  have := dif_sum (P := 4294967296 ^ L.length) (b := cn) (t := cn + y) (y := y) rfl hr hH
  simpa [gval] using this
set_option maxHeartbeats 1000000 in
theorem minus_w (oa ob : Option Addr) (ca cb : Nat) (la lb : List Nat) (w : World) (ma : Lm 4294967296 la) (mb : Lm 4294967296 lb) (za : la.length ≤ 1000000) (zb : lb.length ≤ la.length) (hle : gval 4294967296 lb ≤ gval 4294967296 la) (ha : Lies oa la w) (hb : Lies ob lb w) :
    Calls Try.prog 43 #[.slice oa la.length ca, .slice ob lb.length cb] w fun e w' => ∃ v L, e = .returned v ∧ Fr w.heap.size v L w' ∧ Lm 4294967296 L ∧ gval 4294967296 L = gval 4294967296 la - gval 4294967296 lb ∧ L.length = la.length ∧ Below w.heap.size w w' := by
  obtain ⟨i0, hi, hy0, hy1, hy2⟩ := info_parts info32u
  have hle' := hid hle
  clear hle
  go_enter Try.func43, Try.ntmps43
  go_wp2
  go_loopw [5, 6, 7] (fun ov cv iv wr => ∃ (L : List Nat) (cn : Nat), cv = .int .u64 (cn : Int) ∧ iv = .int .i64 (L.length : Int) ∧ Fr w.heap.size ov L wr ∧ L.length ≤ la.length ∧ cn ≤ 1 ∧ Lm 4294967296 L ∧ Below w.heap.size w wr ∧ Hid (gval 4294967296 L + gval 4294967296 (lb.take L.length) = gval 4294967296 (la.take L.length) + 4294967296 ^ L.length * cn)) (fun _ _ iv _ => la.length - (intOf iv).toNat)
  case atStart => exact ⟨[], 0, rfl, rfl, Fr.nil _ _, by simp, by omega, Lm.nil _, Below.refl _ _, hid (by simp [gval])⟩
  case round =>
    obtain ⟨L, cn, rfl, rfl, hF, hk, hcn, hLm, hbw, hH⟩ := hrel
    by_cases h1 : L.length < la.length
    · have h1z : (L.length : Int) < (la.length : Int) := by omega
      obtain ⟨x, hx⟩ : ∃ x, la[L.length]? = some x := ⟨la[L.length], by simp [h1]⟩
      obtain ⟨y, hy⟩ : ∃ y, lb.getD L.length 0 = y := ⟨_, rfl⟩
      have hxm := ma.at hx
      have hym : y < 4294967296 := by rw [← hy]; exact mb.getD (by omega) _
      obtain ⟨D1, D, r, q, w1, w2, w3, w4, hr, hq, hrm⟩ := dif_step2 x y cn hxm hym hcn
      have hstep := hid (minus_step hH.out hx hy hr)
      have wx : IntKind.u64.wrap (x : Int) = (x : Int) := by rw [IntKind.wrap_u64]; omega
      obtain ⟨a, rfl, cx⟩ := (ha.below hbw) _ x hx
      have hlim : ∀ w', Below w.heap.size w w' → Calls Try.prog 54 #[.slice ob lb.length cb, .int .i64 (L.length : Int)] w' fun e w'' => e = .returned (.int .u64 (y : Int)) ∧ w'' = w' := fun w' hb' => by
        have := limb_w ob cb lb L.length w' mb (hb.below hb')
        rw [hy] at this
        exact this
      have hlim' := hid hlim
      clear hr hx hy hlim
      go_wp2
      go_quiet ((go_at_call 54; exact Calls.quiet_of_same (hlim'.out _ (by first | exact hbw | exact below_drewNv hbw _))))
      have hbq := below_drewNv hbw nq
      have hFq : Fr w.heap.size _ L (wr.drewN nq) := hF.below (below_drewNv (Below.refl _ _) nq)
      clear cx hF hbw
      generalize wr.drewN nq = wq at *
      have hsz := hbq.size
      go_wp2_with (at_builtin; refine wpList_append_own _ rfl _ _ 23 rfl w.heap.size 63 i0 (.int .u32 0) 1 4 Try.underlying23 hi hy0 hy1 hy2 rfl (by decide) _ _ _ rfl (World.ownsRow.alloc hFq _) ⟨wq.heap.size, 0, none⟩ 1 1 [.int .u32 (r : Int)] rfl rfl ?c1 ?c2 ?c3 ?c4 ?c5 ?_)
      first
        | (case c1 =>
            intro j u hj
            match j, hj with
            | 0, hj => simp at hj; subst hj; simp [Addr.add]
            | j + 1, hj => simp at hj)
        | skip
      case c2 => first | rfl | (intro u hu; simp at hu; subst hu; rfl)
      case c3 => unfold maxLen; omega
      case c4 => omega
      case c5 => first | omega | (simp; omega)
      intro v' w2 hown' hgrow _
      go_wp2
      go_roundw
      case rel =>
        refine ⟨L ++ [r], q, rfl, by simp, Fr.push hown', by simp; omega, hq, hLm.append (Lm.cons hrm (Lm.nil _)), (hbq.alloc hsz _).grown hgrow (by simp; omega) hFq.block, hid ?_⟩
        rw [List.length_append]
        exact hstep.out
      case measure => simp [intOf]; omega
    · have h1z : ¬ (L.length : Int) < (la.length : Int) := by omega
      go_wp2
      go_ret
      have hle := hle'.out
      have hh := hH.out
      have hke : L.length = la.length := by omega
      rw [hke, List.take_of_length_le (by omega), List.take_of_length_le (by omega)] at hh
      have hlt := gval_lt hLm
      rw [hke] at hlt
      have hc0 : cn = 0 := by
        rcases Nat.lt_or_ge 0 cn with h | h
        · have : cn = 1 := by omega
          subst this; omega
        · omega
      subst hc0
      exact ⟨_, rfl, L, hF, hLm, by omega, hke, hbw⟩
end Go.Proofs.Ytccogdlmlegmbaa
