/- Same of package term, of any terms that may be. -/
import Derived.Test.YtpdoepjnkgffpaaDoorSameM
import Derived.Test.YtpdoepjnkgffpaaDoorTermMayC
import Derived.Deep.AppendLies
namespace Go.Proofs.YtpdoepjnkgffpaaDoor
open Go.ChangeShapes Go.WideShapes Go.ChangeAt Go.RowKit Go.Shelf
set_option linter.unusedSimpArgs false
set_option linter.unusedVariables false
set_option maxRecDepth 2000
theorem infoQ : (Tryd.prog.info? 54).map (fun i => (i.zero, i.size, i.bytes)) = some (some (.agg #[.slice none 0 0, .slice none 0 0]), 2, 48) := by kernel_rfl
/-- the beginning: one pair waits -/
theorem same_start (A U : Tm) (w W : World) {k : Int} {neg : Bool} {od : Option Addr} {ld cd : Nat} {nm : ByteArray} {n : Int} {ol : Option Addr} {ll cl : Nat} {ob : Option Addr} {lb cb : Nat} {k' : Int} {neg' : Bool} {od' : Option Addr} {ld' cd' : Nat} {nm' : ByteArray} {n' : Int} {ol' : Option Addr} {ll' cl' : Nat} {ob' : Option Addr} {lb' cb' : Nat} (hwA : wfT A) (hwU : wfT U) (hd : dep A ≤ 1000000)
    (hA : TV (Low w) w A (tmV k neg (.slice od ld cd) nm n (.slice ol ll cl) (.slice ob lb cb))) (hU : TV (Low w) w U (tmV k' neg' (.slice od' ld' cd') nm' n' (.slice ol' ll' cl') (.slice ob' lb' cb')))
    (hW : W = (((((w.alloc (.cells #[.int .i64 k, .bool neg, .slice od ld cd, .string nm, .int .i64 n, .slice ol ll cl, .slice ob lb cb] 31)).alloc (.cells #[.int .i64 k', .bool neg', .slice od' ld' cd', .string nm', .int .i64 n', .slice ol' ll' cl', .slice ob' lb' cb'] 31)).alloc (.cells #[.int .i64 k, .bool neg, .slice od ld cd, .string nm, .int .i64 n, .slice ol ll cl, .slice ob lb cb] 31)).alloc (.cells #[.int .i64 k', .bool neg', .slice od' ld' cd', .string nm', .int .i64 n', .slice ol' ll' cl', .slice ob' lb' cb'] 31)).alloc (.cells #[.slice (some ⟨w.heap.size + 1 + 1, 0, none⟩) 1 1, .slice (some ⟨w.heap.size + 1 + 1 + 1, 0, none⟩) 1 1] 54))) :
    Below w.heap.size w W ∧ W.heap.size = w.heap.size + 5 ∧ W.ownsRow (w.heap.size + 1 + 1 + 1 + 1) 54 2 (.slice (some ⟨w.heap.size + 1 + 1 + 1 + 1, 0, none⟩) 1 1) 1 (rpv [⟨some ⟨w.heap.size + 1 + 1, 0, none⟩, 1, [A], some ⟨w.heap.size + 1 + 1 + 1, 0, none⟩, 1, [U]⟩]) ∧ StO (fun k => k < w.heap.size + 1 + 1 + 1 + 1) W 1000000 [⟨some ⟨w.heap.size + 1 + 1, 0, none⟩, 1, [A], some ⟨w.heap.size + 1 + 1 + 1, 0, none⟩, 1, [U]⟩] := by
  subst hW
  obtain ⟨_, _, hb1, hz1⟩ := bx2 w (.int .i64 k) (.bool neg) (.slice od ld cd) (.string nm) (.int .i64 n) (.slice ol ll cl) (.slice ob lb cb) (.int .i64 k') (.bool neg') (.slice od' ld' cd') (.string nm') (.int .i64 n') (.slice ol' ll' cl') (.slice ob' lb' cb') 31 31
  generalize ((w.alloc (.cells #[.int .i64 k, .bool neg, .slice od ld cd, .string nm, .int .i64 n, .slice ol ll cl, .slice ob lb cb] 31)).alloc (.cells #[.int .i64 k', .bool neg', .slice od' ld' cd', .string nm', .int .i64 n', .slice ol' ll' cl', .slice ob' lb' cb'] 31)) = V at *
  obtain ⟨kA, kB, hb2, hz2⟩ := bx2 V (.int .i64 k) (.bool neg) (.slice od ld cd) (.string nm) (.int .i64 n) (.slice ol ll cl) (.slice ob lb cb) (.int .i64 k') (.bool neg') (.slice od' ld' cd') (.string nm') (.int .i64 n') (.slice ol' ll' cl') (.slice ob' lb' cb') 31 31
  generalize ((V.alloc (.cells #[.int .i64 k, .bool neg, .slice od ld cd, .string nm, .int .i64 n, .slice ol ll cl, .slice ob lb cb] 31)).alloc (.cells #[.int .i64 k', .bool neg', .slice od' ld' cd', .string nm', .int .i64 n', .slice ol' ll' cl', .slice ob' lb' cb'] 31)) = V2 at *
  have hb3 := (Below.refl V2.heap.size V2).alloc (Nat.le_refl _) (.cells #[.slice (some ⟨w.heap.size + 1 + 1, 0, none⟩) 1 1, .slice (some ⟨w.heap.size + 1 + 1 + 1, 0, none⟩) 1 1] 54)
  have hg3 := heap_alloc_new V2 (.cells #[.slice (some ⟨w.heap.size + 1 + 1, 0, none⟩) 1 1, .slice (some ⟨w.heap.size + 1 + 1 + 1, 0, none⟩) 1 1] 54)
  have e1 : V.heap.size = w.heap.size + 1 + 1 := by omega
  have e2 : V2.heap.size = w.heap.size + 1 + 1 + 1 + 1 := by omega
  have hB := below_and (below_and hb1 (Nat.le_refl _) hb2) (Nat.le_refl _) hb3
  have kA3 := kA.below hb3
  have kB3 := kB.below hb3
  have hs3 : (V2.alloc (.cells #[.slice (some ⟨w.heap.size + 1 + 1, 0, none⟩) 1 1, .slice (some ⟨w.heap.size + 1 + 1 + 1, 0, none⟩) 1 1] 54)).heap.size = w.heap.size + 5 := by simp; omega
  generalize (V2.alloc (.cells #[.slice (some ⟨w.heap.size + 1 + 1, 0, none⟩) 1 1, .slice (some ⟨w.heap.size + 1 + 1 + 1, 0, none⟩) 1 1] 54)) = W at *
  rw [e1] at kA3 kB3
  rw [e2] at hg3
  have hAt : ∀ {g : Nat} {a0 a1 a2 a3 a4 a5 a6 : Value}, Bx g a0 a1 a2 a3 a4 a5 a6 W → At7 ⟨g, 0, none⟩ (.agg #[a0, a1, a2, a3, a4, a5, a6]) W := fun h => ⟨_, _, _, _, _, _, _, rfl, h.c0, by rw [addr_add]; exact h.c1, by rw [addr_add]; exact h.c2, by rw [addr_add]; exact h.c3, by rw [addr_add]; exact h.c4, by rw [addr_add]; exact h.c5, by rw [addr_add]; exact h.c6⟩
  have hz : Zs (Low w) w W := fun k hk => hB.block k hk
  refine ⟨hB, hs3, ⟨rfl, .inr ⟨_, 1, _, rfl, Nat.le_refl _, hg3, Nat.le_refl _, by unfold maxLen; omega, rfl, rfl⟩⟩, ⟨by simp, rfl, by simp, by simp, ?_, ?_, wfL.cons hwA wfL.nil, wfL.cons hwU wfL.nil, by simpa [depL] using hd⟩, trivial⟩
  · show TR _ _ [A] (some ⟨w.heap.size + 1 + 1, 0, none⟩)
    unfold TR
    exact ⟨_, _, rfl, (by show w.heap.size + 1 + 1 < _; omega), hAt kA3, TV.mono (fun k _ h => by have : k < w.heap.size := h; omega) _ _ (TV.zs hz _ _ hA), by unfold TR; trivial⟩
  · show TR _ _ [U] (some ⟨w.heap.size + 1 + 1 + 1, 0, none⟩)
    unfold TR
    exact ⟨_, _, rfl, (by show w.heap.size + 1 + 1 + 1 < _; omega), hAt kB3, TV.mono (fun k _ h => by have : k < w.heap.size := h; omega) _ _ (TV.zs hz _ _ hU), by unfold TR; trivial⟩
set_option maxHeartbeats 8000000 in
set_option maxRecDepth 8000 in
theorem Same_w (A U : Tm) (va vb : Value) (w : World) (hwA : wfT A) (hwU : wfT U) (hd : dep A ≤ 1000000) (hA : TV (Low w) w A va) (hU : TV (Low w) w U vb) :
    Calls Tryd.prog 21 #[va, vb] w fun e w' => e = .returned (.bool (cT A U == 0)) ∧ Below w.heap.size w w' := by
  obtain ⟨k, neg, od, ld, cd, nm, n, ol, ll, cl, ob, lb, cb, rfl⟩ := hA.form
  obtain ⟨k', neg', od', ld', cd', nm', n', ol', ll', cl', ob', lb', cb', rfl⟩ := hU.form
  obtain ⟨i0, hi, hz⟩ := Option.map_eq_some_iff.1 infoQ
  simp only [Prod.mk.injEq] at hz
  obtain ⟨hz0, hz1, hz2⟩ := hz
  obtain ⟨R, hR⟩ : ∃ R, (cT A U == 0) = R := ⟨_, rfl⟩
  rw [hR]
  have hst := fun W hW => same_start A U w W hwA hwU hd hA hU hW
  have hc0 : Hid ((cSt [⟨some ⟨w.heap.size + 1 + 1, 0, none⟩, 1, [A], some ⟨w.heap.size + 1 + 1 + 1, 0, none⟩, 1, [U]⟩] == 0) = R) := hid (by
    show (lx (cR [A] [U]) 0 == 0) = R
    rw [lx_right, cR_cons, cR_nil, lx_right, hR])
  clear hR hwA hwU hd hA hU
  go_enter Tryd.func21, Tryd.ntmps21
  go_wp2_with fail
  generalize hWW : (((((w.alloc (.cells #[.int .i64 k, .bool neg, .slice od ld cd, .string nm, .int .i64 n, .slice ol ll cl, .slice ob lb cb] 31)).alloc (.cells #[.int .i64 k', .bool neg', .slice od' ld' cd', .string nm', .int .i64 n', .slice ol' ll' cl', .slice ob' lb' cb'] 31)).alloc (.cells #[.int .i64 k, .bool neg, .slice od ld cd, .string nm, .int .i64 n, .slice ol ll cl, .slice ob lb cb] 31)).alloc (.cells #[.int .i64 k', .bool neg', .slice od' ld' cd', .string nm', .int .i64 n', .slice ol' ll' cl', .slice ob' lb' cb'] 31)).alloc (.cells #[.slice (some ⟨w.heap.size + 1 + 1, 0, none⟩) 1 1, .slice (some ⟨w.heap.size + 1 + 1 + 1, 0, none⟩) 1 1] 54)) = W0
  obtain ⟨hB0, hs0, hO0, hSt0⟩ := hst W0 hWW.symm
  clear hst hWW
  obtain ⟨st0, hst0⟩ : ∃ st0 : List Rp, [⟨some ⟨w.heap.size + 1 + 1, 0, none⟩, 1, [A], some ⟨w.heap.size + 1 + 1 + 1, 0, none⟩, 1, [U]⟩] = st0 := ⟨_, rfl⟩
  have hl0 : Hid (st0.length = 1) := hid (by rw [← hst0]; rfl)
  rw [hst0] at hO0 hSt0 hc0
  clear hst0
  obtain ⟨B, hB⟩ : ∃ B, w.heap.size + 1 + 1 + 1 + 1 = B := ⟨_, rfl⟩
  rw [hB] at hO0 hSt0 ⊢
  have HB := hid (show w.heap.size ≤ B ∧ W0.heap.size = B + 1 by omega)
  have HB0 := hid hB0
  have HSt0 := hid hSt0
  clear hB hs0 hB0 hSt0
  go_loopg [5] (mSt st0) (fun t v5 wr => ∃ (st : List Rp) (lv : Nat), t = mSt st ∧ wr.ownsRow B 54 2 v5 st.length (rpv st) ∧ Hid (StO (fun k => k < B) W0 lv st) ∧ st.length + lv ≤ 1000001 ∧ Below B W0 wr ∧ B ≤ wr.heap.size ∧ Hid ((cSt st == 0) = R))
  case atStart => exact ⟨st0, 1000000, rfl, by rw [hl0.out]; exact hO0, HSt0, by rw [hl0.out]; exact Nat.le_refl _, Below.refl _ _, by have := HB.out; omega, hc0⟩
  case round =>
    clear hO0 hc0
    obtain ⟨st, lv, rfl, hOr, hSt, hle, hb, hBr, hH⟩ := hrel
    obtain ⟨o5, cap, rfl, ho5, _, _⟩ := own_shape2 hOr
    have hBw : Hid (Below w.heap.size w wr) := hid (HB0.out.trans (below_le hb HB.out.1))
    cases st with
    | nil =>
      have hRt : R = true := by rw [← hH.out]; rfl
      have HR := hid hRt
      clear hRt
      simp only [List.length_nil] at *
      go_wp2
      go_ret
      exact ⟨by rw [HR.out]; rfl, hBw.out⟩
    | cons r st =>
    obtain ⟨⟨hne, hll, hca, hcb, hta, htb, hwa, hwb, hda⟩, hSt'⟩ := hSt.out
    obtain ⟨oa, ca, la, ob, cb, lb⟩ := r
    dsimp only at hne hll hca hcb hta htb hwa hwb hda
    cases la with
    | nil => exact absurd rfl hne
    | cons t ra =>
    cases lb with
    | nil => simp at hll
    | cons t' rb =>
    clear hne
    unfold TR at hta htb
    obtain ⟨a, va, rfl, hZa, hAa, hTa, hTra⟩ := hta
    obtain ⟨a', vb, rfl, hZb, hAb, hTb, hTrb⟩ := htb
    cases t with | mk tk tneg td tnm tn tl tb =>
    cases t' with | mk uk uneg ud unm un ul ub =>
    have hTa' := hTa
    have hTb' := hTb
    unfold TV at hTa hTb
    obtain ⟨tod, tcd, tol, tcl, tob, tcb, rfl, _⟩ := hTa
    obtain ⟨uod, ucd, uol, ucl, uob, ucb, rfl, _⟩ := hTb
    obtain ⟨rg, rfl⟩ := ho5 (by simp)
    clear ho5
    have hpA := prV_tv hTa'
    have hpB := prV_tv hTb'
    have hpoA := prT_okF hwa.head.self.2.2.2.2
    have hpoB := prT_okF hwb.head.self.2.2.2.2
    obtain ⟨hal1, hal0⟩ := alike_cT _ _ hwa.head hwb.head
    obtain ⟨PT, hPT⟩ : ∃ PT, prT (.mk tk tneg td tnm tn tl tb) = PT := ⟨_, rfl⟩
    obtain ⟨QT, hQT⟩ : ∃ QT, prT (.mk uk uneg ud unm un ul ub) = QT := ⟨_, rfl⟩
    rw [hPT] at hpA hpoA hal1 hal0
    rw [hQT] at hpB hpoB hal1 hal0
    cases PT with | mk pk pneg pd pnm pn pl pb =>
    cases QT with | mk qk qneg qd qnm qn ql qb =>
    have hpl := prT_kids hPT
    have hql := prT_kids hQT
    have hpA0 := hpA
    have hpB0 := hpB
    unfold TV at hpA hpB
    obtain ⟨pod, pcd, pol, pcl, pob, pcb, hpv, _, _, _, _, _, hpcl, hpTR⟩ := hpA
    obtain ⟨qod, qcd, qol, qcl, qob, qcb, hqv, _, _, _, _, _, hqcl, hqTR⟩ := hpB
    rw [hpv] at hpA0
    rw [hqv] at hpB0
    unfold tmV at hpv hqv
    obtain ⟨S1, hS1⟩ : ∃ S1, rest ⟨some ⟨a.block, a.off + 7, none⟩, ca - 1, ra, some ⟨a'.block, a'.off + 7, none⟩, cb - 1, rb⟩ st = S1 := ⟨_, rfl⟩
    have hcS := cSt_step (.mk tk tneg td tnm tn tl tb) (.mk uk uneg ud unm un ul ub) ra rb (some a) (some ⟨a.block, a.off + 7, none⟩) ca (ca - 1) (some a') (some ⟨a'.block, a'.off + 7, none⟩) cb (cb - 1) st
    have hmS := mSt_step (.mk tk tneg td tnm tn tl tb) (.mk uk uneg ud unm un ul ub) ra rb (some a) (some ⟨a.block, a.off + 7, none⟩) ca (ca - 1) (some a') (some ⟨a'.block, a'.off + 7, none⟩) cb (cb - 1) st
    rw [hS1] at hcS hmS
    rw [hcS] at hH
    have HmS := hid hmS
    have HS1 := hid hS1
    simp only [rpv, List.length_cons] at hOr hll hca hcb hle
    obtain ⟨hO', hx, hy, hBrg, hgr, hcap, cur, hcur⟩ := own_take2 hOr
    have hlvS : ∃ lvS, StO (fun k => k < B) W0 lvS S1 ∧ S1.length + lvS ≤ 1000001 ∧ dep (.mk tk tneg td tnm tn tl tb) ≤ lvS := by
      simp only [depL] at hda
      rw [← hS1]
      unfold rest
      by_cases hr : ra = []
      · simp only [hr, if_true]
        exact ⟨lv + 1, hSt', by omega, by omega⟩
      · simp only [hr, if_false]
        have e7 : a.add 7 = (⟨a.block, a.off + 7, none⟩ : Addr) := by simp [Addr.add]
        have e7' : a'.add 7 = (⟨a'.block, a'.off + 7, none⟩ : Addr) := by simp [Addr.add]
        rw [e7] at hTra
        rw [e7'] at hTrb
        exact ⟨lv, ⟨⟨hr, by simpa using hll, by dsimp only; omega, by dsimp only; omega, hTra, hTrb, hwa.tail, hwb.tail, by dsimp only; omega⟩, hSt'⟩, by simp only [List.length_cons]; omega, by omega⟩
    obtain ⟨lvS, hSS', hlS, hdS⟩ := hlvS
    obtain ⟨AB, hAB⟩ : ∃ AB, alikeB (.mk pk pneg pd pnm pn pl pb) (.mk qk qneg qd qnm qn ql qb) = AB := ⟨_, rfl⟩
    have HAB : Hid (alikeB (.mk pk pneg pd pnm pn pl pb) (.mk qk qneg qd qnm qn ql qb) = AB ∧ (AB = false → R = false) ∧ (AB = true → pl = [] → (cSt S1 == 0) = R ∧ mSt S1 < mSt (⟨some a, ca, .mk tk tneg td tnm tn tl tb :: ra, some a', cb, .mk uk uneg ud unm un ul ub :: rb⟩ :: st)) ∧ (AB = true → pl ≠ [] → (cSt (⟨pol, pcl, pl, qol, qcl, ql⟩ :: S1) == 0) = R ∧ mSt (⟨pol, pcl, pl, qol, qcl, ql⟩ :: S1) < mSt (⟨some a, ca, .mk tk tneg td tnm tn tl tb :: ra, some a', cb, .mk uk uneg ud unm un ul ub :: rb⟩ :: st) ∧ ∃ lv2, StO (fun k => k < B) W0 lv2 (⟨pol, pcl, pl, qol, qcl, ql⟩ :: S1) ∧ (⟨pol, pcl, pl, qol, qcl, ql⟩ :: S1 : List Rp).length + lv2 ≤ 1000001)) := hid (by
      refine ⟨hAB, fun h => ?_, fun h hp => ?_, fun h hp => ?_⟩
      · have := hal0 (by rw [hAB, h])
        rw [← hH.out, lx_ne this]
        simpa using this
      · obtain ⟨e1, e2⟩ := hal1 (by rw [hAB, h])
        have hk0 : (Tm.mk tk tneg td tnm tn tl tb).kids = [] := by rw [← hpl]; exact hp
        rw [e1, hk0, cR_nil, lx_zero] at hH
        refine ⟨hH.out, ?_⟩
        rw [hmS]; omega
      · obtain ⟨e1, e2⟩ := hal1 (by rw [hAB, h])
        rw [← hpl, ← hql] at e1 e2
        rw [e1] at hH
        have hkn : (Tm.mk tk tneg td tnm tn tl tb).kids ≠ [] := by rw [← hpl]; exact hp
        have hdk := dep_kids _ hkn
        refine ⟨hH.out, ?_, lvS - 1, ⟨⟨hp, e2, hpcl, hqcl, hpTR, hqTR, by rw [hpl]; exact hwa.head.kids, by rw [hql]; exact hwb.head.kids, by dsimp only; rw [hpl]; omega⟩, ?_⟩, ?_⟩
        · show (partsL pl).length + mSt S1 < _
          rw [hmS, hpl]; omega
        · rw [show lvS - 1 + 1 = lvS by omega]; exact hSS'
        · simp only [List.length_cons]; omega)
    have HSS := hid (And.intro hSS' (And.intro hlS hdS))
    have HT := hid (And.intro hAa (And.intro hZa hTa'))
    have HU := hid (And.intro hAb (And.intro hZb hTb'))
    have HPP := hid (And.intro hpA0 (And.intro hpB0 (And.intro (show pd.length ≤ 1000000 from hpoA.1) (show qd.length ≤ 1000000 from hpoB.1))))
    have Hll := hid hll
    have Hcc := hid (And.intro hca hcb)
    clear hOr hSt hSt' hwa hwb hda hTa' hTb' hpA0 hpB0 hpoA hpoB hal0 hal1 hPT hQT hpl hql hpTR hqTR hcS hmS hH hSS' hlS hdS hAB hAa hAb hTra hTrb hll hpcl hqcl hca hcb hS1
    have hmc : (st.length : Int) ≤ (cap : Int) := by omega
    have hm0 : (0 : Int) ≤ (st.length : Int) := by omega
    have hm1 : (0 : Int) < (st.length : Int) + 1 := by omega
    have hx7 := Box.new wr (.slice (some a) (ra.length + 1) ca) (.slice (some a') (rb.length + 1) cb) 54
    have hb7 : Below wr.heap.size wr (wr.alloc (.cells #[.slice (some a) (ra.length + 1) ca, .slice (some a') (rb.length + 1) cb] 54)) := (Below.refl _ _).alloc (Nat.le_refl _) _
    have hO7 := own_block hO' (fun k hk => hb7.block k (by simp only [Value.ownBlock, Option.some.injEq] at hk; omega))
    have hb8 := hb.trans (below_le hb7 hBr)
    have hlt7 : wr.heap.size < (wr.alloc (.cells #[.slice (some a) (ra.length + 1) ca, .slice (some a') (rb.length + 1) cb] 54)).heap.size := by simp
    by_cases hra : ra = []
    · have hra0 : (ra.length : Int) = 0 := by rw [hra]; rfl
      have hS1e : S1 = st := by rw [← HS1.out]; unfold rest; simp [hra]
      have hn1 : ¬ (1 : Int) < (ra.length : Int) + 1 := by omega
      clear hra hra0
      have hzo := hid (show ∀ k, Value.ownBlock (.slice (some ⟨rg, 0, none⟩) st.length cap) = some k → k < (wr.alloc (.cells #[.slice (some a) (ra.length + 1) ca, .slice (some a') (rb.length + 1) cb] 54)).heap.size from fun k hk => by
        simp only [Value.ownBlock, Option.some.injEq] at hk
        simp; omega)
      go_upto_region 8 with fail
      generalize (wr.alloc (.cells #[.slice (some a) (ra.length + 1) ca, .slice (some a') (rb.length + 1) cb] 54)) = Wz at *
      have kP := hx7
      have hP7 := hlt7
      have hbz := hb8
      have hBz : B ≤ Wz.heap.size := by omega
      have hOz : Wz.ownsRow B 54 2 (.slice (some ⟨rg, 0, none⟩) st.length cap) S1.length (rpv S1) := by rw [hS1e]; exact hO7
      clear hx7 hb7 hO7 hb8 hlt7 hx hy hO' hgr hcur hS1e hmc hm0 hm1 hn1
      generalize wr.heap.size = g7 at *
      have hDr : Below Wz.heap.size Wz Wz.drew := (Below.refl _ Wz).drew
      have hS : Hid (∀ w', Below Wz.heap.size Wz w' → (w'.cell? ⟨g7, 0, none⟩ = some (.slice (some a) (ra.length + 1) ca) ∧ w'.cell? ⟨g7, 1, none⟩ = some (.slice (some a') (rb.length + 1) cb) ∧ w'.cell? a = some (.int .i64 tk) ∧ w'.cell? ⟨a.block, a.off + 1, none⟩ = some (.bool tneg) ∧ w'.cell? ⟨a.block, a.off + 2, none⟩ = some (.slice tod td.length tcd) ∧ w'.cell? ⟨a.block, a.off + 3, none⟩ = some (.string tnm) ∧ w'.cell? ⟨a.block, a.off + 4, none⟩ = some (.int .i64 tn) ∧ w'.cell? ⟨a.block, a.off + 5, none⟩ = some (.slice tol tl.length tcl) ∧ w'.cell? ⟨a.block, a.off + 6, none⟩ = some (.slice tob tb.length tcb) ∧ w'.cell? a' = some (.int .i64 uk) ∧ w'.cell? ⟨a'.block, a'.off + 1, none⟩ = some (.bool uneg) ∧ w'.cell? ⟨a'.block, a'.off + 2, none⟩ = some (.slice uod ud.length ucd) ∧ w'.cell? ⟨a'.block, a'.off + 3, none⟩ = some (.string unm) ∧ w'.cell? ⟨a'.block, a'.off + 4, none⟩ = some (.int .i64 un) ∧ w'.cell? ⟨a'.block, a'.off + 5, none⟩ = some (.slice uol ul.length ucl) ∧ w'.cell? ⟨a'.block, a'.off + 6, none⟩ = some (.slice uob ub.length ucb))) := hid (fun w' hb9 => by
        obtain ⟨a1, a2, _, _⟩ := kP.below hb9 hP7
        obtain ⟨t0, t1, t2, t3, t4, t5, t6⟩ := ((HT.out.1.zs (Z := fun k => k < B) HT.out.2.1 (fun k hk => (hbz.trans (below_le hb9 hBz)).block k hk))).tm
        obtain ⟨u0, u1, u2, u3, u4, u5, u6⟩ := ((HU.out.1.zs (Z := fun k => k < B) HU.out.2.1 (fun k hk => (hbz.trans (below_le hb9 hBz)).block k hk))).tm
        exact ⟨a1, a2, t0, t1, t2, t3, t4, t5, t6, u0, u1, u2, u3, u4, u5, u6⟩)
      have hq1 : (0 : Int) < (ra.length : Int) + 1 := by omega
      have hq2 : (0 : Int) < (rb.length : Int) + 1 := by omega
      have hk0 : Below Wz.heap.size Wz Wz.drew := hDr
      go_cut [8, 9] from 43 to 52 (fun p8 p9 wx => ∃ g8 g9, p8 = .pointer (some ⟨g8, 0, none⟩) ∧ p9 = .pointer (some ⟨g9, 0, none⟩) ∧ Bx g8 (.int .i64 pk) (.bool pneg) (.slice pod pd.length pcd) (.string pnm) (.int .i64 pn) (.slice pol pl.length pcl) (.slice pob pb.length pcb) wx ∧ Bx g9 (.int .i64 qk) (.bool qneg) (.slice qod qd.length qcd) (.string qnm) (.int .i64 qn) (.slice qol ql.length qcl) (.slice qob qb.length qcb) wx ∧ Below Wz.heap.size Wz wx)
      case first =>
        refine wp_region_held_drew (S := fun w' => w'.cell? ⟨g7, 0, none⟩ = some (.slice (some a) (ra.length + 1) ca) ∧ w'.cell? ⟨g7, 1, none⟩ = some (.slice (some a') (rb.length + 1) cb) ∧ w'.cell? a = some (.int .i64 tk) ∧ w'.cell? ⟨a.block, a.off + 1, none⟩ = some (.bool tneg) ∧ w'.cell? ⟨a.block, a.off + 2, none⟩ = some (.slice tod td.length tcd) ∧ w'.cell? ⟨a.block, a.off + 3, none⟩ = some (.string tnm) ∧ w'.cell? ⟨a.block, a.off + 4, none⟩ = some (.int .i64 tn) ∧ w'.cell? ⟨a.block, a.off + 5, none⟩ = some (.slice tol tl.length tcl) ∧ w'.cell? ⟨a.block, a.off + 6, none⟩ = some (.slice tob tb.length tcb) ∧ w'.cell? a' = some (.int .i64 uk) ∧ w'.cell? ⟨a'.block, a'.off + 1, none⟩ = some (.bool uneg) ∧ w'.cell? ⟨a'.block, a'.off + 2, none⟩ = some (.slice uod ud.length ucd) ∧ w'.cell? ⟨a'.block, a'.off + 3, none⟩ = some (.string unm) ∧ w'.cell? ⟨a'.block, a'.off + 4, none⟩ = some (.int .i64 un) ∧ w'.cell? ⟨a'.block, a'.off + 5, none⟩ = some (.slice uol ul.length ucl) ∧ w'.cell? ⟨a'.block, a'.off + 6, none⟩ = some (.slice uob ub.length ucb)) (by kernel_rfl) (by exact hS.out _ hDr) (fun hHeld => ?_)
        refine wpAnyH_take (i := 0) (oi := _) (v := ?_) rfl (by kernel_rfl) (by kernel_rfl) (by kernel_rfl) (fun _ _ _ h => h) (Or.inl ⟨by rfl, ?_⟩) (by assumption) ?_
        rotate_left 1
        · (intro w hSw; (try dsimp only at hSw); go_simp; try with_reducible rfl)
        try simp (maxSteps := 10000000) only [List.getElem_toArray, List.getElem_cons_succ, List.getElem_cons_zero, Act.put, List.setIfInBounds_toArray, List.set_cons_zero, List.set_cons_succ]
        refine wpAnyH_take (i := 1) (oi := _) (v := ?_) rfl (by kernel_rfl) (by kernel_rfl) (by kernel_rfl) (fun _ _ _ h => h) (Or.inl ⟨by rfl, ?_⟩) (by assumption) ?_
        rotate_left 1
        · (intro w hSw; (try dsimp only at hSw); go_simp; try with_reducible rfl)
        try simp (maxSteps := 10000000) only [List.getElem_toArray, List.getElem_cons_succ, List.getElem_cons_zero, Act.put, List.setIfInBounds_toArray, List.set_cons_zero, List.set_cons_succ]
        refine wpAnyH_take (i := 2) (oi := _) (v := ?_) rfl (by kernel_rfl) (by kernel_rfl) (by kernel_rfl) (fun _ _ _ h => h) (Or.inl ⟨by rfl, ?_⟩) (by assumption) ?_
        rotate_left 1
        · (intro w hSw; (try dsimp only at hSw); go_simp; try with_reducible rfl)
        try simp (maxSteps := 10000000) only [List.getElem_toArray, List.getElem_cons_succ, List.getElem_cons_zero, Act.put, List.setIfInBounds_toArray, List.set_cons_zero, List.set_cons_succ]
        refine wpAnyH_take (i := 3) (oi := _) (v := ?_) rfl (by kernel_rfl) (by kernel_rfl) (by kernel_rfl) (fun _ _ _ h => h) (Or.inl ⟨by rfl, ?_⟩) (by assumption) ?_
        rotate_left 1
        · (intro w hSw; (try dsimp only at hSw); go_simp; try with_reducible rfl)
        try simp (maxSteps := 10000000) only [List.getElem_toArray, List.getElem_cons_succ, List.getElem_cons_zero, Act.put, List.setIfInBounds_toArray, List.set_cons_zero, List.set_cons_succ]
        refine wpAnyH_take (i := 5) (oi := _) (v := ?_) rfl (by kernel_rfl) (by kernel_rfl) (by kernel_rfl) (fun _ _ _ h => h) (Or.inl ⟨by rfl, ?_⟩) (by assumption) ?_
        rotate_left 1
        · (intro w hSw; (try dsimp only at hSw); go_simp; try with_reducible rfl)
        try simp (maxSteps := 10000000) only [List.getElem_toArray, List.getElem_cons_succ, List.getElem_cons_zero, Act.put, List.setIfInBounds_toArray, List.set_cons_zero, List.set_cons_succ]
        refine wpAnyH_take (i := 6) (oi := _) (v := ?_) rfl (by kernel_rfl) (by kernel_rfl) (by kernel_rfl) (fun _ _ _ h => h) (Or.inl ⟨by rfl, ?_⟩) (by assumption) ?_
        rotate_left 1
        · (intro w hSw; (try dsimp only at hSw); go_simp; try with_reducible rfl)
        try simp (maxSteps := 10000000) only [List.getElem_toArray, List.getElem_cons_succ, List.getElem_cons_zero, Act.put, List.setIfInBounds_toArray, List.set_cons_zero, List.set_cons_succ]
        refine wpAnyH_take (i := 7) (oi := _) (v := ?_) rfl (by kernel_rfl) (by kernel_rfl) (by kernel_rfl) (fun _ _ _ h => h) (Or.inl ⟨by rfl, ?_⟩) (by assumption) ?_
        rotate_left 1
        · (intro w hSw; (try dsimp only at hSw); go_simp; try with_reducible rfl)
        try simp (maxSteps := 10000000) only [List.getElem_toArray, List.getElem_cons_succ, List.getElem_cons_zero, Act.put, List.setIfInBounds_toArray, List.set_cons_zero, List.set_cons_succ]
        refine wpAnyH_take (i := 8) (oi := _) (v := ?_) rfl (by kernel_rfl) (by kernel_rfl) (by kernel_rfl) (fun _ _ _ h => h) (Or.inl ⟨by rfl, ?_⟩) (by assumption) ?_
        rotate_left 1
        · (intro w hSw; (try dsimp only at hSw); go_simp; try with_reducible rfl)
        try simp (maxSteps := 10000000) only [List.getElem_toArray, List.getElem_cons_succ, List.getElem_cons_zero, Act.put, List.setIfInBounds_toArray, List.set_cons_zero, List.set_cons_succ]
        refine wpAnyH_at (m' := 6) (listed' := #[true, true, true, true, false, true, true, true, true, false, false, false, false, false]) (by kernel_rfl) (by kernel_rfl) ?_
        refine wpAnyH_name fun a0 ha0 => ?_
        refine wpAnyH_inv7 (A := fun s => (((a0.put (some 47) s.x1).put (some 52) s.x3).put (some 8) s.x4).put (some 9) s.x5) (R := R7 Wz.heap.size Wz (.agg #[.int .i64 pk, .bool pneg, .slice pod pd.length pcd, .string pnm, .int .i64 pn, .slice pol pl.length pcl, .slice pob pb.length pcb]) (.agg #[.int .i64 qk, .bool qneg, .slice qod qd.length qcd, .string qnm, .int .i64 qn, .slice qol ql.length qcl, .slice qob qb.length qcb])) ?_ (fun s w h => h.o3) ?_ ?_ ?_ ?_ ?_ _ _ u47 u52 u8 u9 ?_ ?_
        · kernel_rfl
        · intro s w' hR
          refine wpOp_step rfl (fun K' hK => ?_)
          have hK' := shut hK
          clear hK
          subst ha0
          simp only [Act.put, List.setIfInBounds_toArray, List.set_cons_zero, List.set_cons_succ]
          go_simp
          refine (pruned_w tk tneg tod td.length tcd tnm tn tol tl.length tcl tob tb.length tcb _).mono ?_
          rintro e w2 ⟨rfl, b2⟩
          rw [hpv]
          try go_simp
          refine hK'.out _ _ ⟨_, ?_, hR.c1 b2, hS.out _ (hR.c1 b2).bel⟩
          rfl
        · intro s w' hR he
          refine wpOp_step rfl (fun K' hK => ?_)
          have hK' := shut hK
          clear hK
          subst ha0
          simp only [Act.put, List.setIfInBounds_toArray, List.set_cons_zero, List.set_cons_succ]
          go_simp
          refine (pruned_w uk uneg uod ud.length ucd unm un uol ul.length ucl uob ub.length ucb _).mono ?_
          rintro e w2 ⟨rfl, b2⟩
          rw [hqv]
          try go_simp
          refine hK'.out _ _ ⟨_, ?_, hR.c3 he b2, hS.out _ (hR.c3 he b2).bel⟩
          rfl
        · intro s w' hR
          refine wpOp_step rfl (fun K' hK => ?_)
          have hK' := shut hK
          clear hK
          subst ha0
          simp only [Act.put, List.setIfInBounds_toArray, List.set_cons_zero, List.set_cons_succ]
          go_simp
          refine hK'.out _ _ ⟨_, ?_, hR.n4 31, hS.out _ (hR.n4 31).bel⟩
          rfl
        · intro s w' hR
          refine wpOp_step rfl (fun K' hK => ?_)
          have hK' := shut hK
          clear hK
          subst ha0
          simp only [Act.put, List.setIfInBounds_toArray, List.set_cons_zero, List.set_cons_succ]
          go_simp
          refine hK'.out _ _ ⟨_, ?_, hR.n5 31, hS.out _ (hR.n5 31).bel⟩
          rfl
        · intro x1 x3 x4 x5 w' hR
          obtain rfl := hR.h1 rfl
          obtain rfl := hR.h3 rfl
          obtain ⟨g8, rfl, n8, z8, k8⟩ := hR.h4 rfl
          obtain ⟨g9, rfl, n9, z9, k9⟩ := hR.h5 rfl
          have e89 : g8 ≠ g9 := fun e => hR.h45 rfl rfl (by rw [e])
          have hb0 := hR.bel
          clear hR
          obtain ⟨u0, u1, u2, u3, u4, u5, u6⟩ := k8.res
          have uf := k8.fr
          subst ha0
          try simp only [Act.put, List.setIfInBounds_toArray, List.set_cons_zero, List.set_cons_succ]
          refine wpAnyH_ready (rs := [12]) (by kernel_rfl) (by simp) ?_
          refine AllReadyH.cons rfl (fun K hK => ?_) AllReadyH.nil
          go_simp
          have hb7 := hb0.trans ((only_put w' g8 (.int .i64 pk) (.bool pneg) (.slice pod pd.length pcd) (.string pnm) (.int .i64 pn) (.slice pol pl.length pcl) (.slice pob pb.length pcb)).below (B := Wz.heap.size) n8)
          have k8a := k8.put (b0 := .int .i64 pk) (b1 := .bool pneg) (b2 := .slice pod pd.length pcd) (b3 := .string pnm) (b4 := .int .i64 pn) (b5 := .slice pol pl.length pcl) (b6 := .slice pob pb.length pcb)
          have k9a := k9.only (only_put w' g8 (.int .i64 pk) (.bool pneg) (.slice pod pd.length pcd) (.string pnm) (.int .i64 pn) (.slice pol pl.length pcl) (.slice pob pb.length pcb)) e89.symm
          clear u0 u1 u2 u3 u4 u5 u6 uf k8 k9 hb0
          obtain ⟨u0, u1, u2, u3, u4, u5, u6⟩ := k9a.res
          have uf := k9a.fr
          generalize (((((((w'.setCell ⟨g8, 0, none⟩ (.int .i64 pk)).setCell ⟨g8, 1, none⟩ (.bool pneg)).setCell ⟨g8, 2, none⟩ (.slice pod pd.length pcd)).setCell ⟨g8, 3, none⟩ (.string pnm)).setCell ⟨g8, 4, none⟩ (.int .i64 pn)).setCell ⟨g8, 5, none⟩ (.slice pol pl.length pcl)).setCell ⟨g8, 6, none⟩ (.slice pob pb.length pcb)) = wA at *
          try go_simp
          refine hK.out _ _ ?_ (fun hHeld => ?_)
          · first | exact hS.out _ (by assumption) | exact hS2.out _ (by assumption)
          clear hK K
          try simp (maxSteps := 10000000) only [List.getElem_toArray, List.getElem_cons_succ, List.getElem_cons_zero, Act.put, List.setIfInBounds_toArray, List.set_cons_zero, List.set_cons_succ]
          refine wpAnyH_ready (rs := [13]) (by kernel_rfl) (by simp) ?_
          refine AllReadyH.cons rfl (fun K hK => ?_) AllReadyH.nil
          go_simp
          have hb8 := hb7.trans ((only_put wA g9 (.int .i64 qk) (.bool qneg) (.slice qod qd.length qcd) (.string qnm) (.int .i64 qn) (.slice qol ql.length qcl) (.slice qob qb.length qcb)).below (B := Wz.heap.size) n9)
          have k9b := k9a.put (b0 := .int .i64 qk) (b1 := .bool qneg) (b2 := .slice qod qd.length qcd) (b3 := .string qnm) (b4 := .int .i64 qn) (b5 := .slice qol ql.length qcl) (b6 := .slice qob qb.length qcb)
          have k8b := k8a.only (only_put wA g9 (.int .i64 qk) (.bool qneg) (.slice qod qd.length qcd) (.string qnm) (.int .i64 qn) (.slice qol ql.length qcl) (.slice qob qb.length qcb)) e89
          clear u0 u1 u2 u3 u4 u5 u6 uf k8a k9a hb7
          generalize (((((((wA.setCell ⟨g9, 0, none⟩ (.int .i64 qk)).setCell ⟨g9, 1, none⟩ (.bool qneg)).setCell ⟨g9, 2, none⟩ (.slice qod qd.length qcd)).setCell ⟨g9, 3, none⟩ (.string qnm)).setCell ⟨g9, 4, none⟩ (.int .i64 qn)).setCell ⟨g9, 5, none⟩ (.slice qol ql.length qcl)).setCell ⟨g9, 6, none⟩ (.slice qob qb.length qcb)) = wB at *
          try go_simp
          refine hK.out _ _ ?_ (fun hHeld => ?_)
          · first | exact hS.out _ (by assumption) | exact hS2.out _ (by assumption)
          clear hK K
          try simp (maxSteps := 10000000) only [List.getElem_toArray, List.getElem_cons_succ, List.getElem_cons_zero, Act.put, List.setIfInBounds_toArray, List.set_cons_zero, List.set_cons_succ]
          refine wpAnyH_done (by kernel_rfl) ?_ _
          go_wp2_with fail
          go_meet
          exact ⟨g8, g9, rfl, rfl, k8b, k9b, hb8⟩
        · subst ha0; rfl
        · exact ⟨hDr, by have := hDr.size; omega, fun h => by simp at h, fun h => by simp at h, fun h => by simp at h, fun h => by simp at h, fun h => by simp at h, fun h => by simp at h⟩
      case rest =>
        obtain ⟨g8, g9, rfl, rfl, k8, k9, bw⟩ := hcut
        obtain ⟨V, rfl⟩ : ∃ x, x = wc := ⟨_, rfl⟩
        have hbV := hbz.trans (below_le bw hBz)
        have hBV : B ≤ V.heap.size := Nat.le_trans hBz bw.size
        have hOV := own_block hOz (fun k hk => bw.block k (hzo.out k hk))
        have iA : TV (Low V) V (.mk pk pneg pd pnm pn pl pb) (tmV pk pneg (.slice pod pd.length pcd) pnm pn (.slice pol pl.length pcl) (.slice pob pb.length pcb)) := tv_low (TV.zs (fun k hk => hbV.block k hk) _ _ HPP.out.1)
        have iB : TV (Low V) V (.mk qk qneg qd qnm qn ql qb) (tmV qk qneg (.slice qod qd.length qcd) qnm qn (.slice qol ql.length qcl) (.slice qob qb.length qcb)) := tv_low (TV.zs (fun k hk => hbV.block k hk) _ _ HPP.out.2.1)
        have hzV := bw.size
        clear hS hDr kP hP7 hk0 hbz hOz hq1 hq2 bw
        obtain ⟨s0, s1, s2, s3, s4, s5, s6⟩ := k8.res
        obtain ⟨t0, t1, t2, t3, t4, t5, t6⟩ := k9.res
        go_wp2_with fail
        refine (alike_w pk pneg pd pnm pn pl pb qk qneg qd qnm qn ql qb _ _ V HPP.out.2.2.1 HPP.out.2.2.2 iA iB).mono ?_
        rintro e w2 ⟨rfl, b2⟩
        rw [HAB.out.1]
        have hb2 := hbV.trans (below_le b2 hBV)
        have hB2 : B ≤ w2.heap.size := Nat.le_trans hBV b2.size
        have hO2 := own_block hOV (fun k hk => b2.block k (Nat.lt_of_lt_of_le (hzo.out k hk) hzV))
        have k82 := k8.below b2
        have k92 := k9.below b2
        clear s0 s1 s2 s3 s4 s5 s6 t0 t1 t2 t3 t4 t5 t6 iA iB k8 k9 hbV hBV hOV b2
        cases AB with
        | false =>
          have hRf : R = false := HAB.out.2.1 rfl
          have HR := hid hRf
          clear hRf
          go_wp2_with fail
          go_ret
          exact ⟨by rw [HR.out]; rfl, HB0.out.trans (below_le hb2 HB.out.1)⟩
        | true =>
          obtain ⟨s0, s1, s2, s3, s4, s5, s6⟩ := k82.res
          obtain ⟨t0, t1, t2, t3, t4, t5, t6⟩ := k92.res
          by_cases hpl0 : pl = []
          · have hpn : pl.length = 0 := by rw [hpl0]; rfl
            have hnp : ¬ (0 : Int) < (pl.length : Int) := by omega
            obtain ⟨hc5, hm5⟩ := HAB.out.2.2.1 rfl hpl0
            have Hc5 := hid hc5
            clear hc5
            go_wp2
            go_roundg (mSt S1)
            case measure => have := hm5; simp only [mSt] at *; omega
            case rel => exact ⟨S1, lvS, rfl, hO2, HSS.out.1, HSS.out.2.1, hb2, hB2, Hc5⟩
          · have hnp : (0 : Int) < (pl.length : Int) := by have := List.length_pos_iff.2 hpl0; omega
            obtain ⟨hc5, hm5, hsS⟩ := HAB.out.2.2.2 rfl hpl0
            obtain ⟨lv2, hsS1, hsS2⟩ := hsS
            have Hc5 := hid (And.intro hc5 (And.intro hsS1 hsS2))
            have hln := HSS.out.2.1
            have hHO := hid (hO2.alloc (.cells #[.slice pol pl.length pcl, .slice qol ql.length qcl] 54))
            have hbA : Below w2.heap.size w2 (w2.alloc (.cells #[.slice pol pl.length pcl, .slice qol ql.length qcl] 54)) := (Below.refl _ _).alloc (Nat.le_refl _) _
            have hBA := hb2.trans (below_le hbA hB2)
            have hOs := own_shape2 hO2
            clear hc5 hsS1 hsS2 hO2 k82 k92
            go_wp2_with (at_builtin; refine wpList_append_own _ rfl _ _ 55 rfl B 54 i0 (.agg #[.slice none 0 0, .slice none 0 0]) 2 48 Tryd.underlying55 hi hz0 hz1 hz2 rfl (by decide) _ _ _ rfl hHO.out ⟨w2.heap.size, 0, none⟩ 1 1 [.slice pol pl.length pcl, .slice qol ql.length qcl] rfl ?c1 ?c2 ?c3 ?c4 ?c5 ?c6 ?_)
            case c1 => rfl
            case c2 =>
              intro j u hj
              match j, hj with
              | 0, hj =>
                simp only [List.getElem?_cons_zero, Option.some.injEq] at hj
                subst hj
                rw [add_zero, World.cell?_alloc_mark]; rfl
              | 1, hj =>
                simp only [List.getElem?_cons_zero, List.getElem?_cons_succ, Option.some.injEq] at hj
                subst hj
                show World.cell? _ ⟨w2.heap.size, 0 + 1, none⟩ = _
                rw [World.cell?_alloc_mark]; rfl
              | (j + 2), hj => simp at hj
            case c3 =>
              intro u hu
              simp only [List.mem_cons, List.not_mem_nil, or_false] at hu
              rcases hu with rfl | rfl <;> rfl
            case c4 => unfold maxLen; omega
            case c5 => omega
            case c6 => simp; omega
            intro v6 w6 hown hgrow hnil
            have hb6 : Below B W0 w6 := hBA.trans ⟨hgrow.os, hgrow.tape, hgrow.output, hgrow.size, fun k hk => hgrow.block k (by simp; omega) (fun e => by
              obtain ⟨_, _, _, _, _, hq⟩ := hOs
              have := (hq k e.symm).1
              omega)⟩
            have hB6 : B ≤ w6.heap.size := Nat.le_trans (by simp; omega) hgrow.size
            have hO6 : w6.ownsRow B 54 2 v6 (Rp.mk pol pcl pl qol qcl ql :: S1).length (rpv (Rp.mk pol pcl pl qol qcl ql :: S1)) := by simpa [rpv] using hown
            have Hm5 := hid hm5
            clear hown hgrow hnil hHO hbA hBA hOs s0 s1 s2 s3 s4 s5 s6 t0 t1 t2 t3 t4 t5 t6 hm5
            go_wp2
            go_roundg (mSt (Rp.mk pol pcl pl qol qcl ql :: S1))
            case measure => exact Hm5.out
            case rel => exact ⟨_, lv2, rfl, hO6, Hc5.out.2.1, Hc5.out.2.2, hb6, hB6, Hc5.out.1⟩
    · have hra1 : 0 < ra.length := List.length_pos_iff.2 hra
      have hn1 : (1 : Int) < (ra.length : Int) + 1 := by omega
      have hca1 : ¬ ca = 1 := by have := Hcc.out.1; omega
      have hcb1 : ¬ cb = 1 := by have := Hcc.out.2; have := Hll.out; omega
      have h1a : (1 : Int) ≤ (ra.length : Int) + 1 := by omega
      have h1b : (1 : Int) ≤ (rb.length : Int) + 1 := by omega
      have hla : ((ra.length : Int) + 1) ≤ (ca : Int) := by have := Hcc.out.1; omega
      have hlb : ((rb.length : Int) + 1) ≤ (cb : Int) := by have := Hcc.out.2; omega
      go_wp2_with fail
      have hgx := hid hx7
      generalize (wr.alloc (.cells #[.slice (some a) (ra.length + 1) ca, .slice (some a') (rb.length + 1) cb] 54)) = W7 at *
      have hgne : rg ≠ wr.heap.size := by omega
      have hBg : B ≤ wr.heap.size := hBr
      clear hx hy hO' hcur hmc hm0 hm1 hn1
      generalize wr.heap.size = g7 at *
      have hV7 : Below W7.heap.size W7 W7.drew := (Below.refl _ _).drew
      have hP7' : g7 < W7.drew.heap.size := hlt7
      have kx7 := hx7.below hV7 hlt7
      have hO7d := own_block hO7 (w' := W7.drew) (fun k hk => rfl)
      have hb8d : Below B W0 W7.drew := hb8.drew
      have hB7 : B ≤ W7.drew.heap.size := Nat.le_trans hBg (Nat.le_of_lt hlt7)
      have hrg7 : rg < W7.drew.heap.size := by have : W7.drew.heap.size = W7.heap.size := rfl; omega
      have hS2 : Hid (∀ w' : World, w'.heap[g7]? = W7.drew.heap[g7]? → (w'.cell? ⟨g7, 0, none⟩ = some (.slice (some a) (ra.length + 1) ca) ∧ w'.cell? ⟨g7, 1, none⟩ = some (.slice (some a') (rb.length + 1) cb))) := hid (fun w' he => ⟨(kx7.blk he).1, (kx7.blk he).2.1⟩)
      have hS : Hid (∀ w' : World, Below W7.drew.heap.size W7.drew w' → (w'.cell? ⟨g7, 0, none⟩ = some (.slice (some a) (ra.length + 1) ca) ∧ w'.cell? ⟨g7, 1, none⟩ = some (.slice (some a') (rb.length + 1) cb))) := hid (fun w' he => hS2.out w' (he.block g7 hP7'))
      clear hx7 hb7 hO7 hb8 hgx hlt7 hV7
      refine wp_region_held_drew (S := fun w' => w'.cell? ⟨g7, 0, none⟩ = some (.slice (some a) (ra.length + 1) ca) ∧ w'.cell? ⟨g7, 1, none⟩ = some (.slice (some a') (rb.length + 1) cb)) (by kernel_rfl) (by exact hS.out _ (Below.refl _ _)) (fun hHeld => ?_)
      generalize W7.drew = V7 at *
      have hP7 := hP7'
      have hbA7 : Below V7.heap.size V7 (V7.alloc (.cells #[.slice (some ⟨a.block, a.off + 7, none⟩) ra.length (ca - 1), .slice (some ⟨a'.block, a'.off + 7, none⟩) rb.length (cb - 1)] 54)) := (Below.refl _ _).alloc (Nat.le_refl _) _
      have hOA := own_block hO7d (fun k hk => hbA7.block k (by simp only [Value.ownBlock, Option.some.injEq] at hk; omega))
      have hcr := World.news_of_block (heap_alloc_new V7 (.cells #[.slice (some ⟨a.block, a.off + 7, none⟩) ra.length (ca - 1), .slice (some ⟨a'.block, a'.off + 7, none⟩) rb.length (cb - 1)] 54))
      have hone : ∀ u ∈ [Value.slice (some ⟨a.block, a.off + 7, none⟩) ra.length (ca - 1), Value.slice (some ⟨a'.block, a'.off + 7, none⟩) rb.length (cb - 1)], u.oneCell' = true := by
        intro u hu
        simp only [List.mem_cons, List.not_mem_nil, or_false] at hu
        rcases hu with rfl | rfl <;> rfl
      refine wpAnyH_take (i := 0) (oi := _) (v := ?_) rfl (by kernel_rfl) (by kernel_rfl) (by kernel_rfl) (fun _ _ _ h => h) (Or.inl ⟨by rfl, ?_⟩) (by assumption) ?_
      rotate_left 1
      · (intro w hSw; (try dsimp only at hSw); go_simp; try with_reducible rfl)
      try simp (maxSteps := 10000000) only [List.getElem_toArray, List.getElem_cons_succ, List.getElem_cons_zero, Act.put, List.setIfInBounds_toArray, List.set_cons_zero, List.set_cons_succ]
      refine wpAnyH_take (i := 1) (oi := _) (v := ?_) rfl (by kernel_rfl) (by kernel_rfl) (by kernel_rfl) (fun _ _ _ h => h) (Or.inl ⟨by rfl, ?_⟩) (by assumption) ?_
      rotate_left 1
      · (intro w hSw; (try dsimp only at hSw); go_simp; try with_reducible rfl)
      try simp (maxSteps := 10000000) only [List.getElem_toArray, List.getElem_cons_succ, List.getElem_cons_zero, Act.put, List.setIfInBounds_toArray, List.set_cons_zero, List.set_cons_succ]
      refine wpAnyH_take (i := 2) (oi := _) (v := ?_) rfl (by kernel_rfl) (by kernel_rfl) (by kernel_rfl) (fun _ _ _ h => h) (Or.inl ⟨by rfl, ?_⟩) (by assumption) ?_
      rotate_left 1
      · (intro w hSw; (try dsimp only at hSw); go_simp; try with_reducible rfl)
      try simp (maxSteps := 10000000) only [List.getElem_toArray, List.getElem_cons_succ, List.getElem_cons_zero, Act.put, List.setIfInBounds_toArray, List.set_cons_zero, List.set_cons_succ]
      refine wpAnyH_take (i := 3) (oi := _) (v := ?_) rfl (by kernel_rfl) (by kernel_rfl) (by kernel_rfl) (fun _ _ _ h => h) (Or.inl ⟨by rfl, ?_⟩) (by assumption) ?_
      rotate_left 1
      · (intro w hSw; (try dsimp only at hSw); go_simp; try with_reducible rfl)
      try simp (maxSteps := 10000000) only [List.getElem_toArray, List.getElem_cons_succ, List.getElem_cons_zero, Act.put, List.setIfInBounds_toArray, List.set_cons_zero, List.set_cons_succ]
      refine wpAnyH_take (i := 4) (oi := _) (v := ?_) rfl (by kernel_rfl) (by kernel_rfl) (by kernel_rfl) (fun _ _ _ h => h) (Or.inl ⟨by rfl, ?_⟩) (by assumption) ?_
      rotate_left 1
      · (intro w hSw; (try dsimp only at hSw); go_simp; try with_reducible rfl)
      try simp (maxSteps := 10000000) only [List.getElem_toArray, List.getElem_cons_succ, List.getElem_cons_zero, Act.put, List.setIfInBounds_toArray, List.set_cons_zero, List.set_cons_succ]
      refine wpAnyH_take (i := 5) (oi := _) (v := ?_) rfl (by kernel_rfl) (by kernel_rfl) (by kernel_rfl) (fun _ _ _ h => h) (Or.inl ⟨by rfl, ?_⟩) (by assumption) ?_
      rotate_left 1
      · (intro w hSw; (try dsimp only at hSw); go_simp; try with_reducible rfl)
      try simp (maxSteps := 10000000) only [List.getElem_toArray, List.getElem_cons_succ, List.getElem_cons_zero, Act.put, List.setIfInBounds_toArray, List.set_cons_zero, List.set_cons_succ]
      refine wpAnyH_take (i := 6) (oi := _) (v := ?_) rfl (by kernel_rfl) (by kernel_rfl) (by kernel_rfl) (fun _ _ _ h => h) (Or.inl ⟨by rfl, ?_⟩) (by assumption) ?_
      rotate_left 1
      · (intro w hSw; (try dsimp only at hSw); go_simp; try with_reducible rfl)
      try simp (maxSteps := 10000000) only [List.getElem_toArray, List.getElem_cons_succ, List.getElem_cons_zero, Act.put, List.setIfInBounds_toArray, List.set_cons_zero, List.set_cons_succ]
      refine wpAnyH_take (i := 7) (oi := _) (v := ?_) rfl (by kernel_rfl) (by kernel_rfl) (by kernel_rfl) (fun _ _ _ h => h) (Or.inl ⟨by rfl, ?_⟩) (by assumption) ?_
      rotate_left 1
      · (intro w hSw; (try dsimp only at hSw); go_simp; try with_reducible rfl)
      try simp (maxSteps := 10000000) only [List.getElem_toArray, List.getElem_cons_succ, List.getElem_cons_zero, Act.put, List.setIfInBounds_toArray, List.set_cons_zero, List.set_cons_succ]
      refine wpAnyH_ready (rs := [8]) (by kernel_rfl) (by simp) ?_
      refine AllReadyH.cons rfl (fun K hK => ?_) AllReadyH.nil
      go_simp
      have hgk : (V7.alloc (.cells #[.slice (some ⟨a.block, a.off + 7, none⟩) ra.length (ca - 1), .slice (some ⟨a'.block, a'.off + 7, none⟩) rb.length (cb - 1)] 54)).heap[g7]? = V7.heap[g7]? := hbA7.block g7 hP7
      try go_simp
      refine hK.out _ _ ?_ (fun hHeld => ?_)
      · first | exact hS.out _ (by assumption) | exact hS2.out _ (by assumption)
      clear hK K
      try simp (maxSteps := 10000000) only [List.getElem_toArray, List.getElem_cons_succ, List.getElem_cons_zero, Act.put, List.setIfInBounds_toArray, List.set_cons_zero, List.set_cons_succ]
      refine wpAnyH_ready (rs := [9]) (by kernel_rfl) (by simp) ?_
      refine AllReadyH.cons rfl (fun K hK => ?_) AllReadyH.nil
      refine step_append_lies _ rfl _ _ 55 rfl B 54 i0 (.agg #[.slice none 0 0, .slice none 0 0]) 2 48 Tryd.underlying55 hi hz0 hz1 hz2 rfl (by decide) (.slice (some ⟨rg, 0, none⟩) st.length cap) st.length (rpv st) rfl hOA ⟨V7.heap.size, 0, none⟩ 1 1 [.slice (some ⟨a.block, a.off + 7, none⟩) ra.length (ca - 1), .slice (some ⟨a'.block, a'.off + 7, none⟩) rb.length (cb - 1)] rfl rfl hcr hone (by decide) (by unfold maxLen; omega) (by omega) (by simp; omega) _ rfl (fun g2 cap2 w2 hown hgrow hg2 hlt2 => ?_)
      have hgk2 : w2.heap[g7]? = V7.heap[g7]? := (hgrow.block g7 (by simp; omega) (fun e => by simp only [Value.ownBlock, Option.some.injEq] at e; omega)).trans hgk
      refine hK.out _ _ ?_ (fun hHeld => ?_)
      · first | exact hS.out _ (by assumption) | exact hS2.out _ (by assumption)
      clear hK K
      try simp (maxSteps := 10000000) only [List.getElem_toArray, List.getElem_cons_succ, List.getElem_cons_zero, Act.put, List.setIfInBounds_toArray, List.set_cons_zero, List.set_cons_succ]
      refine wpAnyH_take (i := 10) (oi := _) (v := ?_) rfl (by kernel_rfl) (by kernel_rfl) (by kernel_rfl) (fun _ _ _ h => h) (Or.inl ⟨by rfl, ?_⟩) (by assumption) ?_
      rotate_left 1
      · (intro w hSw; (try dsimp only at hSw); go_simp; try with_reducible rfl)
      try simp (maxSteps := 10000000) only [List.getElem_toArray, List.getElem_cons_succ, List.getElem_cons_zero, Act.put, List.setIfInBounds_toArray, List.set_cons_zero, List.set_cons_succ]
      refine wpAnyH_done (by kernel_rfl) ?_ _
      obtain ⟨Wz, rfl⟩ : ∃ x, x = w2 := ⟨_, rfl⟩
      have hS1e : S1 = ⟨some ⟨a.block, a.off + 7, none⟩, ca - 1, ra, some ⟨a'.block, a'.off + 7, none⟩, cb - 1, rb⟩ :: st := by rw [← HS1.out]; unfold rest; simp [hra]
      have hbz : Below B W0 Wz := (hb8d.trans (below_le hbA7 hB7)).trans ⟨hgrow.os, hgrow.tape, hgrow.output, hgrow.size, fun k hk => hgrow.block k (by simp; omega) (fun e => by simp only [Value.ownBlock, Option.some.injEq] at e; omega)⟩
      have hBz : B ≤ Wz.heap.size := Nat.le_trans (by simp; omega) hgrow.size
      have hOz : Wz.ownsRow B 54 2 (.slice (some ⟨g2, 0, none⟩) (st.length + 1) cap2) S1.length (rpv S1) := by rw [hS1e]; simpa [rpv] using hown
      have kP := kx7.blk hgk2
      have hP7z : g7 < Wz.heap.size := Nat.lt_of_lt_of_le hP7 (Nat.le_trans (by simp) hgrow.size)
      have hzo := hid (show ∀ k, Value.ownBlock (.slice (some ⟨g2, 0, none⟩) (st.length + 1) cap2) = some k → k < Wz.heap.size from fun k hk => by
        simp only [Value.ownBlock, Option.some.injEq] at hk
        omega)
      clear hS hS2 hbA7 hOA hcr hone hown hgrow hg2 hlt2 hgk hgk2 kx7 hb8d hB7 hrg7 hP7 hP7' hHeld hO7d hS1e hra hra1 hcap hBrg hgne hBg hgr hca1 hcb1 h1a h1b hla hlb
      have hP7 := hP7z
      clear hP7z
      go_upto_region 8 with fail
      have hDr : Below Wz.heap.size Wz Wz.drew := (Below.refl _ Wz).drew
      have hS : Hid (∀ w', Below Wz.heap.size Wz w' → (w'.cell? ⟨g7, 0, none⟩ = some (.slice (some a) (ra.length + 1) ca) ∧ w'.cell? ⟨g7, 1, none⟩ = some (.slice (some a') (rb.length + 1) cb) ∧ w'.cell? a = some (.int .i64 tk) ∧ w'.cell? ⟨a.block, a.off + 1, none⟩ = some (.bool tneg) ∧ w'.cell? ⟨a.block, a.off + 2, none⟩ = some (.slice tod td.length tcd) ∧ w'.cell? ⟨a.block, a.off + 3, none⟩ = some (.string tnm) ∧ w'.cell? ⟨a.block, a.off + 4, none⟩ = some (.int .i64 tn) ∧ w'.cell? ⟨a.block, a.off + 5, none⟩ = some (.slice tol tl.length tcl) ∧ w'.cell? ⟨a.block, a.off + 6, none⟩ = some (.slice tob tb.length tcb) ∧ w'.cell? a' = some (.int .i64 uk) ∧ w'.cell? ⟨a'.block, a'.off + 1, none⟩ = some (.bool uneg) ∧ w'.cell? ⟨a'.block, a'.off + 2, none⟩ = some (.slice uod ud.length ucd) ∧ w'.cell? ⟨a'.block, a'.off + 3, none⟩ = some (.string unm) ∧ w'.cell? ⟨a'.block, a'.off + 4, none⟩ = some (.int .i64 un) ∧ w'.cell? ⟨a'.block, a'.off + 5, none⟩ = some (.slice uol ul.length ucl) ∧ w'.cell? ⟨a'.block, a'.off + 6, none⟩ = some (.slice uob ub.length ucb))) := hid (fun w' hb9 => by
        obtain ⟨a1, a2, _, _⟩ := kP.below hb9 hP7
        obtain ⟨t0, t1, t2, t3, t4, t5, t6⟩ := ((HT.out.1.zs (Z := fun k => k < B) HT.out.2.1 (fun k hk => (hbz.trans (below_le hb9 hBz)).block k hk))).tm
        obtain ⟨u0, u1, u2, u3, u4, u5, u6⟩ := ((HU.out.1.zs (Z := fun k => k < B) HU.out.2.1 (fun k hk => (hbz.trans (below_le hb9 hBz)).block k hk))).tm
        exact ⟨a1, a2, t0, t1, t2, t3, t4, t5, t6, u0, u1, u2, u3, u4, u5, u6⟩)
      have hq1 : (0 : Int) < (ra.length : Int) + 1 := by omega
      have hq2 : (0 : Int) < (rb.length : Int) + 1 := by omega
      have hk0 : Below Wz.heap.size Wz Wz.drew := hDr
      go_cut [8, 9] from 43 to 52 (fun p8 p9 wx => ∃ g8 g9, p8 = .pointer (some ⟨g8, 0, none⟩) ∧ p9 = .pointer (some ⟨g9, 0, none⟩) ∧ Bx g8 (.int .i64 pk) (.bool pneg) (.slice pod pd.length pcd) (.string pnm) (.int .i64 pn) (.slice pol pl.length pcl) (.slice pob pb.length pcb) wx ∧ Bx g9 (.int .i64 qk) (.bool qneg) (.slice qod qd.length qcd) (.string qnm) (.int .i64 qn) (.slice qol ql.length qcl) (.slice qob qb.length qcb) wx ∧ Below Wz.heap.size Wz wx)
      case first =>
        refine wp_region_held_drew (S := fun w' => w'.cell? ⟨g7, 0, none⟩ = some (.slice (some a) (ra.length + 1) ca) ∧ w'.cell? ⟨g7, 1, none⟩ = some (.slice (some a') (rb.length + 1) cb) ∧ w'.cell? a = some (.int .i64 tk) ∧ w'.cell? ⟨a.block, a.off + 1, none⟩ = some (.bool tneg) ∧ w'.cell? ⟨a.block, a.off + 2, none⟩ = some (.slice tod td.length tcd) ∧ w'.cell? ⟨a.block, a.off + 3, none⟩ = some (.string tnm) ∧ w'.cell? ⟨a.block, a.off + 4, none⟩ = some (.int .i64 tn) ∧ w'.cell? ⟨a.block, a.off + 5, none⟩ = some (.slice tol tl.length tcl) ∧ w'.cell? ⟨a.block, a.off + 6, none⟩ = some (.slice tob tb.length tcb) ∧ w'.cell? a' = some (.int .i64 uk) ∧ w'.cell? ⟨a'.block, a'.off + 1, none⟩ = some (.bool uneg) ∧ w'.cell? ⟨a'.block, a'.off + 2, none⟩ = some (.slice uod ud.length ucd) ∧ w'.cell? ⟨a'.block, a'.off + 3, none⟩ = some (.string unm) ∧ w'.cell? ⟨a'.block, a'.off + 4, none⟩ = some (.int .i64 un) ∧ w'.cell? ⟨a'.block, a'.off + 5, none⟩ = some (.slice uol ul.length ucl) ∧ w'.cell? ⟨a'.block, a'.off + 6, none⟩ = some (.slice uob ub.length ucb)) (by kernel_rfl) (by exact hS.out _ hDr) (fun hHeld => ?_)
        refine wpAnyH_take (i := 0) (oi := _) (v := ?_) rfl (by kernel_rfl) (by kernel_rfl) (by kernel_rfl) (fun _ _ _ h => h) (Or.inl ⟨by rfl, ?_⟩) (by assumption) ?_
        rotate_left 1
        · (intro w hSw; (try dsimp only at hSw); go_simp; try with_reducible rfl)
        try simp (maxSteps := 10000000) only [List.getElem_toArray, List.getElem_cons_succ, List.getElem_cons_zero, Act.put, List.setIfInBounds_toArray, List.set_cons_zero, List.set_cons_succ]
        refine wpAnyH_take (i := 1) (oi := _) (v := ?_) rfl (by kernel_rfl) (by kernel_rfl) (by kernel_rfl) (fun _ _ _ h => h) (Or.inl ⟨by rfl, ?_⟩) (by assumption) ?_
        rotate_left 1
        · (intro w hSw; (try dsimp only at hSw); go_simp; try with_reducible rfl)
        try simp (maxSteps := 10000000) only [List.getElem_toArray, List.getElem_cons_succ, List.getElem_cons_zero, Act.put, List.setIfInBounds_toArray, List.set_cons_zero, List.set_cons_succ]
        refine wpAnyH_take (i := 2) (oi := _) (v := ?_) rfl (by kernel_rfl) (by kernel_rfl) (by kernel_rfl) (fun _ _ _ h => h) (Or.inl ⟨by rfl, ?_⟩) (by assumption) ?_
        rotate_left 1
        · (intro w hSw; (try dsimp only at hSw); go_simp; try with_reducible rfl)
        try simp (maxSteps := 10000000) only [List.getElem_toArray, List.getElem_cons_succ, List.getElem_cons_zero, Act.put, List.setIfInBounds_toArray, List.set_cons_zero, List.set_cons_succ]
        refine wpAnyH_take (i := 3) (oi := _) (v := ?_) rfl (by kernel_rfl) (by kernel_rfl) (by kernel_rfl) (fun _ _ _ h => h) (Or.inl ⟨by rfl, ?_⟩) (by assumption) ?_
        rotate_left 1
        · (intro w hSw; (try dsimp only at hSw); go_simp; try with_reducible rfl)
        try simp (maxSteps := 10000000) only [List.getElem_toArray, List.getElem_cons_succ, List.getElem_cons_zero, Act.put, List.setIfInBounds_toArray, List.set_cons_zero, List.set_cons_succ]
        refine wpAnyH_take (i := 5) (oi := _) (v := ?_) rfl (by kernel_rfl) (by kernel_rfl) (by kernel_rfl) (fun _ _ _ h => h) (Or.inl ⟨by rfl, ?_⟩) (by assumption) ?_
        rotate_left 1
        · (intro w hSw; (try dsimp only at hSw); go_simp; try with_reducible rfl)
        try simp (maxSteps := 10000000) only [List.getElem_toArray, List.getElem_cons_succ, List.getElem_cons_zero, Act.put, List.setIfInBounds_toArray, List.set_cons_zero, List.set_cons_succ]
        refine wpAnyH_take (i := 6) (oi := _) (v := ?_) rfl (by kernel_rfl) (by kernel_rfl) (by kernel_rfl) (fun _ _ _ h => h) (Or.inl ⟨by rfl, ?_⟩) (by assumption) ?_
        rotate_left 1
        · (intro w hSw; (try dsimp only at hSw); go_simp; try with_reducible rfl)
        try simp (maxSteps := 10000000) only [List.getElem_toArray, List.getElem_cons_succ, List.getElem_cons_zero, Act.put, List.setIfInBounds_toArray, List.set_cons_zero, List.set_cons_succ]
        refine wpAnyH_take (i := 7) (oi := _) (v := ?_) rfl (by kernel_rfl) (by kernel_rfl) (by kernel_rfl) (fun _ _ _ h => h) (Or.inl ⟨by rfl, ?_⟩) (by assumption) ?_
        rotate_left 1
        · (intro w hSw; (try dsimp only at hSw); go_simp; try with_reducible rfl)
        try simp (maxSteps := 10000000) only [List.getElem_toArray, List.getElem_cons_succ, List.getElem_cons_zero, Act.put, List.setIfInBounds_toArray, List.set_cons_zero, List.set_cons_succ]
        refine wpAnyH_take (i := 8) (oi := _) (v := ?_) rfl (by kernel_rfl) (by kernel_rfl) (by kernel_rfl) (fun _ _ _ h => h) (Or.inl ⟨by rfl, ?_⟩) (by assumption) ?_
        rotate_left 1
        · (intro w hSw; (try dsimp only at hSw); go_simp; try with_reducible rfl)
        try simp (maxSteps := 10000000) only [List.getElem_toArray, List.getElem_cons_succ, List.getElem_cons_zero, Act.put, List.setIfInBounds_toArray, List.set_cons_zero, List.set_cons_succ]
        refine wpAnyH_at (m' := 6) (listed' := #[true, true, true, true, false, true, true, true, true, false, false, false, false, false]) (by kernel_rfl) (by kernel_rfl) ?_
        refine wpAnyH_name fun a0 ha0 => ?_
        refine wpAnyH_inv7 (A := fun s => (((a0.put (some 47) s.x1).put (some 52) s.x3).put (some 8) s.x4).put (some 9) s.x5) (R := R7 Wz.heap.size Wz (.agg #[.int .i64 pk, .bool pneg, .slice pod pd.length pcd, .string pnm, .int .i64 pn, .slice pol pl.length pcl, .slice pob pb.length pcb]) (.agg #[.int .i64 qk, .bool qneg, .slice qod qd.length qcd, .string qnm, .int .i64 qn, .slice qol ql.length qcl, .slice qob qb.length qcb])) ?_ (fun s w h => h.o3) ?_ ?_ ?_ ?_ ?_ _ _ u47 u52 u8 u9 ?_ ?_
        · kernel_rfl
        · intro s w' hR
          refine wpOp_step rfl (fun K' hK => ?_)
          have hK' := shut hK
          clear hK
          subst ha0
          simp only [Act.put, List.setIfInBounds_toArray, List.set_cons_zero, List.set_cons_succ]
          go_simp
          refine (pruned_w tk tneg tod td.length tcd tnm tn tol tl.length tcl tob tb.length tcb _).mono ?_
          rintro e w2 ⟨rfl, b2⟩
          rw [hpv]
          try go_simp
          refine hK'.out _ _ ⟨_, ?_, hR.c1 b2, hS.out _ (hR.c1 b2).bel⟩
          rfl
        · intro s w' hR he
          refine wpOp_step rfl (fun K' hK => ?_)
          have hK' := shut hK
          clear hK
          subst ha0
          simp only [Act.put, List.setIfInBounds_toArray, List.set_cons_zero, List.set_cons_succ]
          go_simp
          refine (pruned_w uk uneg uod ud.length ucd unm un uol ul.length ucl uob ub.length ucb _).mono ?_
          rintro e w2 ⟨rfl, b2⟩
          rw [hqv]
          try go_simp
          refine hK'.out _ _ ⟨_, ?_, hR.c3 he b2, hS.out _ (hR.c3 he b2).bel⟩
          rfl
        · intro s w' hR
          refine wpOp_step rfl (fun K' hK => ?_)
          have hK' := shut hK
          clear hK
          subst ha0
          simp only [Act.put, List.setIfInBounds_toArray, List.set_cons_zero, List.set_cons_succ]
          go_simp
          refine hK'.out _ _ ⟨_, ?_, hR.n4 31, hS.out _ (hR.n4 31).bel⟩
          rfl
        · intro s w' hR
          refine wpOp_step rfl (fun K' hK => ?_)
          have hK' := shut hK
          clear hK
          subst ha0
          simp only [Act.put, List.setIfInBounds_toArray, List.set_cons_zero, List.set_cons_succ]
          go_simp
          refine hK'.out _ _ ⟨_, ?_, hR.n5 31, hS.out _ (hR.n5 31).bel⟩
          rfl
        · intro x1 x3 x4 x5 w' hR
          obtain rfl := hR.h1 rfl
          obtain rfl := hR.h3 rfl
          obtain ⟨g8, rfl, n8, z8, k8⟩ := hR.h4 rfl
          obtain ⟨g9, rfl, n9, z9, k9⟩ := hR.h5 rfl
          have e89 : g8 ≠ g9 := fun e => hR.h45 rfl rfl (by rw [e])
          have hb0 := hR.bel
          clear hR
          obtain ⟨u0, u1, u2, u3, u4, u5, u6⟩ := k8.res
          have uf := k8.fr
          subst ha0
          try simp only [Act.put, List.setIfInBounds_toArray, List.set_cons_zero, List.set_cons_succ]
          refine wpAnyH_ready (rs := [12]) (by kernel_rfl) (by simp) ?_
          refine AllReadyH.cons rfl (fun K hK => ?_) AllReadyH.nil
          go_simp
          have hb7 := hb0.trans ((only_put w' g8 (.int .i64 pk) (.bool pneg) (.slice pod pd.length pcd) (.string pnm) (.int .i64 pn) (.slice pol pl.length pcl) (.slice pob pb.length pcb)).below (B := Wz.heap.size) n8)
          have k8a := k8.put (b0 := .int .i64 pk) (b1 := .bool pneg) (b2 := .slice pod pd.length pcd) (b3 := .string pnm) (b4 := .int .i64 pn) (b5 := .slice pol pl.length pcl) (b6 := .slice pob pb.length pcb)
          have k9a := k9.only (only_put w' g8 (.int .i64 pk) (.bool pneg) (.slice pod pd.length pcd) (.string pnm) (.int .i64 pn) (.slice pol pl.length pcl) (.slice pob pb.length pcb)) e89.symm
          clear u0 u1 u2 u3 u4 u5 u6 uf k8 k9 hb0
          obtain ⟨u0, u1, u2, u3, u4, u5, u6⟩ := k9a.res
          have uf := k9a.fr
          generalize (((((((w'.setCell ⟨g8, 0, none⟩ (.int .i64 pk)).setCell ⟨g8, 1, none⟩ (.bool pneg)).setCell ⟨g8, 2, none⟩ (.slice pod pd.length pcd)).setCell ⟨g8, 3, none⟩ (.string pnm)).setCell ⟨g8, 4, none⟩ (.int .i64 pn)).setCell ⟨g8, 5, none⟩ (.slice pol pl.length pcl)).setCell ⟨g8, 6, none⟩ (.slice pob pb.length pcb)) = wA at *
          try go_simp
          refine hK.out _ _ ?_ (fun hHeld => ?_)
          · first | exact hS.out _ (by assumption) | exact hS2.out _ (by assumption)
          clear hK K
          try simp (maxSteps := 10000000) only [List.getElem_toArray, List.getElem_cons_succ, List.getElem_cons_zero, Act.put, List.setIfInBounds_toArray, List.set_cons_zero, List.set_cons_succ]
          refine wpAnyH_ready (rs := [13]) (by kernel_rfl) (by simp) ?_
          refine AllReadyH.cons rfl (fun K hK => ?_) AllReadyH.nil
          go_simp
          have hb8 := hb7.trans ((only_put wA g9 (.int .i64 qk) (.bool qneg) (.slice qod qd.length qcd) (.string qnm) (.int .i64 qn) (.slice qol ql.length qcl) (.slice qob qb.length qcb)).below (B := Wz.heap.size) n9)
          have k9b := k9a.put (b0 := .int .i64 qk) (b1 := .bool qneg) (b2 := .slice qod qd.length qcd) (b3 := .string qnm) (b4 := .int .i64 qn) (b5 := .slice qol ql.length qcl) (b6 := .slice qob qb.length qcb)
          have k8b := k8a.only (only_put wA g9 (.int .i64 qk) (.bool qneg) (.slice qod qd.length qcd) (.string qnm) (.int .i64 qn) (.slice qol ql.length qcl) (.slice qob qb.length qcb)) e89
          clear u0 u1 u2 u3 u4 u5 u6 uf k8a k9a hb7
          generalize (((((((wA.setCell ⟨g9, 0, none⟩ (.int .i64 qk)).setCell ⟨g9, 1, none⟩ (.bool qneg)).setCell ⟨g9, 2, none⟩ (.slice qod qd.length qcd)).setCell ⟨g9, 3, none⟩ (.string qnm)).setCell ⟨g9, 4, none⟩ (.int .i64 qn)).setCell ⟨g9, 5, none⟩ (.slice qol ql.length qcl)).setCell ⟨g9, 6, none⟩ (.slice qob qb.length qcb)) = wB at *
          try go_simp
          refine hK.out _ _ ?_ (fun hHeld => ?_)
          · first | exact hS.out _ (by assumption) | exact hS2.out _ (by assumption)
          clear hK K
          try simp (maxSteps := 10000000) only [List.getElem_toArray, List.getElem_cons_succ, List.getElem_cons_zero, Act.put, List.setIfInBounds_toArray, List.set_cons_zero, List.set_cons_succ]
          refine wpAnyH_done (by kernel_rfl) ?_ _
          go_wp2_with fail
          go_meet
          exact ⟨g8, g9, rfl, rfl, k8b, k9b, hb8⟩
        · subst ha0; rfl
        · exact ⟨hDr, by have := hDr.size; omega, fun h => by simp at h, fun h => by simp at h, fun h => by simp at h, fun h => by simp at h, fun h => by simp at h, fun h => by simp at h⟩
      case rest =>
        obtain ⟨g8, g9, rfl, rfl, k8, k9, bw⟩ := hcut
        obtain ⟨V, rfl⟩ : ∃ x, x = wc := ⟨_, rfl⟩
        have hbV := hbz.trans (below_le bw hBz)
        have hBV : B ≤ V.heap.size := Nat.le_trans hBz bw.size
        have hOV := own_block hOz (fun k hk => bw.block k (hzo.out k hk))
        have iA : TV (Low V) V (.mk pk pneg pd pnm pn pl pb) (tmV pk pneg (.slice pod pd.length pcd) pnm pn (.slice pol pl.length pcl) (.slice pob pb.length pcb)) := tv_low (TV.zs (fun k hk => hbV.block k hk) _ _ HPP.out.1)
        have iB : TV (Low V) V (.mk qk qneg qd qnm qn ql qb) (tmV qk qneg (.slice qod qd.length qcd) qnm qn (.slice qol ql.length qcl) (.slice qob qb.length qcb)) := tv_low (TV.zs (fun k hk => hbV.block k hk) _ _ HPP.out.2.1)
        have hzV := bw.size
        clear hS hDr kP hP7 hk0 hbz hOz hq1 hq2 bw
        obtain ⟨s0, s1, s2, s3, s4, s5, s6⟩ := k8.res
        obtain ⟨t0, t1, t2, t3, t4, t5, t6⟩ := k9.res
        go_wp2_with fail
        refine (alike_w pk pneg pd pnm pn pl pb qk qneg qd qnm qn ql qb _ _ V HPP.out.2.2.1 HPP.out.2.2.2 iA iB).mono ?_
        rintro e w2 ⟨rfl, b2⟩
        rw [HAB.out.1]
        have hb2 := hbV.trans (below_le b2 hBV)
        have hB2 : B ≤ w2.heap.size := Nat.le_trans hBV b2.size
        have hO2 := own_block hOV (fun k hk => b2.block k (Nat.lt_of_lt_of_le (hzo.out k hk) hzV))
        have k82 := k8.below b2
        have k92 := k9.below b2
        clear s0 s1 s2 s3 s4 s5 s6 t0 t1 t2 t3 t4 t5 t6 iA iB k8 k9 hbV hBV hOV b2
        cases AB with
        | false =>
          have hRf : R = false := HAB.out.2.1 rfl
          have HR := hid hRf
          clear hRf
          go_wp2_with fail
          go_ret
          exact ⟨by rw [HR.out]; rfl, HB0.out.trans (below_le hb2 HB.out.1)⟩
        | true =>
          obtain ⟨s0, s1, s2, s3, s4, s5, s6⟩ := k82.res
          obtain ⟨t0, t1, t2, t3, t4, t5, t6⟩ := k92.res
          by_cases hpl0 : pl = []
          · have hpn : pl.length = 0 := by rw [hpl0]; rfl
            have hnp : ¬ (0 : Int) < (pl.length : Int) := by omega
            obtain ⟨hc5, hm5⟩ := HAB.out.2.2.1 rfl hpl0
            have Hc5 := hid hc5
            clear hc5
            go_wp2
            go_roundg (mSt S1)
            case measure => have := hm5; simp only [mSt] at *; omega
            case rel => exact ⟨S1, lvS, rfl, hO2, HSS.out.1, HSS.out.2.1, hb2, hB2, Hc5⟩
          · have hnp : (0 : Int) < (pl.length : Int) := by have := List.length_pos_iff.2 hpl0; omega
            obtain ⟨hc5, hm5, hsS⟩ := HAB.out.2.2.2 rfl hpl0
            obtain ⟨lv2, hsS1, hsS2⟩ := hsS
            have Hc5 := hid (And.intro hc5 (And.intro hsS1 hsS2))
            have hln := HSS.out.2.1
            have hHO := hid (hO2.alloc (.cells #[.slice pol pl.length pcl, .slice qol ql.length qcl] 54))
            have hbA : Below w2.heap.size w2 (w2.alloc (.cells #[.slice pol pl.length pcl, .slice qol ql.length qcl] 54)) := (Below.refl _ _).alloc (Nat.le_refl _) _
            have hBA := hb2.trans (below_le hbA hB2)
            have hOs := own_shape2 hO2
            clear hc5 hsS1 hsS2 hO2 k82 k92
            go_wp2_with (at_builtin; refine wpList_append_own _ rfl _ _ 55 rfl B 54 i0 (.agg #[.slice none 0 0, .slice none 0 0]) 2 48 Tryd.underlying55 hi hz0 hz1 hz2 rfl (by decide) _ _ _ rfl hHO.out ⟨w2.heap.size, 0, none⟩ 1 1 [.slice pol pl.length pcl, .slice qol ql.length qcl] rfl ?c1 ?c2 ?c3 ?c4 ?c5 ?c6 ?_)
            case c1 => rfl
            case c2 =>
              intro j u hj
              match j, hj with
              | 0, hj =>
                simp only [List.getElem?_cons_zero, Option.some.injEq] at hj
                subst hj
                rw [add_zero, World.cell?_alloc_mark]; rfl
              | 1, hj =>
                simp only [List.getElem?_cons_zero, List.getElem?_cons_succ, Option.some.injEq] at hj
                subst hj
                show World.cell? _ ⟨w2.heap.size, 0 + 1, none⟩ = _
                rw [World.cell?_alloc_mark]; rfl
              | (j + 2), hj => simp at hj
            case c3 =>
              intro u hu
              simp only [List.mem_cons, List.not_mem_nil, or_false] at hu
              rcases hu with rfl | rfl <;> rfl
            case c4 => unfold maxLen; omega
            case c5 => omega
            case c6 => simp; omega
            intro v6 w6 hown hgrow hnil
            have hb6 : Below B W0 w6 := hBA.trans ⟨hgrow.os, hgrow.tape, hgrow.output, hgrow.size, fun k hk => hgrow.block k (by simp; omega) (fun e => by
              obtain ⟨_, _, _, _, _, hq⟩ := hOs
              have := (hq k e.symm).1
              omega)⟩
            have hB6 : B ≤ w6.heap.size := Nat.le_trans (by simp; omega) hgrow.size
            have hO6 : w6.ownsRow B 54 2 v6 (Rp.mk pol pcl pl qol qcl ql :: S1).length (rpv (Rp.mk pol pcl pl qol qcl ql :: S1)) := by simpa [rpv] using hown
            have Hm5 := hid hm5
            clear hown hgrow hnil hHO hbA hBA hOs s0 s1 s2 s3 s4 s5 s6 t0 t1 t2 t3 t4 t5 t6 hm5
            go_wp2
            go_roundg (mSt (Rp.mk pol pcl pl qol qcl ql :: S1))
            case measure => exact Hm5.out
            case rel => exact ⟨_, lv2, rfl, hO6, Hc5.out.2.1, Hc5.out.2.2, hb6, hB6, Hc5.out.1⟩
end Go.Proofs.YtpdoepjnkgffpaaDoor
