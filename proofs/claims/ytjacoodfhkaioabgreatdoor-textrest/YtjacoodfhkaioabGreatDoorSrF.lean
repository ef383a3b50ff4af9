/- Texts of mine, one behind the other: TermEv, TermTree, BigDivA, BigSmall2, TermRoom, TermLean, TermMayC, TermDet. -/
import Derived.Test.YtjacoodfhkaioabGreatDoorSrE
import Derived.Test.YtjacoodfhkaioabGreatDoorSrB
import Derived.Test.YtjacoodfhkaioabGreatDoorSrC
import Derived.ChangeMaps5
import Derived.Deep.RegionWith
import Derived.Test.YtjacoodfhkaioabGreatDoorSrD
namespace Go.Proofs.YtjacoodfhkaioabGreatDoor
open Go.ChangeShapes Go.WideShapes Go.ChangeAt Go.RowKit Go.Shelf
set_option linter.unusedSimpArgs false
set_option linter.unusedVariables false
set_option maxRecDepth 2000
theorem At7.tm {a : Addr} {k : Int} {neg : Bool} {D : Value} {nm : ByteArray} {n : Int} {L B : Value} {w : World} (h : At7 a (tmV k neg D nm n L B) w) : w.cell? a = some (.int .i64 k) ∧ w.cell? ⟨a.block, a.off + 1, none⟩ = some (.bool neg) ∧ w.cell? ⟨a.block, a.off + 2, none⟩ = some D ∧ w.cell? ⟨a.block, a.off + 3, none⟩ = some (.string nm) ∧ w.cell? ⟨a.block, a.off + 4, none⟩ = some (.int .i64 n) ∧ w.cell? ⟨a.block, a.off + 5, none⟩ = some L ∧ w.cell? ⟨a.block, a.off + 6, none⟩ = some B := by
  obtain ⟨a0, a1, a2, a3, a4, a5, a6, e, h⟩ := h
  simp only [Value.agg.injEq, Array.mk.injEq, List.cons.injEq, and_true] at e
  obtain ⟨rfl, rfl, rfl, rfl, rfl, rfl, rfl⟩ := e
  exact h
theorem hstart {w : World} {F : Nat → Prop} {k : Int} {neg : Bool} {d : List Nat} {nm : ByteArray} {n : Int} {l : List Tm} {b : List Nat} {od ol ob : Option Addr} {cd cl cb : Nat} {t : TypeId}
    (hT : TV (fun k => k < w.heap.size ∧ ¬ F k) w (.mk k neg d nm n l b) (tmV k neg (.slice od d.length cd) nm n (.slice ol l.length cl) (.slice ob b.length cb))) :
    ∀ W0, W0 = (((w.alloc (.cells #[.int .i64 k, .bool neg, .slice od d.length cd, .string nm, .int .i64 n, .slice ol l.length cl, .slice ob b.length cb] t)).alloc (.cells #[.int .i64 k, .bool neg, .slice od d.length cd, .string nm, .int .i64 n, .slice ol l.length cl, .slice ob b.length cb] t)).alloc (.cells #[.slice (some ⟨w.heap.size + 1, 0, none⟩) 1 1] 23)) →
    Below w.heap.size w W0 ∧ W0.heap.size = w.heap.size + 3 ∧ W0.ownsRow (w.heap.size + 2) 23 1 (.slice (some ⟨w.heap.size + 2, 0, none⟩) 1 1) 1 [.slice (some ⟨w.heap.size + 1, 0, none⟩) 1 1] ∧ TR (fun k => (k < w.heap.size ∧ ¬ F k) ∨ k = w.heap.size + 1) W0 [.mk k neg d nm n l b] (some ⟨w.heap.size + 1, 0, none⟩) := by
  rintro W0 rfl
  have hB : Below w.heap.size w (((w.alloc (.cells #[.int .i64 k, .bool neg, .slice od d.length cd, .string nm, .int .i64 n, .slice ol l.length cl, .slice ob b.length cb] t)).alloc (.cells #[.int .i64 k, .bool neg, .slice od d.length cd, .string nm, .int .i64 n, .slice ol l.length cl, .slice ob b.length cb] t)).alloc (.cells #[.slice (some ⟨w.heap.size + 1, 0, none⟩) 1 1] 23)) :=
    (((Below.refl _ w).alloc (Nat.le_refl _) _).alloc (by simp) _).alloc (by simp; omega) _
  refine ⟨hB, by simp, ?_, ?_⟩
  · have := World.ownsRow_lit (e := 23) (size := 1) (base := w.heap.size + 2) ((w.alloc (.cells #[.int .i64 k, .bool neg, .slice od d.length cd, .string nm, .int .i64 n, .slice ol l.length cl, .slice ob b.length cb] t)).alloc (.cells #[.int .i64 k, .bool neg, .slice od d.length cd, .string nm, .int .i64 n, .slice ol l.length cl, .slice ob b.length cb] t)) #[.slice (some ⟨w.heap.size + 1, 0, none⟩) 1 1] 1 (by simp) (by simp [maxLen]) (by simp)
    simpa using this
  · unfold TR
    refine ⟨_, tmV k neg (.slice od d.length cd) nm n (.slice ol l.length cl) (.slice ob b.length cb), rfl, .inr rfl, ?_, ?_, by unfold TR; trivial⟩
    · have hbx := (Bx.new (w.alloc (.cells #[.int .i64 k, .bool neg, .slice od d.length cd, .string nm, .int .i64 n, .slice ol l.length cl, .slice ob b.length cb] t)) (.int .i64 k) (.bool neg) (.slice od d.length cd) (.string nm) (.int .i64 n) (.slice ol l.length cl) (.slice ob b.length cb) t).below ((Below.refl _ _).alloc (Nat.le_refl _) (.cells #[.slice (some ⟨w.heap.size + 1, 0, none⟩) 1 1] 23))
      rw [World.size_alloc] at hbx
      exact ⟨_, _, _, _, _, _, _, rfl, hbx.c0, by simpa [addr_add] using hbx.c1, by simpa [addr_add] using hbx.c2, by simpa [addr_add] using hbx.c3, by simpa [addr_add] using hbx.c4, by simpa [addr_add] using hbx.c5, by simpa [addr_add] using hbx.c6⟩
    · refine TV.mono (fun k _ h => .inl h) _ _ (TV.zs (fun k hk => hB.block k hk.1) _ _ hT)
abbrev ZZ (F : Nat → Prop) (S : Nat) : Nat → Prop := fun k => (k < S ∧ ¬ F k) ∨ k = S + 1
theorem zz_kept {F : Nat → Prop} {S : Nat} {w w' : World} (h : Kept F w w') (hS : S + 3 ≤ w.heap.size) (hF : ∀ k, F k → k < S) : Zs (ZZ F S) w w' := fun k hk => by
  rcases hk with ⟨h1, h2⟩ | rfl
  · exact h.block k (by omega) h2
  · exact h.block _ (by omega) (fun hf => by have := hF _ hf; omega)
theorem zz_high {F : Nat → Prop} {S : Nat} {w w' : World} (h : Kept (fun k => S + 2 ≤ k) w w') (hS : S + 3 ≤ w.heap.size) : Zs (ZZ F S) w w' := fun k hk => by
  rcases hk with ⟨h1, h2⟩ | rfl
  · exact h.block k (by omega) (by omega)
  · exact h.block _ (by omega) (by omega)
theorem tv_zz {F : Nat → Prop} {S : Nat} {w : World} {t : Tm} {v : Value} (h : TV (ZZ F S) w t v) (hF : ∀ k, F k → k < S) : TV (fun k => k < w.heap.size ∧ ¬ F k) w t v := TV.mono (fun k hk hz => ⟨hk, by
  rcases hz with ⟨h1, h2⟩ | rfl
  · exact h2
  · exact fun hf => by have := hF _ hf; omega⟩) _ _ h
theorem drop_step {PT : List Tm} {k : Nat} {t : Tm} {r : List Tm} (h : PT.drop k = t :: r) : PT[k]? = some t ∧ PT.drop (k + 1) = r ∧ k + 1 ≤ PT.length := by
  have h1 : k < PT.length := by
    rcases Nat.lt_or_ge k PT.length with h1 | h1
    · exact h1
    · rw [List.drop_eq_nil_of_le h1] at h; simp at h
  have h2 := List.drop_eq_getElem_cons h1
  rw [h] at h2
  injection h2 with h3 h4
  exact ⟨by rw [h3]; simp [h1], h4.symm, h1⟩
set_option maxHeartbeats 4000000 in
set_option maxRecDepth 4000 in
theorem every_w (fn : Nat) (caps : Array Value) (hen : Enters Tryz.prog fn) (F : Nat → Prop) (P : Nat → World → Prop) (ans : Nat → Bool) (T : Tm) (v : Value) (w : World) (D : Nat) (hD : dep T ≤ D) (hD2 : D ≤ 1000000)
    (hT : TV (fun k => k < w.heap.size ∧ ¬ F k) w T v) (hF : ∀ k, F k → k < w.heap.size) (hP0 : P 0 w)
    (hP : ∀ k w1 w2, P k w1 → (∀ i, F i → w2.heap[i]? = w1.heap[i]?) → P k w2)
    (hstep : ∀ (k : Nat) (p : Tm) (x : Value) (w1 : World), (parts T)[k]? = some p → (∀ j, j < k → ans j = true) → TV (fun k => k < w1.heap.size ∧ ¬ F k) w1 p x → Kept F w w1 → P k w1 → Calls Tryz.prog fn (#[x] ++ caps) w1 fun e w2 => e = .returned (.bool (ans k)) ∧ P (k + 1) w2 ∧ Kept F w1 w2) :
    Calls Tryz.prog 23 #[v, .func (.func fn) #[] caps] w fun e w' => Kept F w w' ∧ ((e = .returned (.bool true) ∧ (∀ j, j < (parts T).length → ans j = true) ∧ P (parts T).length w') ∨ ∃ k, k < (parts T).length ∧ (∀ j, j < k → ans j = true) ∧ ans k = false ∧ e = .returned (.bool false) ∧ P (k + 1) w') := by
  obtain ⟨PT, hPT⟩ : ∃ PT, parts T = PT := ⟨_, rfl⟩
  have hPT0 : Hid (PT = partsL [T]) := hid (by rw [← hPT]; simp [partsL])
  have hdT : Hid (depL [T] ≤ D) := hid (by simp [depL]; exact hD)
  rw [hPT] at hstep ⊢
  have hHP := hid hP
  have hHS := hid hstep
  have hen' : ∀ (args : Array Value) (w : World), (callFunc fn args).run Tryz.prog w = .ok (.enter fn args) w := hen
  clear hP hstep hPT hen hD
  have hfld := fld5
  cases T with | mk k neg d nm n l b =>
  have hT' := hT
  unfold TV at hT
  obtain ⟨od, cd, ol, cl, ob, cb, rfl, _⟩ := hT
  have hst := hstart (t := 26) hT'
  clear hT'
  obtain ⟨i0, hi, hz0, hz1, hz2⟩ := info_parts infoR
  go_enter Tryz.func23, Tryz.ntmps23
  go_wp2_with fail
  generalize hW : (((w.alloc (.cells #[.int .i64 k, .bool neg, .slice od d.length cd, .string nm, .int .i64 n, .slice ol l.length cl, .slice ob b.length cb] 26)).alloc (.cells #[.int .i64 k, .bool neg, .slice od d.length cd, .string nm, .int .i64 n, .slice ol l.length cl, .slice ob b.length cb] 26)).alloc (.cells #[.slice (some ⟨w.heap.size + 1, 0, none⟩) 1 1] 23)) = W0
  obtain ⟨hB0, hS0, hO0, hR0⟩ := hst W0 hW.symm
  clear hst hW
  go_loopg [5] PT.length (fun t v5 wr => ∃ (st : List Rw) (k e : Nat), t = (flat st).length ∧ Hid (PT.drop k = flat st ∧ k ≤ PT.length ∧ ∀ j, j < k → ans j = true) ∧ StOk (fun k => (k < w.heap.size ∧ ¬ F k) ∨ k = w.heap.size + 1) wr e st ∧ st.length + e ≤ D + 1 ∧ wr.ownsRow (w.heap.size + 2) 23 1 v5 st.length (st.map Rw.val).reverse ∧ Kept F w wr ∧ P k wr ∧ w.heap.size + 3 ≤ wr.heap.size)
  case atStart =>
    refine ⟨[⟨some ⟨w.heap.size + 1, 0, none⟩, 1, [.mk k neg d nm n l b]⟩], 0, D, ?_, hid ⟨?_, by omega, fun j hj => by omega⟩, ⟨by simp, by simp, hR0, hdT.out, trivial⟩, by simp; omega, by simpa [Rw.val] using hO0, Kept.of_below hB0, hHP.out 0 w W0 hP0 (fun i hi => hB0.block i (hF i hi)), by omega⟩
    · rw [hPT0.out]; simp [flat]
    · rw [hPT0.out]; simp [flat]
  case round =>
    obtain ⟨st, kk, e, rfl, hH, hSt, hle, hOw, hK, hPk, hsz⟩ := hrel
    clear hB0 hO0 hR0 hS0 hP0
    cases st with
    | nil =>
      obtain ⟨o5, c5, rfl, _⟩ := own_shape hOw
      have hq : Hid (kk = PT.length) := hid (by
        have h1 := hH.out.1
        have h2 := hH.out.2.1
        simp only [flat] at h1
        have := List.drop_eq_nil_iff.1 h1
        omega)
      clear hOw hSt
      go_wp2
      go_ret
      exact ⟨hK, .inl ⟨rfl, fun j hj => hH.out.2.2 j (by rw [hq.out]; exact hj), by rw [← hq.out]; exact hPk⟩⟩
    | cons r st =>
      obtain ⟨ro, rc, rl⟩ := r
      obtain ⟨hne, hrc, hTR, hdr, hSt'⟩ := hSt
      simp only at hne hrc hTR hdr
      cases rl with
      | nil => exact absurd rfl hne
      | cons t rest =>
      clear hne
      unfold TR at hTR
      obtain ⟨a, v, rfl, hZa, hAt, hTV, hTRr⟩ := hTR
      cases t with | mk tk tneg td tnm tn tl tb =>
      have hTV' := hTV
      unfold TV at hTV
      obtain ⟨tod, tcd, tol, tcl, tob, tcb, rfl, _, _, _, _, _, htl, htR⟩ := hTV
      obtain ⟨x0, x1, x2, x3, x4, x5, x6⟩ := hAt.tm
      obtain ⟨o5, c5, rfl, ho5⟩ := own_shape hOw
      obtain ⟨g, rfl⟩ := ho5 (by simp)
      clear ho5
      simp only [List.map_cons, List.reverse_cons, List.length_cons] at hOw
      obtain ⟨hOw', hcell, hBg, hgl, hc5⟩ := own_take1 hOw
      clear hOw
      unfold Rw.val at hcell
      simp only [List.length_cons] at hcell hrc
      by_cases hr1 : rest = []
      · subst hr1
        simp only [List.length_cons, List.length_nil] at *
        have hfl : Hid (PT.drop kk = Tm.mk tk tneg td tnm tn tl tb :: (partsL (Tm.mk tk tneg td tnm tn tl tb).kids ++ flat st)) := hid (by rw [hH.out.1]; simp [flat, partsL, parts_eq])
        have hdk := hid (fun h : (Tm.mk tk tneg td tnm tn tl tb).kids ≠ [] => dep_kids _ h)
        have hl1 : st.length + (e + 1) ≤ D + 1 := by omega
        have hdt : dep (Tm.mk tk tneg td tnm tn tl tb) ≤ e + 1 := by simp [depL] at hdr; omega
        have hA1 := hAt
        have hT1 := hTV'
        have hS1 := hSt'
        have hO1 := hOw'
        have hK1 := hK
        have hP1 := hPk
        have hs1 := hsz
        go_wp2_with fail
        clear hAt hTV' hSt' hOw' hK hPk hsz hcell
        have hZ1 := tv_zz hT1 hF
        obtain ⟨hg1, hg2, hg3⟩ := drop_step hfl.out
        refine (hHS.out kk _ _ _ hg1 hH.out.2.2 hZ1 hK1 hP1).mono ?_
        clear hZ1
        rintro e2 w2 ⟨rfl, hP2, hk2⟩
        have hzs2 := zz_kept hk2 hs1 hF
        have hA2 := hA1.zs hZa hzs2
        have hT2 := TV.zs hzs2 _ _ hT1
        have hS2 := StOk.zs hzs2 _ _ hS1
        have hO2 := own_kept hO1 hk2 (fun k hk => by have := hF k hk; omega)
        have hK2 := hK1.trans hk2
        have hs2 : w.heap.size + 3 ≤ w2.heap.size := Nat.le_trans hs1 hk2.size
        clear hzs2 hA1 hT1 hS1 hO1 hK1 hP1 hk2 hs1 x0 x1 x2 x3 x4 x5 x6
        obtain ⟨x0, x1, x2, x3, x4, x5, x6⟩ := hA2.tm
        obtain ⟨bb, hbb⟩ : ∃ bb, ans kk = bb := ⟨_, rfl⟩
        rw [hbb]
        have hHb := hid hbb
        clear hbb
        cases bb with
        | false =>
          go_wp2
          go_ret
          exact ⟨hK2, .inr ⟨kk, by omega, hH.out.2.2, hHb.out, rfl, hP2⟩⟩
        | true =>
          go_wp2_with fail
          refine (pruned_w tk tneg tod td.length tcd tnm tn tol tl.length tcl tob tb.length tcb _).mono ?_
          rintro e3 w3 ⟨rfl, b3⟩
          have hk3 : Kept (fun k => w.heap.size + 2 ≤ k) w2 w3 := Kept.of_below b3
          have hzs3 := zz_high (F := F) hk3 hs2
          have hT3 := TV.zs hzs3 _ _ hT2
          have hS3 := StOk.zs hzs3 _ _ hS2
          have hO3 : w3.ownsRow (w.heap.size + 2) 23 1 _ _ _ := own_kept (F := fun _ => False) hO2 (Kept.of_below b3) (fun k hk => hk.elim)
          have hK3 : Kept F w w3 := hK2.trans (Kept.of_below b3)
          have hP3 := hHP.out _ _ w3 hP2 (fun i hi => b3.block i (by have := hF i hi; omega))
          have hs3 : w.heap.size + 3 ≤ w3.heap.size := Nat.le_trans hs2 b3.size
          clear hzs3 hA2 hT2 hS2 hO2 hK2 hP2 hk3 hs2 b3 x0 x1 x2 x3 x4 x5 x6
          unfold TV at hT3
          obtain ⟨_, _, _, _, _, _, e4, _, _, _, _, _, htl3, htR3⟩ := hT3
          simp only [Value.agg.injEq, Array.mk.injEq, List.cons.injEq, Value.slice.injEq, and_true, true_and] at e4
          obtain ⟨⟨rfl, rfl⟩, ⟨rfl, rfl⟩, rfl, rfl⟩ := e4
          obtain ⟨p0, p1, p2, q2, r2, p3, p4, ok, ck, p6, q6, r6, hpr, hck, hkR⟩ := prV_row (k := tk) (neg := tneg) (d := td) (nm := tnm) (n := tn) (b := tb) (od := tod) (ob := tob) (cd := tcd) (cb := tcb) htl3 htR3
          unfold tmV at hpr
          rw [hpr]
          clear hpr htl3 htR3
          generalize hkk : (Tm.mk tk tneg td tnm tn tl tb).kids = kids at *
          cases kids with
          | nil =>
            go_wp2
            go_roundg (flat st).length
            case measure => simp only [flat, partsL, parts_eq, hkk, List.length_append, List.length_cons, List.length_nil]; omega
            case rel =>
              refine ⟨st, kk + 1, (e + 1), rfl, hid ⟨by rw [hg2]; simp [partsL], by omega, fun j hj => ?_⟩, hS3, hl1, hO3, hK3, hP3, hs3⟩
              rcases Nat.lt_or_ge j kk with h | h
              · exact hH.out.2.2 j h
              · have : j = kk := by omega
                subst this; exact hHb.out
          | cons q0 qs =>
            have hdq : depL (q0 :: qs) + 1 ≤ (e + 1) := Nat.le_trans (Nat.le_of_eq (hdk.out (by simp))) hdt
            obtain ⟨lv, hlv⟩ : ∃ lv, (e + 1) = lv + 1 := ⟨(e + 1) - 1, by omega⟩
            have hHq := hid (And.intro hdq hlv)
            clear hdq hlv
            have hO4 := hO3.alloc (.cells #[.slice ok (q0 :: qs).length ck] 23)
            have hHO := hid hO4
            have hHl := hid hl1
            have hHk := hid hkk
            clear hO3 hO4 hl1 hkk
            simp only [List.length_cons] at *
            go_wp2_with (at_builtin; refine wpList_append_own _ rfl _ _ 79 rfl (w.heap.size + 2) 23 i0 (.slice none 0 0) 1 24 Tryz.underlying79 hi hz0 hz1 hz2 rfl (by decide) _ _ _ rfl hHO.out ⟨w3.heap.size, 0, none⟩ 1 1 [.slice ok (qs.length + 1) ck] rfl ?c1 ?c2 ?c3 ?c4 ?c5 ?c6 ?_)
            case c1 => rfl
            case c2 =>
              intro j u hj
              cases j with
              | zero =>
                simp only [List.getElem?_cons_zero, Option.some.injEq] at hj
                subst hj
                rw [add_zero, World.cell?_alloc_mark]; rfl
              | succ j => simp at hj
            case c3 => intro u hu; simp at hu; subst hu; rfl
            case c4 => have := hHl.out; (try simp only [List.length_cons] at this); unfold maxLen; omega
            case c5 => have := hHl.out; (try simp only [List.length_cons] at this); omega
            case c6 => simp; omega
            intro v' w4 hown hgrow hnil
            have hk4 : Kept (fun k => w.heap.size + 2 ≤ k) w3 w4 := (Kept.of_alloc (F := fun k => w.heap.size + 2 ≤ k) w3 _).trans (Kept.of_grown hgrow (fun k hk => (hHO.out.lt k hk).1))
            have hzs4 := zz_high (F := F) hk4 hs3
            have hS4 := StOk.zs hzs4 _ _ hS3
            have hkR4 := TR.zs hzs4 _ _ hkR
            have hK4 : Kept F w w4 := hK3.then hk4 (fun i hi => .inr (by omega))
            have hP4 := hHP.out _ _ w4 hP3 (fun i hi => hk4.block i (by have := hF i hi; omega) (by have := hF i hi; omega))
            have hs4 : w.heap.size + 3 ≤ w4.heap.size := Nat.le_trans hs3 hk4.size
            go_wp2
            go_roundg (flat (⟨ok, ck, q0 :: qs⟩ :: st)).length
            case measure => simp only [flat, partsL, parts_eq, hHk.out, List.length_append, List.length_cons, List.length_nil]; omega
            case rel =>
              refine ⟨⟨ok, ck, q0 :: qs⟩ :: st, kk + 1, lv, rfl, hid ⟨by rw [hg2]; simp [flat], by omega, fun j hj => ?_⟩, ⟨by simp, by simpa using hck, hkR4, by have := hHq.out; show depL (q0 :: qs) ≤ lv; omega, by have := hHq.out.2; rw [← this]; exact hS4⟩, by have q1 := hHq.out.2; have q2 := hHl.out; simp only [List.length_cons] at q2 ⊢; omega, by simpa [Rw.val] using hown, hK4, hP4, hs4⟩
              rcases Nat.lt_or_ge j kk with h | h
              · exact hH.out.2.2 j h
              · have : j = kk := by omega
                subst this; exact hHb.out
      · obtain ⟨t2, rest', rfl⟩ : ∃ t2 rest', rest = t2 :: rest' := List.exists_cons_of_ne_nil hr1
        clear hr1
        have hfl : Hid (PT.drop kk = Tm.mk tk tneg td tnm tn tl tb :: (partsL (Tm.mk tk tneg td tnm tn tl tb).kids ++ flat (⟨some ⟨a.block, a.off + 7, none⟩, rc - 1, t2 :: rest'⟩ :: st))) := hid (by rw [hH.out.1]; simp [flat, partsL, parts_eq])
        have hdk := hid (fun h : (Tm.mk tk tneg td tnm tn tl tb).kids ≠ [] => dep_kids _ h)
        have hl1 : (Rw.mk (some ⟨a.block, a.off + 7, none⟩) (rc - 1) (t2 :: rest') :: st).length + e ≤ D + 1 := by simpa using hle
        have hdt : dep (Tm.mk tk tneg td tnm tn tl tb) ≤ e := by simp only [depL] at hdr; omega
        have hdr2 : Hid (depL (t2 :: rest') ≤ e) := hid (by simp only [depL] at hdr ⊢; omega)
        have hHO := hid (hOw'.alloc (.cells #[.slice (some ⟨a.block, a.off + 7, none⟩) (rest'.length + 1) (rc - 1)] 23))
        have hle' : st.length + 1 ≤ 1000001 := by simp only [List.length_cons] at hl1; omega
        have hHl0 := hid hl1
        clear hdr hl1 hle
        simp only [List.length_cons] at *
        go_wp2_with (at_builtin; refine wpList_append_own _ rfl _ _ 79 rfl (w.heap.size + 2) 23 i0 (.slice none 0 0) 1 24 Tryz.underlying79 hi hz0 hz1 hz2 rfl (by decide) _ _ _ rfl hHO.out ⟨wr.heap.size, 0, none⟩ 1 1 [.slice (some ⟨a.block, a.off + 7, none⟩) (rest'.length + 1) (rc - 1)] rfl ?c1 ?c2 ?c3 ?c4 ?c5 ?c6 ?_)
        case c1 => rfl
        case c2 =>
          intro j u hj
          cases j with
          | zero =>
            simp only [List.getElem?_cons_zero, Option.some.injEq] at hj
            subst hj
            rw [add_zero, World.cell?_alloc_mark]; rfl
          | succ j => simp at hj
        case c3 => intro u hu; simp at hu; subst hu; rfl
        case c4 => unfold maxLen; omega
        case c5 => omega
        case c6 => simp; omega
        intro v5 w1 hown hgrow hnil
        have hk1 : Kept (fun k => w.heap.size + 2 ≤ k) wr w1 := (Kept.of_alloc (F := fun k => w.heap.size + 2 ≤ k) wr _).trans (Kept.of_grown hgrow (fun k hk => (hHO.out.lt k hk).1))
        have hzs1 := zz_high (F := F) hk1 hsz
        have hS1 : StOk (ZZ F w.heap.size) w1 e (⟨some ⟨a.block, a.off + 7, none⟩, rc - 1, t2 :: rest'⟩ :: st) := ⟨by simp, by simp only [List.length_cons]; omega, TR.zs hzs1 _ _ hTRr, hdr2.out, StOk.zs hzs1 _ _ hSt'⟩
        have hA1 := hAt.zs hZa hzs1
        have hT1 := TV.zs hzs1 _ _ hTV'
        have hK1 : Kept F w w1 := hK.then hk1 (fun i hi => .inr (by omega))
        have hP1 := hHP.out _ _ w1 hPk (fun i hi => hk1.block i (by have := hF i hi; omega) (by have := hF i hi; omega))
        have hs1 : w.heap.size + 3 ≤ w1.heap.size := Nat.le_trans hsz hk1.size
        have hl1 := hHl0.out
        have hO1 : w1.ownsRow (w.heap.size + 2) 23 1 v5 (Rw.mk (some ⟨a.block, a.off + 7, none⟩) (rc - 1) (t2 :: rest') :: st).length ((Rw.mk (some ⟨a.block, a.off + 7, none⟩) (rc - 1) (t2 :: rest') :: st).map Rw.val).reverse := by simpa [Rw.val] using hown
        obtain ⟨o6, c6, rfl, _⟩ := own_shape hO1
        clear x0 x1 x2 x3 x4 x5 x6 hown hgrow hnil hk1 hzs1 hHO hAt hTV' hSt' hOw' hK hPk hsz hcell hTRr hle'
        obtain ⟨x0, x1, x2, x3, x4, x5, x6⟩ := hA1.tm
        go_wp2_with fail
        have hZ1 := tv_zz hT1 hF
        obtain ⟨hg1, hg2, hg3⟩ := drop_step hfl.out
        refine (hHS.out kk _ _ _ hg1 hH.out.2.2 hZ1 hK1 hP1).mono ?_
        clear hZ1
        rintro e2 w2 ⟨rfl, hP2, hk2⟩
        have hzs2 := zz_kept hk2 hs1 hF
        have hA2 := hA1.zs hZa hzs2
        have hT2 := TV.zs hzs2 _ _ hT1
        have hS2 := StOk.zs hzs2 _ _ hS1
        have hO2 := own_kept hO1 hk2 (fun k hk => by have := hF k hk; omega)
        have hK2 := hK1.trans hk2
        have hs2 : w.heap.size + 3 ≤ w2.heap.size := Nat.le_trans hs1 hk2.size
        clear hzs2 hA1 hT1 hS1 hO1 hK1 hP1 hk2 hs1 x0 x1 x2 x3 x4 x5 x6
        obtain ⟨x0, x1, x2, x3, x4, x5, x6⟩ := hA2.tm
        obtain ⟨bb, hbb⟩ : ∃ bb, ans kk = bb := ⟨_, rfl⟩
        rw [hbb]
        have hHb := hid hbb
        clear hbb
        cases bb with
        | false =>
          go_wp2
          go_ret
          exact ⟨hK2, .inr ⟨kk, by omega, hH.out.2.2, hHb.out, rfl, hP2⟩⟩
        | true =>
          go_wp2_with fail
          refine (pruned_w tk tneg tod td.length tcd tnm tn tol tl.length tcl tob tb.length tcb _).mono ?_
          rintro e3 w3 ⟨rfl, b3⟩
          have hk3 : Kept (fun k => w.heap.size + 2 ≤ k) w2 w3 := Kept.of_below b3
          have hzs3 := zz_high (F := F) hk3 hs2
          have hT3 := TV.zs hzs3 _ _ hT2
          have hS3 := StOk.zs hzs3 _ _ hS2
          have hO3 : w3.ownsRow (w.heap.size + 2) 23 1 _ _ _ := own_kept (F := fun _ => False) hO2 (Kept.of_below b3) (fun k hk => hk.elim)
          have hK3 : Kept F w w3 := hK2.trans (Kept.of_below b3)
          have hP3 := hHP.out _ _ w3 hP2 (fun i hi => b3.block i (by have := hF i hi; omega))
          have hs3 : w.heap.size + 3 ≤ w3.heap.size := Nat.le_trans hs2 b3.size
          clear hzs3 hA2 hT2 hS2 hO2 hK2 hP2 hk3 hs2 b3 x0 x1 x2 x3 x4 x5 x6
          unfold TV at hT3
          obtain ⟨_, _, _, _, _, _, e4, _, _, _, _, _, htl3, htR3⟩ := hT3
          simp only [Value.agg.injEq, Array.mk.injEq, List.cons.injEq, Value.slice.injEq, and_true, true_and] at e4
          obtain ⟨⟨rfl, rfl⟩, ⟨rfl, rfl⟩, rfl, rfl⟩ := e4
          obtain ⟨p0, p1, p2, q2, r2, p3, p4, ok, ck, p6, q6, r6, hpr, hck, hkR⟩ := prV_row (k := tk) (neg := tneg) (d := td) (nm := tnm) (n := tn) (b := tb) (od := tod) (ob := tob) (cd := tcd) (cb := tcb) htl3 htR3
          unfold tmV at hpr
          rw [hpr]
          clear hpr htl3 htR3
          generalize hkk : (Tm.mk tk tneg td tnm tn tl tb).kids = kids at *
          cases kids with
          | nil =>
            go_wp2
            go_roundg (flat (Rw.mk (some ⟨a.block, a.off + 7, none⟩) (rc - 1) (t2 :: rest') :: st)).length
            case measure => simp only [flat, partsL, parts_eq, hkk, List.length_append, List.length_cons, List.length_nil]; omega
            case rel =>
              refine ⟨(Rw.mk (some ⟨a.block, a.off + 7, none⟩) (rc - 1) (t2 :: rest') :: st), kk + 1, e, rfl, hid ⟨by rw [hg2]; simp [partsL], by omega, fun j hj => ?_⟩, hS3, hl1, hO3, hK3, hP3, hs3⟩
              rcases Nat.lt_or_ge j kk with h | h
              · exact hH.out.2.2 j h
              · have : j = kk := by omega
                subst this; exact hHb.out
          | cons q0 qs =>
            have hdq : depL (q0 :: qs) + 1 ≤ e := Nat.le_trans (Nat.le_of_eq (hdk.out (by simp))) hdt
            obtain ⟨lv, hlv⟩ : ∃ lv, e = lv + 1 := ⟨e - 1, by omega⟩
            have hHq := hid (And.intro hdq hlv)
            clear hdq hlv
            have hO4 := hO3.alloc (.cells #[.slice ok (q0 :: qs).length ck] 23)
            have hHO := hid hO4
            have hHl := hid hl1
            have hHk := hid hkk
            clear hO3 hO4 hl1 hkk
            simp only [List.length_cons] at *
            go_wp2_with (at_builtin; refine wpList_append_own _ rfl _ _ 79 rfl (w.heap.size + 2) 23 i0 (.slice none 0 0) 1 24 Tryz.underlying79 hi hz0 hz1 hz2 rfl (by decide) _ _ _ rfl hHO.out ⟨w3.heap.size, 0, none⟩ 1 1 [.slice ok (qs.length + 1) ck] rfl ?c1 ?c2 ?c3 ?c4 ?c5 ?c6 ?_)
            case c1 => rfl
            case c2 =>
              intro j u hj
              cases j with
              | zero =>
                simp only [List.getElem?_cons_zero, Option.some.injEq] at hj
                subst hj
                rw [add_zero, World.cell?_alloc_mark]; rfl
              | succ j => simp at hj
            case c3 => intro u hu; simp at hu; subst hu; rfl
            case c4 => have := hHl.out; (try simp only [List.length_cons] at this); unfold maxLen; omega
            case c5 => have := hHl.out; (try simp only [List.length_cons] at this); omega
            case c6 => simp; omega
            intro v' w4 hown hgrow hnil
            have hk4 : Kept (fun k => w.heap.size + 2 ≤ k) w3 w4 := (Kept.of_alloc (F := fun k => w.heap.size + 2 ≤ k) w3 _).trans (Kept.of_grown hgrow (fun k hk => (hHO.out.lt k hk).1))
            have hzs4 := zz_high (F := F) hk4 hs3
            have hS4 := StOk.zs hzs4 _ _ hS3
            have hkR4 := TR.zs hzs4 _ _ hkR
            have hK4 : Kept F w w4 := hK3.then hk4 (fun i hi => .inr (by omega))
            have hP4 := hHP.out _ _ w4 hP3 (fun i hi => hk4.block i (by have := hF i hi; omega) (by have := hF i hi; omega))
            have hs4 : w.heap.size + 3 ≤ w4.heap.size := Nat.le_trans hs3 hk4.size
            go_wp2
            go_roundg (flat (⟨ok, ck, q0 :: qs⟩ :: (Rw.mk (some ⟨a.block, a.off + 7, none⟩) (rc - 1) (t2 :: rest') :: st))).length
            case measure => simp only [flat, partsL, parts_eq, hHk.out, List.length_append, List.length_cons, List.length_nil]; omega
            case rel =>
              refine ⟨⟨ok, ck, q0 :: qs⟩ :: (Rw.mk (some ⟨a.block, a.off + 7, none⟩) (rc - 1) (t2 :: rest') :: st), kk + 1, lv, rfl, hid ⟨by rw [hg2]; simp [flat], by omega, fun j hj => ?_⟩, ⟨by simp, by simpa using hck, hkR4, by have := hHq.out; show depL (q0 :: qs) ≤ lv; omega, by have := hHq.out.2; rw [← this]; exact hS4⟩, by have q1 := hHq.out.2; have q2 := hHl.out; simp only [List.length_cons] at q2 ⊢; omega, by simpa [Rw.val] using hown, hK4, hP4, hs4⟩
              rcases Nat.lt_or_ge j kk with h | h
              · exact hH.out.2.2 j h
              · have : j = kk := by omega
                subst this; exact hHb.out
end Go.Proofs.YtjacoodfhkaioabGreatDoor
namespace Go.Proofs.YtjacoodfhkaioabGreatDoor
open Go.ChangeShapes Go.WideShapes Go.ChangeAt Go.RowKit Go.Shelf
set_option linter.unusedSimpArgs false
set_option linter.unusedVariables false
set_option maxRecDepth 2000
/-- a number in a block of its own -/
abbrev One (g : Nat) (z : Int) (w : World) : Prop := w.heap[g]? = some (.cells #[.int .i64 z] 3 (0, 0))
theorem One.cell {g : Nat} {z : Int} {w : World} (h : One g z w) : w.cell? ⟨g, 0, none⟩ = some (.int .i64 z) := by simp [World.cell?, h]
theorem One.free {g : Nat} {z : Int} {w : World} (h : One g z w) : w.frozen? ⟨g, 0, none⟩ = false := by simp [World.frozen?, h]
theorem One.lt {g : Nat} {z : Int} {w : World} (h : One g z w) : g < w.heap.size := (Array.getElem?_eq_some_iff.1 h).1
theorem One.set {g : Nat} {z : Int} {w : World} (h : One g z w) (y : Int) : One g y (w.setCell ⟨g, 0, none⟩ (.int .i64 y)) := one_setCell h
abbrev Low (w : World) : Nat → Prop := fun k => k < w.heap.size
set_option maxHeartbeats 1000000 in
theorem tree1_w (g k : Nat) (x : Value) (T : Tm) (w : World) (hk : k ≤ 65536) (h : One g (k : Int) w) (hx : TV (Low w) w T x) :
    Calls Tryz.prog 39 #[x, .pointer (some ⟨g, 0, none⟩)] w fun e w' => e = .returned (.bool (decide (k + 1 ≤ 65536))) ∧ One g ((k + 1 : Nat) : Int) w' ∧ Kept (fun i => i = g) w w' := by
  cases T with | mk tk tneg td tnm tn tl tb =>
  unfold TV at hx
  obtain ⟨tod, tcd, tol, tcl, tob, tcb, rfl, _, _, _, _, _, htl, htR⟩ := hx
  have hg := h.lt
  have hB : Below w.heap.size w (w.alloc (.cells #[.int .i64 tk, .bool tneg, .slice tod td.length tcd, .string tnm, .int .i64 tn, .slice tol tl.length tcl, .slice tob tb.length tcb] 26)) := (Below.refl _ w).alloc (Nat.le_refl _) _
  have h1 : One g (k : Int) (w.alloc (.cells #[.int .i64 tk, .bool tneg, .slice tod td.length tcd, .string tnm, .int .i64 tn, .slice tol tl.length tcl, .slice tob tb.length tcb] 26)) := (hB.block g hg).trans h
  have c1 := h1.cell
  have f1 := h1.free
  have h0 := h.set ((k : Int) + 1)
  have h2 : One g ((k : Int) + 1) ((w.setCell ⟨g, 0, none⟩ (.int .i64 ((k : Int) + 1))).alloc (.cells #[.int .i64 tk, .bool tneg, .slice tod td.length tcd, .string tnm, .int .i64 tn, .slice tol tl.length tcl, .slice tob tb.length tcb] 26)) := (((Below.refl _ _).alloc (Nat.le_refl _) _).block g h0.lt).trans h0
  have c2 := h2.cell
  go_enter Tryz.func39, Tryz.ntmps39
  go_wp2
  go_ret
  refine ⟨?_, by simpa using h2, (Kept.of_set (F := fun i => i = g) w (p := ⟨g, 0, none⟩) rfl _).trans (Kept.of_alloc _ _)⟩
  exact congrArg (fun b => Ending.returned (.bool b)) (decide_eq_decide.2 (by omega))
/-- how many parts, up to the bound -/
def treeN (T : Tm) : Nat := min (parts T).length 65537
theorem One.new (w : World) (z : Int) : One w.heap.size z (w.alloc (.cells #[.int .i64 z] 3)) := heap_alloc_new w _
theorem enTree : Enters Tryz.prog 39 := enters_of Tryz.func39 (by kernel_rfl) rfl
set_option maxHeartbeats 1000000 in
theorem Tree_w (T : Tm) (v : Value) (w : World) (hD : dep T ≤ 1000000) (hT : TV (Low w) w T v) :
    Calls Tryz.prog 22 #[v] w fun e w' => e = .returned (.int .i64 ((treeN T : Nat) : Int)) ∧ Below w.heap.size w w' := by
  have hmf : ∀ (fn : Fn) (first cap : Array Value) (w : World), (Instr.makeFunc fn first cap).run Tryz.prog w = .ok (.func fn first cap) w := fun _ _ _ _ => rfl
  have hT0 := hT
  cases hTT : T with | mk tk tneg td tnm tn tl tb =>
  rw [hTT] at hT
  unfold TV at hT
  obtain ⟨tod, tcd, tol, tcl, tob, tcb, rfl, _, _, _, _, _, htl, htR⟩ := hT
  rw [← hTT]
  clear hTT htR htl
  go_enter Tryz.func22, Tryz.ntmps22
  go_wp2_with fail
  have hz : (w.alloc (.cells #[.int .i64 tk, .bool tneg, .slice tod td.length tcd, .string tnm, .int .i64 tn, .slice tol tl.length tcl, .slice tob tb.length tcb] 26)).heap.size = w.heap.size + 1 := by simp
  have hB1 : Below w.heap.size w (w.alloc (.cells #[.int .i64 tk, .bool tneg, .slice tod td.length tcd, .string tnm, .int .i64 tn, .slice tol tl.length tcl, .slice tob tb.length tcb] 26)) := (Below.refl _ w).alloc (Nat.le_refl _) _
  generalize (w.alloc (.cells #[.int .i64 tk, .bool tneg, .slice tod td.length tcd, .string tnm, .int .i64 tn, .slice tol tl.length tcl, .slice tob tb.length tcb] 26)) = w1 at *
  have hO := One.new w1 0
  rw [hz] at hO
  have hB2 : Below w.heap.size w (w1.alloc (.cells #[.int .i64 0] 3)) := hB1.alloc (by omega) _
  have hz2 : (w1.alloc (.cells #[.int .i64 0] 3)).heap.size = w.heap.size + 2 := by simp [hz]
  generalize (w1.alloc (.cells #[.int .i64 0] 3)) = w2 at *
  have hz3 : Hid (w2.heap.size = w.heap.size + 2) := hid hz2
  refine (every_w 39 #[.pointer (some ⟨w.heap.size + 1, 0, none⟩)] enTree (fun i => i = w.heap.size + 1) (fun k w' => One (w.heap.size + 1) (k : Int) w') (fun k => decide (k + 1 ≤ 65536)) T _ w2 1000000 hD (Nat.le_refl _) ?e1 ?e2 ?e3 ?e4 ?e5).mono ?_
  case e1 => exact TV.mono (fun k hk h => ⟨hk, by have : k < w.heap.size := h; omega⟩) _ _ (TV.zs (fun k hk => hB2.block k hk) _ _ hT0)
  case e2 => intro k hk; omega
  case e3 => exact hO
  case e4 => intro k w3 w4 h1 h2; exact (h2 _ rfl).trans h1
  case e5 =>
    intro k p x w3 hp hj hx hk h1
    have hk' : k ≤ 65536 := by
      rcases Nat.lt_or_ge 65536 k with h | h
      · have := hj 65536 h
        simp at this
      · exact h
    exact tree1_w _ k x p w3 hk' h1 (TV.mono (fun k hk h => hk) _ _ hx)
  rintro e w3 ⟨hk, hres⟩
  have hB3 : Below w.heap.size w w3 := hB2.trans (hk.below (by omega) (fun k h => by omega))
  rcases hres with ⟨rfl, hall, hP⟩ | ⟨k, hkl, hall, hno, rfl, hP⟩
  · have hn : (parts T).length ≤ 65536 := by
      rcases Nat.lt_or_ge 65536 (parts T).length with h | h
      · have := hall 65536 h
        simp at this
      · exact h
    have ht : ((parts T).length : Int) = ((treeN T : Nat) : Int) := by unfold treeN; omega
    rw [ht] at hP
    have c1 := hP.cell
    go_wp2
    go_ret
    exact ⟨rfl, hB3⟩
  · have hk1 : k = 65536 := by
      have h1 : ¬ (k + 1 ≤ 65536) := by simpa using hno
      rcases Nat.lt_or_ge 65536 k with h | h
      · have := hall 65536 h
        simp at this
      · omega
    have ht : ((k + 1 : Nat) : Int) = ((treeN T : Nat) : Int) := by unfold treeN; omega
    rw [ht] at hP
    have c1 := hP.cell
    go_wp2
    go_ret
    exact ⟨rfl, hB3⟩
end Go.Proofs.YtjacoodfhkaioabGreatDoor
namespace Go.Proofs.YtjacoodfhkaioabGreatDoor
open Go.ChangeShapes Go.WideShapes Go.ChangeAt Go.RowKit
set_option linter.unusedSimpArgs false
set_option linter.unusedVariables false
set_option maxRecDepth 2000
theorem or_low {s c y : Nat} (hc : c < 2 ^ s) (hy : y % 2 ^ s = 0) (hs : c + y < 18446744073709551616) : bits .or .u64 (c : Int) (y : Int) = ((c + y : Nat) : Int) := by
  rw [u64_or_nat c y (by omega) (by omega), Nat.or_comm, nat_join s y c hy hc, Nat.add_comm]
end Go.Proofs.YtjacoodfhkaioabGreatDoor
namespace Go.Proofs.YtjacoodfhkaioabGreatDoor
open Go.ChangeShapes Go.WideShapes Go.ChangeAt Go.RowKit
set_option linter.unusedSimpArgs false
set_option linter.unusedVariables false
set_option maxRecDepth 2000
/-- is it small, and which -/
def smlB (Z : Int) : Bool := decide (-576460752303423488 ≤ Z) && decide (Z < 576460752303423488)
def smlN (Z : Int) : Int := if smlB Z then Z else 0
theorem sml_yes {Z : Int} (h0 : -576460752303423488 ≤ Z) (h1 : Z < 576460752303423488) : smlB Z = true ∧ smlN Z = Z := by
  have : smlB Z = true := by simp [smlB, h0, h1]
  exact ⟨this, by simp [smlN, this]⟩
theorem sml_no {Z : Int} (h : ¬ (-576460752303423488 ≤ Z ∧ Z < 576460752303423488)) : smlB Z = false ∧ smlN Z = 0 := by
  have : smlB Z = false := by
    simp only [smlB, Bool.and_eq_false_iff, decide_eq_false_iff_not]
    omega
  exact ⟨this, by simp [smlN, this]⟩
theorem sml_long {Z : Int} (h : ¬ (glim 4294967296 Z.natAbs).length ≤ 2) : smlB Z = false ∧ smlN Z = 0 := by
  refine sml_no (fun e => h ((glim_len (by omega) _ _).2 ?_))
  omega
theorem wr1 {s : Nat} (h : (s : Int) ≤ 576460752303423488) : IntKind.i64.wrap (s : Int) = (s : Int) := by rw [IntKind.wrap_i64]; omega
theorem wr2 {s : Nat} (h : (s : Int) ≤ 576460752303423488) : IntKind.i64.wrap (-(s : Int)) = -(s : Int) := by rw [IntKind.wrap_i64]; omega
set_option maxRecDepth 4000 in
set_option maxHeartbeats 1000000 in
theorem small_w (v : Value) (Z : Int) (K : Nat) (w : World) (hK : K ≤ 1000000) (h : IsN v Z K w) :
    Calls Tryz.prog 103 #[v] w fun e w' => e = .returned (.tuple #[.int .i64 (smlN Z), .bool (smlB Z)]) ∧ Below w.heap.size w w' := by
  obtain ⟨RN, hRN⟩ : ∃ RN, smlN Z = RN := ⟨_, rfl⟩
  obtain ⟨RB, hRB⟩ : ∃ RB, smlB Z = RB := ⟨_, rfl⟩
  rw [hRN, hRB]
  have HRN := hid (And.intro hRN hRB)
  clear hRN hRB
  have hA : ∀ w', Below w.heap.size w w' → IsN v Z K w' := fun w' hw => h.below hw
  obtain ⟨neg, o, l, c, rfl, hL, hc, hm, hs, hk⟩ := h
  clear hL hc hm hs hk
  have kA := Box.new w (.bool neg) (.slice o l.length c) 84
  have hB0 : Below w.heap.size w (w.alloc (.cells #[.bool neg, .slice o l.length c] 84)) := (Below.refl _ w).alloc (Nat.le_refl _) _
  have hz0 : (w.alloc (.cells #[.bool neg, .slice o l.length c] 84)).heap.size = w.heap.size + 1 := by simp
  go_enter Tryz.func103, Tryz.ntmps103
  go_wp2_with fail
  generalize (w.alloc (.cells #[.bool neg, .slice o l.length c] 84)) = W0 at *
  refine (view_w _ Z K _ hK (hA _ hB0)).mono ?_
  rintro e w1 ⟨v1, rfl, hv1, b1⟩
  obtain ⟨o1, c1, rfl, L1, z1, q1⟩ := hv1 w (hA w (Below.refl _ _))
  have hB1 := below_and hB0 (Nat.le_refl _) b1
  have kA1 := kA.below b1 (by omega)
  obtain ⟨p1, p2, p3, p4⟩ := id kA1
  clear b1 hA kA hv1
  by_cases hl2 : (glim 4294967296 Z.natAbs).length ≤ 2
  case neg =>
    obtain ⟨hn2, hb2⟩ := HRN.out
    rw [(sml_long hl2).2] at hn2
    rw [(sml_long hl2).1] at hb2
    subst hn2; subst hb2
    have hl2z : (2 : Int) < ((glim 4294967296 Z.natAbs).length : Int) := by omega
    have hB2 := (hB1.setCell (p := ⟨w.heap.size, 0, none⟩) (Nat.le_refl _) (.bool (decide (Z < 0)))).setCell (p := ⟨w.heap.size, 1, none⟩) (Nat.le_refl _) (.slice o1 (glim 4294967296 Z.natAbs).length c1)
    clear hl2 HRN
    go_wp2
    go_ret2
    exact ⟨rfl, hB2⟩
  have hm := lm_glim (b := 4294967296) (by omega) Z.natAbs
  have hv := gval_glim (b := 4294967296) (by omega) Z.natAbs
  have hl2z : ¬ (2 : Int) < ((glim 4294967296 Z.natAbs).length : Int) := by omega
  obtain ⟨nz, hnz⟩ : ∃ nz, decide (Z < 0) = nz := ⟨_, rfl⟩
  rw [hnz]
  have hnz' := hid hnz
  have hv' := hid hv
  clear hnz hv
  generalize glim 4294967296 Z.natAbs = A at *
  have kA2 : Box w.heap.size (.bool nz) (.slice o1 A.length c1) ((w1.setCell ⟨w.heap.size, 0, none⟩ (.bool nz)).setCell ⟨w.heap.size, 1, none⟩ (.slice o1 A.length c1)) := kA1.put
  have hB2 := (hB1.setCell (p := ⟨w.heap.size, 0, none⟩) (Nat.le_refl _) (.bool nz)).setCell (p := ⟨w.heap.size, 1, none⟩) (Nat.le_refl _) (.slice o1 A.length c1)
  have L2 := L1.below hB2
  go_wp2
  generalize ((w1.setCell ⟨w.heap.size, 0, none⟩ (.bool nz)).setCell ⟨w.heap.size, 1, none⟩ (.slice o1 A.length c1)) = W2 at *
  go_loopw [4, 16] (fun sv iv wr => ∃ (k s : Nat), sv = .int .u64 (s : Int) ∧ iv = .int .i64 (k : Int) ∧ k ≤ A.length ∧ wr = W2 ∧ Hid (s = gval 4294967296 (A.take k)) ∧ s < 18446744073709551616) (fun _ iv _ => A.length - (intOf iv).toNat)
  case atStart => exact ⟨0, 0, rfl, rfl, by omega, rfl, hid (by simp [gval]), by omega⟩
  case round =>
    obtain ⟨k, s, rfl, rfl, hk, rfl, hs, hsm⟩ := hrel
    by_cases h1 : k < A.length
    · obtain ⟨x, hx⟩ : ∃ x, A[k]? = some x := ⟨A[k], by simp [h1]⟩
      obtain ⟨a, rfl, cx⟩ := L2 k x hx
      have hxm := hm.at hx
      have hst := gval_take_succ 4294967296 hx
      rw [← hs.out] at hst
      have hst' := hid hst
      clear hst
      have hk01 : k = 0 ∨ k = 1 := by omega
      rcases hk01 with rfl | rfl
      · have hs0 : s = 0 := by rw [hs.out]; simp [gval]
        subst hs0
        have h1z : (0 : Int) < (A.length : Int) := by omega
        have cx0 : wr.cell? a = some (.int .u32 (x : Int)) := by simpa [Addr.add] using cx
        have w2 : bits .or .u64 (0 : Int) (x : Int) = (x : Int) := by
          have := or_low (s := 0) (c := 0) (y := x) (by omega) (by omega) (by omega)
          simpa using this
        have w3 : IntKind.u64.wrap (x : Int) = (x : Int) := by rw [IntKind.wrap_u64]; omega
        clear cx
        go_wp2
        go_roundw
        case rel => exact ⟨1, x, rfl, by go_num, by omega, by first | rfl | trivial, hid (by rw [show (1 : Nat) = 0 + 1 from rfl, hst'.out]; simp), by omega⟩
        case measure => simp [intOf]; try omega
      · have h1z : (1 : Int) < (A.length : Int) := by omega
        obtain ⟨xb, hxb⟩ : ∃ xb, x * 4294967296 = xb := ⟨_, rfl⟩
        obtain ⟨t, ht⟩ : ∃ t, s + xb = t := ⟨_, rfl⟩
        have hs32 : s < 4294967296 := by
          rw [hs.out]
          have := gval_lt (hm.take 1)
          rw [List.length_take, Nat.min_eq_left (by omega)] at this
          simpa using this
        have w1 : IntKind.u64.wrap ((x : Int) * 4294967296) = (xb : Int) := by rw [IntKind.wrap_u64]; omega
        have w2 : bits .or .u64 (s : Int) (xb : Int) = (t : Int) := by
          rw [or_low (s := 32) (by omega) (by omega) (by omega), ht]
        have htg : Hid (t = gval 4294967296 (A.take 2)) := hid (by rw [show (2 : Nat) = 1 + 1 from rfl, hst'.out, Nat.pow_one, Nat.mul_comm]; omega)
        have cx1 : wr.cell? { block := a.block, off := a.off + 1, spot := none } = some (.int .u32 (x : Int)) := by simpa [Addr.add] using cx
        clear hxb ht
        go_wp2
        go_roundw
        case rel => exact ⟨2, t, rfl, by go_num, by omega, by first | rfl | trivial, htg, by rw [htg.out]; have := gval_lt (hm.take 2); rw [List.length_take, Nat.min_eq_left (by omega)] at this; omega⟩
        case measure => simp [intOf]; try omega
    · have h1z : ¬ (k : Int) < (A.length : Int) := by omega
      have hsZ : s = Z.natAbs := by rw [hs.out, List.take_of_length_le (by omega), hv'.out]
      obtain ⟨f1, f2, f3, f4⟩ := id kA2
      have hnzv := hnz'.out
      obtain ⟨hn2, hb2⟩ := HRN.out
      cases nz with
      | true =>
        have hZn : Z < 0 := by simpa using hnzv
        by_cases hle : (s : Int) ≤ 576460752303423488
        · have hled : decide ((s : Int) ≤ 576460752303423488) = true := by simp [hle]
          have hy := sml_yes (Z := Z) (by omega) (by omega)
          rw [hy.2] at hn2
          rw [hy.1] at hb2
          have w1 := wr1 hle
          have w2 := wr2 hle
          have Hr : Hid (-(s : Int) = RN) := hid (by omega)
          subst hb2
          clear hs hnzv hnz' hv' hsZ hZn hn2 HRN hy
          go_wp2
          go_ret2
          exact ⟨by rw [← Hr.out]; first | rfl | simp [w2], hB2⟩
        · have hled : decide ((s : Int) ≤ 576460752303423488) = false := by simp; omega
          have hy := sml_no (Z := Z) (by omega)
          rw [hy.2] at hn2
          rw [hy.1] at hb2
          subst hn2; subst hb2
          clear hs hnzv hnz' hv' hsZ hZn HRN hy
          go_wp2
          go_ret2
          exact ⟨rfl, hB2⟩
      | false =>
        have hZn : ¬ Z < 0 := by simpa using hnzv
        by_cases hlt : (s : Int) < 576460752303423488
        · have hltd : decide ((s : Int) < 576460752303423488) = true := by simp [hlt]
          have hy := sml_yes (Z := Z) (by omega) (by omega)
          rw [hy.2] at hn2
          rw [hy.1] at hb2
          have w1 := wr1 (Int.le_of_lt hlt)
          have Hr : Hid ((s : Int) = RN) := hid (by omega)
          subst hb2
          clear hs hnzv hnz' hv' hsZ hZn hn2 HRN hy
          go_wp2
          go_ret2
          exact ⟨by rw [← Hr.out]; first | rfl | simp [w1], hB2⟩
        · have hltd : decide ((s : Int) < 576460752303423488) = false := by simp; omega
          have hy := sml_no (Z := Z) (by omega)
          rw [hy.2] at hn2
          rw [hy.1] at hb2
          subst hn2; subst hb2
          clear hs hnzv hnz' hv' hsZ hZn HRN hy
          go_wp2
          go_ret2
          exact ⟨rfl, hB2⟩
end Go.Proofs.YtjacoodfhkaioabGreatDoor
namespace Go.Proofs.YtjacoodfhkaioabGreatDoor
open Go.ChangeShapes Go.WideShapes Go.ChangeAt Go.RowKit Go.Shelf
set_option linter.unusedSimpArgs false
set_option linter.unusedVariables false
set_option maxRecDepth 2000
set_option maxHeartbeats 1000000 in
theorem number_w (k : Int) (neg : Bool) (od : Option Addr) (ld cd : Nat) (nm : ByteArray) (n : Int) (ol : Option Addr) (ll cl : Nat) (ob : Option Addr) (lb cb : Nat) (w : World) :
    Calls Tryz.prog 91 #[tmV k neg (.slice od ld cd) nm n (.slice ol ll cl) (.slice ob lb cb)] w fun e w' => e = .returned (.agg #[.bool neg, .slice od ld cd]) ∧ Below w.heap.size w w' := by
  go_enter Tryz.func91, Tryz.ntmps91
  go_wp2
  exact bodyPost_ret (v := .agg #[.bool neg, .slice od ld cd]) (by simp [results, Tryz.results91, go_sem]) rfl ⟨rfl, ((Below.refl _ w).alloc (Nat.le_refl _) _).alloc (by simp) _⟩
def Tm.num : Tm → Int | .mk _ neg d _ _ _ _ => sv neg (gval 4294967296 d)
/-- not too great, but for its parts -/
def Tm.ok1 : Tm → Prop | .mk _ _ d nm _ l b => d.length ≤ 1000000 ∧ nm.size ≤ 1000000 ∧ l.length ≤ 1000000 ∧ b.length ≤ 1000000 ∧ Lm 4294967296 d
end Go.Proofs.YtjacoodfhkaioabGreatDoor
namespace Go.Proofs.YtjacoodfhkaioabGreatDoor
open Go.ChangeShapes Go.WideShapes Go.ChangeAt Go.RowKit Go.Shelf
set_option linter.unusedSimpArgs false
set_option linter.unusedVariables false
set_option maxRecDepth 2000
def prT : Tm → Tm
  | .mk k neg d nm n l b =>
    if k = 0 then .mk 0 neg d noS 0 [] []
    else if k = 1 then .mk 1 false [] nm 0 [] []
    else if k = 2 then .mk 2 false [] noS n [] []
    else if k = 3 then .mk 3 false [] noS n [] []
    else if k = 4 then .mk 4 false [] noS 0 l []
    else if k = 6 then .mk 6 false [] noS 0 l []
    else if k = 7 then .mk 7 false [] noS 0 [] b
    else .mk 5 false [] noS 0 [] []
theorem prV_tv {Z : Nat → Prop} {w : World} {k : Int} {neg : Bool} {d : List Nat} {nm : ByteArray} {n : Int} {l : List Tm} {b : List Nat} {od ol ob : Option Addr} {cd cl cb : Nat}
    (h : TV Z w (.mk k neg d nm n l b) (tmV k neg (.slice od d.length cd) nm n (.slice ol l.length cl) (.slice ob b.length cb))) :
    TV Z w (prT (.mk k neg d nm n l b)) (prV k neg (.slice od d.length cd) nm n (.slice ol l.length cl) (.slice ob b.length cb)) := by
  unfold TV at h
  obtain ⟨_, _, _, _, _, _, e, h1, h2, h3, h4, h5, h6, h7⟩ := h
  simp only [Value.agg.injEq, Array.mk.injEq, List.cons.injEq, Value.slice.injEq, and_true, true_and] at e
  obtain ⟨⟨rfl, rfl⟩, ⟨rfl, rfl⟩, rfl, rfl⟩ := e
  have z1 : Ls Z none (lim []) w := Ls.nil _ _ _
  have z2 : LsB Z none [] w := LsB.nil _ _ _
  have z3 : Lm 4294967296 [] := Lm.nil _
  have z4 : TR Z w [] none := by unfold TR; trivial
  unfold prT prV
  by_cases h0 : k = 0
  · subst h0; exact ⟨_, _, none, 0, none, 0, rfl, h1, h2, h3, z2, Nat.le_refl _, Nat.le_refl _, z4⟩
  by_cases h1' : k = 1
  · subst h1'; exact ⟨none, 0, none, 0, none, 0, rfl, z1, Nat.le_refl _, z3, z2, Nat.le_refl _, Nat.le_refl _, z4⟩
  by_cases h2' : k = 2
  · subst h2'; exact ⟨none, 0, none, 0, none, 0, rfl, z1, Nat.le_refl _, z3, z2, Nat.le_refl _, Nat.le_refl _, z4⟩
  by_cases h3' : k = 3
  · subst h3'; exact ⟨none, 0, none, 0, none, 0, rfl, z1, Nat.le_refl _, z3, z2, Nat.le_refl _, Nat.le_refl _, z4⟩
  by_cases h4' : k = 4
  · subst h4'; exact ⟨none, 0, _, _, none, 0, rfl, z1, Nat.le_refl _, z3, z2, Nat.le_refl _, h6, h7⟩
  by_cases h6' : k = 6
  · subst h6'; exact ⟨none, 0, _, _, none, 0, rfl, z1, Nat.le_refl _, z3, z2, Nat.le_refl _, h6, h7⟩
  by_cases h7' : k = 7
  · subst h7'; exact ⟨none, 0, none, 0, _, _, rfl, z1, Nat.le_refl _, z3, h4, h5, Nat.le_refl _, z4⟩
  simp only [h0, h1', h2', h3', h4', h6', h7', if_false]
  exact ⟨none, 0, none, 0, none, 0, rfl, z1, Nat.le_refl _, z3, z2, Nat.le_refl _, Nat.le_refl _, z4⟩
def eqF : Tm → Tm → Bool
  | .mk k neg d nm n l b, .mk k' neg' d' nm' n' l' b' => decide (k = k') && (neg == neg') && decide (nm.toList = nm'.toList) && decide (n = n') && decide ((d.length : Int) = (d'.length : Int)) && decide ((l.length : Int) = (l'.length : Int)) && ((b.length : Int) == (b'.length : Int))
def leanB (T : Tm) : Bool := eqF T (prT T)
set_option maxHeartbeats 2000000 in
set_option maxRecDepth 4000 in
theorem lean_w (T : Tm) (v : Value) (w : World) (hT : TV (Low w) w T v) :
    Calls Tryz.prog 41 #[v] w fun e w' => e = .returned (.bool (leanB T)) ∧ Below w.heap.size w w' := by
  cases T with | mk tk tneg td tnm tn tl tb =>
  have hT0 := hT
  unfold TV at hT
  obtain ⟨tod, tcd, tol, tcl, tob, tcb, rfl, _⟩ := hT
  have hp := prV_tv hT0
  clear hT0
  obtain ⟨R, hR⟩ : ∃ R, leanB (.mk tk tneg td tnm tn tl tb) = R := ⟨_, rfl⟩
  rw [hR]
  unfold leanB at hR
  obtain ⟨P, hP⟩ : ∃ P, prT (.mk tk tneg td tnm tn tl tb) = P := ⟨_, rfl⟩
  rw [hP] at hp hR
  clear hP
  cases P with | mk pk pneg pd pnm pn pl pb =>
  unfold TV at hp
  obtain ⟨pod, pcd, pol, pcl, pob, pcb, hpv, _⟩ := hp
  unfold eqF at hR
  have hHR := hid hR
  clear hR
  have hB : Below w.heap.size w (w.alloc (.cells #[.int .i64 tk, .bool tneg, .slice tod td.length tcd, .string tnm, .int .i64 tn, .slice tol tl.length tcl, .slice tob tb.length tcb] 26)) := (Below.refl _ w).alloc (Nat.le_refl _) _
  have kA := Bx.new w (.int .i64 tk) (.bool tneg) (.slice tod td.length tcd) (.string tnm) (.int .i64 tn) (.slice tol tl.length tcl) (.slice tob tb.length tcb) 26
  go_enter Tryz.func41, Tryz.ntmps41
  go_wp2_with fail
  generalize (w.alloc (.cells #[.int .i64 tk, .bool tneg, .slice tod td.length tcd, .string tnm, .int .i64 tn, .slice tol tl.length tcl, .slice tob tb.length tcb] 26)) = w1 at *
  refine (pruned_w tk tneg tod td.length tcd tnm tn tol tl.length tcl tob tb.length tcb _).mono ?_
  rintro e w2 ⟨rfl, b2⟩
  have hB2 := below_and hB (Nat.le_refl _) b2
  have kA2 := kA.below b2
  unfold tmV at hpv
  rw [hpv]
  clear hpv kA hB b2
  have kB := Bx.new w2 (.int .i64 pk) (.bool pneg) (.slice pod pd.length pcd) (.string pnm) (.int .i64 pn) (.slice pol pl.length pcl) (.slice pob pb.length pcb) 26
  have kA3 := kA2.below ((Below.refl _ _).alloc (Nat.le_refl _) (.cells #[.int .i64 pk, .bool pneg, .slice pod pd.length pcd, .string pnm, .int .i64 pn, .slice pol pl.length pcl, .slice pob pb.length pcb] 26))
  have hB3 := hB2.alloc hB2.size (.cells #[.int .i64 pk, .bool pneg, .slice pod pd.length pcd, .string pnm, .int .i64 pn, .slice pol pl.length pcl, .slice pob pb.length pcb] 26)
  clear hB2 kA2
  go_upto_region 2 with fail
  generalize (w2.alloc (.cells #[.int .i64 pk, .bool pneg, .slice pod pd.length pcd, .string pnm, .int .i64 pn, .slice pol pl.length pcl, .slice pob pb.length pcb] 26)) = w3 at *
  obtain ⟨x0, x1, x2, x3, x4, x5, x6, _⟩ := kA3
  obtain ⟨y0, y1, y2, y3, y4, y5, y6, _⟩ := kB
  go_wp2
  all_goals (
    go_ret
    refine ⟨?_, hB3⟩
    have hq := hHR.out
    rw [← hq]
    simp [*])
end Go.Proofs.YtjacoodfhkaioabGreatDoor
namespace Go.Proofs.YtjacoodfhkaioabGreatDoor
open Go.ChangeShapes Go.WideShapes Go.ChangeAt Go.RowKit Go.Shelf
set_option linter.unusedSimpArgs false
set_option linter.unusedVariables false
set_option maxRecDepth 2000
abbrev Tabs (w : World) : Prop := Lib.Utf8Tabs 0 1 w
theorem Tabs.below {w w' : World} (h : Tabs w) (hb : Below w.heap.size w w') : Tabs w' := Utf8Tabs_below h hb
def normB (neg : Bool) (d : List Nat) : Bool := (decide (sv neg (gval 4294967296 d) < 0) == neg) && (((glim 4294967296 (sv neg (gval 4294967296 d)).natAbs).length : Int) == (d.length : Int))
set_option maxHeartbeats 1000000 in
theorem normed_w (k : Int) (neg : Bool) (d : List Nat) (od : Option Addr) (cd : Nat) (nm : ByteArray) (n : Int) (ol : Option Addr) (ll cl : Nat) (ob : Option Addr) (lb cb : Nat) (w : World)
    (hd : d.length ≤ 1000000) (hc : d.length ≤ cd) (hm : Lm 4294967296 d) (h1 : Ls (Low w) od (lim d) w) :
    Calls Tryz.prog 66 #[tmV k neg (.slice od d.length cd) nm n (.slice ol ll cl) (.slice ob lb cb)] w fun e w' => e = .returned (.bool (normB neg d)) ∧ Below w.heap.size w w' := by
  obtain ⟨R, hR⟩ : ∃ R, normB neg d = R := ⟨_, rfl⟩
  rw [hR]
  unfold normB at hR
  obtain ⟨Z, hZ⟩ : ∃ Z, sv neg (gval 4294967296 d) = Z := ⟨_, rfl⟩
  rw [hZ] at hR
  have hN : ∀ w', Below w.heap.size w w' → IsN (.agg #[.bool neg, .slice od d.length cd]) Z 1000000 w' := fun w' hb => ⟨neg, od, d, cd, rfl, (h1.zs (fun k hk => hb.block k hk)).lies, hc, hm, hZ, hd⟩
  have hHR := hid hR
  clear h1 hm hc hZ hR
  have hB : Below w.heap.size w (w.alloc (.cells #[.int .i64 k, .bool neg, .slice od d.length cd, .string nm, .int .i64 n, .slice ol ll cl, .slice ob lb cb] 26)) := (Below.refl _ w).alloc (Nat.le_refl _) _
  have kA := Bx.new w (.int .i64 k) (.bool neg) (.slice od d.length cd) (.string nm) (.int .i64 n) (.slice ol ll cl) (.slice ob lb cb) 26
  go_enter Tryz.func66, Tryz.ntmps66
  go_wp2_with fail
  generalize (w.alloc (.cells #[.int .i64 k, .bool neg, .slice od d.length cd, .string nm, .int .i64 n, .slice ol ll cl, .slice ob lb cb] 26)) = w1 at *
  refine (number_w k neg od d.length cd nm n ol ll cl ob lb cb _).mono ?_
  rintro e w2 ⟨rfl, b2⟩
  have hB2 := below_and hB (Nat.le_refl _) b2
  go_wp2_with fail
  refine (norm_w _ Z 1000000 _ (Nat.le_refl _) (hN _ hB2)).mono ?_
  rintro e w3 ⟨sl, rfl, hF, hK, b3⟩
  have hB3 := below_and hB2 (Nat.le_refl _) b3
  have kA3 := (kA.below b2).below b3
  obtain ⟨o5, c5, rfl, _, _, _⟩ := hF.parts
  clear hF hB hB2 kA b2 b3 hN hK
  have kB := Box.new w3 (.bool (decide (Z < 0))) (.slice o5 (glim 4294967296 Z.natAbs).length c5) 84
  have kA4 := kA3.below ((Below.refl _ _).alloc (Nat.le_refl _) (.cells #[.bool (decide (Z < 0)), .slice o5 (glim 4294967296 Z.natAbs).length c5] 84))
  have hB4 := hB3.alloc hB3.size (.cells #[.bool (decide (Z < 0)), .slice o5 (glim 4294967296 Z.natAbs).length c5] 84)
  clear hB3 kA3
  go_upto_region 2 with fail
  generalize (w3.alloc (.cells #[.bool (decide (Z < 0)), .slice o5 (glim 4294967296 Z.natAbs).length c5] 84)) = w4 at *
  obtain ⟨x0, x1, x2, x3, x4, x5, x6, _⟩ := kA4
  obtain ⟨y0, y1, _, _⟩ := kB
  obtain ⟨zb, hzb⟩ : ∃ zb, decide (Z < 0) = zb := ⟨_, rfl⟩
  have hHz := hid hzb
  rw [hzb] at y0 ⊢
  clear hzb
  go_wp2
  all_goals (
    go_ret
    refine ⟨?_, hB4⟩
    have hq := hHR.out
    rw [hHz.out] at hq
    rw [← hq]
    clear hq
    simp [*])
def withinB : Tm → Bool
  | .mk k neg d nm n l b =>
    if k = 0 then decide ((d.length : Int) ≤ 64) && normB neg d
    else if k = 1 then decide (0 ≤ countZ nm.data.toList) && decide (countZ nm.data.toList ≤ 255)
    else if k = 2 ∨ k = 3 then decide (0 ≤ n) && decide (n ≤ 1073741824)
    else if k = 4 then decide ((l.length : Int) ≤ 255)
    else if k = 6 then ((l.length : Int) == 2)
    else if k = 7 then decide ((b.length : Int) ≤ 4096)
    else true
set_option maxHeartbeats 2000000 in
set_option maxRecDepth 4000 in
theorem within_w (T : Tm) (v : Value) (w : World) (hok : T.ok1) (hT : TV (Low w) w T v) (hTa : Tabs w) :
    Calls Tryz.prog 42 #[v] w fun e w' => e = .returned (.bool (withinB T)) ∧ Below w.heap.size w w' := by
  cases T with | mk tk tneg td tnm tn tl tb =>
  obtain ⟨hd, hnm, hl, hb, hm⟩ : td.length ≤ 1000000 ∧ tnm.size ≤ 1000000 ∧ tl.length ≤ 1000000 ∧ tb.length ≤ 1000000 ∧ Lm 4294967296 td := hok
  unfold TV at hT
  obtain ⟨tod, tcd, tol, tcl, tob, tcb, rfl, h1, h2, h3, _, _, htl, htR⟩ := hT
  clear htR
  obtain ⟨R, hR⟩ : ∃ R, withinB (.mk tk tneg td tnm tn tl tb) = R := ⟨_, rfl⟩
  rw [hR]
  have hHR := hid hR
  clear hR
  have hB : Below w.heap.size w (w.alloc (.cells #[.int .i64 tk, .bool tneg, .slice tod td.length tcd, .string tnm, .int .i64 tn, .slice tol tl.length tcl, .slice tob tb.length tcb] 26)) := (Below.refl _ w).alloc (Nat.le_refl _) _
  have kA := Bx.new w (.int .i64 tk) (.bool tneg) (.slice tod td.length tcd) (.string tnm) (.int .i64 tn) (.slice tol tl.length tcl) (.slice tob tb.length tcb) 26
  by_cases h0 : tk = 0
  · subst h0
    have hLs : Ls (Low (w.alloc (.cells #[.int .i64 0, .bool tneg, .slice tod td.length tcd, .string tnm, .int .i64 tn, .slice tol tl.length tcl, .slice tob tb.length tcb] 26))) tod (lim td) (w.alloc (.cells #[.int .i64 0, .bool tneg, .slice tod td.length tcd, .string tnm, .int .i64 tn, .slice tol tl.length tcl, .slice tob tb.length tcb] 26)) := (h1.zs (fun k hk => hB.block k hk)).mono (fun k hk _ => hk)
    obtain ⟨x0, x1, x2, x3, x4, x5, x6, _⟩ := kA
    by_cases h64 : td.length ≤ 64
    · have h64' : ((td.length : Int) ≤ 64) := by omega
      go_enter Tryz.func42, Tryz.ntmps42
      go_wp2_with fail
      refine (normed_w 0 tneg td tod tcd tnm tn tol tl.length tcl tob tb.length tcb _ hd h2 hm hLs).mono ?_
      rintro e w2 ⟨rfl, b2⟩
      have hB2 := below_and hB (Nat.le_refl _) b2
      go_wp2
      go_ret
      exact ⟨by rw [← hHR.out]; simp [withinB, h64'], hB2⟩
    · have h64' : ¬ ((td.length : Int) ≤ 64) := by omega
      go_enter Tryz.func42, Tryz.ntmps42
      go_wp2
      go_ret
      exact ⟨by rw [← hHR.out]; simp only [withinB, if_true]; rw [decide_eq_false (by omega), Bool.false_and]; rfl, hB⟩
  by_cases h1' : tk = 1
  · subst h1'
    have hTa1 := hTa.below hB
    go_enter Tryz.func42, Tryz.ntmps42
    go_wp2_with fail
    generalize (w.alloc (.cells #[.int .i64 1, .bool tneg, .slice tod td.length tcd, .string tnm, .int .i64 tn, .slice tol tl.length tcl, .slice tob tb.length tcb] 26)) = w1 at *
    refine (count_w tnm _ (by omega) hTa1).mono ?_
    rintro e w2 ⟨rfl, b2⟩
    have hB2 := below_and hB (Nat.le_refl _) b2
    obtain ⟨c, hc⟩ : ∃ c, countZ tnm.data.toList = c := ⟨_, rfl⟩
    rw [hc]
    have hHc := hid hc
    clear hc
    go_wp2
    all_goals (
      go_ret
      refine ⟨?_, hB2⟩
      have hq := hHR.out
      simp only [withinB, hHc.out] at hq
      rw [← hq]
      clear hq
      first | (simp [*]; done) | (simp; omega))
  by_cases h2' : tk = 2
  · subst h2'
    go_enter Tryz.func42, Tryz.ntmps42
    go_wp2
    all_goals (
      go_ret
      refine ⟨?_, hB⟩
      first | rfl | (have hq := hHR.out; rw [← hq]; simp [withinB, *]; done) | (have hq := hHR.out; rw [← hq]; simp [withinB]; omega))
  by_cases h3' : tk = 3
  · subst h3'
    go_enter Tryz.func42, Tryz.ntmps42
    go_wp2
    all_goals (
      go_ret
      refine ⟨?_, hB⟩
      first | rfl | (have hq := hHR.out; rw [← hq]; simp [withinB, *]; done) | (have hq := hHR.out; rw [← hq]; simp [withinB]; omega))
  by_cases h4' : tk = 4
  · subst h4'
    go_enter Tryz.func42, Tryz.ntmps42
    go_wp2
    all_goals (
      go_ret
      refine ⟨?_, hB⟩
      first | rfl | (have hq := hHR.out; rw [← hq]; simp [withinB, *]; done) | (have hq := hHR.out; rw [← hq]; simp [withinB]; omega))
  by_cases h6' : tk = 6
  · subst h6'
    go_enter Tryz.func42, Tryz.ntmps42
    go_wp2
    all_goals (
      go_ret
      refine ⟨?_, hB⟩
      first | rfl | (have hq := hHR.out; rw [← hq]; simp [withinB, *]; done) | (have hq := hHR.out; rw [← hq]; simp [withinB]; omega))
  by_cases h7' : tk = 7
  · subst h7'
    go_enter Tryz.func42, Tryz.ntmps42
    go_wp2
    all_goals (
      go_ret
      refine ⟨?_, hB⟩
      first | rfl | (have hq := hHR.out; rw [← hq]; simp [withinB, *]; done) | (have hq := hHR.out; rw [← hq]; simp [withinB]; omega))
  have e0 : (tk == 0) = false := by simp [h0]
  have e1 : (tk == 1) = false := by simp [h1']
  have e2 : (tk == 2) = false := by simp [h2']
  have e3 : (tk == 3) = false := by simp [h3']
  have e4 : (tk == 4) = false := by simp [h4']
  have e6 : (tk == 6) = false := by simp [h6']
  have e7 : (tk == 7) = false := by simp [h7']
  go_enter Tryz.func42, Tryz.ntmps42
  go_wp2
  all_goals (
    go_ret
    refine ⟨?_, hB⟩
    first | rfl | (have hq := hHR.out; rw [← hq]; simp [withinB, *]; done) | (have hq := hHR.out; rw [← hq]; simp [withinB]; omega))
def fairB (T : Tm) : Bool := leanB T && withinB T
set_option maxHeartbeats 1000000 in
theorem fair_w (T : Tm) (v : Value) (w : World) (hok : T.ok1) (hT : TV (Low w) w T v) (hTa : Tabs w) :
    Calls Tryz.prog 24 #[v] w fun e w' => e = .returned (.bool (fairB T)) ∧ Below w.heap.size w w' := by
  have hT0 := hT
  cases hTT : T with | mk tk tneg td tnm tn tl tb =>
  rw [hTT] at hT
  unfold TV at hT
  obtain ⟨tod, tcd, tol, tcl, tob, tcb, rfl, _⟩ := hT
  rw [← hTT]
  clear hTT
  have hB : Below w.heap.size w (w.alloc (.cells #[.int .i64 tk, .bool tneg, .slice tod td.length tcd, .string tnm, .int .i64 tn, .slice tol tl.length tcl, .slice tob tb.length tcb] 26)) := (Below.refl _ w).alloc (Nat.le_refl _) _
  have kA := Bx.new w (.int .i64 tk) (.bool tneg) (.slice tod td.length tcd) (.string tnm) (.int .i64 tn) (.slice tol tl.length tcl) (.slice tob tb.length tcb) 26
  have hTb : ∀ w', Below w.heap.size w w' → TV (Low w') w' T (tmV tk tneg (.slice tod td.length tcd) tnm tn (.slice tol tl.length tcl) (.slice tob tb.length tcb)) := fun w' hb => TV.mono (fun k hk _ => hk) _ _ (TV.zs (fun k hk => hb.block k hk) _ _ hT0)
  clear hT0
  obtain ⟨R, hR⟩ : ∃ R, fairB T = R := ⟨_, rfl⟩
  rw [hR]
  unfold fairB at hR
  have hHR := hid hR
  clear hR
  go_enter Tryz.func24, Tryz.ntmps24
  go_wp2_with fail
  generalize (w.alloc (.cells #[.int .i64 tk, .bool tneg, .slice tod td.length tcd, .string tnm, .int .i64 tn, .slice tol tl.length tcl, .slice tob tb.length tcb] 26)) = w1 at *
  refine (lean_w T _ _ (hTb _ hB)).mono ?_
  rintro e w2 ⟨rfl, b2⟩
  have hB2 := below_and hB (Nat.le_refl _) b2
  obtain ⟨x0, x1, x2, x3, x4, x5, x6, _⟩ := kA.below b2
  obtain ⟨lb, hlb⟩ : ∃ lb, leanB T = lb := ⟨_, rfl⟩
  have hHl := hid hlb
  rw [hlb]
  clear hlb
  cases lb with
  | false =>
    go_wp2
    go_ret
    exact ⟨by rw [← hHR.out, hHl.out]; rfl, hB2⟩
  | true =>
    go_wp2_with fail
    refine (within_w T _ _ hok (hTb _ hB2) (hTa.below hB2)).mono ?_
    rintro e w3 ⟨rfl, b3⟩
    have hB3 := below_and hB2 (Nat.le_refl _) b3
    go_wp2
    go_ret
    exact ⟨by rw [← hHR.out, hHl.out]; simp, hB3⟩
theorem enFair : Enters Tryz.prog 24 := enters_of Tryz.func24 (by kernel_rfl) rfl
/-- whether a term may be -/
def mayB (T : Tm) : Bool := decide (treeN T ≤ 65536) && (parts T).all fairB
set_option maxHeartbeats 1000000 in
theorem May_w (T : Tm) (v : Value) (w : World) (hD : dep T ≤ 1000000) (hok : ∀ p ∈ parts T, p.ok1) (hT : TV (Low w) w T v) (hTa : Tabs w) :
    Calls Tryz.prog 14 #[v] w fun e w' => e = .returned (.bool (mayB T)) ∧ Below w.heap.size w w' := by
  have hT0 := hT
  cases hTT : T with | mk tk tneg td tnm tn tl tb =>
  rw [hTT] at hT
  unfold TV at hT
  obtain ⟨tod, tcd, tol, tcl, tob, tcb, rfl, _⟩ := hT
  rw [← hTT]
  clear hTT
  have hB : Below w.heap.size w (w.alloc (.cells #[.int .i64 tk, .bool tneg, .slice tod td.length tcd, .string tnm, .int .i64 tn, .slice tol tl.length tcl, .slice tob tb.length tcb] 26)) := (Below.refl _ w).alloc (Nat.le_refl _) _
  have kA := Bx.new w (.int .i64 tk) (.bool tneg) (.slice tod td.length tcd) (.string tnm) (.int .i64 tn) (.slice tol tl.length tcl) (.slice tob tb.length tcb) 26
  have hTb : ∀ w', Below w.heap.size w w' → TV (Low w') w' T (tmV tk tneg (.slice tod td.length tcd) tnm tn (.slice tol tl.length tcl) (.slice tob tb.length tcb)) := fun w' hb => TV.mono (fun k hk _ => hk) _ _ (TV.zs (fun k hk => hb.block k hk) _ _ hT0)
  clear hT0
  obtain ⟨R, hR⟩ : ∃ R, mayB T = R := ⟨_, rfl⟩
  rw [hR]
  unfold mayB at hR
  have hHR := hid hR
  clear hR
  go_enter Tryz.func14, Tryz.ntmps14
  go_wp2_with fail
  generalize (w.alloc (.cells #[.int .i64 tk, .bool tneg, .slice tod td.length tcd, .string tnm, .int .i64 tn, .slice tol tl.length tcl, .slice tob tb.length tcb] 26)) = w1 at *
  refine (Tree_w T _ _ hD (hTb _ hB)).mono ?_
  rintro e w2 ⟨rfl, b2⟩
  have hB2 := below_and hB (Nat.le_refl _) b2
  obtain ⟨x0, x1, x2, x3, x4, x5, x6, _⟩ := kA.below b2
  by_cases ht : treeN T ≤ 65536
  · have ht' : ((treeN T : Nat) : Int) ≤ 65536 := by omega
    have hHt := hid ht
    clear ht
    go_wp2_with fail
    refine (every_w 24 #[] enFair (fun _ => False) (fun _ _ => True) (fun k => ((parts T)[k]?.map fairB).getD true) T _ w2 1000000 hD (Nat.le_refl _) ?e1 ?e2 ?e3 ?e4 ?e5).mono ?_
    case e1 => exact TV.mono (fun k hk h => ⟨hk, id⟩) _ _ (hTb _ hB2)
    case e2 => intro k hk; exact hk.elim
    case e3 => trivial
    case e4 => intro _ _ _ _ _; trivial
    case e5 =>
      intro k p x w3 hp hj hx hk _
      have hb3 : Below w2.heap.size w2 w3 := hk.below (Nat.le_refl _) (fun k h => h.elim)
      refine (fair_w p x w3 (hok p (List.mem_of_getElem? hp)) (TV.mono (fun k hk h => hk) _ _ hx) ((hTa.below hB2).below hb3)).mono ?_
      rintro e w4 ⟨rfl, b4⟩
      exact ⟨by rw [hp]; rfl, trivial, Kept.of_below b4⟩
    rintro e w3 ⟨hk, hres⟩
    have hB3 : Below w.heap.size w w3 := below_and hB2 (Nat.le_refl _) (hk.below (Nat.le_refl _) (fun k h => h.elim))
    rcases hres with ⟨rfl, hall, _⟩ | ⟨k, hkl, hall, hno, rfl, _⟩
    · have hRt : R = true := by
        rw [← hHR.out, decide_eq_true hHt.out, Bool.true_and, List.all_eq_true]
        intro p hp
        obtain ⟨j, hj, hje⟩ := List.getElem_of_mem hp
        have := hall j hj
        rw [List.getElem?_eq_getElem hj] at this
        simpa [hje] using this
      subst hRt
      clear hHR
      go_wp2
      go_ret
      exact ⟨rfl, hB3⟩
    · have hRf : R = false := by
        rw [← hHR.out, decide_eq_true hHt.out, Bool.true_and]
        rw [List.getElem?_eq_getElem hkl] at hno
        have h1 : fairB (parts T)[k] = false := by simpa using hno
        cases hq : (parts T).all fairB with
        | false => rfl
        | true =>
          rw [List.all_eq_true] at hq
          rw [hq _ (List.getElem_mem hkl)] at h1
          simp at h1
      subst hRf
      clear hHR
      go_wp2
      go_ret
      exact ⟨rfl, hB3⟩
  · have ht' : ¬ (((treeN T : Nat) : Int) ≤ 65536) := by omega
    have hRf : R = false := by rw [← hHR.out, decide_eq_false ht, Bool.false_and]
    subst hRf
    clear hHR ht
    go_wp2
    go_ret
    exact ⟨rfl, hB2⟩
end Go.Proofs.YtjacoodfhkaioabGreatDoor
namespace Go.Proofs.YtjacoodfhkaioabGreatDoor
open Go.ChangeShapes Go.WideShapes Go.ChangeAt Go.RowKit Go.Shelf
set_option linter.unusedSimpArgs false
set_option linter.unusedVariables false
set_option maxRecDepth 2000
theorem infoT : (Tryz.prog.info? 26).map (fun i => (i.zero, i.size, i.bytes)) = some (some (.agg #[.int .i64 0, .bool false, .slice none 0 0, .string ⟨#[]⟩, .int .i64 0, .slice none 0 0, .slice none 0 0]), 7, 112) := by kernel_rfl
/-- cells in a row, wherever they lie -/
def Lc (o : Option Addr) (xs : List Value) (w : World) : Prop := ∀ (j : Nat) (u : Value), xs[j]? = some u → ∃ a, o = some a ∧ w.cell? (a.add j) = some u
/-- append(nil, ..): a row of one's own -/
theorem ap_run (t e : TypeId) (i : TypeInfo) (z : Value) (size bytes : Nat) (ht : Tryz.prog.underlying t = some (.slice e)) (hi : Tryz.prog.info? e = some i) (hz : i.zero = some z) (hsize : i.size = size) (hby : i.bytes = bytes) (hzs : z.cells.size = size) (hsz : 0 < size)
    (W : World) (ao : Option Addr) (c n : Nat) (xs : List Value) (hl : xs.length = n * size) (h1 : ∀ u ∈ xs, u.oneCell' = true) (hn : n ≤ 1000000) (hb : n * bytes ≤ 140737488355328) (h : Lc ao xs W) :
    ∃ v' w', (Builtin.append_ #[t, t] t #[.slice none 0 0, .slice ao n c]).run Tryz.prog W = .ok v' w' ∧ w'.ownsRow W.heap.size e size v' n xs ∧ Below W.heap.size W w' := by
  cases ao with
  | none =>
    have hl0 : xs = [] := by
      cases xs with
      | nil => rfl
      | cons x t => obtain ⟨a, ha, _⟩ := h 0 x (by simp); simp at ha
    subst hl0
    have hn0 : n = 0 := by
      rcases Nat.eq_zero_or_pos n with h | h
      · exact h
      · have := Nat.mul_pos h hsz
        simp at hl; omega
    subst hn0
    refine ⟨.slice none 0 0, W, ?_, World.ownsRow_nil _ _ _ _, Below.refl _ _⟩
    simp [Builtin.append_, run_underlying ht, sizeOf, typeInfo, hi, Builtin.lenOf, Builtin.firstCells]
  | some a =>
    obtain ⟨v', w', hrun, hown, hgrow, _⟩ := run_append_own (P := Tryz.prog) W W.heap.size t t e i z size bytes ht hi hz hsize hby hzs hsz (.slice none 0 0) 0 [] (World.ownsRow_nil _ _ _ _) a n c xs hl (fun j u hj => by
        obtain ⟨a', ha, hc⟩ := h j u hj
        obtain rfl := Option.some.inj ha
        exact hc) h1 (by unfold maxLen; omega) (by simpa using hb) (Nat.le_refl _)
    refine ⟨v', w', hrun, by simpa using hown, (Below.refl _ W).grown hgrow (Nat.le_refl _) (fun k hk => by simp [Value.ownBlock] at hk)⟩
/-- the cells of terms in a row -/
def RC (Z : Nat → Prop) (w : World) : List Tm → List Value → Prop
  | [], xs => xs = []
  | t :: l, xs => ∃ k neg od ld cd nm n ol ll cl ob lb cb ys, TV Z w t (tmV k neg (.slice od ld cd) nm n (.slice ol ll cl) (.slice ob lb cb)) ∧ xs = .int .i64 k :: .bool neg :: .slice od ld cd :: .string nm :: .int .i64 n :: .slice ol ll cl :: .slice ob lb cb :: ys ∧ RC Z w l ys
theorem RC.len {Z : Nat → Prop} {w : World} : ∀ {l : List Tm} {xs : List Value}, RC Z w l xs → xs.length = l.length * 7
  | [], xs, h => by have : xs = [] := h; subst this; rfl
  | t :: l, xs, h => by
    obtain ⟨k, neg, od, ld, cd, nm, n, ol, ll, cl, ob, lb, cb, ys, _, rfl, hr⟩ := h
    have := hr.len
    simp only [List.length_cons]; omega
theorem RC.one {Z : Nat → Prop} {w : World} : ∀ {l : List Tm} {xs : List Value}, RC Z w l xs → ∀ u ∈ xs, u.oneCell' = true
  | [], xs, h => by have : xs = [] := h; subst this; simp
  | t :: l, xs, h => by
    obtain ⟨k, neg, od, ld, cd, nm, n, ol, ll, cl, ob, lb, cb, ys, _, rfl, hr⟩ := h
    intro u hu
    simp only [List.mem_cons] at hu
    rcases hu with rfl | rfl | rfl | rfl | rfl | rfl | rfl | hu
    all_goals first | rfl | exact hr.one u hu
theorem RC.zs {Z : Nat → Prop} {w w' : World} (hb : Zs Z w w') : ∀ {l : List Tm} {xs : List Value}, RC Z w l xs → RC Z w' l xs
  | [], xs, h => h
  | t :: l, xs, h => by
    obtain ⟨k, neg, od, ld, cd, nm, n, ol, ll, cl, ob, lb, cb, ys, ht, rfl, hr⟩ := h
    exact ⟨k, neg, od, ld, cd, nm, n, ol, ll, cl, ob, lb, cb, ys, TV.zs hb _ _ ht, rfl, hr.zs hb⟩
theorem TV.form {Z : Nat → Prop} {w : World} {t : Tm} {v : Value} (h : TV Z w t v) : ∃ k neg od ld cd nm n ol ll cl ob lb cb, v = tmV k neg (.slice od ld cd) nm n (.slice ol ll cl) (.slice ob lb cb) := by
  cases t with | mk k neg d nm n l b =>
  unfold TV at h
  obtain ⟨od, cd, ol, cl, ob, cb, rfl, _⟩ := h
  exact ⟨_, _, _, _, _, _, _, _, _, _, _, _, _, rfl⟩
theorem TR.rc {Z : Nat → Prop} {w : World} : ∀ {l : List Tm} {o : Option Addr}, TR Z w l o → ∃ xs, RC Z w l xs ∧ Lc o xs w
  | [], o, _ => ⟨[], rfl, fun j u hj => by simp at hj⟩
  | t :: l, o, h => by
    unfold TR at h
    obtain ⟨a, v, rfl, hZ, hA, hT, hr⟩ := h
    obtain ⟨k, neg, od, ld, cd, nm, n, ol, ll, cl, ob, lb, cb, rfl⟩ := hT.form
    obtain ⟨ys, h1, h2⟩ := TR.rc hr
    obtain ⟨c0, c1, c2, c3, c4, c5, c6⟩ := hA.tm
    refine ⟨_, ⟨k, neg, od, ld, cd, nm, n, ol, ll, cl, ob, lb, cb, ys, hT, rfl, h1⟩, fun j u hj => ⟨a, rfl, ?_⟩⟩
    rcases j with _ | _ | _ | _ | _ | _ | _ | j
    · simp at hj; subst hj; rw [add_zero]; exact c0
    · simp at hj; subst hj; exact c1
    · simp at hj; subst hj; exact c2
    · simp at hj; subst hj; exact c3
    · simp at hj; subst hj; exact c4
    · simp at hj; subst hj; exact c5
    · simp at hj; subst hj; exact c6
    · simp only [List.getElem?_cons_succ] at hj
      obtain ⟨a', ha, hc⟩ := h2 j u hj
      obtain rfl := Option.some.inj ha
      rw [add_add] at hc
      rw [show j + 1 + 1 + 1 + 1 + 1 + 1 + 1 = 7 + j by omega]; exact hc
theorem RC.tr {Z : Nat → Prop} {w : World} : ∀ {l : List Tm} {xs : List Value} {a : Addr}, RC Z w l xs → (l ≠ [] → Z a.block) → (∀ (j : Nat) (u : Value), xs[j]? = some u → w.cell? (a.add j) = some u) → TR Z w l (some a)
  | [], xs, a, _, _, _ => by unfold TR; trivial
  | t :: l, xs, a, h, hZ, hc => by
    obtain ⟨k, neg, od, ld, cd, nm, n, ol, ll, cl, ob, lb, cb, ys, ht, rfl, hr⟩ := h
    unfold TR
    have h0 := hc 0 _ rfl
    rw [add_zero] at h0
    refine ⟨a, _, rfl, hZ (by simp), ⟨_, _, _, _, _, _, _, rfl, h0, hc 1 _ rfl, hc 2 _ rfl, hc 3 _ rfl, hc 4 _ rfl, hc 5 _ rfl, hc 6 _ rfl⟩, ht, RC.tr hr (fun _ => by rw [block_add]; exact hZ (by simp)) (fun j u hj => ?_)⟩
    rw [add_add, show 7 + j = j + 7 by omega]
    exact hc (j + 7) u (by simpa using hj)
theorem Ls.lc {Z : Nat → Prop} {o : Option Addr} {xs : List Value} {w : World} (h : Ls Z o xs w) : Lc o xs w := fun j u hj => by
  obtain ⟨a, h1, _, h2⟩ := h j u hj
  exact ⟨a, h1, h2⟩
theorem own_set {w : World} {B : Nat} {e : TypeId} {s : Nat} {v : Value} {n : Nat} {xs : List Value} (h : w.ownsRow B e s v n xs) {p : Addr} (hp : p.block < B) (x : Value) : (w.setCell p x).ownsRow B e s v n xs := by
  refine ⟨h.1, ?_⟩
  rcases h.2 with hn | ⟨g, cap, cur, hv, hbg, hg, rest⟩
  · exact .inl hn
  · refine .inr ⟨g, cap, cur, hv, hbg, ?_, rest⟩
    rw [Below.heap_setCell _ _ _ _ (fun e => by omega)]; exact hg
theorem own_below {w w' : World} {B : Nat} {e : TypeId} {s : Nat} {v : Value} {n : Nat} {xs : List Value} (h : w.ownsRow B e s v n xs) (hb : Below w.heap.size w w') : w'.ownsRow B e s v n xs := by
  refine ⟨h.1, ?_⟩
  rcases h.2 with hn | ⟨g, cap, cur, hv, hbg, hg, rest⟩
  · exact .inl hn
  · exact .inr ⟨g, cap, cur, hv, hbg, (hb.block g (Array.getElem?_eq_some_iff.1 hg).1).trans hg, rest⟩
theorem own_mono {w : World} {B B' : Nat} {e : TypeId} {s : Nat} {v : Value} {n : Nat} {xs : List Value} (h : w.ownsRow B e s v n xs) (hB : B' ≤ B) : w.ownsRow B' e s v n xs := by
  refine ⟨h.1, ?_⟩
  rcases h.2 with hn | ⟨g, cap, cur, hv, hbg, rest⟩
  · exact .inl hn
  · exact .inr ⟨g, cap, cur, hv, by omega, rest⟩
theorem own_sl {w : World} {B : Nat} {e : TypeId} {s : Nat} {v : Value} {m : Nat} {xs : List Value} (h : w.ownsRow B e s v m xs) : ∃ o cap, v = .slice o m cap ∧ m ≤ cap := by
  obtain ⟨h1, ⟨h2, rfl⟩ | ⟨g', cap', cur, h2, _, _, h3, _⟩⟩ := h
  · exact ⟨none, 0, h2, by omega⟩
  · exact ⟨_, cap', h2, h3⟩
end Go.Proofs.YtjacoodfhkaioabGreatDoor
