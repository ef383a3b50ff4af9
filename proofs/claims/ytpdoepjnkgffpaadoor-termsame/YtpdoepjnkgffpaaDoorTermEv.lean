/- every of package term. -/
import Derived.Test.YtpdoepjnkgffpaaDoorTermEvery
namespace Go.Proofs.YtpdoepjnkgffpaaDoor
open Go.ChangeShapes Go.WideShapes Go.ChangeAt Go.RowKit Go.Shelf
set_option linter.unusedSimpArgs false
set_option linter.unusedVariables false
set_option maxRecDepth 2000
theorem At7.tm {a : Addr} {k : Int} {neg : Bool} {D : Value} {nm : ByteArray} {n : Int} {L B : Value} {w : World} (h : At7 a (tmV k neg D nm n L B) w) : w.cell? a = some (.int .i64 k) ∧ w.cell? ⟨a.block, a.off + 1, none⟩ = some (.bool neg) ∧ w.cell? ⟨a.block, a.off + 2, none⟩ = some D ∧ w.cell? ⟨a.block, a.off + 3, none⟩ = some (.string nm) ∧ w.cell? ⟨a.block, a.off + 4, none⟩ = some (.int .i64 n) ∧ w.cell? ⟨a.block, a.off + 5, none⟩ = some L ∧ w.cell? ⟨a.block, a.off + 6, none⟩ = some B := by
  obtain ⟨a0, a1, a2, a3, a4, a5, a6, e, h⟩ := h
  simp only [Value.agg.injEq, Array.mk.injEq, List.cons.injEq, and_true] at e
  obtain ⟨rfl, rfl, rfl, rfl, rfl, rfl, rfl⟩ := e
  exact h
theorem heap_new (w : World) (o : Obj) : (w.alloc o).heap[w.heap.size]? = some o := heap_alloc_new w o
theorem hstart {w : World} {F : Nat → Prop} {k : Int} {neg : Bool} {d : List Nat} {nm : ByteArray} {n : Int} {l : List Tm} {b : List Nat} {od ol ob : Option Addr} {cd cl cb : Nat} {t : TypeId}
    (hT : TV (fun k => k < w.heap.size ∧ ¬ F k) w (.mk k neg d nm n l b) (tmV k neg (.slice od d.length cd) nm n (.slice ol l.length cl) (.slice ob b.length cb))) :
    ∀ W0, W0 = (((w.alloc (.cells #[.int .i64 k, .bool neg, .slice od d.length cd, .string nm, .int .i64 n, .slice ol l.length cl, .slice ob b.length cb] t)).alloc (.cells #[.int .i64 k, .bool neg, .slice od d.length cd, .string nm, .int .i64 n, .slice ol l.length cl, .slice ob b.length cb] t)).alloc (.cells #[.slice (some ⟨w.heap.size + 1, 0, none⟩) 1 1] 22)) →
    Below w.heap.size w W0 ∧ W0.heap.size = w.heap.size + 3 ∧ W0.ownsRow (w.heap.size + 2) 22 1 (.slice (some ⟨w.heap.size + 2, 0, none⟩) 1 1) 1 [.slice (some ⟨w.heap.size + 1, 0, none⟩) 1 1] ∧ TR (fun k => (k < w.heap.size ∧ ¬ F k) ∨ k = w.heap.size + 1) W0 [.mk k neg d nm n l b] (some ⟨w.heap.size + 1, 0, none⟩) := by
  rintro W0 rfl
  have hB : Below w.heap.size w (((w.alloc (.cells #[.int .i64 k, .bool neg, .slice od d.length cd, .string nm, .int .i64 n, .slice ol l.length cl, .slice ob b.length cb] t)).alloc (.cells #[.int .i64 k, .bool neg, .slice od d.length cd, .string nm, .int .i64 n, .slice ol l.length cl, .slice ob b.length cb] t)).alloc (.cells #[.slice (some ⟨w.heap.size + 1, 0, none⟩) 1 1] 22)) :=
    (((Below.refl _ w).alloc (Nat.le_refl _) _).alloc (by simp) _).alloc (by simp; omega) _
  refine ⟨hB, by simp, ?_, ?_⟩
  · have := World.ownsRow_lit (e := 22) (size := 1) (base := w.heap.size + 2) ((w.alloc (.cells #[.int .i64 k, .bool neg, .slice od d.length cd, .string nm, .int .i64 n, .slice ol l.length cl, .slice ob b.length cb] t)).alloc (.cells #[.int .i64 k, .bool neg, .slice od d.length cd, .string nm, .int .i64 n, .slice ol l.length cl, .slice ob b.length cb] t)) #[.slice (some ⟨w.heap.size + 1, 0, none⟩) 1 1] 1 (by simp) (by simp [maxLen]) (by simp)
    simpa using this
  · unfold TR
    refine ⟨_, tmV k neg (.slice od d.length cd) nm n (.slice ol l.length cl) (.slice ob b.length cb), rfl, .inr rfl, ?_, ?_, by unfold TR; trivial⟩
    · have hbx := (Bx.new (w.alloc (.cells #[.int .i64 k, .bool neg, .slice od d.length cd, .string nm, .int .i64 n, .slice ol l.length cl, .slice ob b.length cb] t)) (.int .i64 k) (.bool neg) (.slice od d.length cd) (.string nm) (.int .i64 n) (.slice ol l.length cl) (.slice ob b.length cb) t).below ((Below.refl _ _).alloc (Nat.le_refl _) (.cells #[.slice (some ⟨w.heap.size + 1, 0, none⟩) 1 1] 22))
      rw [World.size_alloc] at hbx
      exact ⟨_, _, _, _, _, _, _, rfl, hbx.c0, by simpa [addr_add] using hbx.c1, by simpa [addr_add] using hbx.c2, by simpa [addr_add] using hbx.c3, by simpa [addr_add] using hbx.c4, by simpa [addr_add] using hbx.c5, by simpa [addr_add] using hbx.c6⟩
    · refine TV.mono (fun k _ h => .inl h) _ _ (TV.zs (fun k hk => hB.block k hk.1) _ _ hT)
abbrev ZZ (F : Nat → Prop) (S : Nat) : Nat → Prop := fun k => (k < S ∧ ¬ F k) ∨ k = S + 1
theorem zz_kept {F : Nat → Prop} {S : Nat} {w w' : World} (h : Kept F w w') (hS : S + 3 ≤ w.heap.size) (hF : ∀ k, F k → k < S) : Zs (ZZ F S) w w' := fun k hk => by
  rcases hk with ⟨h1, h2⟩ | rfl
  · exact h.block k (by omega) h2
  · exact h.block _ (by omega) (fun hf => by have := hF _ hf; omega)
theorem zz_high {F : Nat → Prop} {S : Nat} {w w' : World} (h : Kept (fun k => S + 2 ≤ k) w w') (hS : S + 3 ≤ w.heap.size) : Zs (ZZ F S) w w' := fun k hk => by
  rcases hk with ⟨h1, h2⟩ | rfl
  · exact h.block k (by omega) (by omega)
  · exact h.block _ (by omega) (by omega)
theorem tv_zz {F : Nat → Prop} {S : Nat} {w : World} {t : Tm} {v : Value} (h : TV (ZZ F S) w t v) (hF : ∀ k, F k → k < S) : TV (fun k => k < w.heap.size ∧ ¬ F k) w t v := TV.mono (fun k hk hz => ⟨hk, by
  rcases hz with ⟨h1, h2⟩ | rfl
  · exact h2
  · exact fun hf => by have := hF _ hf; omega⟩) _ _ h
theorem drop_step {PT : List Tm} {k : Nat} {t : Tm} {r : List Tm} (h : PT.drop k = t :: r) : PT[k]? = some t ∧ PT.drop (k + 1) = r ∧ k + 1 ≤ PT.length := by
  have h1 : k < PT.length := by
    rcases Nat.lt_or_ge k PT.length with h1 | h1
    · exact h1
    · rw [List.drop_eq_nil_of_le h1] at h; simp at h
  have h2 := List.drop_eq_getElem_cons h1
  rw [h] at h2
  injection h2 with h3 h4
  exact ⟨by rw [h3]; simp [h1], h4.symm, h1⟩
set_option maxHeartbeats 4000000 in
set_option maxRecDepth 4000 in
theorem every_w (fn : Nat) (caps : Array Value) (hen : Enters Tryd.prog fn) (F : Nat → Prop) (P : Nat → World → Prop) (ans : Nat → Bool) (T : Tm) (v : Value) (w : World) (D : Nat) (hD : dep T ≤ D) (hD2 : D ≤ 1000000)
    (hT : TV (fun k => k < w.heap.size ∧ ¬ F k) w T v) (hF : ∀ k, F k → k < w.heap.size) (hP0 : P 0 w)
    (hP : ∀ k w1 w2, P k w1 → (∀ i, F i → w2.heap[i]? = w1.heap[i]?) → P k w2)
    (hstep : ∀ (k : Nat) (p : Tm) (x : Value) (w1 : World), (parts T)[k]? = some p → (∀ j, j < k → ans j = true) → TV (fun k => k < w1.heap.size ∧ ¬ F k) w1 p x → Kept F w w1 → P k w1 → Calls Tryd.prog fn (#[x] ++ caps) w1 fun e w2 => e = .returned (.bool (ans k)) ∧ P (k + 1) w2 ∧ Kept F w1 w2) :
    Calls Tryd.prog 59 #[v, .func (.func fn) #[] caps] w fun e w' => Kept F w w' ∧ ((e = .returned (.bool true) ∧ (∀ j, j < (parts T).length → ans j = true) ∧ P (parts T).length w') ∨ ∃ k, k < (parts T).length ∧ (∀ j, j < k → ans j = true) ∧ ans k = false ∧ e = .returned (.bool false) ∧ P (k + 1) w') := by
  obtain ⟨PT, hPT⟩ : ∃ PT, parts T = PT := ⟨_, rfl⟩
  have hPT0 : Hid (PT = partsL [T]) := hid (by rw [← hPT]; simp [partsL])
  have hdT : Hid (depL [T] ≤ D) := hid (by simp [depL]; exact hD)
  rw [hPT] at hstep ⊢
  have hHP := hid hP
  have hHS := hid hstep
  have hen' : ∀ (args : Array Value) (w : World), (callFunc fn args).run Tryd.prog w = .ok (.enter fn args) w := hen
  clear hP hstep hPT hen hD
  have hfld := fld5
  cases T with | mk k neg d nm n l b =>
  have hT' := hT
  unfold TV at hT
  obtain ⟨od, cd, ol, cl, ob, cb, rfl, _⟩ := hT
  have hst := hstart (t := 31) hT'
  clear hT'
  obtain ⟨i0, hi, hz0, hz1, hz2⟩ := info_parts infoR
  go_enter Tryd.func59, Tryd.ntmps59
  go_wp2_with fail
  generalize hW : (((w.alloc (.cells #[.int .i64 k, .bool neg, .slice od d.length cd, .string nm, .int .i64 n, .slice ol l.length cl, .slice ob b.length cb] 31)).alloc (.cells #[.int .i64 k, .bool neg, .slice od d.length cd, .string nm, .int .i64 n, .slice ol l.length cl, .slice ob b.length cb] 31)).alloc (.cells #[.slice (some ⟨w.heap.size + 1, 0, none⟩) 1 1] 22)) = W0
  obtain ⟨hB0, hS0, hO0, hR0⟩ := hst W0 hW.symm
  clear hst hW
  go_loopg [5] PT.length (fun t v5 wr => ∃ (st : List Rw) (k e : Nat), t = (flat st).length ∧ Hid (PT.drop k = flat st ∧ k ≤ PT.length ∧ ∀ j, j < k → ans j = true) ∧ StOk (fun k => (k < w.heap.size ∧ ¬ F k) ∨ k = w.heap.size + 1) wr e st ∧ st.length + e ≤ D + 1 ∧ wr.ownsRow (w.heap.size + 2) 22 1 v5 st.length (st.map Rw.val).reverse ∧ Kept F w wr ∧ P k wr ∧ w.heap.size + 3 ≤ wr.heap.size)
  case atStart =>
    refine ⟨[⟨some ⟨w.heap.size + 1, 0, none⟩, 1, [.mk k neg d nm n l b]⟩], 0, D, ?_, hid ⟨?_, by omega, fun j hj => by omega⟩, ⟨by simp, by simp, hR0, hdT.out, trivial⟩, by simp; omega, by simpa [Rw.val] using hO0, Kept.of_below hB0, hHP.out 0 w W0 hP0 (fun i hi => hB0.block i (hF i hi)), by omega⟩
    · rw [hPT0.out]; simp [flat]
    · rw [hPT0.out]; simp [flat]
  case round =>
    obtain ⟨st, kk, e, rfl, hH, hSt, hle, hOw, hK, hPk, hsz⟩ := hrel
    clear hB0 hO0 hR0 hS0 hP0
    cases st with
    | nil =>
      obtain ⟨o5, c5, rfl, _⟩ := own_shape hOw
      have hq : Hid (kk = PT.length) := hid (by
        have h1 := hH.out.1
        have h2 := hH.out.2.1
        simp only [flat] at h1
        have := List.drop_eq_nil_iff.1 h1
        omega)
      clear hOw hSt
      go_wp2
      go_ret
      exact ⟨hK, .inl ⟨rfl, fun j hj => hH.out.2.2 j (by rw [hq.out]; exact hj), by rw [← hq.out]; exact hPk⟩⟩
    | cons r st =>
      obtain ⟨ro, rc, rl⟩ := r
      obtain ⟨hne, hrc, hTR, hdr, hSt'⟩ := hSt
      simp only at hne hrc hTR hdr
      cases rl with
      | nil => exact absurd rfl hne
      | cons t rest =>
      clear hne
      unfold TR at hTR
      obtain ⟨a, v, rfl, hZa, hAt, hTV, hTRr⟩ := hTR
      cases t with | mk tk tneg td tnm tn tl tb =>
      have hTV' := hTV
      unfold TV at hTV
      obtain ⟨tod, tcd, tol, tcl, tob, tcb, rfl, _, _, _, _, _, htl, htR⟩ := hTV
      obtain ⟨x0, x1, x2, x3, x4, x5, x6⟩ := hAt.tm
      obtain ⟨o5, c5, rfl, ho5⟩ := own_shape hOw
      obtain ⟨g, rfl⟩ := ho5 (by simp)
      clear ho5
      simp only [List.map_cons, List.reverse_cons, List.length_cons] at hOw
      obtain ⟨hOw', hcell, hBg, hgl, hc5⟩ := own_take1 hOw
      clear hOw
      unfold Rw.val at hcell
      simp only [List.length_cons] at hcell hrc
      by_cases hr1 : rest = []
      · subst hr1
        simp only [List.length_cons, List.length_nil] at *
        have hfl : Hid (PT.drop kk = Tm.mk tk tneg td tnm tn tl tb :: (partsL (Tm.mk tk tneg td tnm tn tl tb).kids ++ flat st)) := hid (by rw [hH.out.1]; simp [flat, partsL, parts_eq])
        have hdk := hid (fun h : (Tm.mk tk tneg td tnm tn tl tb).kids ≠ [] => dep_kids _ h)
        have hl1 : st.length + (e + 1) ≤ D + 1 := by omega
        have hdt : dep (Tm.mk tk tneg td tnm tn tl tb) ≤ e + 1 := by simp [depL] at hdr; omega
        have hA1 := hAt
        have hT1 := hTV'
        have hS1 := hSt'
        have hO1 := hOw'
        have hK1 := hK
        have hP1 := hPk
        have hs1 := hsz
        go_wp2_with fail
        clear hAt hTV' hSt' hOw' hK hPk hsz hcell
        have hZ1 := tv_zz hT1 hF
        obtain ⟨hg1, hg2, hg3⟩ := drop_step hfl.out
        refine (hHS.out kk _ _ _ hg1 hH.out.2.2 hZ1 hK1 hP1).mono ?_
        clear hZ1
        rintro e2 w2 ⟨rfl, hP2, hk2⟩
        have hzs2 := zz_kept hk2 hs1 hF
        have hA2 := hA1.zs hZa hzs2
        have hT2 := TV.zs hzs2 _ _ hT1
        have hS2 := StOk.zs hzs2 _ _ hS1
        have hO2 := own_kept hO1 hk2 (fun k hk => by have := hF k hk; omega)
        have hK2 := hK1.trans hk2
        have hs2 : w.heap.size + 3 ≤ w2.heap.size := Nat.le_trans hs1 hk2.size
        clear hzs2 hA1 hT1 hS1 hO1 hK1 hP1 hk2 hs1 x0 x1 x2 x3 x4 x5 x6
        obtain ⟨x0, x1, x2, x3, x4, x5, x6⟩ := hA2.tm
        obtain ⟨bb, hbb⟩ : ∃ bb, ans kk = bb := ⟨_, rfl⟩
        rw [hbb]
        have hHb := hid hbb
        clear hbb
        cases bb with
        | false =>
          go_wp2
          go_ret
          exact ⟨hK2, .inr ⟨kk, by omega, hH.out.2.2, hHb.out, rfl, hP2⟩⟩
        | true =>
          go_wp2_with fail
          refine (pruned_w tk tneg tod td.length tcd tnm tn tol tl.length tcl tob tb.length tcb _).mono ?_
          rintro e3 w3 ⟨rfl, b3⟩
          have hk3 : Kept (fun k => w.heap.size + 2 ≤ k) w2 w3 := Kept.of_below b3
          have hzs3 := zz_high (F := F) hk3 hs2
          have hT3 := TV.zs hzs3 _ _ hT2
          have hS3 := StOk.zs hzs3 _ _ hS2
          have hO3 : w3.ownsRow (w.heap.size + 2) 22 1 _ _ _ := own_kept (F := fun _ => False) hO2 (Kept.of_below b3) (fun k hk => hk.elim)
          have hK3 : Kept F w w3 := hK2.trans (Kept.of_below b3)
          have hP3 := hHP.out _ _ w3 hP2 (fun i hi => b3.block i (by have := hF i hi; omega))
          have hs3 : w.heap.size + 3 ≤ w3.heap.size := Nat.le_trans hs2 b3.size
          clear hzs3 hA2 hT2 hS2 hO2 hK2 hP2 hk3 hs2 b3 x0 x1 x2 x3 x4 x5 x6
          unfold TV at hT3
          obtain ⟨_, _, _, _, _, _, e4, _, _, _, _, _, htl3, htR3⟩ := hT3
          simp only [Value.agg.injEq, Array.mk.injEq, List.cons.injEq, Value.slice.injEq, and_true, true_and] at e4
          obtain ⟨⟨rfl, rfl⟩, ⟨rfl, rfl⟩, rfl, rfl⟩ := e4
          obtain ⟨p0, p1, p2, q2, r2, p3, p4, ok, ck, p6, q6, r6, hpr, hck, hkR⟩ := prV_row (k := tk) (neg := tneg) (d := td) (nm := tnm) (n := tn) (b := tb) (od := tod) (ob := tob) (cd := tcd) (cb := tcb) htl3 htR3
          unfold tmV at hpr
          rw [hpr]
          clear hpr htl3 htR3
          generalize hkk : (Tm.mk tk tneg td tnm tn tl tb).kids = kids at *
          cases kids with
          | nil =>
            go_wp2
            go_roundg (flat st).length
            case measure => simp only [flat, partsL, parts_eq, hkk, List.length_append, List.length_cons, List.length_nil]; omega
            case rel =>
              refine ⟨st, kk + 1, (e + 1), rfl, hid ⟨by rw [hg2]; simp [partsL], by omega, fun j hj => ?_⟩, hS3, hl1, hO3, hK3, hP3, hs3⟩
              rcases Nat.lt_or_ge j kk with h | h
              · exact hH.out.2.2 j h
              · have : j = kk := by omega
                subst this; exact hHb.out
          | cons q0 qs =>
            have hdq : depL (q0 :: qs) + 1 ≤ (e + 1) := Nat.le_trans (Nat.le_of_eq (hdk.out (by simp))) hdt
            obtain ⟨lv, hlv⟩ : ∃ lv, (e + 1) = lv + 1 := ⟨(e + 1) - 1, by omega⟩
            have hHq := hid (And.intro hdq hlv)
            clear hdq hlv
            have hO4 := hO3.alloc (.cells #[.slice ok (q0 :: qs).length ck] 22)
            have hHO := hid hO4
            have hHl := hid hl1
            have hHk := hid hkk
            clear hO3 hO4 hl1 hkk
            simp only [List.length_cons] at *
            go_wp2_with (at_builtin; refine wpList_append_own _ rfl _ _ 78 rfl (w.heap.size + 2) 22 i0 (.slice none 0 0) 1 24 Tryd.underlying78 hi hz0 hz1 hz2 rfl (by decide) _ _ _ rfl hHO.out ⟨w3.heap.size, 0, none⟩ 1 1 [.slice ok (qs.length + 1) ck] rfl ?c1 ?c2 ?c3 ?c4 ?c5 ?c6 ?_)
            case c1 => rfl
            case c2 =>
              intro j u hj
              cases j with
              | zero =>
                simp only [List.getElem?_cons_zero, Option.some.injEq] at hj
                subst hj
                rw [add_zero, World.cell?_alloc_mark]; rfl
              | succ j => simp at hj
            case c3 => intro u hu; simp at hu; subst hu; rfl
            case c4 => have := hHl.out; (try simp only [List.length_cons] at this); unfold maxLen; omega
            case c5 => have := hHl.out; (try simp only [List.length_cons] at this); omega
            case c6 => simp; omega
            intro v' w4 hown hgrow hnil
            have hk4 : Kept (fun k => w.heap.size + 2 ≤ k) w3 w4 := (Kept.of_alloc (F := fun k => w.heap.size + 2 ≤ k) w3 _).trans (Kept.of_grown hgrow (fun k hk => (hHO.out.lt k hk).1))
            have hzs4 := zz_high (F := F) hk4 hs3
            have hS4 := StOk.zs hzs4 _ _ hS3
            have hkR4 := TR.zs hzs4 _ _ hkR
            have hK4 : Kept F w w4 := hK3.then hk4 (fun i hi => .inr (by omega))
            have hP4 := hHP.out _ _ w4 hP3 (fun i hi => hk4.block i (by have := hF i hi; omega) (by have := hF i hi; omega))
            have hs4 : w.heap.size + 3 ≤ w4.heap.size := Nat.le_trans hs3 hk4.size
            go_wp2
            go_roundg (flat (⟨ok, ck, q0 :: qs⟩ :: st)).length
            case measure => simp only [flat, partsL, parts_eq, hHk.out, List.length_append, List.length_cons, List.length_nil]; omega
            case rel =>
              refine ⟨⟨ok, ck, q0 :: qs⟩ :: st, kk + 1, lv, rfl, hid ⟨by rw [hg2]; simp [flat], by omega, fun j hj => ?_⟩, ⟨by simp, by simpa using hck, hkR4, by have := hHq.out; show depL (q0 :: qs) ≤ lv; omega, by have := hHq.out.2; rw [← this]; exact hS4⟩, by have q1 := hHq.out.2; have q2 := hHl.out; simp only [List.length_cons] at q2 ⊢; omega, by simpa [Rw.val] using hown, hK4, hP4, hs4⟩
              rcases Nat.lt_or_ge j kk with h | h
              · exact hH.out.2.2 j h
              · have : j = kk := by omega
                subst this; exact hHb.out
      · obtain ⟨t2, rest', rfl⟩ : ∃ t2 rest', rest = t2 :: rest' := List.exists_cons_of_ne_nil hr1
        clear hr1
        have hfl : Hid (PT.drop kk = Tm.mk tk tneg td tnm tn tl tb :: (partsL (Tm.mk tk tneg td tnm tn tl tb).kids ++ flat (⟨some ⟨a.block, a.off + 7, none⟩, rc - 1, t2 :: rest'⟩ :: st))) := hid (by rw [hH.out.1]; simp [flat, partsL, parts_eq])
        have hdk := hid (fun h : (Tm.mk tk tneg td tnm tn tl tb).kids ≠ [] => dep_kids _ h)
        have hl1 : (Rw.mk (some ⟨a.block, a.off + 7, none⟩) (rc - 1) (t2 :: rest') :: st).length + e ≤ D + 1 := by simpa using hle
        have hdt : dep (Tm.mk tk tneg td tnm tn tl tb) ≤ e := by simp only [depL] at hdr; omega
        have hdr2 : Hid (depL (t2 :: rest') ≤ e) := hid (by simp only [depL] at hdr ⊢; omega)
        have hHO := hid (hOw'.alloc (.cells #[.slice (some ⟨a.block, a.off + 7, none⟩) (rest'.length + 1) (rc - 1)] 22))
        have hle' : st.length + 1 ≤ 1000001 := by simp only [List.length_cons] at hl1; omega
        have hHl0 := hid hl1
        clear hdr hl1 hle
        simp only [List.length_cons] at *
        go_wp2_with (at_builtin; refine wpList_append_own _ rfl _ _ 78 rfl (w.heap.size + 2) 22 i0 (.slice none 0 0) 1 24 Tryd.underlying78 hi hz0 hz1 hz2 rfl (by decide) _ _ _ rfl hHO.out ⟨wr.heap.size, 0, none⟩ 1 1 [.slice (some ⟨a.block, a.off + 7, none⟩) (rest'.length + 1) (rc - 1)] rfl ?c1 ?c2 ?c3 ?c4 ?c5 ?c6 ?_)
        case c1 => rfl
        case c2 =>
          intro j u hj
          cases j with
          | zero =>
            simp only [List.getElem?_cons_zero, Option.some.injEq] at hj
            subst hj
            rw [add_zero, World.cell?_alloc_mark]; rfl
          | succ j => simp at hj
        case c3 => intro u hu; simp at hu; subst hu; rfl
        case c4 => unfold maxLen; omega
        case c5 => omega
        case c6 => simp; omega
        intro v5 w1 hown hgrow hnil
        have hk1 : Kept (fun k => w.heap.size + 2 ≤ k) wr w1 := (Kept.of_alloc (F := fun k => w.heap.size + 2 ≤ k) wr _).trans (Kept.of_grown hgrow (fun k hk => (hHO.out.lt k hk).1))
        have hzs1 := zz_high (F := F) hk1 hsz
        have hS1 : StOk (ZZ F w.heap.size) w1 e (⟨some ⟨a.block, a.off + 7, none⟩, rc - 1, t2 :: rest'⟩ :: st) := ⟨by simp, by simp only [List.length_cons]; omega, TR.zs hzs1 _ _ hTRr, hdr2.out, StOk.zs hzs1 _ _ hSt'⟩
        have hA1 := hAt.zs hZa hzs1
        have hT1 := TV.zs hzs1 _ _ hTV'
        have hK1 : Kept F w w1 := hK.then hk1 (fun i hi => .inr (by omega))
        have hP1 := hHP.out _ _ w1 hPk (fun i hi => hk1.block i (by have := hF i hi; omega) (by have := hF i hi; omega))
        have hs1 : w.heap.size + 3 ≤ w1.heap.size := Nat.le_trans hsz hk1.size
        have hl1 := hHl0.out
        have hO1 : w1.ownsRow (w.heap.size + 2) 22 1 v5 (Rw.mk (some ⟨a.block, a.off + 7, none⟩) (rc - 1) (t2 :: rest') :: st).length ((Rw.mk (some ⟨a.block, a.off + 7, none⟩) (rc - 1) (t2 :: rest') :: st).map Rw.val).reverse := by simpa [Rw.val] using hown
        obtain ⟨o6, c6, rfl, _⟩ := own_shape hO1
        clear x0 x1 x2 x3 x4 x5 x6 hown hgrow hnil hk1 hzs1 hHO hAt hTV' hSt' hOw' hK hPk hsz hcell hTRr hle'
        obtain ⟨x0, x1, x2, x3, x4, x5, x6⟩ := hA1.tm
        go_wp2_with fail
        have hZ1 := tv_zz hT1 hF
        obtain ⟨hg1, hg2, hg3⟩ := drop_step hfl.out
        refine (hHS.out kk _ _ _ hg1 hH.out.2.2 hZ1 hK1 hP1).mono ?_
        clear hZ1
        rintro e2 w2 ⟨rfl, hP2, hk2⟩
        have hzs2 := zz_kept hk2 hs1 hF
        have hA2 := hA1.zs hZa hzs2
        have hT2 := TV.zs hzs2 _ _ hT1
        have hS2 := StOk.zs hzs2 _ _ hS1
        have hO2 := own_kept hO1 hk2 (fun k hk => by have := hF k hk; omega)
        have hK2 := hK1.trans hk2
        have hs2 : w.heap.size + 3 ≤ w2.heap.size := Nat.le_trans hs1 hk2.size
        clear hzs2 hA1 hT1 hS1 hO1 hK1 hP1 hk2 hs1 x0 x1 x2 x3 x4 x5 x6
        obtain ⟨x0, x1, x2, x3, x4, x5, x6⟩ := hA2.tm
        obtain ⟨bb, hbb⟩ : ∃ bb, ans kk = bb := ⟨_, rfl⟩
        rw [hbb]
        have hHb := hid hbb
        clear hbb
        cases bb with
        | false =>
          go_wp2
          go_ret
          exact ⟨hK2, .inr ⟨kk, by omega, hH.out.2.2, hHb.out, rfl, hP2⟩⟩
        | true =>
          go_wp2_with fail
          refine (pruned_w tk tneg tod td.length tcd tnm tn tol tl.length tcl tob tb.length tcb _).mono ?_
          rintro e3 w3 ⟨rfl, b3⟩
          have hk3 : Kept (fun k => w.heap.size + 2 ≤ k) w2 w3 := Kept.of_below b3
          have hzs3 := zz_high (F := F) hk3 hs2
          have hT3 := TV.zs hzs3 _ _ hT2
          have hS3 := StOk.zs hzs3 _ _ hS2
          have hO3 : w3.ownsRow (w.heap.size + 2) 22 1 _ _ _ := own_kept (F := fun _ => False) hO2 (Kept.of_below b3) (fun k hk => hk.elim)
          have hK3 : Kept F w w3 := hK2.trans (Kept.of_below b3)
          have hP3 := hHP.out _ _ w3 hP2 (fun i hi => b3.block i (by have := hF i hi; omega))
          have hs3 : w.heap.size + 3 ≤ w3.heap.size := Nat.le_trans hs2 b3.size
          clear hzs3 hA2 hT2 hS2 hO2 hK2 hP2 hk3 hs2 b3 x0 x1 x2 x3 x4 x5 x6
          unfold TV at hT3
          obtain ⟨_, _, _, _, _, _, e4, _, _, _, _, _, htl3, htR3⟩ := hT3
          simp only [Value.agg.injEq, Array.mk.injEq, List.cons.injEq, Value.slice.injEq, and_true, true_and] at e4
          obtain ⟨⟨rfl, rfl⟩, ⟨rfl, rfl⟩, rfl, rfl⟩ := e4
          obtain ⟨p0, p1, p2, q2, r2, p3, p4, ok, ck, p6, q6, r6, hpr, hck, hkR⟩ := prV_row (k := tk) (neg := tneg) (d := td) (nm := tnm) (n := tn) (b := tb) (od := tod) (ob := tob) (cd := tcd) (cb := tcb) htl3 htR3
          unfold tmV at hpr
          rw [hpr]
          clear hpr htl3 htR3
          generalize hkk : (Tm.mk tk tneg td tnm tn tl tb).kids = kids at *
          cases kids with
          | nil =>
            go_wp2
            go_roundg (flat (Rw.mk (some ⟨a.block, a.off + 7, none⟩) (rc - 1) (t2 :: rest') :: st)).length
            case measure => simp only [flat, partsL, parts_eq, hkk, List.length_append, List.length_cons, List.length_nil]; omega
            case rel =>
              refine ⟨(Rw.mk (some ⟨a.block, a.off + 7, none⟩) (rc - 1) (t2 :: rest') :: st), kk + 1, e, rfl, hid ⟨by rw [hg2]; simp [partsL], by omega, fun j hj => ?_⟩, hS3, hl1, hO3, hK3, hP3, hs3⟩
              rcases Nat.lt_or_ge j kk with h | h
              · exact hH.out.2.2 j h
              · have : j = kk := by omega
                subst this; exact hHb.out
          | cons q0 qs =>
            have hdq : depL (q0 :: qs) + 1 ≤ e := Nat.le_trans (Nat.le_of_eq (hdk.out (by simp))) hdt
            obtain ⟨lv, hlv⟩ : ∃ lv, e = lv + 1 := ⟨e - 1, by omega⟩
            have hHq := hid (And.intro hdq hlv)
            clear hdq hlv
            have hO4 := hO3.alloc (.cells #[.slice ok (q0 :: qs).length ck] 22)
            have hHO := hid hO4
            have hHl := hid hl1
            have hHk := hid hkk
            clear hO3 hO4 hl1 hkk
            simp only [List.length_cons] at *
            go_wp2_with (at_builtin; refine wpList_append_own _ rfl _ _ 78 rfl (w.heap.size + 2) 22 i0 (.slice none 0 0) 1 24 Tryd.underlying78 hi hz0 hz1 hz2 rfl (by decide) _ _ _ rfl hHO.out ⟨w3.heap.size, 0, none⟩ 1 1 [.slice ok (qs.length + 1) ck] rfl ?c1 ?c2 ?c3 ?c4 ?c5 ?c6 ?_)
            case c1 => rfl
            case c2 =>
              intro j u hj
              cases j with
              | zero =>
                simp only [List.getElem?_cons_zero, Option.some.injEq] at hj
                subst hj
                rw [add_zero, World.cell?_alloc_mark]; rfl
              | succ j => simp at hj
            case c3 => intro u hu; simp at hu; subst hu; rfl
            case c4 => have := hHl.out; (try simp only [List.length_cons] at this); unfold maxLen; omega
            case c5 => have := hHl.out; (try simp only [List.length_cons] at this); omega
            case c6 => simp; omega
            intro v' w4 hown hgrow hnil
            have hk4 : Kept (fun k => w.heap.size + 2 ≤ k) w3 w4 := (Kept.of_alloc (F := fun k => w.heap.size + 2 ≤ k) w3 _).trans (Kept.of_grown hgrow (fun k hk => (hHO.out.lt k hk).1))
            have hzs4 := zz_high (F := F) hk4 hs3
            have hS4 := StOk.zs hzs4 _ _ hS3
            have hkR4 := TR.zs hzs4 _ _ hkR
            have hK4 : Kept F w w4 := hK3.then hk4 (fun i hi => .inr (by omega))
            have hP4 := hHP.out _ _ w4 hP3 (fun i hi => hk4.block i (by have := hF i hi; omega) (by have := hF i hi; omega))
            have hs4 : w.heap.size + 3 ≤ w4.heap.size := Nat.le_trans hs3 hk4.size
            go_wp2
            go_roundg (flat (⟨ok, ck, q0 :: qs⟩ :: (Rw.mk (some ⟨a.block, a.off + 7, none⟩) (rc - 1) (t2 :: rest') :: st))).length
            case measure => simp only [flat, partsL, parts_eq, hHk.out, List.length_append, List.length_cons, List.length_nil]; omega
            case rel =>
              refine ⟨⟨ok, ck, q0 :: qs⟩ :: (Rw.mk (some ⟨a.block, a.off + 7, none⟩) (rc - 1) (t2 :: rest') :: st), kk + 1, lv, rfl, hid ⟨by rw [hg2]; simp [flat], by omega, fun j hj => ?_⟩, ⟨by simp, by simpa using hck, hkR4, by have := hHq.out; show depL (q0 :: qs) ≤ lv; omega, by have := hHq.out.2; rw [← this]; exact hS4⟩, by have q1 := hHq.out.2; have q2 := hHl.out; simp only [List.length_cons] at q2 ⊢; omega, by simpa [Rw.val] using hown, hK4, hP4, hs4⟩
              rcases Nat.lt_or_ge j kk with h | h
              · exact hH.out.2.2 j h
              · have : j = kk := by omega
                subst this; exact hHb.out
end Go.Proofs.YtpdoepjnkgffpaaDoor
