/- Sort of the reference. -/
import Derived.Test.YtpdoepjnkgffpaaDoorSortB
import Derived.Test.YtpdoepjnkgffpaaDoorCpyW
namespace Go.Proofs.YtpdoepjnkgffpaaDoor
open Go.ChangeShapes Go.WideShapes Go.ChangeAt Go.ChangeMaps Go.RowKit Go.Shelf
set_option linter.unusedSimpArgs false
set_option linter.unusedVariables false
set_option maxRecDepth 2000
/-- a row of terms, nil as long as it is empty -/
def VRow (H : Nat) (v : Value) (L : List Tm) (w : World) : Prop := ∃ xs, w.ownsRow H 31 7 v L.length xs ∧ RC (fun k => k < w.heap.size ∧ v.ownBlock ≠ some k) w L xs
theorem VRow.form {H : Nat} {v : Value} {L : List Tm} {w : World} (h : VRow H v L w) : ∃ o c, v = .slice o L.length c := by
  obtain ⟨xs, h1, _⟩ := h
  obtain ⟨_, ⟨rfl, hn⟩ | ⟨g, cap, cur, rfl, _⟩⟩ := h1
  · exact ⟨none, 0, by rw [hn]⟩
  · exact ⟨_, _, rfl⟩
theorem VRow.below {H : Nat} {v : Value} {L : List Tm} {w w' : World} (h : VRow H v L w) (hb : Below w.heap.size w w') : VRow H v L w' := by
  obtain ⟨xs, h1, h2⟩ := h
  refine ⟨xs, own_blkS h1 (fun k hk => hb.block k ?_), (h2.zs (fun k hk => hb.block k hk.1)).monoS (fun k hk hz => ⟨hk, hz.2⟩)⟩
  obtain ⟨_, ⟨rfl, _⟩ | ⟨g, cap, cur, rfl, _, hg, _⟩⟩ := h1
  · simp [Value.ownBlock] at hk
  · simp only [Value.ownBlock, Option.some.injEq] at hk
    subst hk
    exact (Array.getElem?_eq_some_iff.1 hg).1
theorem SRow.v {H g c B : Nat} {L : List Tm} {w : World} (h : SRow H g c B L w) : VRow H (.slice (some ⟨g, 0, none⟩) L.length c) L w := by
  obtain ⟨xs, h1, h2⟩ := h
  refine ⟨xs, h1, h2.monoS (fun k hk hz => ⟨hk, fun e => hz.2 ?_⟩)⟩
  simp only [Value.ownBlock, Option.some.injEq] at e
  exact e.symm
theorem VRow.tr {H : Nat} {o : Option Addr} {c : Nat} {L : List Tm} {w : World} (h : VRow H (.slice o L.length c) L w) : TR (Low w) w L o := by
  obtain ⟨xs, h1, h2⟩ := h
  cases L with
  | nil => unfold TR; trivial
  | cons t L =>
    obtain ⟨_, ⟨_, hn⟩ | ⟨g, cap, cur, e, hH, hg, hrest⟩⟩ := id h1
    · simp at hn
    · simp only [Value.slice.injEq] at e
      obtain ⟨rfl, _, rfl⟩ := e
      have h3 : RC (Zr g w.heap.size) w (t :: L) xs := h2.monoS (fun k hk hz => ⟨hk, fun e => hz.2 (by rw [e]; rfl)⟩)
      exact SRow.tr ⟨xs, h1, h3⟩
theorem RC.one' {Z : Nat → Prop} {w : World} {t : Tm} {xk : Int} {xneg : Bool} {xod : Option Addr} {xld xcd : Nat} {xnm : ByteArray} {xn : Int} {xol : Option Addr} {xll xcl : Nat} {xob : Option Addr} {xlb xcb : Nat} (h : TV Z w t (tmV xk xneg (.slice xod xld xcd) xnm xn (.slice xol xll xcl) (.slice xob xlb xcb))) : RC Z w [t] [.int .i64 xk, .bool xneg, .slice xod xld xcd, .string xnm, .int .i64 xn, .slice xol xll xcl, .slice xob xlb xcb] := by
  unfold RC
  exact ⟨_, _, _, _, _, _, _, _, _, _, _, _, _, [], h, rfl, by unfold RC; rfl⟩
/-- a row of copies grows by one -/
theorem grow_row {H g2 cap2 : Nat} {v : Value} {xs : List Value} {l : List Tm} {t : Tm} {wr w w2 : World} {xk : Int} {xneg : Bool} {xod : Option Addr} {xld xcd : Nat} {xnm : ByteArray} {xn : Int} {xol : Option Addr} {xll xcl : Nat} {xob : Option Addr} {xlb xcb : Nat}
    (hO : wr.ownsRow H 31 7 v l.length xs) (hRC : RC (fun k => k < wr.heap.size ∧ v.ownBlock ≠ some k) wr l xs) (hb : Below wr.heap.size wr w) (hT : TV (fun k => wr.heap.size ≤ k ∧ k < w.heap.size) w t (tmV xk xneg (.slice xod xld xcd) xnm xn (.slice xol xll xcl) (.slice xob xlb xcb)))
    (hg : w.grownBy w2 v.ownBlock) (hg2 : v.ownBlock = some g2 ∨ g2 = w.heap.size) (hown : w2.ownsRow H 31 7 (.slice (some ⟨g2, 0, none⟩) (l.length + 1) cap2) (l.length + 1) (xs ++ [.int .i64 xk, .bool xneg, .slice xod xld xcd, .string xnm, .int .i64 xn, .slice xol xll xcl, .slice xob xlb xcb])) :
    SRow H g2 cap2 w2.heap.size (l ++ [t]) w2 := by
  have hbl : ∀ k, v.ownBlock = some k → k < wr.heap.size := fun k hk => by
    obtain ⟨_, ⟨rfl, _⟩ | ⟨g, cap, cur, rfl, _, hgg, _⟩⟩ := hO
    · simp [Value.ownBlock] at hk
    · simp only [Value.ownBlock, Option.some.injEq] at hk
      subst hk
      exact (Array.getElem?_eq_some_iff.1 hgg).1
  have hs := hb.size
  have hz1 : Zs (fun k => k < wr.heap.size ∧ v.ownBlock ≠ some k) wr w2 := fun k hk => (hg.block k (by have := hk.1; omega) (fun e => hk.2 e.symm)).trans (hb.block k hk.1)
  have hz2 : Zs (fun k => wr.heap.size ≤ k ∧ k < w.heap.size) w w2 := fun k hk => hg.block k hk.2 (fun e => by have := hbl k e.symm; have := hk.1; omega)
  refine ⟨_, by simpa using hown, RC.join ((hRC.zs hz1).monoS (fun k hk hz => ⟨hk, fun e => ?_⟩)) (RC.one' (TV.mono (fun k hk hz => ⟨hk, fun e => ?_⟩) _ _ (TV.zs hz2 _ _ hT)))⟩
  · subst e
    rcases hg2 with h | h
    · exact hz.2 h
    · have := hz.1; omega
  · subst e
    rcases hg2 with h | h
    · have := hbl k h; have := hz.1; omega
    · have := hz.2; omega
set_option maxHeartbeats 8000000 in
set_option maxRecDepth 8000 in
theorem rSort_w (l : List Tm) (o : Option Addr) (c : Nat) (w : World) (hl : l.length ≤ 20) (hR : TR (Low w) w l o) (hf : ∀ t ∈ l, wfT t ∧ dep t ≤ 1000000 ∧ (parts t).length ≤ 500000 ∧ ∀ p ∈ parts t, p.ok1 ∧ fairB p = true) (hT : Tabs w) :
    Calls Tryd.prog 13 #[.slice o l.length c] w fun e w' => ∃ o' c', e = .returned (.slice o' l.length c') ∧ TR (Low w') w' (isort l) o' ∧ Below w.heap.size w w' := by
  have HT := hid (fun w' (hk : Below w.heap.size w w') => hT.below hk)
  have Hf := hid hf
  have HR := hid hR
  clear hf hR hT
  obtain ⟨iT, hT1, hT2, hT3, hT4⟩ := info_parts infoT
  go_enter Tryd.func13, Tryd.ntmps13
  go_wp2_with fail
  go_loopg [3, 4] l.length (fun t v3 v4 wr => ∃ i : Nat, t + i = l.length ∧ v4 = .int .i64 (i : Int) ∧ VRow w.heap.size v3 (isort (l.take i)) wr ∧ Below w.heap.size w wr)
  case atStart => exact ⟨0, by omega, rfl, ⟨[], World.ownsRow_nil _ _ _ _, by unfold RC; rfl⟩, Below.refl _ _⟩
  case round =>
    obtain ⟨i, hti, rfl, hV, hbr⟩ := hrel
    obtain ⟨oL, cL, hvL⟩ := hV.form
    have hli : (isort (l.take i)).length = i := by rw [isort_len, List.length_take]; omega
    rw [hli] at hvL
    subst hvL
    by_cases hil : i < l.length
    case neg =>
      have hii : ¬ (i : Int) < (l.length : Int) := by omega
      have hfin : TR (Low wr) wr (isort l) oL := by
        rw [List.take_of_length_le (by omega)] at hV hli
        exact VRow.tr (by rw [hli]; exact hV)
      have hin : i = l.length := by omega
      subst hin
      clear hV
      go_wp2
      go_ret
      exact ⟨_, ⟨_, rfl⟩, hfin, hbr⟩
    have hii : (i : Int) < (l.length : Int) := by omega
    obtain ⟨x, hx⟩ : ∃ x, l[i]? = some x := ⟨l[i], by simp [hil]⟩
    obtain ⟨pa, pk, pneg, pod, pld, pcd, pnm, pn, pol, pll, pcl, pob, plb, pcb, rfl, hTp, y0, y1, y2, y3, y4, y5, y6⟩ := HR.out.get hx hbr
    have Hfx := hid (Hf.out x (List.mem_of_getElem? hx))
    have hwl : Hid (∀ y ∈ isort (l.take i), wfT y ∧ (∀ p ∈ parts y, p.ok1)) := hid (fun y hy => by
      rw [isort_mem] at hy
      exact ⟨(Hf.out y (List.mem_of_mem_take hy)).1, fun p hp => ((Hf.out y (List.mem_of_mem_take hy)).2.2.2 p hp).1⟩)
    obtain ⟨F, hF⟩ : ∃ F, isort (l.take (i + 1)) = F := ⟨_, rfl⟩
    have hst : Hid ((insR x (isort (l.take i)).reverse).reverse ++ [] = F) := hid (by
      rw [← hF, ← isort_snoc, List.append_nil]
      congr 1
      rw [List.take_add_one, hx]; rfl)
    have HF := hid hF
    clear hF hx
    generalize isort (l.take i) = P0 at *
    go_wp2_with fail
    clear y0 y1 y2 y3 y4 y5 y6
    refine (rCopy_w (tsz x) x _ _ (Nat.le_refl _) Hfx.out.2.2.2 hTp).mono ?_
    rintro e w3 ⟨v3, rfl, hV3, b3⟩
    obtain ⟨xk, xneg, xod, xld, xcd, xnm, xn, xol, xll, xcl, xob, xlb, xcb, rfl⟩ := hV3.form
    have b4 : Below w3.heap.size w3 (w3.alloc (.cells #[.int .i64 xk, .bool xneg, .slice xod xld xcd, .string xnm, .int .i64 xn, .slice xol xll xcl, .slice xob xlb xcb] 31)) := (Below.refl _ _).alloc (Nat.le_refl _) _
    have b34 := below_and b3 (Nat.le_refl _) b4
    have hV4 : TV (fun k => wr.heap.size ≤ k ∧ k < (w3.alloc (.cells #[.int .i64 xk, .bool xneg, .slice xod xld xcd, .string xnm, .int .i64 xn, .slice xol xll xcl, .slice xob xlb xcb] 31)).heap.size) (w3.alloc (.cells #[.int .i64 xk, .bool xneg, .slice xod xld xcd, .string xnm, .int .i64 xn, .slice xol xll xcl, .slice xob xlb xcb] 31)) x (tmV xk xneg (.slice xod xld xcd) xnm xn (.slice xol xll xcl) (.slice xob xlb xcb)) :=
      TV.mono (fun k hk hz => ⟨hz.1, hk⟩) _ _ (TV.zs (Z := Zb wr.heap.size w3) (fun k hk => b4.block k hk.2) _ _ hV3)
    have hVb := hV.below b34
    obtain ⟨xs, hO, hRC⟩ := hV
    obtain ⟨xs2, hOb, hRCb⟩ := id hVb
    have hHs : w.heap.size ≤ wr.heap.size := hbr.size
    have hO4 : (w3.alloc (.cells #[.int .i64 xk, .bool xneg, .slice xod xld xcd, .string xnm, .int .i64 xn, .slice xol xll xcl, .slice xob xlb xcb] 31)).ownsRow w.heap.size 31 7 (.slice oL i cL) i xs := by
      rw [hli] at hO
      refine own_blkS hO (fun k hk => b34.block k ?_)
      obtain ⟨_, ⟨e, _⟩ | ⟨g, cap, cur, e, _, hgg, _⟩⟩ := hO
      · rw [e] at hk; simp [Value.ownBlock] at hk
      · rw [e] at hk
        simp only [Value.ownBlock, Option.some.injEq] at hk
        subst hk
        exact (Array.getElem?_eq_some_iff.1 hgg).1
    have hcr := heap_alloc_new w3 (.cells #[.int .i64 xk, .bool xneg, .slice xod xld xcd, .string xnm, .int .i64 xn, .slice xol xll xcl, .slice xob xlb xcb] 31)
    have HO := hid (And.intro hO hRC)
    clear hVb hOb hRCb hO hRC hV3 b4 b3 hTp
    go_wp2_with (at_builtin; refine wpList_append_lies _ rfl _ _ 22 rfl w.heap.size 31 iT _ 7 112 Tryd.underlying22 hT1 hT2 hT3 hT4 rfl (by decide) _ _ _ rfl hO4 ⟨w3.heap.size, 0, none⟩ 1 1 [.int .i64 xk, .bool xneg, .slice xod xld xcd, .string xnm, .int .i64 xn, .slice xol xll xcl, .slice xob xlb xcb] rfl ?c1 ?c2 ?c3 ?c4 ?c5 ?c6 ?c7 _ rfl ?_)
    case c1 => rfl
    case c2 => exact World.news_of_block hcr
    case c3 =>
      intro u hu
      simp only [List.mem_cons, List.not_mem_nil, or_false] at hu
      rcases hu with rfl | rfl | rfl | rfl | rfl | rfl | rfl <;> rfl
    case c4 => decide
    case c5 => unfold maxLen; omega
    case c6 => omega
    case c7 => have := b34.size; omega
    intro g c2 w5 hown hgrow hg2 hlt
    have hz4 : (w3.alloc (.cells #[.int .i64 xk, .bool xneg, .slice xod xld xcd, .string xnm, .int .i64 xn, .slice xol xll xcl, .slice xob xlb xcb] 31)).heap.size = w3.heap.size + 1 := by simp
    rw [← hz4] at hg2
    clear hz4
    generalize (w3.alloc (.cells #[.int .i64 xk, .bool xneg, .slice xod xld xcd, .string xnm, .int .i64 xn, .slice xol xll xcl, .slice xob xlb xcb] 31)) = w4 at *
    have hS5 : SRow w.heap.size g c2 w5.heap.size (P0 ++ [x]) w5 := grow_row HO.out.1 HO.out.2 b34 hV4 hgrow hg2 (by rw [hli]; exact hown)
    have hB5 : Below w.heap.size w w5 := by
      have h1 := below_and hbr (Nat.le_refl _) b34
      refine h1.trans ⟨hgrow.os, hgrow.tape, hgrow.output, hgrow.size, fun k hk => hgrow.block k (by have := h1.size; omega) (fun e => ?_)⟩
      obtain ⟨_, ⟨e2, _⟩ | ⟨g', cap, cur, e2, hHg, _⟩⟩ := hO4
      · rw [e2] at e; simp [Value.ownBlock] at e
      · rw [e2] at e
        simp only [Value.ownBlock, Option.some.injEq] at e
        omega
    clear hO4 hcr HO hgrow hg2 hown hV4 b34 hbr
    have hB0 : w.heap.size ≤ w5.heap.size := hB5.size
    have HgB := hid (And.intro hlt (show w.heap.size ≤ g by
      obtain ⟨xs9, h9, _⟩ := hS5
      exact (own_blk h9).choose_spec.2.1))
    have HLi := hid hli
    clear hli
    go_wp2_with fail
    go_loopg [5] i (fun t v5 wr => ∃ (P Q : List Tm), t = P.length ∧ v5 = .int .i64 (P.length : Int) ∧ P.length ≤ 1000 ∧ SRow w.heap.size g c2 w5.heap.size (P ++ x :: Q) wr ∧ Below w.heap.size w wr ∧ w5.heap.size ≤ wr.heap.size ∧ (P ++ x :: Q).length = i + 1 ∧ Hid ((insR x P.reverse).reverse ++ Q = F) ∧ Hid (∀ y ∈ P, wfT y ∧ (∀ p ∈ parts y, p.ok1)))
    case atStart => exact ⟨P0, [], HLi.out.symm, by rw [HLi.out], by have := HLi.out; omega, hS5, hB5, Nat.le_refl _, by simp [HLi.out], hst, hwl⟩
    case round =>
      clear hS5 hB5 hst hwl hlt
      obtain ⟨P, Q, rfl, rfl, hPl, hrow, hbq, hBq, hLl, hH, hwP⟩ := hrel
      have hBel : Below w5.heap.size wr wr.drew := (Below.refl _ wr).drew
      have hgB : g < w5.heap.size := HgB.out.1
      rcases List.eq_nil_or_concat P with rfl | ⟨P, y, rfl⟩
      · have hFl : F = [] ++ x :: Q := by
          have h1 := hH.out
          rw [insR_empty] at h1
          exact h1.symm
        have hfin : VRow w.heap.size (.slice (some ⟨g, 0, none⟩) (i + 1) c2) (isort (l.take (i + 1))) wr.drew := by
          rw [HF.out, hFl]
          have h2 := (hrow.kept (Kept.of_below ((Below.refl _ wr).drew)) hBq hgB).v
          rw [hLl] at h2
          exact h2
        have hb1 : Below w.heap.size w wr.drew := hbq.drew
        clear hrow hH hwP hFl hbq
        simp only [List.length_nil] at *
        go_wp2_with fail
        refine wp_region_held_drew (S := fun _ => True) (by kernel_rfl) trivial (fun hHeld => ?_)
        generalize wr.drew = V at *
        refine wpAnyH_take (i := 0) (oi := _) (v := ?_) rfl (by kernel_rfl) (by kernel_rfl) (by kernel_rfl) (fun _ _ _ h => h) (Or.inl ⟨by rfl, ?_⟩) (by assumption) ?_
        rotate_left 1
        · (intro w hSw; (try dsimp only at hSw); go_simp; try with_reducible rfl)
        try simp (maxSteps := 10000000) only [List.getElem_toArray, List.getElem_cons_succ, List.getElem_cons_zero, Act.put, List.setIfInBounds_toArray, List.set_cons_zero, List.set_cons_succ]
        refine wpAnyH_take (i := 1) (oi := _) (v := ?_) rfl (by kernel_rfl) (by kernel_rfl) (by kernel_rfl) (fun _ _ _ h => h) (Or.inl ⟨by rfl, ?_⟩) (by assumption) ?_
        rotate_left 1
        · (intro w hSw; (try dsimp only at hSw); go_simp; try with_reducible rfl)
        try simp (maxSteps := 10000000) only [List.getElem_toArray, List.getElem_cons_succ, List.getElem_cons_zero, Act.put, List.setIfInBounds_toArray, List.set_cons_zero, List.set_cons_succ]
        refine wpAnyH_take (i := 2) (oi := _) (v := ?_) rfl (by kernel_rfl) (by kernel_rfl) (by kernel_rfl) (fun _ _ _ h => h) (Or.inl ⟨by rfl, ?_⟩) (by assumption) ?_
        rotate_left 1
        · (intro w hSw; (try dsimp only at hSw); go_simp; try with_reducible rfl)
        try simp (maxSteps := 10000000) only [List.getElem_toArray, List.getElem_cons_succ, List.getElem_cons_zero, Act.put, List.setIfInBounds_toArray, List.set_cons_zero, List.set_cons_succ]
        refine wpAnyH_take (i := 3) (oi := _) (v := undef) rfl (by kernel_rfl) (by kernel_rfl) (by kernel_rfl) (fun _ _ _ h => h) (Or.inr ⟨by rfl, rfl⟩) (by assumption) ?_
        try simp (maxSteps := 10000000) only [List.getElem_toArray, List.getElem_cons_succ, List.getElem_cons_zero, Act.put, List.setIfInBounds_toArray, List.set_cons_zero, List.set_cons_succ]
        refine wpAnyH_take (i := 4) (oi := _) (v := undef) rfl (by kernel_rfl) (by kernel_rfl) (by kernel_rfl) (fun _ _ _ h => h) (Or.inr ⟨by rfl, rfl⟩) (by assumption) ?_
        try simp (maxSteps := 10000000) only [List.getElem_toArray, List.getElem_cons_succ, List.getElem_cons_zero, Act.put, List.setIfInBounds_toArray, List.set_cons_zero, List.set_cons_succ]
        refine wpAnyH_take (i := 5) (oi := _) (v := undef) rfl (by kernel_rfl) (by kernel_rfl) (by kernel_rfl) (fun _ _ _ h => h) (Or.inr ⟨by rfl, rfl⟩) (by assumption) ?_
        try simp (maxSteps := 10000000) only [List.getElem_toArray, List.getElem_cons_succ, List.getElem_cons_zero, Act.put, List.setIfInBounds_toArray, List.set_cons_zero, List.set_cons_succ]
        refine wpAnyH_take (i := 6) (oi := _) (v := undef) rfl (by kernel_rfl) (by kernel_rfl) (by kernel_rfl) (fun _ _ _ h => h) (Or.inr ⟨by rfl, rfl⟩) (by assumption) ?_
        try simp (maxSteps := 10000000) only [List.getElem_toArray, List.getElem_cons_succ, List.getElem_cons_zero, Act.put, List.setIfInBounds_toArray, List.set_cons_zero, List.set_cons_succ]
        refine wpAnyH_take (i := 7) (oi := _) (v := undef) rfl (by kernel_rfl) (by kernel_rfl) (by kernel_rfl) (fun _ _ _ h => h) (Or.inr ⟨by rfl, rfl⟩) (by assumption) ?_
        try simp (maxSteps := 10000000) only [List.getElem_toArray, List.getElem_cons_succ, List.getElem_cons_zero, Act.put, List.setIfInBounds_toArray, List.set_cons_zero, List.set_cons_succ]
        refine wpAnyH_take (i := 8) (oi := _) (v := undef) rfl (by kernel_rfl) (by kernel_rfl) (by kernel_rfl) (fun _ _ _ h => h) (Or.inr ⟨by rfl, rfl⟩) (by assumption) ?_
        try simp (maxSteps := 10000000) only [List.getElem_toArray, List.getElem_cons_succ, List.getElem_cons_zero, Act.put, List.setIfInBounds_toArray, List.set_cons_zero, List.set_cons_succ]
        refine wpAnyH_take (i := 9) (oi := _) (v := undef) rfl (by kernel_rfl) (by kernel_rfl) (by kernel_rfl) (fun _ _ _ h => h) (Or.inr ⟨by rfl, rfl⟩) (by assumption) ?_
        try simp (maxSteps := 10000000) only [List.getElem_toArray, List.getElem_cons_succ, List.getElem_cons_zero, Act.put, List.setIfInBounds_toArray, List.set_cons_zero, List.set_cons_succ]
        refine wpAnyH_take (i := 10) (oi := _) (v := undef) rfl (by kernel_rfl) (by kernel_rfl) (by kernel_rfl) (fun _ _ _ h => h) (Or.inr ⟨by rfl, rfl⟩) (by assumption) ?_
        try simp (maxSteps := 10000000) only [List.getElem_toArray, List.getElem_cons_succ, List.getElem_cons_zero, Act.put, List.setIfInBounds_toArray, List.set_cons_zero, List.set_cons_succ]
        refine wpAnyH_take (i := 11) (oi := _) (v := undef) rfl (by kernel_rfl) (by kernel_rfl) (by kernel_rfl) (fun _ _ _ h => h) (Or.inr ⟨by rfl, rfl⟩) (by assumption) ?_
        try simp (maxSteps := 10000000) only [List.getElem_toArray, List.getElem_cons_succ, List.getElem_cons_zero, Act.put, List.setIfInBounds_toArray, List.set_cons_zero, List.set_cons_succ]
        refine wpAnyH_take (i := 12) (oi := _) (v := undef) rfl (by kernel_rfl) (by kernel_rfl) (by kernel_rfl) (fun _ _ _ h => h) (Or.inr ⟨by rfl, rfl⟩) (by assumption) ?_
        try simp (maxSteps := 10000000) only [List.getElem_toArray, List.getElem_cons_succ, List.getElem_cons_zero, Act.put, List.setIfInBounds_toArray, List.set_cons_zero, List.set_cons_succ]
        refine wpAnyH_take (i := 13) (oi := _) (v := undef) rfl (by kernel_rfl) (by kernel_rfl) (by kernel_rfl) (fun _ _ _ h => h) (Or.inr ⟨by rfl, rfl⟩) (by assumption) ?_
        try simp (maxSteps := 10000000) only [List.getElem_toArray, List.getElem_cons_succ, List.getElem_cons_zero, Act.put, List.setIfInBounds_toArray, List.set_cons_zero, List.set_cons_succ]
        refine wpAnyH_take (i := 14) (oi := _) (v := ?_) rfl (by kernel_rfl) (by kernel_rfl) (by kernel_rfl) (fun _ _ _ h => h) (Or.inl ⟨by rfl, ?_⟩) (by assumption) ?_
        rotate_left 1
        · (intro w hSw; (try dsimp only at hSw); go_simp; try with_reducible rfl)
        try simp (maxSteps := 10000000) only [List.getElem_toArray, List.getElem_cons_succ, List.getElem_cons_zero, Act.put, List.setIfInBounds_toArray, List.set_cons_zero, List.set_cons_succ]
        refine wpAnyH_done (by kernel_rfl) ?_ _
        go_wp2
        go_roundg (l.length - (i + 1))
        case measure => omega
        case rel => exact ⟨i + 1, by omega, by go_num, hfin, hb1⟩
      rw [List.concat_eq_append] at *
      have hLe : (P ++ [y]) ++ x :: Q = P ++ y :: x :: Q := by simp
      rw [hLe] at hrow hLl
      have hlP : (P ++ [y]).length = P.length + 1 := by simp
      rw [hlP] at *
      have hwy := hid (hwP.out y (by simp))
      have hwP' : Hid (∀ z ∈ P, wfT z ∧ (∀ p ∈ parts z, p.ok1)) := hid (fun z hz => hwP.out z (by simp [hz]))
      obtain ⟨ps, rs, yk, yneg, yod, yld, ycd, ynm, yn, yol, yll, ycl, yob, ylb, ycb, xk, xneg, xod, xld, xcd, xnm, xn, xol, xll, xcl, xob, xlb, xcb, hps, hcP, hcR, hyV, hxV, hO⟩ := hrow.two
      have hbD : Below w.heap.size w wr.drew := hbq.drew
      have hrow1 : SRow w.heap.size g c2 w5.heap.size (P ++ y :: x :: Q) wr.drew := hrow.kept (Kept.of_below ((Below.refl _ wr).drew)) hBq hgB
      have hBq1 : w5.heap.size ≤ wr.drew.heap.size := hBq
      have hTD := HT.out _ hbD
      have hyV1 := TV.zs (w := wr) (w' := wr.drew) (fun k (_ : Zr g w5.heap.size k) => rfl) _ _ hyV
      have hxV1 := TV.zs (w := wr) (w' := wr.drew) (fun k (_ : Zr g w5.heap.size k) => rfl) _ _ hxV
      have hO1 : wr.drew.ownsRow w.heap.size _ _ _ _ _ := hO
      have hpl : ps.length = P.length * 7 := hps
      have hS : Hid (∀ w', Below wr.drew.heap.size wr.drew w' → (w'.cell? ⟨g, (P.length + 1) * 7, none⟩ = some (.int .i64 xk) ∧ w'.cell? ⟨g, (P.length + 1) * 7 + 1, none⟩ = some (.bool xneg) ∧ w'.cell? ⟨g, (P.length + 1) * 7 + 2, none⟩ = some (.slice xod xld xcd) ∧ w'.cell? ⟨g, (P.length + 1) * 7 + 3, none⟩ = some (.string xnm) ∧ w'.cell? ⟨g, (P.length + 1) * 7 + 4, none⟩ = some (.int .i64 xn) ∧ w'.cell? ⟨g, (P.length + 1) * 7 + 5, none⟩ = some (.slice xol xll xcl) ∧ w'.cell? ⟨g, (P.length + 1) * 7 + 6, none⟩ = some (.slice xob xlb xcb) ∧ w'.cell? ⟨g, P.length * 7, none⟩ = some (.int .i64 yk) ∧ w'.cell? ⟨g, P.length * 7 + 1, none⟩ = some (.bool yneg) ∧ w'.cell? ⟨g, P.length * 7 + 2, none⟩ = some (.slice yod yld ycd) ∧ w'.cell? ⟨g, P.length * 7 + 3, none⟩ = some (.string ynm) ∧ w'.cell? ⟨g, P.length * 7 + 4, none⟩ = some (.int .i64 yn) ∧ w'.cell? ⟨g, P.length * 7 + 5, none⟩ = some (.slice yol yll ycl) ∧ w'.cell? ⟨g, P.length * 7 + 6, none⟩ = some (.slice yob ylb ycb))) := hid (fun w' hb => by
        have hO2 := own_same hO1 (hb.block g (by omega))
        obtain ⟨y0, y1, y2, y3, y4, y5, y6⟩ := own_cells7 hO2 hpl
        have hO3 := hO2
        rw [show ∀ (a0 a1 a2 a3 a4 a5 a6 : Value) (r : List Value), ps ++ (a0 :: a1 :: a2 :: a3 :: a4 :: a5 :: a6 :: r) = (ps ++ [a0, a1, a2, a3, a4, a5, a6]) ++ r from fun _ _ _ _ _ _ _ _ => by simp] at hO3
        obtain ⟨x0, x1, x2, x3, x4, x5, x6⟩ := own_cells7 (i := (P.length + 1) * 7) hO3 (by simp [hpl]; omega)
        exact ⟨x0, x1, x2, x3, x4, x5, x6, y0, y1, y2, y3, y4, y5, y6⟩)
      obtain ⟨X, hX⟩ : ∃ X, cT y x = X := ⟨_, rfl⟩
      have HC := hid (show Calls Tryd.prog 28 #[tmV yk yneg (.slice yod yld ycd) ynm yn (.slice yol yll ycl) (.slice yob ylb ycb), tmV xk xneg (.slice xod xld xcd) xnm xn (.slice xol xll xcl) (.slice xob xlb xcb)] wr.drew fun e w' => e = .returned (.int .i64 X) ∧ Below wr.drew.heap.size wr.drew w' by
        have := rCompare_w (tsz y) y x _ _ wr.drew (Nat.le_refl _) hwy.out.2 (fun p hp => (Hfx.out.2.2.2 p hp).1) (tv_low hyV1) (tv_low hxV1) hTD
        rw [hX] at this
        exact this)
      have HX := hid hX
      have hin1 : ((P.length : Int) + 1 < (i : Int) + 1) := by simp at hLl; omega
      have hin0 : ((P.length : Int) < (i : Int) + 1) := by omega
      have hps0 : (0 : Int) < (P.length : Int) + 1 := by omega
      have hps1 : (0 : Int) ≤ (P.length : Int) + 1 := by omega
      have hpw : IntKind.i64.wrap (P.length : Int) = (P.length : Int) := by rw [IntKind.wrap_i64]; omega
      have HV := hid (And.intro hyV1 (And.intro hxV1 (And.intro (RC.zs (Z := Zr g w5.heap.size) (w := wr) (w' := wr.drew) (fun k hk => rfl) hcP) (And.intro (RC.zs (Z := Zr g w5.heap.size) (w := wr) (w' := wr.drew) (fun k hk => rfl) hcR) hO1))))
      clear hX hrow hbq hTD hyV hxV hO hwP hyV1 hxV1 hO1 hlP hLe hcP hcR hBel hBq
      have hk0 : Below wr.drew.heap.size wr.drew wr.drew := Below.refl _ _
      go_wp2_with fail
      refine wp_region_held_drew (S := fun w' => w'.cell? ⟨g, (P.length + 1) * 7, none⟩ = some (.int .i64 xk) ∧ w'.cell? ⟨g, (P.length + 1) * 7 + 1, none⟩ = some (.bool xneg) ∧ w'.cell? ⟨g, (P.length + 1) * 7 + 2, none⟩ = some (.slice xod xld xcd) ∧ w'.cell? ⟨g, (P.length + 1) * 7 + 3, none⟩ = some (.string xnm) ∧ w'.cell? ⟨g, (P.length + 1) * 7 + 4, none⟩ = some (.int .i64 xn) ∧ w'.cell? ⟨g, (P.length + 1) * 7 + 5, none⟩ = some (.slice xol xll xcl) ∧ w'.cell? ⟨g, (P.length + 1) * 7 + 6, none⟩ = some (.slice xob xlb xcb) ∧ w'.cell? ⟨g, P.length * 7, none⟩ = some (.int .i64 yk) ∧ w'.cell? ⟨g, P.length * 7 + 1, none⟩ = some (.bool yneg) ∧ w'.cell? ⟨g, P.length * 7 + 2, none⟩ = some (.slice yod yld ycd) ∧ w'.cell? ⟨g, P.length * 7 + 3, none⟩ = some (.string ynm) ∧ w'.cell? ⟨g, P.length * 7 + 4, none⟩ = some (.int .i64 yn) ∧ w'.cell? ⟨g, P.length * 7 + 5, none⟩ = some (.slice yol yll ycl) ∧ w'.cell? ⟨g, P.length * 7 + 6, none⟩ = some (.slice yob ylb ycb)) (by kernel_rfl) (by exact hS.out _ hk0) (fun hHeld => ?_)
      generalize wr.drew = V at *
      refine wpAnyH_take (i := 0) (oi := _) (v := ?_) rfl (by kernel_rfl) (by kernel_rfl) (by kernel_rfl) (fun _ _ _ h => h) (Or.inl ⟨by rfl, ?_⟩) (by assumption) ?_
      rotate_left 1
      · (intro w hSw; (try dsimp only at hSw); go_simp; try with_reducible rfl)
      try simp (maxSteps := 10000000) only [List.getElem_toArray, List.getElem_cons_succ, List.getElem_cons_zero, Act.put, List.setIfInBounds_toArray, List.set_cons_zero, List.set_cons_succ]
      refine wpAnyH_take (i := 1) (oi := _) (v := ?_) rfl (by kernel_rfl) (by kernel_rfl) (by kernel_rfl) (fun _ _ _ h => h) (Or.inl ⟨by rfl, ?_⟩) (by assumption) ?_
      rotate_left 1
      · (intro w hSw; (try dsimp only at hSw); go_simp; try with_reducible rfl)
      try simp (maxSteps := 10000000) only [List.getElem_toArray, List.getElem_cons_succ, List.getElem_cons_zero, Act.put, List.setIfInBounds_toArray, List.set_cons_zero, List.set_cons_succ]
      refine wpAnyH_take (i := 2) (oi := _) (v := ?_) rfl (by kernel_rfl) (by kernel_rfl) (by kernel_rfl) (fun _ _ _ h => h) (Or.inl ⟨by rfl, ?_⟩) (by assumption) ?_
      rotate_left 1
      · (intro w hSw; (try dsimp only at hSw); go_simp; try with_reducible rfl)
      try simp (maxSteps := 10000000) only [List.getElem_toArray, List.getElem_cons_succ, List.getElem_cons_zero, Act.put, List.setIfInBounds_toArray, List.set_cons_zero, List.set_cons_succ]
      refine wpAnyH_take (i := 3) (oi := _) (v := ?_) rfl (by kernel_rfl) (by kernel_rfl) (by kernel_rfl) (fun _ _ _ h => h) (Or.inl ⟨by rfl, ?_⟩) (by assumption) ?_
      rotate_left 1
      · (intro w hSw; (try dsimp only at hSw); go_simp; try with_reducible rfl)
      try simp (maxSteps := 10000000) only [List.getElem_toArray, List.getElem_cons_succ, List.getElem_cons_zero, Act.put, List.setIfInBounds_toArray, List.set_cons_zero, List.set_cons_succ]
      refine wpAnyH_take (i := 4) (oi := _) (v := ?_) rfl (by kernel_rfl) (by kernel_rfl) (by kernel_rfl) (fun _ _ _ h => h) (Or.inl ⟨by rfl, ?_⟩) (by assumption) ?_
      rotate_left 1
      · (intro w hSw; (try dsimp only at hSw); go_simp; try with_reducible rfl)
      try simp (maxSteps := 10000000) only [List.getElem_toArray, List.getElem_cons_succ, List.getElem_cons_zero, Act.put, List.setIfInBounds_toArray, List.set_cons_zero, List.set_cons_succ]
      refine wpAnyH_take (i := 5) (oi := _) (v := ?_) rfl (by kernel_rfl) (by kernel_rfl) (by kernel_rfl) (fun _ _ _ h => h) (Or.inl ⟨by rfl, ?_⟩) (by assumption) ?_
      rotate_left 1
      · (intro w hSw; (try dsimp only at hSw); go_simp; try with_reducible rfl)
      try simp (maxSteps := 10000000) only [List.getElem_toArray, List.getElem_cons_succ, List.getElem_cons_zero, Act.put, List.setIfInBounds_toArray, List.set_cons_zero, List.set_cons_succ]
      refine wpAnyH_take (i := 6) (oi := _) (v := ?_) rfl (by kernel_rfl) (by kernel_rfl) (by kernel_rfl) (fun _ _ _ h => h) (Or.inl ⟨by rfl, ?_⟩) (by assumption) ?_
      rotate_left 1
      · (intro w hSw; (try dsimp only at hSw); go_simp; try with_reducible rfl)
      try simp (maxSteps := 10000000) only [List.getElem_toArray, List.getElem_cons_succ, List.getElem_cons_zero, Act.put, List.setIfInBounds_toArray, List.set_cons_zero, List.set_cons_succ]
      refine wpAnyH_take (i := 7) (oi := _) (v := ?_) rfl (by kernel_rfl) (by kernel_rfl) (by kernel_rfl) (fun _ _ _ h => h) (Or.inl ⟨by rfl, ?_⟩) (by assumption) ?_
      rotate_left 1
      · (intro w hSw; (try dsimp only at hSw); go_simp; try with_reducible rfl)
      try simp (maxSteps := 10000000) only [List.getElem_toArray, List.getElem_cons_succ, List.getElem_cons_zero, Act.put, List.setIfInBounds_toArray, List.set_cons_zero, List.set_cons_succ]
      refine wpAnyH_take (i := 8) (oi := _) (v := ?_) rfl (by kernel_rfl) (by kernel_rfl) (by kernel_rfl) (fun _ _ _ h => h) (Or.inl ⟨by rfl, ?_⟩) (by assumption) ?_
      rotate_left 1
      · (intro w hSw; (try dsimp only at hSw); go_simp; try with_reducible rfl)
      try simp (maxSteps := 10000000) only [List.getElem_toArray, List.getElem_cons_succ, List.getElem_cons_zero, Act.put, List.setIfInBounds_toArray, List.set_cons_zero, List.set_cons_succ]
      refine wpAnyH_take (i := 9) (oi := _) (v := ?_) rfl (by kernel_rfl) (by kernel_rfl) (by kernel_rfl) (fun _ _ _ h => h) (Or.inl ⟨by rfl, ?_⟩) (by assumption) ?_
      rotate_left 1
      · (intro w hSw; (try dsimp only at hSw); go_simp; try with_reducible rfl)
      try simp (maxSteps := 10000000) only [List.getElem_toArray, List.getElem_cons_succ, List.getElem_cons_zero, Act.put, List.setIfInBounds_toArray, List.set_cons_zero, List.set_cons_succ]
      refine wpAnyH_take (i := 10) (oi := _) (v := ?_) rfl (by kernel_rfl) (by kernel_rfl) (by kernel_rfl) (fun _ _ _ h => h) (Or.inl ⟨by rfl, ?_⟩) (by assumption) ?_
      rotate_left 1
      · (intro w hSw; (try dsimp only at hSw); go_simp; try with_reducible rfl)
      try simp (maxSteps := 10000000) only [List.getElem_toArray, List.getElem_cons_succ, List.getElem_cons_zero, Act.put, List.setIfInBounds_toArray, List.set_cons_zero, List.set_cons_succ]
      refine wpAnyH_take (i := 11) (oi := _) (v := ?_) rfl (by kernel_rfl) (by kernel_rfl) (by kernel_rfl) (fun _ _ _ h => h) (Or.inl ⟨by rfl, ?_⟩) (by assumption) ?_
      rotate_left 1
      · (intro w hSw; (try dsimp only at hSw); go_simp; try with_reducible rfl)
      try simp (maxSteps := 10000000) only [List.getElem_toArray, List.getElem_cons_succ, List.getElem_cons_zero, Act.put, List.setIfInBounds_toArray, List.set_cons_zero, List.set_cons_succ]
      refine wpAnyH_ready (rs := [12]) (by kernel_rfl) (by simp) ?_
      refine AllReadyH.cons rfl (fun K hK => ?_) AllReadyH.nil
      go_simp
      refine HC.out.mono ?_
      rintro e w2 ⟨rfl, kV2⟩
      try go_simp
      refine hK.out _ _ ?_ (fun hHeld => ?_)
      · exact hS.out _ (by assumption)
      clear hK K
      try simp (maxSteps := 10000000) only [List.getElem_toArray, List.getElem_cons_succ, List.getElem_cons_zero, Act.put, List.setIfInBounds_toArray, List.set_cons_zero, List.set_cons_succ]
      refine wpAnyH_take (i := 13) (oi := _) (v := ?_) rfl (by kernel_rfl) (by kernel_rfl) (by kernel_rfl) (fun _ _ _ h => h) (Or.inl ⟨by rfl, ?_⟩) (by assumption) ?_
      rotate_left 1
      · (intro w hSw; (try dsimp only at hSw); go_simp; try with_reducible rfl)
      try simp (maxSteps := 10000000) only [List.getElem_toArray, List.getElem_cons_succ, List.getElem_cons_zero, Act.put, List.setIfInBounds_toArray, List.set_cons_zero, List.set_cons_succ]
      refine wpAnyH_take (i := 14) (oi := _) (v := ?_) rfl (by kernel_rfl) (by kernel_rfl) (by kernel_rfl) (fun _ _ _ h => h) (Or.inl ⟨by rfl, ?_⟩) (by assumption) ?_
      rotate_left 1
      · (intro w hSw; (try dsimp only at hSw); go_simp; try with_reducible rfl)
      try simp (maxSteps := 10000000) only [List.getElem_toArray, List.getElem_cons_succ, List.getElem_cons_zero, Act.put, List.setIfInBounds_toArray, List.set_cons_zero, List.set_cons_succ]
      refine wpAnyH_done (by kernel_rfl) ?_ _
      clear HC hHeld
      have hrow2 := hrow1.kept (Kept.of_below kV2) hBq1 hgB
      have hk2 := below_and hbD (Nat.le_refl _) kV2
      have hBq2 := Nat.le_trans hBq1 kV2.size
      by_cases hX0 : 0 < X
      · have hpos : 0 < cT y x := by rw [HX.out]; exact hX0
        have hH2 : Hid ((insR x P.reverse).reverse ++ (y :: Q) = F) := hid (by
          have h1 := hH.out
          rw [insR_step hpos] at h1
          rw [← h1]; simp)
        clear hpos hrow2
        have hO2 := own_same HV.out.2.2.2.2 (kV2.block g (by omega))
        have hfr := own_fr hO2
        obtain ⟨x0, x1, x2, x3, x4, x5, x6, y0, y1, y2, y3, y4, y5, y6⟩ := hS.out _ kV2
        have hzV : Zs (Zr g w5.heap.size) V w2 := fun k hk => kV2.block k (by have := hk.1; omega)
        have hO4 := own_put7 (i := P.length * 7) (b0 := .int .i64 xk) (b1 := .bool xneg) (b2 := .slice xod xld xcd) (b3 := .string xnm) (b4 := .int .i64 xn) (b5 := .slice xol xll xcl) (b6 := .slice xob xlb xcb) hO2 hpl
        rw [show ∀ (a0 a1 a2 a3 a4 a5 a6 : Value) (r : List Value), ps ++ (a0 :: a1 :: a2 :: a3 :: a4 :: a5 :: a6 :: r) = (ps ++ [a0, a1, a2, a3, a4, a5, a6]) ++ r from fun _ _ _ _ _ _ _ _ => by simp] at hO4
        have hO5 := own_put7 (i := (P.length + 1) * 7) (b0 := .int .i64 yk) (b1 := .bool yneg) (b2 := .slice yod yld ycd) (b3 := .string ynm) (b4 := .int .i64 yn) (b5 := .slice yol yll ycl) (b6 := .slice yob ylb ycb) hO4 (by simp [hpl]; omega)
        rw [show ∀ (a0 a1 a2 a3 a4 a5 a6 : Value) (r : List Value), (ps ++ [a0, a1, a2, a3, a4, a5, a6]) ++ r = ps ++ (a0 :: a1 :: a2 :: a3 :: a4 :: a5 :: a6 :: r) from fun _ _ _ _ _ _ _ _ => by simp] at hO5
        have hon := (only_put7 w2 g (P.length * 7) (.int .i64 xk) (.bool xneg) (.slice xod xld xcd) (.string xnm) (.int .i64 xn) (.slice xol xll xcl) (.slice xob xlb xcb)).trans (only_put7 _ g ((P.length + 1) * 7) (.int .i64 yk) (.bool yneg) (.slice yod yld ycd) (.string ynm) (.int .i64 yn) (.slice yol yll ycl) (.slice yob ylb ycb))
        have hR3 := hid (SRow.swapped (HV.out.2.2.1.zs hzV) (HV.out.2.2.2.1.zs hzV) (TV.zs hzV _ _ HV.out.1) (TV.zs hzV _ _ HV.out.2.1) hon hO5)
        have hon3 := hid hon
        clear hO2 hO4 hO5 hon hS HV hzV hrow1 hk0
        generalize hWd : ((((((((((((((w2.setCell ⟨g, P.length * 7, none⟩ (.int .i64 xk)).setCell ⟨g, P.length * 7 + 1, none⟩ (.bool xneg)).setCell ⟨g, P.length * 7 + 2, none⟩ (.slice xod xld xcd)).setCell ⟨g, P.length * 7 + 3, none⟩ (.string xnm)).setCell ⟨g, P.length * 7 + 4, none⟩ (.int .i64 xn)).setCell ⟨g, P.length * 7 + 5, none⟩ (.slice xol xll xcl)).setCell ⟨g, P.length * 7 + 6, none⟩ (.slice xob xlb xcb)).setCell ⟨g, (P.length + 1) * 7, none⟩ (.int .i64 yk)).setCell ⟨g, (P.length + 1) * 7 + 1, none⟩ (.bool yneg)).setCell ⟨g, (P.length + 1) * 7 + 2, none⟩ (.slice yod yld ycd)).setCell ⟨g, (P.length + 1) * 7 + 3, none⟩ (.string ynm)).setCell ⟨g, (P.length + 1) * 7 + 4, none⟩ (.int .i64 yn)).setCell ⟨g, (P.length + 1) * 7 + 5, none⟩ (.slice yol yll ycl)).setCell ⟨g, (P.length + 1) * 7 + 6, none⟩ (.slice yob ylb ycb)) = W3 at hR3 hon3
        have HWd := hid hWd
        clear hWd
        go_wp2_with fail
        go_region
        all_goals go_wp2
        rw [HWd.out]
        have hz3 := hon3.out.2.1
        have hgH : w.heap.size ≤ g := HgB.out.2
        have hR4 := hR3.out.kept (Kept.of_below ((Below.refl _ W3).drew)) (by rw [hz3]; exact hBq2) hgB
        have hb4 : Below w.heap.size w W3.drew := (hk2.trans (hon3.out.below (B := w.heap.size) hgH)).drew
        have hBq4 : w5.heap.size ≤ W3.drew.heap.size := by rw [show W3.drew.heap.size = W3.heap.size from rfl, hz3]; exact hBq2
        clear HWd hon3 hR3 hz3
        generalize W3.drew = W4 at *
        have hLl2 : (P ++ x :: (y :: Q)).length = i + 1 := by simp at hLl ⊢; omega
        go_roundg P.length
        case measure => simp
        case rel => exact ⟨P, y :: Q, rfl, by go_num, by omega, hR4, hb4, hBq4, hLl2, hH2, hwP'⟩
      · have hFl : F = P ++ y :: x :: Q := by
          have h1 := hH.out
          rw [insR_stop (by rw [HX.out]; exact hX0)] at h1
          rw [← h1]; simp
        have hfin : VRow w.heap.size (.slice (some ⟨g, 0, none⟩) (i + 1) c2) (isort (l.take (i + 1))) w2 := by
          rw [HF.out, hFl]
          have h2 := hrow2.v
          rw [hLl] at h2
          exact h2
        clear hrow2 hrow1 hS HV hk0 hFl
        go_wp2
        go_roundg (l.length - (i + 1))
        case measure => omega
        case rel => exact ⟨i + 1, by omega, by go_num, hfin, hk2⟩
end Go.Proofs.YtpdoepjnkgffpaaDoor
