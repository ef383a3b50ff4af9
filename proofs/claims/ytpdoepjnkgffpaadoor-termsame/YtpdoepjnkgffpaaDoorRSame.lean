/- Same and SameRow of the reference. -/
import Derived.Test.YtpdoepjnkgffpaaDoorOrdRCmp
namespace Go.Proofs.YtpdoepjnkgffpaaDoor
open Go.ChangeShapes Go.WideShapes Go.ChangeAt Go.ChangeMaps Go.RowKit Go.Shelf
set_option linter.unusedSimpArgs false
set_option linter.unusedVariables false
set_option maxRecDepth 2000
set_option maxHeartbeats 2000000 in
theorem rSame_w (A U : Tm) (va vb : Value) (w : World) (hoA : ∀ p ∈ parts A, p.ok1) (hoU : ∀ p ∈ parts U, p.ok1) (hA : TV (Low w) w A va) (hU : TV (Low w) w U vb) (hT : Tabs w) :
    Calls Tryd.prog 14 #[va, vb] w fun e w' => e = .returned (.bool (cT A U == 0)) ∧ Below w.heap.size w w' := by
  have HA := hid hA
  have HU := hid hU
  obtain ⟨pk, pneg, pod, pld, pcd, pnm, pn, pol, pll, pcl, pob, plb, pcb, rfl⟩ := hA.form
  obtain ⟨qk, qneg, qod, qld, qcd, qnm, qn, qol, qll, qcl, qob, qlb, qcb, rfl⟩ := hU.form
  clear hA hU
  obtain ⟨kA, kB, hB0, hz0⟩ := bx2 w (.int .i64 pk) (.bool pneg) (.slice pod pld pcd) (.string pnm) (.int .i64 pn) (.slice pol pll pcl) (.slice pob plb pcb) (.int .i64 qk) (.bool qneg) (.slice qod qld qcd) (.string qnm) (.int .i64 qn) (.slice qol qll qcl) (.slice qob qlb qcb) 31 31
  have hTA := tv_below HA.out hB0
  have hTU := tv_below HU.out hB0
  have hT0 := hT.below hB0
  go_enter Tryd.func14, Tryd.ntmps14
  go_wp2_with fail
  generalize ((w.alloc (.cells #[.int .i64 pk, .bool pneg, .slice pod pld pcd, .string pnm, .int .i64 pn, .slice pol pll pcl, .slice pob plb pcb] 31)).alloc (.cells #[.int .i64 qk, .bool qneg, .slice qod qld qcd, .string qnm, .int .i64 qn, .slice qol qll qcl, .slice qob qlb qcb] 31)) = W0 at *
  refine (rCompare_w (tsz A) A U _ _ _ (Nat.le_refl _) hoA hoU hTA hTU hT0).mono ?_
  rintro e w1 ⟨rfl, b1⟩
  go_wp2
  go_ret
  exact ⟨rfl, below_and hB0 (Nat.le_refl _) b1⟩
/-- two rows, term by term -/
def sameL : List Tm → List Tm → Bool
  | [], [] => true
  | t :: l, t' :: l' => (cT t t' == 0) && sameL l l'
  | _, _ => false
theorem sameL_len : ∀ {l l' : List Tm}, l.length ≠ l'.length → sameL l l' = false
  | [], [], h => absurd rfl h
  | [], _ :: _, _ => rfl
  | _ :: _, [], _ => rfl
  | t :: l, t' :: l', h => by
    unfold sameL
    rw [sameL_len (l := l) (l' := l') (by simpa using h), Bool.and_false]
theorem sameL_drop {l l' : List Tm} {i : Nat} {t t' : Tm} (h : l[i]? = some t) (h' : l'[i]? = some t') : sameL (l.drop i) (l'.drop i) = ((cT t t' == 0) && sameL (l.drop (i + 1)) (l'.drop (i + 1))) := by
  obtain ⟨h1, h2⟩ := List.getElem?_eq_some_iff.1 h
  obtain ⟨h3, h4⟩ := List.getElem?_eq_some_iff.1 h'
  rw [List.drop_eq_getElem_cons h1, List.drop_eq_getElem_cons h3, h2, h4]
  rfl
set_option maxHeartbeats 4000000 in
set_option maxRecDepth 8000 in
theorem rSameRow_w (l l' : List Tm) (o o' : Option Addr) (c c' : Nat) (w : World) (hl : l.length ≤ 1000000) (hl' : l'.length ≤ 1000000) (hok : ∀ p ∈ partsL l, p.ok1) (hok' : ∀ p ∈ partsL l', p.ok1) (hR : TR (Low w) w l o) (hR' : TR (Low w) w l' o') (hT : Tabs w) :
    Calls Tryd.prog 10 #[.slice o l.length c, .slice o' l'.length c'] w fun e w' => e = .returned (.bool (sameL l l')) ∧ Below w.heap.size w w' := by
  by_cases hne : l.length = l'.length
  case neg =>
    have hf := sameL_len hne
    have f1 : ((l.length : Int) != (l'.length : Int)) = true := by simp; omega
    rw [hf]
    clear hne hf
    go_enter Tryd.func10, Tryd.ntmps10
    go_wp2
    go_ret
    exact ⟨rfl, Below.refl _ _⟩
  have f1 : ((l.length : Int) != (l'.length : Int)) = false := by simp [hne]
  obtain ⟨R, hRR⟩ : ∃ R, sameL l l' = R := ⟨_, rfl⟩
  rw [hRR]
  have HR := hid hRR
  have hel := hid hne
  have htR := hid hR
  have huR := hid hR'
  have hok2 := hid hok
  have hok2' := hid hok'
  clear hRR hne hR hR' hok hok'
  go_enter Tryd.func10, Tryd.ntmps10
  go_wp2_with fail
  go_loopg [5] l.length (fun t v5 wr => ∃ i : Nat, t + i = l.length ∧ v5 = .int .i64 (i : Int) ∧ Hid (sameL (l.drop i) (l'.drop i) = R) ∧ Below w.heap.size w wr)
  case atStart => exact ⟨0, by omega, rfl, hid (by simpa using HR.out), Below.refl _ _⟩
  case round =>
    obtain ⟨i, hti, rfl, hH, hBr⟩ := hrel
    by_cases hil : i < l.length
    · have hii : ((i : Nat) : Int) < ((l.length : Nat) : Int) := by omega
      have hil' : i < l'.length := by have := hel.out; omega
      have hii' : ((i : Nat) : Int) < ((l'.length : Nat) : Int) := by omega
      obtain ⟨t, ht⟩ : ∃ t, l[i]? = some t := ⟨l[i], by simp [hil]⟩
      obtain ⟨t', ht'⟩ : ∃ t', l'[i]? = some t' := ⟨l'[i], by simp [hil']⟩
      obtain ⟨pa, pk, pneg, pod, pld, pcd, pnm, pn, pol, pll, pcl, pob, plb, pcb, rfl, hTp, y0, y1, y2, y3, y4, y5, y6⟩ := htR.out.get ht hBr
      obtain ⟨qa, qk, qneg, qod, qld, qcd, qnm, qn, qol, qll, qcl, qob, qlb, qcb, rfl, hTq, u0, u1, u2, u3, u4, u5, u6⟩ := huR.out.get ht' hBr
      have hokt : ∀ p ∈ parts t, p.ok1 := fun p hp => hok2.out p (mem_partsL ht hp)
      have hokt' : ∀ p ∈ parts t', p.ok1 := fun p hp => hok2'.out p (mem_partsL ht' hp)
      have hTr := hT.below hBr
      have hstep := hid (sameL_drop ht ht')
      clear ht ht' hil'
      have hDr : Below wr.heap.size wr wr.drew := (Below.refl _ wr).drew
      have hS : Hid (∀ w', Below wr.heap.size wr w' → (w'.cell? (pa.add (i * 7)) = some (.int .i64 pk) ∧ w'.cell? ⟨(pa.add (i * 7)).block, (pa.add (i * 7)).off + 1, none⟩ = some (.bool pneg) ∧ w'.cell? ⟨(pa.add (i * 7)).block, (pa.add (i * 7)).off + 2, none⟩ = some (.slice pod pld pcd) ∧ w'.cell? ⟨(pa.add (i * 7)).block, (pa.add (i * 7)).off + 3, none⟩ = some (.string pnm) ∧ w'.cell? ⟨(pa.add (i * 7)).block, (pa.add (i * 7)).off + 4, none⟩ = some (.int .i64 pn) ∧ w'.cell? ⟨(pa.add (i * 7)).block, (pa.add (i * 7)).off + 5, none⟩ = some (.slice pol pll pcl) ∧ w'.cell? ⟨(pa.add (i * 7)).block, (pa.add (i * 7)).off + 6, none⟩ = some (.slice pob plb pcb) ∧ w'.cell? (qa.add (i * 7)) = some (.int .i64 qk) ∧ w'.cell? ⟨(qa.add (i * 7)).block, (qa.add (i * 7)).off + 1, none⟩ = some (.bool qneg) ∧ w'.cell? ⟨(qa.add (i * 7)).block, (qa.add (i * 7)).off + 2, none⟩ = some (.slice qod qld qcd) ∧ w'.cell? ⟨(qa.add (i * 7)).block, (qa.add (i * 7)).off + 3, none⟩ = some (.string qnm) ∧ w'.cell? ⟨(qa.add (i * 7)).block, (qa.add (i * 7)).off + 4, none⟩ = some (.int .i64 qn) ∧ w'.cell? ⟨(qa.add (i * 7)).block, (qa.add (i * 7)).off + 5, none⟩ = some (.slice qol qll qcl) ∧ w'.cell? ⟨(qa.add (i * 7)).block, (qa.add (i * 7)).off + 6, none⟩ = some (.slice qob qlb qcb))) := hid (fun w' hb => by
        have q : ∀ {a : Addr} {v : Value}, wr.cell? a = some v → w'.cell? a = some v := fun h => (hb.cell (World.block_lt_of_cell? _ _ h)).trans h
        exact ⟨q y0, q y1, q y2, q y3, q y4, q y5, q y6, q u0, q u1, q u2, q u3, q u4, q u5, q u6⟩)
      clear y0 y1 y2 y3 y4 y5 y6 u0 u1 u2 u3 u4 u5 u6
      obtain ⟨X, hX⟩ : ∃ X, (cT t t' == 0) = X := ⟨_, rfl⟩
      have HX := hid hX
      clear hX
      go_wp2_with fail
      refine wp_region_held_drew (S := fun w' => w'.cell? (pa.add (i * 7)) = some (.int .i64 pk) ∧ w'.cell? ⟨(pa.add (i * 7)).block, (pa.add (i * 7)).off + 1, none⟩ = some (.bool pneg) ∧ w'.cell? ⟨(pa.add (i * 7)).block, (pa.add (i * 7)).off + 2, none⟩ = some (.slice pod pld pcd) ∧ w'.cell? ⟨(pa.add (i * 7)).block, (pa.add (i * 7)).off + 3, none⟩ = some (.string pnm) ∧ w'.cell? ⟨(pa.add (i * 7)).block, (pa.add (i * 7)).off + 4, none⟩ = some (.int .i64 pn) ∧ w'.cell? ⟨(pa.add (i * 7)).block, (pa.add (i * 7)).off + 5, none⟩ = some (.slice pol pll pcl) ∧ w'.cell? ⟨(pa.add (i * 7)).block, (pa.add (i * 7)).off + 6, none⟩ = some (.slice pob plb pcb) ∧ w'.cell? (qa.add (i * 7)) = some (.int .i64 qk) ∧ w'.cell? ⟨(qa.add (i * 7)).block, (qa.add (i * 7)).off + 1, none⟩ = some (.bool qneg) ∧ w'.cell? ⟨(qa.add (i * 7)).block, (qa.add (i * 7)).off + 2, none⟩ = some (.slice qod qld qcd) ∧ w'.cell? ⟨(qa.add (i * 7)).block, (qa.add (i * 7)).off + 3, none⟩ = some (.string qnm) ∧ w'.cell? ⟨(qa.add (i * 7)).block, (qa.add (i * 7)).off + 4, none⟩ = some (.int .i64 qn) ∧ w'.cell? ⟨(qa.add (i * 7)).block, (qa.add (i * 7)).off + 5, none⟩ = some (.slice qol qll qcl) ∧ w'.cell? ⟨(qa.add (i * 7)).block, (qa.add (i * 7)).off + 6, none⟩ = some (.slice qob qlb qcb)) (by kernel_rfl) (by exact hS.out _ hDr) (fun hHeld => ?_)
      refine wpAnyH_take (i := 0) (oi := _) (v := ?_) rfl (by kernel_rfl) (by kernel_rfl) (by kernel_rfl) (fun _ _ _ h => h) (Or.inl ⟨by rfl, ?_⟩) (by assumption) ?_
      rotate_left 1
      · (intro w hSw; (try dsimp only at hSw); go_simp; try with_reducible rfl)
      try simp (maxSteps := 10000000) only [List.getElem_toArray, List.getElem_cons_succ, List.getElem_cons_zero, Act.put, List.setIfInBounds_toArray, List.set_cons_zero, List.set_cons_succ]
      refine wpAnyH_take (i := 1) (oi := _) (v := ?_) rfl (by kernel_rfl) (by kernel_rfl) (by kernel_rfl) (fun _ _ _ h => h) (Or.inl ⟨by rfl, ?_⟩) (by assumption) ?_
      rotate_left 1
      · (intro w hSw; (try dsimp only at hSw); go_simp; try with_reducible rfl)
      try simp (maxSteps := 10000000) only [List.getElem_toArray, List.getElem_cons_succ, List.getElem_cons_zero, Act.put, List.setIfInBounds_toArray, List.set_cons_zero, List.set_cons_succ]
      refine wpAnyH_take (i := 2) (oi := _) (v := ?_) rfl (by kernel_rfl) (by kernel_rfl) (by kernel_rfl) (fun _ _ _ h => h) (Or.inl ⟨by rfl, ?_⟩) (by assumption) ?_
      rotate_left 1
      · (intro w hSw; (try dsimp only at hSw); go_simp; try with_reducible rfl)
      try simp (maxSteps := 10000000) only [List.getElem_toArray, List.getElem_cons_succ, List.getElem_cons_zero, Act.put, List.setIfInBounds_toArray, List.set_cons_zero, List.set_cons_succ]
      refine wpAnyH_take (i := 3) (oi := _) (v := ?_) rfl (by kernel_rfl) (by kernel_rfl) (by kernel_rfl) (fun _ _ _ h => h) (Or.inl ⟨by rfl, ?_⟩) (by assumption) ?_
      rotate_left 1
      · (intro w hSw; (try dsimp only at hSw); go_simp; try with_reducible rfl)
      try simp (maxSteps := 10000000) only [List.getElem_toArray, List.getElem_cons_succ, List.getElem_cons_zero, Act.put, List.setIfInBounds_toArray, List.set_cons_zero, List.set_cons_succ]
      refine wpAnyH_take (i := 4) (oi := _) (v := ?_) rfl (by kernel_rfl) (by kernel_rfl) (by kernel_rfl) (fun _ _ _ h => h) (Or.inl ⟨by rfl, ?_⟩) (by assumption) ?_
      rotate_left 1
      · (intro w hSw; (try dsimp only at hSw); go_simp; try with_reducible rfl)
      try simp (maxSteps := 10000000) only [List.getElem_toArray, List.getElem_cons_succ, List.getElem_cons_zero, Act.put, List.setIfInBounds_toArray, List.set_cons_zero, List.set_cons_succ]
      refine wpAnyH_take (i := 5) (oi := _) (v := ?_) rfl (by kernel_rfl) (by kernel_rfl) (by kernel_rfl) (fun _ _ _ h => h) (Or.inl ⟨by rfl, ?_⟩) (by assumption) ?_
      rotate_left 1
      · (intro w hSw; (try dsimp only at hSw); go_simp; try with_reducible rfl)
      try simp (maxSteps := 10000000) only [List.getElem_toArray, List.getElem_cons_succ, List.getElem_cons_zero, Act.put, List.setIfInBounds_toArray, List.set_cons_zero, List.set_cons_succ]
      refine wpAnyH_take (i := 6) (oi := _) (v := ?_) rfl (by kernel_rfl) (by kernel_rfl) (by kernel_rfl) (fun _ _ _ h => h) (Or.inl ⟨by rfl, ?_⟩) (by assumption) ?_
      rotate_left 1
      · (intro w hSw; (try dsimp only at hSw); go_simp; try with_reducible rfl)
      try simp (maxSteps := 10000000) only [List.getElem_toArray, List.getElem_cons_succ, List.getElem_cons_zero, Act.put, List.setIfInBounds_toArray, List.set_cons_zero, List.set_cons_succ]
      refine wpAnyH_take (i := 7) (oi := _) (v := ?_) rfl (by kernel_rfl) (by kernel_rfl) (by kernel_rfl) (fun _ _ _ h => h) (Or.inl ⟨by rfl, ?_⟩) (by assumption) ?_
      rotate_left 1
      · (intro w hSw; (try dsimp only at hSw); go_simp; try with_reducible rfl)
      try simp (maxSteps := 10000000) only [List.getElem_toArray, List.getElem_cons_succ, List.getElem_cons_zero, Act.put, List.setIfInBounds_toArray, List.set_cons_zero, List.set_cons_succ]
      refine wpAnyH_ready (rs := [8]) (by kernel_rfl) (by simp) ?_
      refine AllReadyH.cons rfl (fun K hK => ?_) AllReadyH.nil
      go_simp
      refine (rSame_w t t' _ _ _ hokt hokt' (tv_below hTp hDr) (tv_below hTq hDr) (hTr.below hDr)).mono ?_
      rintro e w2 ⟨rfl, b2⟩
      have c2 : Below wr.heap.size wr w2 := below_and hDr (Nat.le_refl _) b2
      rw [HX.out]
      try go_simp
      refine hK.out _ _ ?_ (fun hHeld => ?_)
      · exact hS.out _ (by assumption)
      clear hK K
      try simp (maxSteps := 10000000) only [List.getElem_toArray, List.getElem_cons_succ, List.getElem_cons_zero, Act.put, List.setIfInBounds_toArray, List.set_cons_zero, List.set_cons_succ]
      refine wpAnyH_take (i := 9) (oi := _) (v := ?_) rfl (by kernel_rfl) (by kernel_rfl) (by kernel_rfl) (fun _ _ _ h => h) (Or.inl ⟨by rfl, ?_⟩) (by assumption) ?_
      rotate_left 1
      · (intro w hSw; (try dsimp only at hSw); go_simp; try with_reducible rfl)
      try simp (maxSteps := 10000000) only [List.getElem_toArray, List.getElem_cons_succ, List.getElem_cons_zero, Act.put, List.setIfInBounds_toArray, List.set_cons_zero, List.set_cons_succ]
      refine wpAnyH_done (by kernel_rfl) ?_ _
      have hB2 := below_and hBr (by have := hBr.size; omega) c2
      clear hS hDr hHeld c2 b2 hBr hTp hTq hTr hokt hokt'
      cases X with
      | true =>
        go_wp2
        go_roundg (l.length - (i + 1))
        case measure => omega
        case rel =>
          refine ⟨i + 1, by omega, by go_num, hid ?_, hB2⟩
          have := hstep.out
          rw [HX.out, Bool.true_and] at this
          rw [← this]; exact hH.out
      | false =>
        have hRx : R = false := by rw [← hH.out, hstep.out, HX.out, Bool.false_and]
        have HR2 := hid hRx
        clear hRx
        go_wp2
        go_ret
        exact ⟨by rw [HR2.out]; rfl, hB2⟩
    · have hii : ¬ ((i : Nat) : Int) < ((l.length : Nat) : Int) := by omega
      have hR0 : R = true := by rw [← hH.out, List.drop_eq_nil_of_le (by omega), List.drop_eq_nil_of_le (by have := hel.out; omega)]; rfl
      have HR2 := hid hR0
      clear hR0
      go_wp2
      go_ret
      exact ⟨by rw [HR2.out]; rfl, hBr⟩
end Go.Proofs.YtpdoepjnkgffpaaDoor
