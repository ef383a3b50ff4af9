/- Same of package term, of terms without parts. -/
import Derived.Test.YtpdoepjnkgffpaaDoorTermOrd
import Derived.Test.YtpdoepjnkgffpaaDoorTermLean
namespace Go.Proofs.YtpdoepjnkgffpaaDoor
open Go.ChangeShapes Go.WideShapes Go.ChangeAt Go.RowKit Go.Shelf
set_option linter.unusedSimpArgs false
set_option linter.unusedVariables false
set_option maxRecDepth 2000
def Shut (p : Prop) : Prop := p
theorem shut {p : Prop} (h : p) : Shut p := h
theorem Shut.out {p : Prop} (h : Shut p) : p := h
theorem prT_kids {T : Tm} {k : Int} {neg : Bool} {d : List Nat} {nm : ByteArray} {n : Int} {l : List Tm} {b : List Nat} (h : prT T = .mk k neg d nm n l b) : l = T.kids := (cpT_eq h).2
theorem prT_okF {T : Tm} (h : T.ok1) : (prT T).ok1 := prT_ok h
set_option maxHeartbeats 4000000 in
set_option maxRecDepth 8000 in
theorem Same_flat (k : Int) (neg : Bool) (d : List Nat) (nm : ByteArray) (n : Int) (l : List Tm) (b : List Nat) (k' : Int) (neg' : Bool) (d' : List Nat) (nm' : ByteArray) (n' : Int) (l' : List Tm) (b' : List Nat) (va vb : Value) (w : World)
    (hkA : (Tm.mk k neg d nm n l b).kids = []) (hokA : (Tm.mk k neg d nm n l b).ok1) (hokB : (Tm.mk k' neg' d' nm' n' l' b').ok1)
    (hA : TV (Low w) w (.mk k neg d nm n l b) va) (hB : TV (Low w) w (.mk k' neg' d' nm' n' l' b') vb) :
    Calls Tryd.prog 21 #[va, vb] w fun e w' => e = .returned (.bool (alikeB (prT (.mk k neg d nm n l b)) (prT (.mk k' neg' d' nm' n' l' b')))) ∧ Below w.heap.size w w' := by
  have hA0 := hA
  have hB0 := hB
  unfold TV at hA hB
  obtain ⟨od, cd, ol, cl, ob, cb, rfl, _⟩ := hA
  obtain ⟨od', cd', ol', cl', ob', cb', rfl, _⟩ := hB
  have hpA := prV_tv hA0
  have hpB := prV_tv hB0
  have hpoA := prT_okF hokA
  have hpoB := prT_okF hokB
  obtain ⟨PT, hPT⟩ : ∃ PT, prT (.mk k neg d nm n l b) = PT := ⟨_, rfl⟩
  obtain ⟨QT, hQT⟩ : ∃ QT, prT (.mk k' neg' d' nm' n' l' b') = QT := ⟨_, rfl⟩
  rw [hPT] at hpA hpoA ⊢
  rw [hQT] at hpB hpoB ⊢
  cases PT with | mk pk pneg pd pnm pn pl pb =>
  cases QT with | mk qk qneg qd qnm qn ql qb =>
  have hpl := prT_kids hPT
  have hpl0 : pl = [] := by rw [hkA] at hpl; exact hpl
  subst hpl0
  have hpA0 := hpA
  have hpB0 := hpB
  unfold TV at hpA hpB
  obtain ⟨pod, pcd, pol, pcl, pob, pcb, hpv, _⟩ := hpA
  obtain ⟨qod, qcd, qol, qcl, qob, qcb, hqv, _⟩ := hpB
  rw [hpv] at hpA0
  rw [hqv] at hpB0
  unfold tmV at hpv hqv
  obtain ⟨R, hR⟩ : ∃ R, alikeB (.mk pk pneg pd pnm pn [] pb) (.mk qk qneg qd qnm qn ql qb) = R := ⟨_, rfl⟩
  rw [hR]
  have hHR := hid hR
  clear hR hPT hQT hpl
  have hW : ∀ W, W = (((((w.alloc (.cells #[.int .i64 k, .bool neg, .slice od d.length cd, .string nm, .int .i64 n, .slice ol l.length cl, .slice ob b.length cb] 31)).alloc (.cells #[.int .i64 k', .bool neg', .slice od' d'.length cd', .string nm', .int .i64 n', .slice ol' l'.length cl', .slice ob' b'.length cb'] 31)).alloc (.cells #[.int .i64 k, .bool neg, .slice od d.length cd, .string nm, .int .i64 n, .slice ol l.length cl, .slice ob b.length cb] 31)).alloc (.cells #[.int .i64 k', .bool neg', .slice od' d'.length cd', .string nm', .int .i64 n', .slice ol' l'.length cl', .slice ob' b'.length cb'] 31)).alloc (.cells #[.slice (some ⟨w.heap.size + 1 + 1, 0, none⟩) 1 1, .slice (some ⟨w.heap.size + 1 + 1 + 1, 0, none⟩) 1 1] 54)) → Below w.heap.size w W ∧ W.heap.size = w.heap.size + 5 ∧ Bx (w.heap.size + 1 + 1) (.int .i64 k) (.bool neg) (.slice od d.length cd) (.string nm) (.int .i64 n) (.slice ol l.length cl) (.slice ob b.length cb) W ∧ Bx (w.heap.size + 1 + 1 + 1) (.int .i64 k') (.bool neg') (.slice od' d'.length cd') (.string nm') (.int .i64 n') (.slice ol' l'.length cl') (.slice ob' b'.length cb') W ∧ Box (w.heap.size + 1 + 1 + 1 + 1) (.slice (some ⟨w.heap.size + 1 + 1, 0, none⟩) 1 1) (.slice (some ⟨w.heap.size + 1 + 1 + 1, 0, none⟩) 1 1) W := by
    rintro W rfl
    obtain ⟨_, _, hb1, hz1⟩ := bx2 w (.int .i64 k) (.bool neg) (.slice od d.length cd) (.string nm) (.int .i64 n) (.slice ol l.length cl) (.slice ob b.length cb) (.int .i64 k') (.bool neg') (.slice od' d'.length cd') (.string nm') (.int .i64 n') (.slice ol' l'.length cl') (.slice ob' b'.length cb') 31 31
    generalize ((w.alloc (.cells #[.int .i64 k, .bool neg, .slice od d.length cd, .string nm, .int .i64 n, .slice ol l.length cl, .slice ob b.length cb] 31)).alloc (.cells #[.int .i64 k', .bool neg', .slice od' d'.length cd', .string nm', .int .i64 n', .slice ol' l'.length cl', .slice ob' b'.length cb'] 31)) = V at *
    obtain ⟨kA, kB, hb2, hz2⟩ := bx2 V (.int .i64 k) (.bool neg) (.slice od d.length cd) (.string nm) (.int .i64 n) (.slice ol l.length cl) (.slice ob b.length cb) (.int .i64 k') (.bool neg') (.slice od' d'.length cd') (.string nm') (.int .i64 n') (.slice ol' l'.length cl') (.slice ob' b'.length cb') 31 31
    generalize ((V.alloc (.cells #[.int .i64 k, .bool neg, .slice od d.length cd, .string nm, .int .i64 n, .slice ol l.length cl, .slice ob b.length cb] 31)).alloc (.cells #[.int .i64 k', .bool neg', .slice od' d'.length cd', .string nm', .int .i64 n', .slice ol' l'.length cl', .slice ob' b'.length cb'] 31)) = V2 at *
    have hb3 := (Below.refl V2.heap.size V2).alloc (Nat.le_refl _) (.cells #[.slice (some ⟨w.heap.size + 1 + 1, 0, none⟩) 1 1, .slice (some ⟨w.heap.size + 1 + 1 + 1, 0, none⟩) 1 1] 54)
    have kx := Box.new V2 (.slice (some ⟨w.heap.size + 1 + 1, 0, none⟩) 1 1) (.slice (some ⟨w.heap.size + 1 + 1 + 1, 0, none⟩) 1 1) 54
    have e1 : V.heap.size = w.heap.size + 1 + 1 := by omega
    have e2 : V2.heap.size = w.heap.size + 1 + 1 + 1 + 1 := by omega
    rw [e1] at kA kB
    rw [e2] at kx
    exact ⟨below_and (below_and hb1 (Nat.le_refl _) hb2) (Nat.le_refl _) hb3, by simp; omega, kA.below hb3, kB.below hb3, kx⟩
  go_enter Tryd.func21, Tryd.ntmps21
  go_wp2_with fail
  generalize hWW : (((((w.alloc (.cells #[.int .i64 k, .bool neg, .slice od d.length cd, .string nm, .int .i64 n, .slice ol l.length cl, .slice ob b.length cb] 31)).alloc (.cells #[.int .i64 k', .bool neg', .slice od' d'.length cd', .string nm', .int .i64 n', .slice ol' l'.length cl', .slice ob' b'.length cb'] 31)).alloc (.cells #[.int .i64 k, .bool neg, .slice od d.length cd, .string nm, .int .i64 n, .slice ol l.length cl, .slice ob b.length cb] 31)).alloc (.cells #[.int .i64 k', .bool neg', .slice od' d'.length cd', .string nm', .int .i64 n', .slice ol' l'.length cl', .slice ob' b'.length cb'] 31)).alloc (.cells #[.slice (some ⟨w.heap.size + 1 + 1, 0, none⟩) 1 1, .slice (some ⟨w.heap.size + 1 + 1 + 1, 0, none⟩) 1 1] 54)) = W0
  obtain ⟨hB0', hz0, kA, kB, kP⟩ := hW W0 hWW.symm
  clear hW hWW
  go_loopg [5] 1 (fun t v5 wr => ∃ m : Nat, t = m ∧ m ≤ 1 ∧ v5 = .slice (some ⟨w.heap.size + 1 + 1 + 1 + 1, 0, none⟩) m 1 ∧ Below w.heap.size w wr ∧ (m = 1 → wr = W0) ∧ (m = 0 → R = true))
  case atStart => exact ⟨1, rfl, by omega, rfl, hB0', fun _ => rfl, fun h => by omega⟩
  case round =>
    obtain ⟨m, rfl, hm, rfl, hBr, hm1, hm0⟩ := hrel
    generalize gk = m at *
    rcases Nat.eq_zero_or_pos m with h0 | h0
    · subst h0
      have hRt := hm0 rfl
      subst hRt
      clear hm1 hm0
      go_wp2
      go_ret
      exact ⟨rfl, hBr⟩
    · have h1 : m = 1 := by omega
      subst h1
      have hwr := hm1 rfl
      subst hwr
      clear hm1 hm0 hBr
      obtain ⟨f1, f2, f3, f4⟩ := id kP
      have kx7 := Box.new wr (.slice (some ⟨w.heap.size + 1 + 1, 0, none⟩) 1 1) (.slice (some ⟨w.heap.size + 1 + 1 + 1, 0, none⟩) 1 1) 54
      go_upto_region 8 with fail
      have hb1 : Below wr.heap.size wr (wr.alloc (.cells #[.slice (some ⟨w.heap.size + 1 + 1, 0, none⟩) 1 1, .slice (some ⟨w.heap.size + 1 + 1 + 1, 0, none⟩) 1 1] 54)) := (Below.refl _ wr).alloc (Nat.le_refl _) _
      have kA1 := kA.below hb1
      have kB1 := kB.below hb1
      rw [hz0] at kx7
      have hB1 := below_and hB0' (Nat.le_refl _) hb1
      have hz1 := hb1.size
      clear f1 f2 f3 f4 kP kA kB hb1
      generalize (wr.alloc (.cells #[.slice (some ⟨w.heap.size + 1 + 1, 0, none⟩) 1 1, .slice (some ⟨w.heap.size + 1 + 1 + 1, 0, none⟩) 1 1] 54)) = W1 at *
      have hlt7 : w.heap.size + 5 < W1.heap.size := World.block_lt_of_cell? _ _ kx7.1
      have hS : Hid (∀ w', Below W1.heap.size W1 w' → (w'.cell? ⟨w.heap.size + 5, 0, none⟩ = some (.slice (some ⟨w.heap.size + 1 + 1, 0, none⟩) 1 1) ∧ w'.cell? ⟨w.heap.size + 5, 1, none⟩ = some (.slice (some ⟨w.heap.size + 1 + 1 + 1, 0, none⟩) 1 1) ∧ w'.cell? ⟨w.heap.size + 1 + 1, 0, none⟩ = some (.int .i64 k) ∧ w'.cell? ⟨w.heap.size + 1 + 1, 1, none⟩ = some (.bool neg) ∧ w'.cell? ⟨w.heap.size + 1 + 1, 2, none⟩ = some (.slice od d.length cd) ∧ w'.cell? ⟨w.heap.size + 1 + 1, 3, none⟩ = some (.string nm) ∧ w'.cell? ⟨w.heap.size + 1 + 1, 4, none⟩ = some (.int .i64 n) ∧ w'.cell? ⟨w.heap.size + 1 + 1, 5, none⟩ = some (.slice ol l.length cl) ∧ w'.cell? ⟨w.heap.size + 1 + 1, 6, none⟩ = some (.slice ob b.length cb) ∧ w'.cell? ⟨w.heap.size + 1 + 1 + 1, 0, none⟩ = some (.int .i64 k') ∧ w'.cell? ⟨w.heap.size + 1 + 1 + 1, 1, none⟩ = some (.bool neg') ∧ w'.cell? ⟨w.heap.size + 1 + 1 + 1, 2, none⟩ = some (.slice od' d'.length cd') ∧ w'.cell? ⟨w.heap.size + 1 + 1 + 1, 3, none⟩ = some (.string nm') ∧ w'.cell? ⟨w.heap.size + 1 + 1 + 1, 4, none⟩ = some (.int .i64 n') ∧ w'.cell? ⟨w.heap.size + 1 + 1 + 1, 5, none⟩ = some (.slice ol' l'.length cl') ∧ w'.cell? ⟨w.heap.size + 1 + 1 + 1, 6, none⟩ = some (.slice ob' b'.length cb'))) := hid (fun w' hb => by
        obtain ⟨a1, a2, _, _⟩ := kx7.below hb hlt7
        obtain ⟨t0, t1, t2, t3, t4, t5, t6⟩ := (kA1.below hb).res
        obtain ⟨u0, u1, u2, u3, u4, u5, u6⟩ := (kB1.below hb).res
        exact ⟨a1, a2, t0, t1, t2, t3, t4, t5, t6, u0, u1, u2, u3, u4, u5, u6⟩)
      have hDr : Below W1.heap.size W1 W1.drew := (Below.refl _ W1).drew
      go_cut [8, 9] from 43 to 52 (fun p8 p9 wx => ∃ g8 g9, p8 = .pointer (some ⟨g8, 0, none⟩) ∧ p9 = .pointer (some ⟨g9, 0, none⟩) ∧ Bx g8 (.int .i64 pk) (.bool pneg) (.slice pod pd.length pcd) (.string pnm) (.int .i64 pn) (.slice pol 0 pcl) (.slice pob pb.length pcb) wx ∧ Bx g9 (.int .i64 qk) (.bool qneg) (.slice qod qd.length qcd) (.string qnm) (.int .i64 qn) (.slice qol ql.length qcl) (.slice qob qb.length qcb) wx ∧ Below W1.heap.size W1 wx)
      case first =>
        refine wp_region_held_drew (S := fun w' => w'.cell? ⟨w.heap.size + 5, 0, none⟩ = some (.slice (some ⟨w.heap.size + 1 + 1, 0, none⟩) 1 1) ∧ w'.cell? ⟨w.heap.size + 5, 1, none⟩ = some (.slice (some ⟨w.heap.size + 1 + 1 + 1, 0, none⟩) 1 1) ∧ w'.cell? ⟨w.heap.size + 1 + 1, 0, none⟩ = some (.int .i64 k) ∧ w'.cell? ⟨w.heap.size + 1 + 1, 1, none⟩ = some (.bool neg) ∧ w'.cell? ⟨w.heap.size + 1 + 1, 2, none⟩ = some (.slice od d.length cd) ∧ w'.cell? ⟨w.heap.size + 1 + 1, 3, none⟩ = some (.string nm) ∧ w'.cell? ⟨w.heap.size + 1 + 1, 4, none⟩ = some (.int .i64 n) ∧ w'.cell? ⟨w.heap.size + 1 + 1, 5, none⟩ = some (.slice ol l.length cl) ∧ w'.cell? ⟨w.heap.size + 1 + 1, 6, none⟩ = some (.slice ob b.length cb) ∧ w'.cell? ⟨w.heap.size + 1 + 1 + 1, 0, none⟩ = some (.int .i64 k') ∧ w'.cell? ⟨w.heap.size + 1 + 1 + 1, 1, none⟩ = some (.bool neg') ∧ w'.cell? ⟨w.heap.size + 1 + 1 + 1, 2, none⟩ = some (.slice od' d'.length cd') ∧ w'.cell? ⟨w.heap.size + 1 + 1 + 1, 3, none⟩ = some (.string nm') ∧ w'.cell? ⟨w.heap.size + 1 + 1 + 1, 4, none⟩ = some (.int .i64 n') ∧ w'.cell? ⟨w.heap.size + 1 + 1 + 1, 5, none⟩ = some (.slice ol' l'.length cl') ∧ w'.cell? ⟨w.heap.size + 1 + 1 + 1, 6, none⟩ = some (.slice ob' b'.length cb')) (by kernel_rfl) (by first | exact hS.out _ (Below.refl _ _) | exact hS.out _ hDr) (fun hHeld => ?_)
        refine wpAnyH_take (i := 0) (oi := _) (v := ?_) rfl (by kernel_rfl) (by kernel_rfl) (by kernel_rfl) (fun _ _ _ h => h) (Or.inl ⟨by rfl, ?_⟩) (by assumption) ?_
        rotate_left 1
        · (intro w hSw; (try dsimp only at hSw); go_simp; try with_reducible rfl)
        try simp (maxSteps := 10000000) only [List.getElem_toArray, List.getElem_cons_succ, List.getElem_cons_zero, Act.put, List.setIfInBounds_toArray, List.set_cons_zero, List.set_cons_succ]
        refine wpAnyH_take (i := 1) (oi := _) (v := ?_) rfl (by kernel_rfl) (by kernel_rfl) (by kernel_rfl) (fun _ _ _ h => h) (Or.inl ⟨by rfl, ?_⟩) (by assumption) ?_
        rotate_left 1
        · (intro w hSw; (try dsimp only at hSw); go_simp; try with_reducible rfl)
        try simp (maxSteps := 10000000) only [List.getElem_toArray, List.getElem_cons_succ, List.getElem_cons_zero, Act.put, List.setIfInBounds_toArray, List.set_cons_zero, List.set_cons_succ]
        refine wpAnyH_take (i := 2) (oi := _) (v := ?_) rfl (by kernel_rfl) (by kernel_rfl) (by kernel_rfl) (fun _ _ _ h => h) (Or.inl ⟨by rfl, ?_⟩) (by assumption) ?_
        rotate_left 1
        · (intro w hSw; (try dsimp only at hSw); go_simp; try with_reducible rfl)
        try simp (maxSteps := 10000000) only [List.getElem_toArray, List.getElem_cons_succ, List.getElem_cons_zero, Act.put, List.setIfInBounds_toArray, List.set_cons_zero, List.set_cons_succ]
        refine wpAnyH_take (i := 3) (oi := _) (v := ?_) rfl (by kernel_rfl) (by kernel_rfl) (by kernel_rfl) (fun _ _ _ h => h) (Or.inl ⟨by rfl, ?_⟩) (by assumption) ?_
        rotate_left 1
        · (intro w hSw; (try dsimp only at hSw); go_simp; try with_reducible rfl)
        try simp (maxSteps := 10000000) only [List.getElem_toArray, List.getElem_cons_succ, List.getElem_cons_zero, Act.put, List.setIfInBounds_toArray, List.set_cons_zero, List.set_cons_succ]
        refine wpAnyH_take (i := 5) (oi := _) (v := ?_) rfl (by kernel_rfl) (by kernel_rfl) (by kernel_rfl) (fun _ _ _ h => h) (Or.inl ⟨by rfl, ?_⟩) (by assumption) ?_
        rotate_left 1
        · (intro w hSw; (try dsimp only at hSw); go_simp; try with_reducible rfl)
        try simp (maxSteps := 10000000) only [List.getElem_toArray, List.getElem_cons_succ, List.getElem_cons_zero, Act.put, List.setIfInBounds_toArray, List.set_cons_zero, List.set_cons_succ]
        refine wpAnyH_take (i := 6) (oi := _) (v := ?_) rfl (by kernel_rfl) (by kernel_rfl) (by kernel_rfl) (fun _ _ _ h => h) (Or.inl ⟨by rfl, ?_⟩) (by assumption) ?_
        rotate_left 1
        · (intro w hSw; (try dsimp only at hSw); go_simp; try with_reducible rfl)
        try simp (maxSteps := 10000000) only [List.getElem_toArray, List.getElem_cons_succ, List.getElem_cons_zero, Act.put, List.setIfInBounds_toArray, List.set_cons_zero, List.set_cons_succ]
        refine wpAnyH_take (i := 7) (oi := _) (v := ?_) rfl (by kernel_rfl) (by kernel_rfl) (by kernel_rfl) (fun _ _ _ h => h) (Or.inl ⟨by rfl, ?_⟩) (by assumption) ?_
        rotate_left 1
        · (intro w hSw; (try dsimp only at hSw); go_simp; try with_reducible rfl)
        try simp (maxSteps := 10000000) only [List.getElem_toArray, List.getElem_cons_succ, List.getElem_cons_zero, Act.put, List.setIfInBounds_toArray, List.set_cons_zero, List.set_cons_succ]
        refine wpAnyH_take (i := 8) (oi := _) (v := ?_) rfl (by kernel_rfl) (by kernel_rfl) (by kernel_rfl) (fun _ _ _ h => h) (Or.inl ⟨by rfl, ?_⟩) (by assumption) ?_
        rotate_left 1
        · (intro w hSw; (try dsimp only at hSw); go_simp; try with_reducible rfl)
        try simp (maxSteps := 10000000) only [List.getElem_toArray, List.getElem_cons_succ, List.getElem_cons_zero, Act.put, List.setIfInBounds_toArray, List.set_cons_zero, List.set_cons_succ]
        refine wpAnyH_at (m' := 6) (listed' := #[true, true, true, true, false, true, true, true, true, false, false, false, false, false]) (by kernel_rfl) (by kernel_rfl) ?_
        refine wpAnyH_name fun a0 ha0 => ?_
        refine wpAnyH_inv7 (A := fun s => (((a0.put (some 47) s.x1).put (some 52) s.x3).put (some 8) s.x4).put (some 9) s.x5) (R := R7 W1.heap.size W1 (.agg #[.int .i64 pk, .bool pneg, .slice pod pd.length pcd, .string pnm, .int .i64 pn, .slice pol 0 pcl, .slice pob pb.length pcb]) (.agg #[.int .i64 qk, .bool qneg, .slice qod qd.length qcd, .string qnm, .int .i64 qn, .slice qol ql.length qcl, .slice qob qb.length qcb])) ?_ (fun s w h => h.o3) ?_ ?_ ?_ ?_ ?_ _ _ u47 u52 u8 u9 ?_ ?_
        · kernel_rfl
        · intro s w' hR
          refine wpOp_step rfl (fun K' hK => ?_)
          have hK' := shut hK
          clear hK
          subst ha0
          simp only [Act.put, List.setIfInBounds_toArray, List.set_cons_zero, List.set_cons_succ]
          go_simp
          refine (pruned_w k neg od d.length cd nm n ol l.length cl ob b.length cb _).mono ?_
          rintro e w2 ⟨rfl, b2⟩
          rw [hpv]
          try go_simp
          refine hK'.out _ _ ⟨_, ?_, hR.c1 b2, hS.out _ (hR.c1 b2).bel⟩
          rfl
        · intro s w' hR he
          refine wpOp_step rfl (fun K' hK => ?_)
          have hK' := shut hK
          clear hK
          subst ha0
          simp only [Act.put, List.setIfInBounds_toArray, List.set_cons_zero, List.set_cons_succ]
          go_simp
          refine (pruned_w k' neg' od' d'.length cd' nm' n' ol' l'.length cl' ob' b'.length cb' _).mono ?_
          rintro e w2 ⟨rfl, b2⟩
          rw [hqv]
          try go_simp
          refine hK'.out _ _ ⟨_, ?_, hR.c3 he b2, hS.out _ (hR.c3 he b2).bel⟩
          rfl
        · intro s w' hR
          refine wpOp_step rfl (fun K' hK => ?_)
          have hK' := shut hK
          clear hK
          subst ha0
          simp only [Act.put, List.setIfInBounds_toArray, List.set_cons_zero, List.set_cons_succ]
          go_simp
          refine hK'.out _ _ ⟨_, ?_, hR.n4 31, hS.out _ (hR.n4 31).bel⟩
          rfl
        · intro s w' hR
          refine wpOp_step rfl (fun K' hK => ?_)
          have hK' := shut hK
          clear hK
          subst ha0
          simp only [Act.put, List.setIfInBounds_toArray, List.set_cons_zero, List.set_cons_succ]
          go_simp
          refine hK'.out _ _ ⟨_, ?_, hR.n5 31, hS.out _ (hR.n5 31).bel⟩
          rfl
        · intro x1 x3 x4 x5 w' hR
          obtain rfl := hR.h1 rfl
          obtain rfl := hR.h3 rfl
          obtain ⟨g8, rfl, n8, z8, k8⟩ := hR.h4 rfl
          obtain ⟨g9, rfl, n9, z9, k9⟩ := hR.h5 rfl
          have e89 : g8 ≠ g9 := fun e => hR.h45 rfl rfl (by rw [e])
          have hb0 := hR.bel
          clear hR
          obtain ⟨u0, u1, u2, u3, u4, u5, u6⟩ := k8.res
          have uf := k8.fr
          subst ha0
          try simp only [Act.put, List.setIfInBounds_toArray, List.set_cons_zero, List.set_cons_succ]
          refine wpAnyH_ready (rs := [12]) (by kernel_rfl) (by simp) ?_
          refine AllReadyH.cons rfl (fun K hK => ?_) AllReadyH.nil
          go_simp
          have hb7 := hb0.trans ((only_put w' g8 (.int .i64 pk) (.bool pneg) (.slice pod pd.length pcd) (.string pnm) (.int .i64 pn) (.slice pol 0 pcl) (.slice pob pb.length pcb)).below (B := W1.heap.size) n8)
          have k8a := k8.put (b0 := .int .i64 pk) (b1 := .bool pneg) (b2 := .slice pod pd.length pcd) (b3 := .string pnm) (b4 := .int .i64 pn) (b5 := .slice pol 0 pcl) (b6 := .slice pob pb.length pcb)
          have k9a := k9.only (only_put w' g8 (.int .i64 pk) (.bool pneg) (.slice pod pd.length pcd) (.string pnm) (.int .i64 pn) (.slice pol 0 pcl) (.slice pob pb.length pcb)) e89.symm
          clear u0 u1 u2 u3 u4 u5 u6 uf k8 k9 hb0
          obtain ⟨u0, u1, u2, u3, u4, u5, u6⟩ := k9a.res
          have uf := k9a.fr
          generalize (((((((w'.setCell ⟨g8, 0, none⟩ (.int .i64 pk)).setCell ⟨g8, 1, none⟩ (.bool pneg)).setCell ⟨g8, 2, none⟩ (.slice pod pd.length pcd)).setCell ⟨g8, 3, none⟩ (.string pnm)).setCell ⟨g8, 4, none⟩ (.int .i64 pn)).setCell ⟨g8, 5, none⟩ (.slice pol 0 pcl)).setCell ⟨g8, 6, none⟩ (.slice pob pb.length pcb)) = wA at *
          try go_simp
          refine hK.out _ _ ?_ (fun hHeld => ?_)
          · exact hS.out _ (by assumption)
          clear hK K
          try simp (maxSteps := 10000000) only [List.getElem_toArray, List.getElem_cons_succ, List.getElem_cons_zero, Act.put, List.setIfInBounds_toArray, List.set_cons_zero, List.set_cons_succ]
          refine wpAnyH_ready (rs := [13]) (by kernel_rfl) (by simp) ?_
          refine AllReadyH.cons rfl (fun K hK => ?_) AllReadyH.nil
          go_simp
          have hb8 := hb7.trans ((only_put wA g9 (.int .i64 qk) (.bool qneg) (.slice qod qd.length qcd) (.string qnm) (.int .i64 qn) (.slice qol ql.length qcl) (.slice qob qb.length qcb)).below (B := W1.heap.size) n9)
          have k9b := k9a.put (b0 := .int .i64 qk) (b1 := .bool qneg) (b2 := .slice qod qd.length qcd) (b3 := .string qnm) (b4 := .int .i64 qn) (b5 := .slice qol ql.length qcl) (b6 := .slice qob qb.length qcb)
          have k8b := k8a.only (only_put wA g9 (.int .i64 qk) (.bool qneg) (.slice qod qd.length qcd) (.string qnm) (.int .i64 qn) (.slice qol ql.length qcl) (.slice qob qb.length qcb)) e89
          clear u0 u1 u2 u3 u4 u5 u6 uf k8a k9a hb7
          generalize (((((((wA.setCell ⟨g9, 0, none⟩ (.int .i64 qk)).setCell ⟨g9, 1, none⟩ (.bool qneg)).setCell ⟨g9, 2, none⟩ (.slice qod qd.length qcd)).setCell ⟨g9, 3, none⟩ (.string qnm)).setCell ⟨g9, 4, none⟩ (.int .i64 qn)).setCell ⟨g9, 5, none⟩ (.slice qol ql.length qcl)).setCell ⟨g9, 6, none⟩ (.slice qob qb.length qcb)) = wB at *
          try go_simp
          refine hK.out _ _ ?_ (fun hHeld => ?_)
          · exact hS.out _ (by assumption)
          clear hK K
          try simp (maxSteps := 10000000) only [List.getElem_toArray, List.getElem_cons_succ, List.getElem_cons_zero, Act.put, List.setIfInBounds_toArray, List.set_cons_zero, List.set_cons_succ]
          refine wpAnyH_done (by kernel_rfl) ?_ _
          go_wp2_with fail
          go_meet
          exact ⟨g8, g9, rfl, rfl, k8b, k9b, hb8⟩
        · subst ha0; rfl
        · exact ⟨hDr, by have := hDr.size; omega, fun h => by simp at h, fun h => by simp at h, fun h => by simp at h, fun h => by simp at h, fun h => by simp at h, fun h => by simp at h⟩
      case rest =>
        obtain ⟨g8, g9, rfl, rfl, k8, k9, bw⟩ := hcut
        obtain ⟨V, rfl⟩ : ∃ x, x = wc := ⟨_, rfl⟩
        have BV := below_and hB1 (by omega) bw
        have iA := tv_below hpA0 BV
        have iB := tv_below hpB0 BV
        have hda : pd.length ≤ 1000000 := hpoA.1
        have hdb : qd.length ≤ 1000000 := hpoB.1
        clear hS hDr kx7 kA1 kB1 hz1 hlt7 hz0
        obtain ⟨s0, s1, s2, s3, s4, s5, s6⟩ := k8.res
        obtain ⟨t0, t1, t2, t3, t4, t5, t6⟩ := k9.res
        go_wp2_with fail
        refine (alike_w pk pneg pd pnm pn [] pb qk qneg qd qnm qn ql qb _ _ V hda hdb iA iB).mono ?_
        rintro e w2 ⟨rfl, b2⟩
        rw [hHR.out]
        have B2 := below_and BV (Nat.le_refl _) b2
        cases R
        · go_wp2_with fail
          go_ret
          exact ⟨rfl, B2⟩
        · have k8' := k8.below b2
          clear s0 s1 s2 s3 s4 s5 s6 t0 t1 t2 t3 t4 t5 t6
          obtain ⟨s0, s1, s2, s3, s4, s5, s6⟩ := k8'.res
          go_wp2_with fail
          go_roundg 0
          · exact ⟨0, rfl, by omega, rfl, B2, fun h => by omega, fun _ => trivial⟩
          · omega
end Go.Proofs.YtpdoepjnkgffpaaDoor
