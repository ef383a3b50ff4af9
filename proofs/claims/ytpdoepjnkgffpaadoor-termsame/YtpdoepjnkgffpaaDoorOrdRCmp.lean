/- Compare of the reference. -/
import Derived.Test.YtpdoepjnkgffpaaDoorOrdRB
namespace Go.Proofs.YtpdoepjnkgffpaaDoor
open Go.ChangeShapes Go.WideShapes Go.ChangeAt Go.ChangeMaps Go.RowKit Go.Shelf
set_option linter.unusedSimpArgs false
set_option linter.unusedVariables false
set_option maxRecDepth 2000
set_option maxHeartbeats 8000000 in
set_option maxRecDepth 8000 in
theorem rCompare_w : ∀ (N : Nat) (A U : Tm) (va vb : Value) (w : World), tsz A ≤ N → (∀ p ∈ parts A, p.ok1) → (∀ p ∈ parts U, p.ok1) → TV (Low w) w A va → TV (Low w) w U vb → Tabs w →
    Calls Tryd.prog 28 #[va, vb] w fun e w' => e = .returned (.int .i64 (cT A U)) ∧ Below w.heap.size w w' := by
  intro N
  induction N with
  | zero => intro A U va vb w h; cases A; simp only [tsz] at h; omega
  | succ N ih =>
  intro A U va vb w hN hokA hokU hA hU hT
  have hA1 := hokA A (by rw [parts_eq]; simp)
  have hU1 := hokU U (by rw [parts_eq]; simp)
  have hok := hid (And.intro hokA hokU)
  clear hokA hokU
  cases A with | mk k neg d nm n l b =>
  cases U with | mk k' neg' d' nm' n' l' b' =>
  obtain ⟨hd1, hn1, hll, hb1, hm1⟩ : d.length ≤ 1000000 ∧ nm.size ≤ 1000000 ∧ l.length ≤ 1000000 ∧ b.length ≤ 1000000 ∧ Lm 4294967296 d := hA1
  obtain ⟨hd2, hn2, hll2, hb2, hm2⟩ : d'.length ≤ 1000000 ∧ nm'.size ≤ 1000000 ∧ l'.length ≤ 1000000 ∧ b'.length ≤ 1000000 ∧ Lm 4294967296 d' := hU1
  unfold TV at hA hU
  obtain ⟨od, cd, ol, cl, ob, cb, rfl, g1, g2, g3, g4, g5, g6, g7⟩ := hA
  obtain ⟨od', cd', ol', cl', ob', cb', rfl, j1, j2, j3, j4, j5, j6, j7⟩ := hU
  have htR := hid g7
  have huR := hid j7
  have hIH := hid ih
  obtain ⟨R, hR⟩ : ∃ R, cT (.mk k neg d nm n l b) (.mk k' neg' d' nm' n' l' b') = R := ⟨_, rfl⟩
  rw [hR]
  have HR := hid hR
  clear ih g7 j7 hR
  obtain ⟨kA, kB, hB0, hz0⟩ := bx2 w (.int .i64 k) (.bool neg) (.slice od d.length cd) (.string nm) (.int .i64 n) (.slice ol l.length cl) (.slice ob b.length cb) (.int .i64 k') (.bool neg') (.slice od' d'.length cd') (.string nm') (.int .i64 n') (.slice ol' l'.length cl') (.slice ob' b'.length cb') 31 31
  have q : ∀ w', Below w.heap.size w w' → Zs (Low w) w w' := fun w' hb k hk => hb.block k hk
  have hlow : ∀ {w'}, Below w.heap.size w w' → ∀ k, k < w'.heap.size → Low w k → Low w' k := fun hb k hk _ => hk
  go_enter Tryd.func28, Tryd.ntmps28
  by_cases hk : k = k'
  case neg =>
    have f1 : (k != k') = true := by simpa using hk
    have f2 : (k == k') = false := by simpa using hk
    have hR2 : Hid (R = cmpZ k k') := hid (by rw [← HR.out, cT_kind hk])
    clear hk
    go_wp2_with fail
    refine (order_w _ _ _).mono ?_
    rintro e w2 ⟨rfl, rfl⟩
    go_wp2
    go_ret
    exact ⟨by rw [hR2.out]; rfl, hB0⟩
  subst hk
  by_cases hk0 : k = 0
  · subst hk0
    have hR2 : Hid (R = cmpZ (sv neg (gval 4294967296 d)) (sv neg' (gval 4294967296 d'))) := hid (by rw [← HR.out, cT_0])
    have hNX := (show IsN (.agg #[.bool neg, .slice od d.length cd]) (sv neg (gval 4294967296 d)) 1000000 _ from ⟨neg, od, d, cd, rfl, (g1.zs (q _ hB0)).lies, g2, g3, rfl, hd1⟩)
    have hNY := (show IsN (.agg #[.bool neg', .slice od' d'.length cd']) (sv neg' (gval 4294967296 d')) 1000000 _ from ⟨neg', od', d', cd', rfl, (j1.zs (q _ hB0)).lies, j2, j3, rfl, hd2⟩)
    go_wp2_with fail
    refine (rcmp_w _ _ _ _ 1000000 _ (by omega) hNX hNY).mono ?_
    rintro e w2 ⟨rfl, b2⟩
    go_wp2
    go_ret
    exact ⟨by rw [hR2.out]; rfl, below_and hB0 (Nat.le_refl _) b2⟩
  by_cases hk1 : k = 1
  · subst hk1
    have hR2 : Hid (R = lessZ nm.data.toList nm'.data.toList) := hid (by rw [← HR.out, cT_1])
    have hT2 := hT.below hB0
    go_wp2_with fail
    refine (rless_w nm nm' _ hn1 hn2 hT2).mono ?_
    rintro e w2 ⟨rfl, b2⟩
    go_wp2
    go_ret
    exact ⟨by rw [hR2.out]; rfl, below_and hB0 (Nat.le_refl _) b2⟩
  by_cases hk2 : k = 2
  · subst hk2
    have hR2 : Hid (R = cmpZ n n') := hid (by rw [← HR.out, cT_2])
    go_wp2_with fail
    refine (order_w _ _ _).mono ?_
    rintro e w2 ⟨rfl, rfl⟩
    go_wp2
    go_ret
    exact ⟨by rw [hR2.out]; rfl, hB0⟩
  by_cases hk3 : k = 3
  · subst hk3
    have hR2 : Hid (R = cmpZ n n') := hid (by rw [← HR.out, cT_3])
    go_wp2_with fail
    refine (order_w _ _ _).mono ?_
    rintro e w2 ⟨rfl, rfl⟩
    go_wp2
    go_ret
    exact ⟨by rw [hR2.out]; rfl, hB0⟩
  by_cases hk7 : k = 7
  · subst hk7
    have hR2 : Hid (R = lexZ b b') := hid (by rw [← HR.out, cT_7])
    have i1 := (g4.zs (q _ hB0)).mono (hlow hB0)
    have i2 := (j4.zs (q _ hB0)).mono (hlow hB0)
    go_wp2_with fail
    refine (rbytes_w ob ob' cb cb' b b' _ hb1 hb2 i1 i2).mono ?_
    rintro e w2 ⟨rfl, b2⟩
    go_wp2
    go_ret
    exact ⟨by rw [hR2.out]; rfl, below_and hB0 (Nat.le_refl _) b2⟩
  by_cases hk4 : k = 4
  · subst hk4
    clear q hlow g1 g2 g3 g4 g5 g6 j1 j2 j3 j4 j5 j6
    by_cases hl2 : l.length = l'.length
    · have hHR : Hid (cR l l' = R) := hid (by rw [← HR.out, cT_4, hl2, cz_self, lx_zero])
      have hel := hid hl2
      have f3 : ((l.length : Int) != (l'.length : Int)) = false := by simp [hl2]
      have f4 : ((l.length : Int) == (l'.length : Int)) = true := by simp [hl2]
      have hok2 : Hid (∀ p ∈ partsL l, p.ok1) := hid (fun p hp' => hok.out.1 p (by simp [parts, hp']))
      have hok2' : Hid (∀ p ∈ partsL l', p.ok1) := hid (fun p hp' => hok.out.2 p (by simp [parts, hp']))
      clear hl2
      go_wp2_with fail
      generalize ((w.alloc (.cells #[.int .i64 4, .bool neg, .slice od d.length cd, .string nm, .int .i64 n, .slice ol l.length cl, .slice ob b.length cb] 31)).alloc (.cells #[.int .i64 4, .bool neg', .slice od' d'.length cd', .string nm', .int .i64 n', .slice ol' l'.length cl', .slice ob' b'.length cb'] 31)) = W0 at *
      go_loopg [5] l.length (fun t v5 wr => ∃ (i : Nat), t + i = l.length ∧ v5 = .int .i64 (i : Int) ∧ Hid (cR (l.drop i) (l'.drop i) = R) ∧ Bx w.heap.size (.int .i64 4) (.bool neg) (.slice od d.length cd) (.string nm) (.int .i64 n) (.slice ol l.length cl) (.slice ob b.length cb) wr ∧ Bx (w.heap.size + 1) (.int .i64 4) (.bool neg') (.slice od' d'.length cd') (.string nm') (.int .i64 n') (.slice ol' l'.length cl') (.slice ob' b'.length cb') wr ∧ Below w.heap.size w wr)
      case atStart => exact ⟨0, by omega, rfl, hid (by simpa using hHR.out), kA, kB, hB0⟩
      case round =>
        obtain ⟨i, hti, rfl, hH, kA', kB', hBr⟩ := hrel
        clear kA kB hB0
        obtain ⟨x0, x1, x2, x3, x4, x5, x6⟩ := kA'.res
        obtain ⟨z0, z1, z2, z3, z4, z5, z6⟩ := kB'.res
        by_cases hil : i < l.length
        · have hii : ((i : Nat) : Int) < ((l.length : Nat) : Int) := by omega
          have hil' : i < l'.length := by have := hel.out; omega
          have hii' : ((i : Nat) : Int) < ((l'.length : Nat) : Int) := by omega
          obtain ⟨t, ht⟩ : ∃ t, l[i]? = some t := ⟨l[i], by simp [hil]⟩
          obtain ⟨t', ht'⟩ : ∃ t', l'[i]? = some t' := ⟨l'[i], by simp [hil']⟩
          obtain ⟨pa, pk, pneg, pod, pld, pcd, pnm, pn, pol, pll, pcl, pob, plb, pcb, rfl, hTp, y0, y1, y2, y3, y4, y5, y6⟩ := htR.out.get ht hBr
          obtain ⟨qa, qk, qneg, qod, qld, qcd, qnm, qn, qol, qll, qcl, qob, qlb, qcb, rfl, hTq, u0, u1, u2, u3, u4, u5, u6⟩ := huR.out.get ht' hBr
          have hsz : tsz t ≤ N := by have := tsz_mem ht; simp only [tsz] at hN; omega
          have hokt : ∀ p ∈ parts t, p.ok1 := fun p hp => hok2.out p (mem_partsL ht hp)
          have hokt' : ∀ p ∈ parts t', p.ok1 := fun p hp => hok2'.out p (mem_partsL ht' hp)
          have hTr := hT.below hBr
          have hstep : Hid (cR (l.drop i) (l'.drop i) = lx (cT t t') (cR (l.drop (i + 1)) (l'.drop (i + 1)))) := hid (by
            rw [List.drop_eq_getElem_cons hil, List.drop_eq_getElem_cons hil', cR_cons]
            rw [show l[i] = t from by simpa [hil] using ht, show l'[i] = t' from by simpa [hil'] using ht'])
          clear ht ht' hil'
          have hDr : Below wr.heap.size wr wr.drew := (Below.refl _ wr).drew
          have hS : Hid (∀ w', Below wr.heap.size wr w' → (w'.cell? ⟨w.heap.size, 0, none⟩ = some (.int .i64 4) ∧ w'.cell? ⟨w.heap.size, 1, none⟩ = some (.bool neg) ∧ w'.cell? ⟨w.heap.size, 2, none⟩ = some (.slice od d.length cd) ∧ w'.cell? ⟨w.heap.size, 3, none⟩ = some (.string nm) ∧ w'.cell? ⟨w.heap.size, 4, none⟩ = some (.int .i64 n) ∧ w'.cell? ⟨w.heap.size, 5, none⟩ = some (.slice (some pa) l.length cl) ∧ w'.cell? ⟨w.heap.size, 6, none⟩ = some (.slice ob b.length cb) ∧ w'.cell? ⟨w.heap.size + 1, 0, none⟩ = some (.int .i64 4) ∧ w'.cell? ⟨w.heap.size + 1, 1, none⟩ = some (.bool neg') ∧ w'.cell? ⟨w.heap.size + 1, 2, none⟩ = some (.slice od' d'.length cd') ∧ w'.cell? ⟨w.heap.size + 1, 3, none⟩ = some (.string nm') ∧ w'.cell? ⟨w.heap.size + 1, 4, none⟩ = some (.int .i64 n') ∧ w'.cell? ⟨w.heap.size + 1, 5, none⟩ = some (.slice (some qa) l'.length cl') ∧ w'.cell? ⟨w.heap.size + 1, 6, none⟩ = some (.slice ob' b'.length cb') ∧ w'.cell? (pa.add (i * 7)) = some (.int .i64 pk) ∧ w'.cell? ⟨(pa.add (i * 7)).block, (pa.add (i * 7)).off + 1, none⟩ = some (.bool pneg) ∧ w'.cell? ⟨(pa.add (i * 7)).block, (pa.add (i * 7)).off + 2, none⟩ = some (.slice pod pld pcd) ∧ w'.cell? ⟨(pa.add (i * 7)).block, (pa.add (i * 7)).off + 3, none⟩ = some (.string pnm) ∧ w'.cell? ⟨(pa.add (i * 7)).block, (pa.add (i * 7)).off + 4, none⟩ = some (.int .i64 pn) ∧ w'.cell? ⟨(pa.add (i * 7)).block, (pa.add (i * 7)).off + 5, none⟩ = some (.slice pol pll pcl) ∧ w'.cell? ⟨(pa.add (i * 7)).block, (pa.add (i * 7)).off + 6, none⟩ = some (.slice pob plb pcb) ∧ w'.cell? (qa.add (i * 7)) = some (.int .i64 qk) ∧ w'.cell? ⟨(qa.add (i * 7)).block, (qa.add (i * 7)).off + 1, none⟩ = some (.bool qneg) ∧ w'.cell? ⟨(qa.add (i * 7)).block, (qa.add (i * 7)).off + 2, none⟩ = some (.slice qod qld qcd) ∧ w'.cell? ⟨(qa.add (i * 7)).block, (qa.add (i * 7)).off + 3, none⟩ = some (.string qnm) ∧ w'.cell? ⟨(qa.add (i * 7)).block, (qa.add (i * 7)).off + 4, none⟩ = some (.int .i64 qn) ∧ w'.cell? ⟨(qa.add (i * 7)).block, (qa.add (i * 7)).off + 5, none⟩ = some (.slice qol qll qcl) ∧ w'.cell? ⟨(qa.add (i * 7)).block, (qa.add (i * 7)).off + 6, none⟩ = some (.slice qob qlb qcb))) := hid (fun w' hb => by
            obtain ⟨x0, x1, x2, x3, x4, x5, x6⟩ := (kA'.below hb).res
            obtain ⟨z0, z1, z2, z3, z4, z5, z6⟩ := (kB'.below hb).res
            have q : ∀ {a : Addr} {v : Value}, wr.cell? a = some v → w'.cell? a = some v := fun h => (hb.cell (World.block_lt_of_cell? _ _ h)).trans h
            exact ⟨x0, x1, x2, x3, x4, x5, x6, z0, z1, z2, z3, z4, z5, z6, q y0, q y1, q y2, q y3, q y4, q y5, q y6, q u0, q u1, q u2, q u3, q u4, q u5, q u6⟩)
          clear y0 y1 y2 y3 y4 y5 y6 u0 u1 u2 u3 u4 u5 u6
          go_wp2_with fail
          clear x0 x1 x2 x3 x4 x5 x6 z0 z1 z2 z3 z4 z5 z6
          refine wp_region_held_drew (S := fun w' => w'.cell? ⟨w.heap.size, 0, none⟩ = some (.int .i64 4) ∧ w'.cell? ⟨w.heap.size, 1, none⟩ = some (.bool neg) ∧ w'.cell? ⟨w.heap.size, 2, none⟩ = some (.slice od d.length cd) ∧ w'.cell? ⟨w.heap.size, 3, none⟩ = some (.string nm) ∧ w'.cell? ⟨w.heap.size, 4, none⟩ = some (.int .i64 n) ∧ w'.cell? ⟨w.heap.size, 5, none⟩ = some (.slice (some pa) l.length cl) ∧ w'.cell? ⟨w.heap.size, 6, none⟩ = some (.slice ob b.length cb) ∧ w'.cell? ⟨w.heap.size + 1, 0, none⟩ = some (.int .i64 4) ∧ w'.cell? ⟨w.heap.size + 1, 1, none⟩ = some (.bool neg') ∧ w'.cell? ⟨w.heap.size + 1, 2, none⟩ = some (.slice od' d'.length cd') ∧ w'.cell? ⟨w.heap.size + 1, 3, none⟩ = some (.string nm') ∧ w'.cell? ⟨w.heap.size + 1, 4, none⟩ = some (.int .i64 n') ∧ w'.cell? ⟨w.heap.size + 1, 5, none⟩ = some (.slice (some qa) l'.length cl') ∧ w'.cell? ⟨w.heap.size + 1, 6, none⟩ = some (.slice ob' b'.length cb') ∧ w'.cell? (pa.add (i * 7)) = some (.int .i64 pk) ∧ w'.cell? ⟨(pa.add (i * 7)).block, (pa.add (i * 7)).off + 1, none⟩ = some (.bool pneg) ∧ w'.cell? ⟨(pa.add (i * 7)).block, (pa.add (i * 7)).off + 2, none⟩ = some (.slice pod pld pcd) ∧ w'.cell? ⟨(pa.add (i * 7)).block, (pa.add (i * 7)).off + 3, none⟩ = some (.string pnm) ∧ w'.cell? ⟨(pa.add (i * 7)).block, (pa.add (i * 7)).off + 4, none⟩ = some (.int .i64 pn) ∧ w'.cell? ⟨(pa.add (i * 7)).block, (pa.add (i * 7)).off + 5, none⟩ = some (.slice pol pll pcl) ∧ w'.cell? ⟨(pa.add (i * 7)).block, (pa.add (i * 7)).off + 6, none⟩ = some (.slice pob plb pcb) ∧ w'.cell? (qa.add (i * 7)) = some (.int .i64 qk) ∧ w'.cell? ⟨(qa.add (i * 7)).block, (qa.add (i * 7)).off + 1, none⟩ = some (.bool qneg) ∧ w'.cell? ⟨(qa.add (i * 7)).block, (qa.add (i * 7)).off + 2, none⟩ = some (.slice qod qld qcd) ∧ w'.cell? ⟨(qa.add (i * 7)).block, (qa.add (i * 7)).off + 3, none⟩ = some (.string qnm) ∧ w'.cell? ⟨(qa.add (i * 7)).block, (qa.add (i * 7)).off + 4, none⟩ = some (.int .i64 qn) ∧ w'.cell? ⟨(qa.add (i * 7)).block, (qa.add (i * 7)).off + 5, none⟩ = some (.slice qol qll qcl) ∧ w'.cell? ⟨(qa.add (i * 7)).block, (qa.add (i * 7)).off + 6, none⟩ = some (.slice qob qlb qcb)) (by kernel_rfl) (by exact hS.out _ hDr) (fun hHeld => ?_)
          refine wpAnyH_take (i := 0) (oi := _) (v := ?_) rfl (by kernel_rfl) (by kernel_rfl) (by kernel_rfl) (fun _ _ _ h => h) (Or.inl ⟨by rfl, ?_⟩) (by assumption) ?_
          rotate_left 1
          · (intro w hSw; (try dsimp only at hSw); go_simp; try with_reducible rfl)
          try simp (maxSteps := 10000000) only [List.getElem_toArray, List.getElem_cons_succ, List.getElem_cons_zero, Act.put, List.setIfInBounds_toArray, List.set_cons_zero, List.set_cons_succ]
          refine wpAnyH_take (i := 1) (oi := _) (v := ?_) rfl (by kernel_rfl) (by kernel_rfl) (by kernel_rfl) (fun _ _ _ h => h) (Or.inl ⟨by rfl, ?_⟩) (by assumption) ?_
          rotate_left 1
          · (intro w hSw; (try dsimp only at hSw); go_simp; try with_reducible rfl)
          try simp (maxSteps := 10000000) only [List.getElem_toArray, List.getElem_cons_succ, List.getElem_cons_zero, Act.put, List.setIfInBounds_toArray, List.set_cons_zero, List.set_cons_succ]
          refine wpAnyH_take (i := 2) (oi := _) (v := ?_) rfl (by kernel_rfl) (by kernel_rfl) (by kernel_rfl) (fun _ _ _ h => h) (Or.inl ⟨by rfl, ?_⟩) (by assumption) ?_
          rotate_left 1
          · (intro w hSw; (try dsimp only at hSw); go_simp; try with_reducible rfl)
          try simp (maxSteps := 10000000) only [List.getElem_toArray, List.getElem_cons_succ, List.getElem_cons_zero, Act.put, List.setIfInBounds_toArray, List.set_cons_zero, List.set_cons_succ]
          refine wpAnyH_take (i := 3) (oi := _) (v := ?_) rfl (by kernel_rfl) (by kernel_rfl) (by kernel_rfl) (fun _ _ _ h => h) (Or.inl ⟨by rfl, ?_⟩) (by assumption) ?_
          rotate_left 1
          · (intro w hSw; (try dsimp only at hSw); go_simp; try with_reducible rfl)
          try simp (maxSteps := 10000000) only [List.getElem_toArray, List.getElem_cons_succ, List.getElem_cons_zero, Act.put, List.setIfInBounds_toArray, List.set_cons_zero, List.set_cons_succ]
          refine wpAnyH_take (i := 4) (oi := _) (v := ?_) rfl (by kernel_rfl) (by kernel_rfl) (by kernel_rfl) (fun _ _ _ h => h) (Or.inl ⟨by rfl, ?_⟩) (by assumption) ?_
          rotate_left 1
          · (intro w hSw; (try dsimp only at hSw); go_simp; try with_reducible rfl)
          try simp (maxSteps := 10000000) only [List.getElem_toArray, List.getElem_cons_succ, List.getElem_cons_zero, Act.put, List.setIfInBounds_toArray, List.set_cons_zero, List.set_cons_succ]
          refine wpAnyH_take (i := 5) (oi := _) (v := ?_) rfl (by kernel_rfl) (by kernel_rfl) (by kernel_rfl) (fun _ _ _ h => h) (Or.inl ⟨by rfl, ?_⟩) (by assumption) ?_
          rotate_left 1
          · (intro w hSw; (try dsimp only at hSw); go_simp; try with_reducible rfl)
          try simp (maxSteps := 10000000) only [List.getElem_toArray, List.getElem_cons_succ, List.getElem_cons_zero, Act.put, List.setIfInBounds_toArray, List.set_cons_zero, List.set_cons_succ]
          refine wpAnyH_take (i := 6) (oi := _) (v := ?_) rfl (by kernel_rfl) (by kernel_rfl) (by kernel_rfl) (fun _ _ _ h => h) (Or.inl ⟨by rfl, ?_⟩) (by assumption) ?_
          rotate_left 1
          · (intro w hSw; (try dsimp only at hSw); go_simp; try with_reducible rfl)
          try simp (maxSteps := 10000000) only [List.getElem_toArray, List.getElem_cons_succ, List.getElem_cons_zero, Act.put, List.setIfInBounds_toArray, List.set_cons_zero, List.set_cons_succ]
          refine wpAnyH_take (i := 7) (oi := _) (v := ?_) rfl (by kernel_rfl) (by kernel_rfl) (by kernel_rfl) (fun _ _ _ h => h) (Or.inl ⟨by rfl, ?_⟩) (by assumption) ?_
          rotate_left 1
          · (intro w hSw; (try dsimp only at hSw); go_simp; try with_reducible rfl)
          try simp (maxSteps := 10000000) only [List.getElem_toArray, List.getElem_cons_succ, List.getElem_cons_zero, Act.put, List.setIfInBounds_toArray, List.set_cons_zero, List.set_cons_succ]
          refine wpAnyH_take (i := 8) (oi := _) (v := ?_) rfl (by kernel_rfl) (by kernel_rfl) (by kernel_rfl) (fun _ _ _ h => h) (Or.inl ⟨by rfl, ?_⟩) (by assumption) ?_
          rotate_left 1
          · (intro w hSw; (try dsimp only at hSw); go_simp; try with_reducible rfl)
          try simp (maxSteps := 10000000) only [List.getElem_toArray, List.getElem_cons_succ, List.getElem_cons_zero, Act.put, List.setIfInBounds_toArray, List.set_cons_zero, List.set_cons_succ]
          refine wpAnyH_take (i := 9) (oi := _) (v := ?_) rfl (by kernel_rfl) (by kernel_rfl) (by kernel_rfl) (fun _ _ _ h => h) (Or.inl ⟨by rfl, ?_⟩) (by assumption) ?_
          rotate_left 1
          · (intro w hSw; (try dsimp only at hSw); go_simp; try with_reducible rfl)
          try simp (maxSteps := 10000000) only [List.getElem_toArray, List.getElem_cons_succ, List.getElem_cons_zero, Act.put, List.setIfInBounds_toArray, List.set_cons_zero, List.set_cons_succ]
          refine wpAnyH_ready (rs := [10]) (by kernel_rfl) (by simp) ?_
          refine AllReadyH.cons rfl (fun K hK => ?_) AllReadyH.nil
          go_simp
          refine (hIH.out t t' _ _ _ hsz hokt hokt' (tv_below hTp hDr) (tv_below hTq hDr) (hTr.below hDr)).mono ?_
          rintro e w2 ⟨rfl, b2⟩
          have c2 : Below wr.heap.size wr w2 := below_and hDr (Nat.le_refl _) b2
          try go_simp
          refine hK.out _ _ ?_ (fun hHeld => ?_)
          · exact hS.out _ (by assumption)
          clear hK K
          try simp (maxSteps := 10000000) only [List.getElem_toArray, List.getElem_cons_succ, List.getElem_cons_zero, Act.put, List.setIfInBounds_toArray, List.set_cons_zero, List.set_cons_succ]
          refine wpAnyH_take (i := 11) (oi := _) (v := ?_) rfl (by kernel_rfl) (by kernel_rfl) (by kernel_rfl) (fun _ _ _ h => h) (Or.inl ⟨by rfl, ?_⟩) (by assumption) ?_
          rotate_left 1
          · (intro w hSw; (try dsimp only at hSw); go_simp; try with_reducible rfl)
          try simp (maxSteps := 10000000) only [List.getElem_toArray, List.getElem_cons_succ, List.getElem_cons_zero, Act.put, List.setIfInBounds_toArray, List.set_cons_zero, List.set_cons_succ]
          refine wpAnyH_done (by kernel_rfl) ?_ _
          have kA2 := kA'.below c2
          have kB2 := kB'.below c2
          have hB2 := below_and hBr (by have := hBr.size; omega) c2
          obtain ⟨X, hX⟩ : ∃ X, cT t t' = X := ⟨_, rfl⟩
          rw [hX]
          have HX := hid hX
          clear hX hS hDr hHeld c2 b2 kA' kB' hBr hTp hTq hTr hokt hokt'
          by_cases hx : X = 0
          · subst hx
            go_wp2
            go_roundg (l.length - (i + 1))
            case measure => omega
            case rel =>
              refine ⟨i + 1, by omega, by go_num, hid ?_, kA2, kB2, hB2⟩
              have := hstep.out
              rw [HX.out, lx_zero] at this
              rw [← this]; exact hH.out
          · have f1 : (X == 0) = false := by simpa using hx
            have f2 : (X != 0) = true := by simpa using hx
            have hRx : R = X := by rw [← hH.out, hstep.out, HX.out, lx_ne hx]
            have HR2 := hid hRx
            clear hx hRx
            go_wp2
            go_ret
            exact ⟨by rw [HR2.out]; rfl, hB2⟩
        · have hii : ¬ ((i : Nat) : Int) < ((l.length : Nat) : Int) := by omega
          have hR0 : R = 0 := by rw [← hH.out, List.drop_eq_nil_of_le (by omega), cR_nil]
          have HR2 := hid hR0
          clear hR0
          go_wp2
          go_ret
          exact ⟨by rw [HR2.out]; rfl, hBr⟩
    · have hR2 : Hid (R = cmpZ (l.length : Int) (l'.length : Int)) := hid (by rw [← HR.out, cT_4, lx_ne (by rw [Ne, cz_zero]; omega)])
      have f3 : ((l.length : Int) != (l'.length : Int)) = true := by simp; omega
      have f4 : ((l.length : Int) == (l'.length : Int)) = false := by simp; omega
      clear hl2
      go_wp2_with fail
      refine (order_w _ _ _).mono ?_
      rintro e w2 ⟨rfl, rfl⟩
      go_wp2
      go_ret
      exact ⟨by rw [hR2.out]; rfl, hB0⟩
  by_cases hk6 : k = 6
  · subst hk6
    clear q hlow g1 g2 g3 g4 g5 g6 j1 j2 j3 j4 j5 j6
    by_cases hl2 : l.length = l'.length
    · have hHR : Hid (cR l l' = R) := hid (by rw [← HR.out, cT_6, hl2, cz_self, lx_zero])
      have hel := hid hl2
      have f3 : ((l.length : Int) != (l'.length : Int)) = false := by simp [hl2]
      have f4 : ((l.length : Int) == (l'.length : Int)) = true := by simp [hl2]
      have hok2 : Hid (∀ p ∈ partsL l, p.ok1) := hid (fun p hp' => hok.out.1 p (by simp [parts, hp']))
      have hok2' : Hid (∀ p ∈ partsL l', p.ok1) := hid (fun p hp' => hok.out.2 p (by simp [parts, hp']))
      clear hl2
      go_wp2_with fail
      generalize ((w.alloc (.cells #[.int .i64 6, .bool neg, .slice od d.length cd, .string nm, .int .i64 n, .slice ol l.length cl, .slice ob b.length cb] 31)).alloc (.cells #[.int .i64 6, .bool neg', .slice od' d'.length cd', .string nm', .int .i64 n', .slice ol' l'.length cl', .slice ob' b'.length cb'] 31)) = W0 at *
      go_loopg [5] l.length (fun t v5 wr => ∃ (i : Nat), t + i = l.length ∧ v5 = .int .i64 (i : Int) ∧ Hid (cR (l.drop i) (l'.drop i) = R) ∧ Bx w.heap.size (.int .i64 6) (.bool neg) (.slice od d.length cd) (.string nm) (.int .i64 n) (.slice ol l.length cl) (.slice ob b.length cb) wr ∧ Bx (w.heap.size + 1) (.int .i64 6) (.bool neg') (.slice od' d'.length cd') (.string nm') (.int .i64 n') (.slice ol' l'.length cl') (.slice ob' b'.length cb') wr ∧ Below w.heap.size w wr)
      case atStart => exact ⟨0, by omega, rfl, hid (by simpa using hHR.out), kA, kB, hB0⟩
      case round =>
        obtain ⟨i, hti, rfl, hH, kA', kB', hBr⟩ := hrel
        clear kA kB hB0
        obtain ⟨x0, x1, x2, x3, x4, x5, x6⟩ := kA'.res
        obtain ⟨z0, z1, z2, z3, z4, z5, z6⟩ := kB'.res
        by_cases hil : i < l.length
        · have hii : ((i : Nat) : Int) < ((l.length : Nat) : Int) := by omega
          have hil' : i < l'.length := by have := hel.out; omega
          have hii' : ((i : Nat) : Int) < ((l'.length : Nat) : Int) := by omega
          obtain ⟨t, ht⟩ : ∃ t, l[i]? = some t := ⟨l[i], by simp [hil]⟩
          obtain ⟨t', ht'⟩ : ∃ t', l'[i]? = some t' := ⟨l'[i], by simp [hil']⟩
          obtain ⟨pa, pk, pneg, pod, pld, pcd, pnm, pn, pol, pll, pcl, pob, plb, pcb, rfl, hTp, y0, y1, y2, y3, y4, y5, y6⟩ := htR.out.get ht hBr
          obtain ⟨qa, qk, qneg, qod, qld, qcd, qnm, qn, qol, qll, qcl, qob, qlb, qcb, rfl, hTq, u0, u1, u2, u3, u4, u5, u6⟩ := huR.out.get ht' hBr
          have hsz : tsz t ≤ N := by have := tsz_mem ht; simp only [tsz] at hN; omega
          have hokt : ∀ p ∈ parts t, p.ok1 := fun p hp => hok2.out p (mem_partsL ht hp)
          have hokt' : ∀ p ∈ parts t', p.ok1 := fun p hp => hok2'.out p (mem_partsL ht' hp)
          have hTr := hT.below hBr
          have hstep : Hid (cR (l.drop i) (l'.drop i) = lx (cT t t') (cR (l.drop (i + 1)) (l'.drop (i + 1)))) := hid (by
            rw [List.drop_eq_getElem_cons hil, List.drop_eq_getElem_cons hil', cR_cons]
            rw [show l[i] = t from by simpa [hil] using ht, show l'[i] = t' from by simpa [hil'] using ht'])
          clear ht ht' hil'
          have hDr : Below wr.heap.size wr wr.drew := (Below.refl _ wr).drew
          have hS : Hid (∀ w', Below wr.heap.size wr w' → (w'.cell? ⟨w.heap.size, 0, none⟩ = some (.int .i64 6) ∧ w'.cell? ⟨w.heap.size, 1, none⟩ = some (.bool neg) ∧ w'.cell? ⟨w.heap.size, 2, none⟩ = some (.slice od d.length cd) ∧ w'.cell? ⟨w.heap.size, 3, none⟩ = some (.string nm) ∧ w'.cell? ⟨w.heap.size, 4, none⟩ = some (.int .i64 n) ∧ w'.cell? ⟨w.heap.size, 5, none⟩ = some (.slice (some pa) l.length cl) ∧ w'.cell? ⟨w.heap.size, 6, none⟩ = some (.slice ob b.length cb) ∧ w'.cell? ⟨w.heap.size + 1, 0, none⟩ = some (.int .i64 6) ∧ w'.cell? ⟨w.heap.size + 1, 1, none⟩ = some (.bool neg') ∧ w'.cell? ⟨w.heap.size + 1, 2, none⟩ = some (.slice od' d'.length cd') ∧ w'.cell? ⟨w.heap.size + 1, 3, none⟩ = some (.string nm') ∧ w'.cell? ⟨w.heap.size + 1, 4, none⟩ = some (.int .i64 n') ∧ w'.cell? ⟨w.heap.size + 1, 5, none⟩ = some (.slice (some qa) l'.length cl') ∧ w'.cell? ⟨w.heap.size + 1, 6, none⟩ = some (.slice ob' b'.length cb') ∧ w'.cell? (pa.add (i * 7)) = some (.int .i64 pk) ∧ w'.cell? ⟨(pa.add (i * 7)).block, (pa.add (i * 7)).off + 1, none⟩ = some (.bool pneg) ∧ w'.cell? ⟨(pa.add (i * 7)).block, (pa.add (i * 7)).off + 2, none⟩ = some (.slice pod pld pcd) ∧ w'.cell? ⟨(pa.add (i * 7)).block, (pa.add (i * 7)).off + 3, none⟩ = some (.string pnm) ∧ w'.cell? ⟨(pa.add (i * 7)).block, (pa.add (i * 7)).off + 4, none⟩ = some (.int .i64 pn) ∧ w'.cell? ⟨(pa.add (i * 7)).block, (pa.add (i * 7)).off + 5, none⟩ = some (.slice pol pll pcl) ∧ w'.cell? ⟨(pa.add (i * 7)).block, (pa.add (i * 7)).off + 6, none⟩ = some (.slice pob plb pcb) ∧ w'.cell? (qa.add (i * 7)) = some (.int .i64 qk) ∧ w'.cell? ⟨(qa.add (i * 7)).block, (qa.add (i * 7)).off + 1, none⟩ = some (.bool qneg) ∧ w'.cell? ⟨(qa.add (i * 7)).block, (qa.add (i * 7)).off + 2, none⟩ = some (.slice qod qld qcd) ∧ w'.cell? ⟨(qa.add (i * 7)).block, (qa.add (i * 7)).off + 3, none⟩ = some (.string qnm) ∧ w'.cell? ⟨(qa.add (i * 7)).block, (qa.add (i * 7)).off + 4, none⟩ = some (.int .i64 qn) ∧ w'.cell? ⟨(qa.add (i * 7)).block, (qa.add (i * 7)).off + 5, none⟩ = some (.slice qol qll qcl) ∧ w'.cell? ⟨(qa.add (i * 7)).block, (qa.add (i * 7)).off + 6, none⟩ = some (.slice qob qlb qcb))) := hid (fun w' hb => by
            obtain ⟨x0, x1, x2, x3, x4, x5, x6⟩ := (kA'.below hb).res
            obtain ⟨z0, z1, z2, z3, z4, z5, z6⟩ := (kB'.below hb).res
            have q : ∀ {a : Addr} {v : Value}, wr.cell? a = some v → w'.cell? a = some v := fun h => (hb.cell (World.block_lt_of_cell? _ _ h)).trans h
            exact ⟨x0, x1, x2, x3, x4, x5, x6, z0, z1, z2, z3, z4, z5, z6, q y0, q y1, q y2, q y3, q y4, q y5, q y6, q u0, q u1, q u2, q u3, q u4, q u5, q u6⟩)
          clear y0 y1 y2 y3 y4 y5 y6 u0 u1 u2 u3 u4 u5 u6
          go_wp2_with fail
          clear x0 x1 x2 x3 x4 x5 x6 z0 z1 z2 z3 z4 z5 z6
          refine wp_region_held_drew (S := fun w' => w'.cell? ⟨w.heap.size, 0, none⟩ = some (.int .i64 6) ∧ w'.cell? ⟨w.heap.size, 1, none⟩ = some (.bool neg) ∧ w'.cell? ⟨w.heap.size, 2, none⟩ = some (.slice od d.length cd) ∧ w'.cell? ⟨w.heap.size, 3, none⟩ = some (.string nm) ∧ w'.cell? ⟨w.heap.size, 4, none⟩ = some (.int .i64 n) ∧ w'.cell? ⟨w.heap.size, 5, none⟩ = some (.slice (some pa) l.length cl) ∧ w'.cell? ⟨w.heap.size, 6, none⟩ = some (.slice ob b.length cb) ∧ w'.cell? ⟨w.heap.size + 1, 0, none⟩ = some (.int .i64 6) ∧ w'.cell? ⟨w.heap.size + 1, 1, none⟩ = some (.bool neg') ∧ w'.cell? ⟨w.heap.size + 1, 2, none⟩ = some (.slice od' d'.length cd') ∧ w'.cell? ⟨w.heap.size + 1, 3, none⟩ = some (.string nm') ∧ w'.cell? ⟨w.heap.size + 1, 4, none⟩ = some (.int .i64 n') ∧ w'.cell? ⟨w.heap.size + 1, 5, none⟩ = some (.slice (some qa) l'.length cl') ∧ w'.cell? ⟨w.heap.size + 1, 6, none⟩ = some (.slice ob' b'.length cb') ∧ w'.cell? (pa.add (i * 7)) = some (.int .i64 pk) ∧ w'.cell? ⟨(pa.add (i * 7)).block, (pa.add (i * 7)).off + 1, none⟩ = some (.bool pneg) ∧ w'.cell? ⟨(pa.add (i * 7)).block, (pa.add (i * 7)).off + 2, none⟩ = some (.slice pod pld pcd) ∧ w'.cell? ⟨(pa.add (i * 7)).block, (pa.add (i * 7)).off + 3, none⟩ = some (.string pnm) ∧ w'.cell? ⟨(pa.add (i * 7)).block, (pa.add (i * 7)).off + 4, none⟩ = some (.int .i64 pn) ∧ w'.cell? ⟨(pa.add (i * 7)).block, (pa.add (i * 7)).off + 5, none⟩ = some (.slice pol pll pcl) ∧ w'.cell? ⟨(pa.add (i * 7)).block, (pa.add (i * 7)).off + 6, none⟩ = some (.slice pob plb pcb) ∧ w'.cell? (qa.add (i * 7)) = some (.int .i64 qk) ∧ w'.cell? ⟨(qa.add (i * 7)).block, (qa.add (i * 7)).off + 1, none⟩ = some (.bool qneg) ∧ w'.cell? ⟨(qa.add (i * 7)).block, (qa.add (i * 7)).off + 2, none⟩ = some (.slice qod qld qcd) ∧ w'.cell? ⟨(qa.add (i * 7)).block, (qa.add (i * 7)).off + 3, none⟩ = some (.string qnm) ∧ w'.cell? ⟨(qa.add (i * 7)).block, (qa.add (i * 7)).off + 4, none⟩ = some (.int .i64 qn) ∧ w'.cell? ⟨(qa.add (i * 7)).block, (qa.add (i * 7)).off + 5, none⟩ = some (.slice qol qll qcl) ∧ w'.cell? ⟨(qa.add (i * 7)).block, (qa.add (i * 7)).off + 6, none⟩ = some (.slice qob qlb qcb)) (by kernel_rfl) (by exact hS.out _ hDr) (fun hHeld => ?_)
          refine wpAnyH_take (i := 0) (oi := _) (v := ?_) rfl (by kernel_rfl) (by kernel_rfl) (by kernel_rfl) (fun _ _ _ h => h) (Or.inl ⟨by rfl, ?_⟩) (by assumption) ?_
          rotate_left 1
          · (intro w hSw; (try dsimp only at hSw); go_simp; try with_reducible rfl)
          try simp (maxSteps := 10000000) only [List.getElem_toArray, List.getElem_cons_succ, List.getElem_cons_zero, Act.put, List.setIfInBounds_toArray, List.set_cons_zero, List.set_cons_succ]
          refine wpAnyH_take (i := 1) (oi := _) (v := ?_) rfl (by kernel_rfl) (by kernel_rfl) (by kernel_rfl) (fun _ _ _ h => h) (Or.inl ⟨by rfl, ?_⟩) (by assumption) ?_
          rotate_left 1
          · (intro w hSw; (try dsimp only at hSw); go_simp; try with_reducible rfl)
          try simp (maxSteps := 10000000) only [List.getElem_toArray, List.getElem_cons_succ, List.getElem_cons_zero, Act.put, List.setIfInBounds_toArray, List.set_cons_zero, List.set_cons_succ]
          refine wpAnyH_take (i := 2) (oi := _) (v := ?_) rfl (by kernel_rfl) (by kernel_rfl) (by kernel_rfl) (fun _ _ _ h => h) (Or.inl ⟨by rfl, ?_⟩) (by assumption) ?_
          rotate_left 1
          · (intro w hSw; (try dsimp only at hSw); go_simp; try with_reducible rfl)
          try simp (maxSteps := 10000000) only [List.getElem_toArray, List.getElem_cons_succ, List.getElem_cons_zero, Act.put, List.setIfInBounds_toArray, List.set_cons_zero, List.set_cons_succ]
          refine wpAnyH_take (i := 3) (oi := _) (v := ?_) rfl (by kernel_rfl) (by kernel_rfl) (by kernel_rfl) (fun _ _ _ h => h) (Or.inl ⟨by rfl, ?_⟩) (by assumption) ?_
          rotate_left 1
          · (intro w hSw; (try dsimp only at hSw); go_simp; try with_reducible rfl)
          try simp (maxSteps := 10000000) only [List.getElem_toArray, List.getElem_cons_succ, List.getElem_cons_zero, Act.put, List.setIfInBounds_toArray, List.set_cons_zero, List.set_cons_succ]
          refine wpAnyH_take (i := 4) (oi := _) (v := ?_) rfl (by kernel_rfl) (by kernel_rfl) (by kernel_rfl) (fun _ _ _ h => h) (Or.inl ⟨by rfl, ?_⟩) (by assumption) ?_
          rotate_left 1
          · (intro w hSw; (try dsimp only at hSw); go_simp; try with_reducible rfl)
          try simp (maxSteps := 10000000) only [List.getElem_toArray, List.getElem_cons_succ, List.getElem_cons_zero, Act.put, List.setIfInBounds_toArray, List.set_cons_zero, List.set_cons_succ]
          refine wpAnyH_take (i := 5) (oi := _) (v := ?_) rfl (by kernel_rfl) (by kernel_rfl) (by kernel_rfl) (fun _ _ _ h => h) (Or.inl ⟨by rfl, ?_⟩) (by assumption) ?_
          rotate_left 1
          · (intro w hSw; (try dsimp only at hSw); go_simp; try with_reducible rfl)
          try simp (maxSteps := 10000000) only [List.getElem_toArray, List.getElem_cons_succ, List.getElem_cons_zero, Act.put, List.setIfInBounds_toArray, List.set_cons_zero, List.set_cons_succ]
          refine wpAnyH_take (i := 6) (oi := _) (v := ?_) rfl (by kernel_rfl) (by kernel_rfl) (by kernel_rfl) (fun _ _ _ h => h) (Or.inl ⟨by rfl, ?_⟩) (by assumption) ?_
          rotate_left 1
          · (intro w hSw; (try dsimp only at hSw); go_simp; try with_reducible rfl)
          try simp (maxSteps := 10000000) only [List.getElem_toArray, List.getElem_cons_succ, List.getElem_cons_zero, Act.put, List.setIfInBounds_toArray, List.set_cons_zero, List.set_cons_succ]
          refine wpAnyH_take (i := 7) (oi := _) (v := ?_) rfl (by kernel_rfl) (by kernel_rfl) (by kernel_rfl) (fun _ _ _ h => h) (Or.inl ⟨by rfl, ?_⟩) (by assumption) ?_
          rotate_left 1
          · (intro w hSw; (try dsimp only at hSw); go_simp; try with_reducible rfl)
          try simp (maxSteps := 10000000) only [List.getElem_toArray, List.getElem_cons_succ, List.getElem_cons_zero, Act.put, List.setIfInBounds_toArray, List.set_cons_zero, List.set_cons_succ]
          refine wpAnyH_take (i := 8) (oi := _) (v := ?_) rfl (by kernel_rfl) (by kernel_rfl) (by kernel_rfl) (fun _ _ _ h => h) (Or.inl ⟨by rfl, ?_⟩) (by assumption) ?_
          rotate_left 1
          · (intro w hSw; (try dsimp only at hSw); go_simp; try with_reducible rfl)
          try simp (maxSteps := 10000000) only [List.getElem_toArray, List.getElem_cons_succ, List.getElem_cons_zero, Act.put, List.setIfInBounds_toArray, List.set_cons_zero, List.set_cons_succ]
          refine wpAnyH_take (i := 9) (oi := _) (v := ?_) rfl (by kernel_rfl) (by kernel_rfl) (by kernel_rfl) (fun _ _ _ h => h) (Or.inl ⟨by rfl, ?_⟩) (by assumption) ?_
          rotate_left 1
          · (intro w hSw; (try dsimp only at hSw); go_simp; try with_reducible rfl)
          try simp (maxSteps := 10000000) only [List.getElem_toArray, List.getElem_cons_succ, List.getElem_cons_zero, Act.put, List.setIfInBounds_toArray, List.set_cons_zero, List.set_cons_succ]
          refine wpAnyH_ready (rs := [10]) (by kernel_rfl) (by simp) ?_
          refine AllReadyH.cons rfl (fun K hK => ?_) AllReadyH.nil
          go_simp
          refine (hIH.out t t' _ _ _ hsz hokt hokt' (tv_below hTp hDr) (tv_below hTq hDr) (hTr.below hDr)).mono ?_
          rintro e w2 ⟨rfl, b2⟩
          have c2 : Below wr.heap.size wr w2 := below_and hDr (Nat.le_refl _) b2
          try go_simp
          refine hK.out _ _ ?_ (fun hHeld => ?_)
          · exact hS.out _ (by assumption)
          clear hK K
          try simp (maxSteps := 10000000) only [List.getElem_toArray, List.getElem_cons_succ, List.getElem_cons_zero, Act.put, List.setIfInBounds_toArray, List.set_cons_zero, List.set_cons_succ]
          refine wpAnyH_take (i := 11) (oi := _) (v := ?_) rfl (by kernel_rfl) (by kernel_rfl) (by kernel_rfl) (fun _ _ _ h => h) (Or.inl ⟨by rfl, ?_⟩) (by assumption) ?_
          rotate_left 1
          · (intro w hSw; (try dsimp only at hSw); go_simp; try with_reducible rfl)
          try simp (maxSteps := 10000000) only [List.getElem_toArray, List.getElem_cons_succ, List.getElem_cons_zero, Act.put, List.setIfInBounds_toArray, List.set_cons_zero, List.set_cons_succ]
          refine wpAnyH_done (by kernel_rfl) ?_ _
          have kA2 := kA'.below c2
          have kB2 := kB'.below c2
          have hB2 := below_and hBr (by have := hBr.size; omega) c2
          obtain ⟨X, hX⟩ : ∃ X, cT t t' = X := ⟨_, rfl⟩
          rw [hX]
          have HX := hid hX
          clear hX hS hDr hHeld c2 b2 kA' kB' hBr hTp hTq hTr hokt hokt'
          by_cases hx : X = 0
          · subst hx
            go_wp2
            go_roundg (l.length - (i + 1))
            case measure => omega
            case rel =>
              refine ⟨i + 1, by omega, by go_num, hid ?_, kA2, kB2, hB2⟩
              have := hstep.out
              rw [HX.out, lx_zero] at this
              rw [← this]; exact hH.out
          · have f1 : (X == 0) = false := by simpa using hx
            have f2 : (X != 0) = true := by simpa using hx
            have hRx : R = X := by rw [← hH.out, hstep.out, HX.out, lx_ne hx]
            have HR2 := hid hRx
            clear hx hRx
            go_wp2
            go_ret
            exact ⟨by rw [HR2.out]; rfl, hB2⟩
        · have hii : ¬ ((i : Nat) : Int) < ((l.length : Nat) : Int) := by omega
          have hR0 : R = 0 := by rw [← hH.out, List.drop_eq_nil_of_le (by omega), cR_nil]
          have HR2 := hid hR0
          clear hR0
          go_wp2
          go_ret
          exact ⟨by rw [HR2.out]; rfl, hBr⟩
    · have hR2 : Hid (R = cmpZ (l.length : Int) (l'.length : Int)) := hid (by rw [← HR.out, cT_6, lx_ne (by rw [Ne, cz_zero]; omega)])
      have f3 : ((l.length : Int) != (l'.length : Int)) = true := by simp; omega
      have f4 : ((l.length : Int) == (l'.length : Int)) = false := by simp; omega
      clear hl2
      go_wp2_with fail
      refine (order_w _ _ _).mono ?_
      rintro e w2 ⟨rfl, rfl⟩
      go_wp2
      go_ret
      exact ⟨by rw [hR2.out]; rfl, hB0⟩
  have e0 : (k == 0) = false := by simp [hk0]
  have e1 : (k == 1) = false := by simp [hk1]
  have e2 : (k == 2) = false := by simp [hk2]
  have e3 : (k == 3) = false := by simp [hk3]
  have e4 : (k == 4) = false := by simp [hk4]
  have e6 : (k == 6) = false := by simp [hk6]
  have e7 : (k == 7) = false := by simp [hk7]
  have hR2 : Hid (R = 0) := hid (by
    rw [← HR.out, cT, cz_self, lx_zero, if_neg hk0, if_neg hk1, if_neg (by omega), if_neg hk7, if_neg (by omega)])
  go_wp2
  go_ret
  exact ⟨by rw [hR2.out]; rfl, hB0⟩
end Go.Proofs.YtpdoepjnkgffpaaDoor
