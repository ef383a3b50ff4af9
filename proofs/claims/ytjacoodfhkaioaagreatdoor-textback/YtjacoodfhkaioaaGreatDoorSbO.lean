/- Texts of mine, one behind the other: OrdRCmp, CpyOrd, CpyKit. -/
import Derived.Test.YtjacoodfhkaioaaGreatDoorSbN
import Derived.Test.YtjacoodfhkaioaaGreatDoorSbC
namespace Go.Proofs.YtjacoodfhkaioaaGreatDoor
open Go.ChangeShapes Go.WideShapes Go.ChangeAt Go.ChangeMaps Go.RowKit Go.Shelf
set_option linter.unusedSimpArgs false
set_option linter.unusedVariables false
set_option maxRecDepth 2000
set_option maxHeartbeats 8000000 in
set_option maxRecDepth 8000 in
theorem rCompare_w : ∀ (N : Nat) (A U : Tm) (va vb : Value) (w : World), tsz A ≤ N → (∀ p ∈ parts A, p.ok1) → (∀ p ∈ parts U, p.ok1) → TV (Low w) w A va → TV (Low w) w U vb → Tabs w →
    Calls Tryz.prog 30 #[va, vb] w fun e w' => e = .returned (.int .i64 (cT A U)) ∧ Below w.heap.size w w' := by
  intro N
  induction N with
  | zero => intro A U va vb w h; cases A; simp only [tsz] at h; omega
  | succ N ih =>
  intro A U va vb w hN hokA hokU hA hU hT
  have hA1 := hokA A (by rw [parts_eq]; simp)
  have hU1 := hokU U (by rw [parts_eq]; simp)
  have hok := hid (And.intro hokA hokU)
  clear hokA hokU
  cases A with | mk k neg d nm n l b =>
  cases U with | mk k' neg' d' nm' n' l' b' =>
  obtain ⟨hd1, hn1, hll, hb1, hm1⟩ : d.length ≤ 1000000 ∧ nm.size ≤ 1000000 ∧ l.length ≤ 1000000 ∧ b.length ≤ 1000000 ∧ Lm 4294967296 d := hA1
  obtain ⟨hd2, hn2, hll2, hb2, hm2⟩ : d'.length ≤ 1000000 ∧ nm'.size ≤ 1000000 ∧ l'.length ≤ 1000000 ∧ b'.length ≤ 1000000 ∧ Lm 4294967296 d' := hU1
  unfold TV at hA hU
  obtain ⟨od, cd, ol, cl, ob, cb, rfl, g1, g2, g3, g4, g5, g6, g7⟩ := hA
  obtain ⟨od', cd', ol', cl', ob', cb', rfl, j1, j2, j3, j4, j5, j6, j7⟩ := hU
  have htR := hid g7
  have huR := hid j7
  have hIH := hid ih
  obtain ⟨R, hR⟩ : ∃ R, cT (.mk k neg d nm n l b) (.mk k' neg' d' nm' n' l' b') = R := ⟨_, rfl⟩
  rw [hR]
  have HR := hid hR
  clear ih g7 j7 hR
  obtain ⟨kA, kB, hB0, hz0⟩ := bx2 w (.int .i64 k) (.bool neg) (.slice od d.length cd) (.string nm) (.int .i64 n) (.slice ol l.length cl) (.slice ob b.length cb) (.int .i64 k') (.bool neg') (.slice od' d'.length cd') (.string nm') (.int .i64 n') (.slice ol' l'.length cl') (.slice ob' b'.length cb') 27 27
  have q : ∀ w', Below w.heap.size w w' → Zs (Low w) w w' := fun w' hb k hk => hb.block k hk
  have hlow : ∀ {w'}, Below w.heap.size w w' → ∀ k, k < w'.heap.size → Low w k → Low w' k := fun hb k hk _ => hk
  go_enter Tryz.func30, Tryz.ntmps30
  by_cases hk : k = k'
  case neg =>
    have f1 : (k != k') = true := by simpa using hk
    have f2 : (k == k') = false := by simpa using hk
    have hR2 : Hid (R = cmpZ k k') := hid (by rw [← HR.out, cT_kind hk])
    clear hk
    go_wp2_with fail
    refine (order_w _ _ _).mono ?_
    rintro e w2 ⟨rfl, rfl⟩
    go_wp2
    go_ret
    exact ⟨by rw [hR2.out]; rfl, hB0⟩
  subst hk
  by_cases hk0 : k = 0
  · subst hk0
    have hR2 : Hid (R = cmpZ (sv neg (gval 4294967296 d)) (sv neg' (gval 4294967296 d'))) := hid (by rw [← HR.out, cT_0])
    have hNX := (show IsN (.agg #[.bool neg, .slice od d.length cd]) (sv neg (gval 4294967296 d)) 1000000 _ from ⟨neg, od, d, cd, rfl, (g1.zs (q _ hB0)).lies, g2, g3, rfl, hd1⟩)
    have hNY := (show IsN (.agg #[.bool neg', .slice od' d'.length cd']) (sv neg' (gval 4294967296 d')) 1000000 _ from ⟨neg', od', d', cd', rfl, (j1.zs (q _ hB0)).lies, j2, j3, rfl, hd2⟩)
    go_wp2_with fail
    refine (rcmp_w _ _ _ _ 1000000 _ (by omega) hNX hNY).mono ?_
    rintro e w2 ⟨rfl, b2⟩
    go_wp2
    go_ret
    exact ⟨by rw [hR2.out]; rfl, below_and hB0 (Nat.le_refl _) b2⟩
  by_cases hk1 : k = 1
  · subst hk1
    have hR2 : Hid (R = lessZ_o nm.data.toList nm'.data.toList) := hid (by rw [← HR.out, cT_1])
    have hT2 := hT.below hB0
    go_wp2_with fail
    refine (rless_w_o nm nm' _ hn1 hn2 hT2).mono ?_
    rintro e w2 ⟨rfl, b2⟩
    go_wp2
    go_ret
    exact ⟨by rw [hR2.out]; rfl, below_and hB0 (Nat.le_refl _) b2⟩
  by_cases hk2 : k = 2
  · subst hk2
    have hR2 : Hid (R = cmpZ n n') := hid (by rw [← HR.out, cT_2])
    go_wp2_with fail
    refine (order_w _ _ _).mono ?_
    rintro e w2 ⟨rfl, rfl⟩
    go_wp2
    go_ret
    exact ⟨by rw [hR2.out]; rfl, hB0⟩
  by_cases hk3 : k = 3
  · subst hk3
    have hR2 : Hid (R = cmpZ n n') := hid (by rw [← HR.out, cT_3])
    go_wp2_with fail
    refine (order_w _ _ _).mono ?_
    rintro e w2 ⟨rfl, rfl⟩
    go_wp2
    go_ret
    exact ⟨by rw [hR2.out]; rfl, hB0⟩
  by_cases hk7 : k = 7
  · subst hk7
    have hR2 : Hid (R = lexZ_o b b') := hid (by rw [← HR.out, cT_7])
    have i1 := (g4.zs (q _ hB0)).mono (hlow hB0)
    have i2 := (j4.zs (q _ hB0)).mono (hlow hB0)
    go_wp2_with fail
    refine (rbytes_w ob ob' cb cb' b b' _ hb1 hb2 i1 i2).mono ?_
    rintro e w2 ⟨rfl, b2⟩
    go_wp2
    go_ret
    exact ⟨by rw [hR2.out]; rfl, below_and hB0 (Nat.le_refl _) b2⟩
  by_cases hk4 : k = 4
  · subst hk4
    clear q hlow g1 g2 g3 g4 g5 g6 j1 j2 j3 j4 j5 j6
    by_cases hl2 : l.length = l'.length
    · have hHR : Hid (cR l l' = R) := hid (by rw [← HR.out, cT_4, hl2, cz_self, lx_zero])
      have hel := hid hl2
      have f3 : ((l.length : Int) != (l'.length : Int)) = false := by simp [hl2]
      have f4 : ((l.length : Int) == (l'.length : Int)) = true := by simp [hl2]
      have hok2 : Hid (∀ p ∈ partsL l, p.ok1) := hid (fun p hp' => hok.out.1 p (by simp [parts, hp']))
      have hok2' : Hid (∀ p ∈ partsL l', p.ok1) := hid (fun p hp' => hok.out.2 p (by simp [parts, hp']))
      clear hl2
      go_wp2_with fail
      generalize ((w.alloc (.cells #[.int .i64 4, .bool neg, .slice od d.length cd, .string nm, .int .i64 n, .slice ol l.length cl, .slice ob b.length cb] 27)).alloc (.cells #[.int .i64 4, .bool neg', .slice od' d'.length cd', .string nm', .int .i64 n', .slice ol' l'.length cl', .slice ob' b'.length cb'] 27)) = W0 at *
      go_loopg [5] l.length (fun t v5 wr => ∃ (i : Nat), t + i = l.length ∧ v5 = .int .i64 (i : Int) ∧ Hid (cR (l.drop i) (l'.drop i) = R) ∧ Bx w.heap.size (.int .i64 4) (.bool neg) (.slice od d.length cd) (.string nm) (.int .i64 n) (.slice ol l.length cl) (.slice ob b.length cb) wr ∧ Bx (w.heap.size + 1) (.int .i64 4) (.bool neg') (.slice od' d'.length cd') (.string nm') (.int .i64 n') (.slice ol' l'.length cl') (.slice ob' b'.length cb') wr ∧ Below w.heap.size w wr)
      case atStart => exact ⟨0, by omega, rfl, hid (by simpa using hHR.out), kA, kB, hB0⟩
      case round =>
        obtain ⟨i, hti, rfl, hH, kA', kB', hBr⟩ := hrel
        clear kA kB hB0
        obtain ⟨x0, x1, x2, x3, x4, x5, x6⟩ := kA'.res
        obtain ⟨z0, z1, z2, z3, z4, z5, z6⟩ := kB'.res
        by_cases hil : i < l.length
        · have hii : ((i : Nat) : Int) < ((l.length : Nat) : Int) := by omega
          have hil' : i < l'.length := by have := hel.out; omega
          have hii' : ((i : Nat) : Int) < ((l'.length : Nat) : Int) := by omega
          obtain ⟨t, ht⟩ : ∃ t, l[i]? = some t := ⟨l[i], by simp [hil]⟩
          obtain ⟨t', ht'⟩ : ∃ t', l'[i]? = some t' := ⟨l'[i], by simp [hil']⟩
          obtain ⟨pa, pk, pneg, pod, pld, pcd, pnm, pn, pol, pll, pcl, pob, plb, pcb, rfl, hTp, y0, y1, y2, y3, y4, y5, y6⟩ := htR.out.get ht hBr
          obtain ⟨qa, qk, qneg, qod, qld, qcd, qnm, qn, qol, qll, qcl, qob, qlb, qcb, rfl, hTq, u0, u1, u2, u3, u4, u5, u6⟩ := huR.out.get ht' hBr
          have hsz : tsz t ≤ N := by have := tsz_mem ht; simp only [tsz] at hN; omega
          have hokt : ∀ p ∈ parts t, p.ok1 := fun p hp => hok2.out p (mem_partsL ht hp)
          have hokt' : ∀ p ∈ parts t', p.ok1 := fun p hp => hok2'.out p (mem_partsL ht' hp)
          have hTr := hT.below hBr
          have hstep : Hid (cR (l.drop i) (l'.drop i) = lx (cT t t') (cR (l.drop (i + 1)) (l'.drop (i + 1)))) := hid (by
            rw [List.drop_eq_getElem_cons hil, List.drop_eq_getElem_cons hil', cR_cons]
            rw [show l[i] = t from by simpa [hil] using ht, show l'[i] = t' from by simpa [hil'] using ht'])
          clear ht ht' hil'
          have hDr : Below wr.heap.size wr wr.drew := (Below.refl _ wr).drew
          have hS : Hid (∀ w', Below wr.heap.size wr w' → (w'.cell? ⟨w.heap.size, 0, none⟩ = some (.int .i64 4) ∧ w'.cell? ⟨w.heap.size, 1, none⟩ = some (.bool neg) ∧ w'.cell? ⟨w.heap.size, 2, none⟩ = some (.slice od d.length cd) ∧ w'.cell? ⟨w.heap.size, 3, none⟩ = some (.string nm) ∧ w'.cell? ⟨w.heap.size, 4, none⟩ = some (.int .i64 n) ∧ w'.cell? ⟨w.heap.size, 5, none⟩ = some (.slice (some pa) l.length cl) ∧ w'.cell? ⟨w.heap.size, 6, none⟩ = some (.slice ob b.length cb) ∧ w'.cell? ⟨w.heap.size + 1, 0, none⟩ = some (.int .i64 4) ∧ w'.cell? ⟨w.heap.size + 1, 1, none⟩ = some (.bool neg') ∧ w'.cell? ⟨w.heap.size + 1, 2, none⟩ = some (.slice od' d'.length cd') ∧ w'.cell? ⟨w.heap.size + 1, 3, none⟩ = some (.string nm') ∧ w'.cell? ⟨w.heap.size + 1, 4, none⟩ = some (.int .i64 n') ∧ w'.cell? ⟨w.heap.size + 1, 5, none⟩ = some (.slice (some qa) l'.length cl') ∧ w'.cell? ⟨w.heap.size + 1, 6, none⟩ = some (.slice ob' b'.length cb') ∧ w'.cell? (pa.add (i * 7)) = some (.int .i64 pk) ∧ w'.cell? ⟨(pa.add (i * 7)).block, (pa.add (i * 7)).off + 1, none⟩ = some (.bool pneg) ∧ w'.cell? ⟨(pa.add (i * 7)).block, (pa.add (i * 7)).off + 2, none⟩ = some (.slice pod pld pcd) ∧ w'.cell? ⟨(pa.add (i * 7)).block, (pa.add (i * 7)).off + 3, none⟩ = some (.string pnm) ∧ w'.cell? ⟨(pa.add (i * 7)).block, (pa.add (i * 7)).off + 4, none⟩ = some (.int .i64 pn) ∧ w'.cell? ⟨(pa.add (i * 7)).block, (pa.add (i * 7)).off + 5, none⟩ = some (.slice pol pll pcl) ∧ w'.cell? ⟨(pa.add (i * 7)).block, (pa.add (i * 7)).off + 6, none⟩ = some (.slice pob plb pcb) ∧ w'.cell? (qa.add (i * 7)) = some (.int .i64 qk) ∧ w'.cell? ⟨(qa.add (i * 7)).block, (qa.add (i * 7)).off + 1, none⟩ = some (.bool qneg) ∧ w'.cell? ⟨(qa.add (i * 7)).block, (qa.add (i * 7)).off + 2, none⟩ = some (.slice qod qld qcd) ∧ w'.cell? ⟨(qa.add (i * 7)).block, (qa.add (i * 7)).off + 3, none⟩ = some (.string qnm) ∧ w'.cell? ⟨(qa.add (i * 7)).block, (qa.add (i * 7)).off + 4, none⟩ = some (.int .i64 qn) ∧ w'.cell? ⟨(qa.add (i * 7)).block, (qa.add (i * 7)).off + 5, none⟩ = some (.slice qol qll qcl) ∧ w'.cell? ⟨(qa.add (i * 7)).block, (qa.add (i * 7)).off + 6, none⟩ = some (.slice qob qlb qcb))) := hid (fun w' hb => by
            obtain ⟨x0, x1, x2, x3, x4, x5, x6⟩ := (kA'.below hb).res
            obtain ⟨z0, z1, z2, z3, z4, z5, z6⟩ := (kB'.below hb).res
            have q : ∀ {a : Addr} {v : Value}, wr.cell? a = some v → w'.cell? a = some v := fun h => (hb.cell (World.block_lt_of_cell? _ _ h)).trans h
            exact ⟨x0, x1, x2, x3, x4, x5, x6, z0, z1, z2, z3, z4, z5, z6, q y0, q y1, q y2, q y3, q y4, q y5, q y6, q u0, q u1, q u2, q u3, q u4, q u5, q u6⟩)
          clear y0 y1 y2 y3 y4 y5 y6 u0 u1 u2 u3 u4 u5 u6
          go_wp2_with fail
          clear x0 x1 x2 x3 x4 x5 x6 z0 z1 z2 z3 z4 z5 z6
          refine wp_region_held_drew (S := fun w' => w'.cell? ⟨w.heap.size, 0, none⟩ = some (.int .i64 4) ∧ w'.cell? ⟨w.heap.size, 1, none⟩ = some (.bool neg) ∧ w'.cell? ⟨w.heap.size, 2, none⟩ = some (.slice od d.length cd) ∧ w'.cell? ⟨w.heap.size, 3, none⟩ = some (.string nm) ∧ w'.cell? ⟨w.heap.size, 4, none⟩ = some (.int .i64 n) ∧ w'.cell? ⟨w.heap.size, 5, none⟩ = some (.slice (some pa) l.length cl) ∧ w'.cell? ⟨w.heap.size, 6, none⟩ = some (.slice ob b.length cb) ∧ w'.cell? ⟨w.heap.size + 1, 0, none⟩ = some (.int .i64 4) ∧ w'.cell? ⟨w.heap.size + 1, 1, none⟩ = some (.bool neg') ∧ w'.cell? ⟨w.heap.size + 1, 2, none⟩ = some (.slice od' d'.length cd') ∧ w'.cell? ⟨w.heap.size + 1, 3, none⟩ = some (.string nm') ∧ w'.cell? ⟨w.heap.size + 1, 4, none⟩ = some (.int .i64 n') ∧ w'.cell? ⟨w.heap.size + 1, 5, none⟩ = some (.slice (some qa) l'.length cl') ∧ w'.cell? ⟨w.heap.size + 1, 6, none⟩ = some (.slice ob' b'.length cb') ∧ w'.cell? (pa.add (i * 7)) = some (.int .i64 pk) ∧ w'.cell? ⟨(pa.add (i * 7)).block, (pa.add (i * 7)).off + 1, none⟩ = some (.bool pneg) ∧ w'.cell? ⟨(pa.add (i * 7)).block, (pa.add (i * 7)).off + 2, none⟩ = some (.slice pod pld pcd) ∧ w'.cell? ⟨(pa.add (i * 7)).block, (pa.add (i * 7)).off + 3, none⟩ = some (.string pnm) ∧ w'.cell? ⟨(pa.add (i * 7)).block, (pa.add (i * 7)).off + 4, none⟩ = some (.int .i64 pn) ∧ w'.cell? ⟨(pa.add (i * 7)).block, (pa.add (i * 7)).off + 5, none⟩ = some (.slice pol pll pcl) ∧ w'.cell? ⟨(pa.add (i * 7)).block, (pa.add (i * 7)).off + 6, none⟩ = some (.slice pob plb pcb) ∧ w'.cell? (qa.add (i * 7)) = some (.int .i64 qk) ∧ w'.cell? ⟨(qa.add (i * 7)).block, (qa.add (i * 7)).off + 1, none⟩ = some (.bool qneg) ∧ w'.cell? ⟨(qa.add (i * 7)).block, (qa.add (i * 7)).off + 2, none⟩ = some (.slice qod qld qcd) ∧ w'.cell? ⟨(qa.add (i * 7)).block, (qa.add (i * 7)).off + 3, none⟩ = some (.string qnm) ∧ w'.cell? ⟨(qa.add (i * 7)).block, (qa.add (i * 7)).off + 4, none⟩ = some (.int .i64 qn) ∧ w'.cell? ⟨(qa.add (i * 7)).block, (qa.add (i * 7)).off + 5, none⟩ = some (.slice qol qll qcl) ∧ w'.cell? ⟨(qa.add (i * 7)).block, (qa.add (i * 7)).off + 6, none⟩ = some (.slice qob qlb qcb)) (by kernel_rfl) (by exact hS.out _ hDr) (fun hHeld => ?_)
          refine wpAnyH_take (i := 0) (oi := _) (v := ?_) rfl (by kernel_rfl) (by kernel_rfl) (by kernel_rfl) (fun _ _ _ h => h) (Or.inl ⟨by rfl, ?_⟩) (by assumption) ?_
          rotate_left 1
          · (intro w hSw; (try dsimp only at hSw); go_simp; try with_reducible rfl)
          try simp (maxSteps := 10000000) only [List.getElem_toArray, List.getElem_cons_succ, List.getElem_cons_zero, Act.put, List.setIfInBounds_toArray, List.set_cons_zero, List.set_cons_succ]
          refine wpAnyH_take (i := 1) (oi := _) (v := ?_) rfl (by kernel_rfl) (by kernel_rfl) (by kernel_rfl) (fun _ _ _ h => h) (Or.inl ⟨by rfl, ?_⟩) (by assumption) ?_
          rotate_left 1
          · (intro w hSw; (try dsimp only at hSw); go_simp; try with_reducible rfl)
          try simp (maxSteps := 10000000) only [List.getElem_toArray, List.getElem_cons_succ, List.getElem_cons_zero, Act.put, List.setIfInBounds_toArray, List.set_cons_zero, List.set_cons_succ]
          refine wpAnyH_take (i := 2) (oi := _) (v := ?_) rfl (by kernel_rfl) (by kernel_rfl) (by kernel_rfl) (fun _ _ _ h => h) (Or.inl ⟨by rfl, ?_⟩) (by assumption) ?_
          rotate_left 1
          · (intro w hSw; (try dsimp only at hSw); go_simp; try with_reducible rfl)
          try simp (maxSteps := 10000000) only [List.getElem_toArray, List.getElem_cons_succ, List.getElem_cons_zero, Act.put, List.setIfInBounds_toArray, List.set_cons_zero, List.set_cons_succ]
          refine wpAnyH_take (i := 3) (oi := _) (v := ?_) rfl (by kernel_rfl) (by kernel_rfl) (by kernel_rfl) (fun _ _ _ h => h) (Or.inl ⟨by rfl, ?_⟩) (by assumption) ?_
          rotate_left 1
          · (intro w hSw; (try dsimp only at hSw); go_simp; try with_reducible rfl)
          try simp (maxSteps := 10000000) only [List.getElem_toArray, List.getElem_cons_succ, List.getElem_cons_zero, Act.put, List.setIfInBounds_toArray, List.set_cons_zero, List.set_cons_succ]
          refine wpAnyH_take (i := 4) (oi := _) (v := ?_) rfl (by kernel_rfl) (by kernel_rfl) (by kernel_rfl) (fun _ _ _ h => h) (Or.inl ⟨by rfl, ?_⟩) (by assumption) ?_
          rotate_left 1
          · (intro w hSw; (try dsimp only at hSw); go_simp; try with_reducible rfl)
          try simp (maxSteps := 10000000) only [List.getElem_toArray, List.getElem_cons_succ, List.getElem_cons_zero, Act.put, List.setIfInBounds_toArray, List.set_cons_zero, List.set_cons_succ]
          refine wpAnyH_take (i := 5) (oi := _) (v := ?_) rfl (by kernel_rfl) (by kernel_rfl) (by kernel_rfl) (fun _ _ _ h => h) (Or.inl ⟨by rfl, ?_⟩) (by assumption) ?_
          rotate_left 1
          · (intro w hSw; (try dsimp only at hSw); go_simp; try with_reducible rfl)
          try simp (maxSteps := 10000000) only [List.getElem_toArray, List.getElem_cons_succ, List.getElem_cons_zero, Act.put, List.setIfInBounds_toArray, List.set_cons_zero, List.set_cons_succ]
          refine wpAnyH_take (i := 6) (oi := _) (v := ?_) rfl (by kernel_rfl) (by kernel_rfl) (by kernel_rfl) (fun _ _ _ h => h) (Or.inl ⟨by rfl, ?_⟩) (by assumption) ?_
          rotate_left 1
          · (intro w hSw; (try dsimp only at hSw); go_simp; try with_reducible rfl)
          try simp (maxSteps := 10000000) only [List.getElem_toArray, List.getElem_cons_succ, List.getElem_cons_zero, Act.put, List.setIfInBounds_toArray, List.set_cons_zero, List.set_cons_succ]
          refine wpAnyH_take (i := 7) (oi := _) (v := ?_) rfl (by kernel_rfl) (by kernel_rfl) (by kernel_rfl) (fun _ _ _ h => h) (Or.inl ⟨by rfl, ?_⟩) (by assumption) ?_
          rotate_left 1
          · (intro w hSw; (try dsimp only at hSw); go_simp; try with_reducible rfl)
          try simp (maxSteps := 10000000) only [List.getElem_toArray, List.getElem_cons_succ, List.getElem_cons_zero, Act.put, List.setIfInBounds_toArray, List.set_cons_zero, List.set_cons_succ]
          refine wpAnyH_take (i := 8) (oi := _) (v := ?_) rfl (by kernel_rfl) (by kernel_rfl) (by kernel_rfl) (fun _ _ _ h => h) (Or.inl ⟨by rfl, ?_⟩) (by assumption) ?_
          rotate_left 1
          · (intro w hSw; (try dsimp only at hSw); go_simp; try with_reducible rfl)
          try simp (maxSteps := 10000000) only [List.getElem_toArray, List.getElem_cons_succ, List.getElem_cons_zero, Act.put, List.setIfInBounds_toArray, List.set_cons_zero, List.set_cons_succ]
          refine wpAnyH_take (i := 9) (oi := _) (v := ?_) rfl (by kernel_rfl) (by kernel_rfl) (by kernel_rfl) (fun _ _ _ h => h) (Or.inl ⟨by rfl, ?_⟩) (by assumption) ?_
          rotate_left 1
          · (intro w hSw; (try dsimp only at hSw); go_simp; try with_reducible rfl)
          try simp (maxSteps := 10000000) only [List.getElem_toArray, List.getElem_cons_succ, List.getElem_cons_zero, Act.put, List.setIfInBounds_toArray, List.set_cons_zero, List.set_cons_succ]
          refine wpAnyH_ready (rs := [10]) (by kernel_rfl) (by simp) ?_
          refine AllReadyH.cons rfl (fun K hK => ?_) AllReadyH.nil
          go_simp
          refine (hIH.out t t' _ _ _ hsz hokt hokt' (tv_below hTp hDr) (tv_below hTq hDr) (hTr.below hDr)).mono ?_
          rintro e w2 ⟨rfl, b2⟩
          have c2 : Below wr.heap.size wr w2 := below_and hDr (Nat.le_refl _) b2
          try go_simp
          refine hK.out _ _ ?_ (fun hHeld => ?_)
          · exact hS.out _ (by assumption)
          clear hK K
          try simp (maxSteps := 10000000) only [List.getElem_toArray, List.getElem_cons_succ, List.getElem_cons_zero, Act.put, List.setIfInBounds_toArray, List.set_cons_zero, List.set_cons_succ]
          refine wpAnyH_take (i := 11) (oi := _) (v := ?_) rfl (by kernel_rfl) (by kernel_rfl) (by kernel_rfl) (fun _ _ _ h => h) (Or.inl ⟨by rfl, ?_⟩) (by assumption) ?_
          rotate_left 1
          · (intro w hSw; (try dsimp only at hSw); go_simp; try with_reducible rfl)
          try simp (maxSteps := 10000000) only [List.getElem_toArray, List.getElem_cons_succ, List.getElem_cons_zero, Act.put, List.setIfInBounds_toArray, List.set_cons_zero, List.set_cons_succ]
          refine wpAnyH_done (by kernel_rfl) ?_ _
          have kA2 := kA'.below c2
          have kB2 := kB'.below c2
          have hB2 := below_and hBr (by have := hBr.size; omega) c2
          obtain ⟨X, hX⟩ : ∃ X, cT t t' = X := ⟨_, rfl⟩
          rw [hX]
          have HX := hid hX
          clear hX hS hDr hHeld c2 b2 kA' kB' hBr hTp hTq hTr hokt hokt'
          by_cases hx : X = 0
          · subst hx
            go_wp2
            go_roundg (l.length - (i + 1))
            case measure => omega
            case rel =>
              refine ⟨i + 1, by omega, by go_num, hid ?_, kA2, kB2, hB2⟩
              have := hstep.out
              rw [HX.out, lx_zero] at this
              rw [← this]; exact hH.out
          · have f1 : (X == 0) = false := by simpa using hx
            have f2 : (X != 0) = true := by simpa using hx
            have hRx : R = X := by rw [← hH.out, hstep.out, HX.out, lx_ne hx]
            have HR2 := hid hRx
            clear hx hRx
            go_wp2
            go_ret
            exact ⟨by rw [HR2.out]; rfl, hB2⟩
        · have hii : ¬ ((i : Nat) : Int) < ((l.length : Nat) : Int) := by omega
          have hR0 : R = 0 := by rw [← hH.out, List.drop_eq_nil_of_le (by omega), cR_nil]
          have HR2 := hid hR0
          clear hR0
          go_wp2
          go_ret
          exact ⟨by rw [HR2.out]; rfl, hBr⟩
    · have hR2 : Hid (R = cmpZ (l.length : Int) (l'.length : Int)) := hid (by rw [← HR.out, cT_4, lx_ne (by rw [Ne, cz_zero]; omega)])
      have f3 : ((l.length : Int) != (l'.length : Int)) = true := by simp; omega
      have f4 : ((l.length : Int) == (l'.length : Int)) = false := by simp; omega
      clear hl2
      go_wp2_with fail
      refine (order_w _ _ _).mono ?_
      rintro e w2 ⟨rfl, rfl⟩
      go_wp2
      go_ret
      exact ⟨by rw [hR2.out]; rfl, hB0⟩
  by_cases hk6 : k = 6
  · subst hk6
    clear q hlow g1 g2 g3 g4 g5 g6 j1 j2 j3 j4 j5 j6
    by_cases hl2 : l.length = l'.length
    · have hHR : Hid (cR l l' = R) := hid (by rw [← HR.out, cT_6, hl2, cz_self, lx_zero])
      have hel := hid hl2
      have f3 : ((l.length : Int) != (l'.length : Int)) = false := by simp [hl2]
      have f4 : ((l.length : Int) == (l'.length : Int)) = true := by simp [hl2]
      have hok2 : Hid (∀ p ∈ partsL l, p.ok1) := hid (fun p hp' => hok.out.1 p (by simp [parts, hp']))
      have hok2' : Hid (∀ p ∈ partsL l', p.ok1) := hid (fun p hp' => hok.out.2 p (by simp [parts, hp']))
      clear hl2
      go_wp2_with fail
      generalize ((w.alloc (.cells #[.int .i64 6, .bool neg, .slice od d.length cd, .string nm, .int .i64 n, .slice ol l.length cl, .slice ob b.length cb] 27)).alloc (.cells #[.int .i64 6, .bool neg', .slice od' d'.length cd', .string nm', .int .i64 n', .slice ol' l'.length cl', .slice ob' b'.length cb'] 27)) = W0 at *
      go_loopg [5] l.length (fun t v5 wr => ∃ (i : Nat), t + i = l.length ∧ v5 = .int .i64 (i : Int) ∧ Hid (cR (l.drop i) (l'.drop i) = R) ∧ Bx w.heap.size (.int .i64 6) (.bool neg) (.slice od d.length cd) (.string nm) (.int .i64 n) (.slice ol l.length cl) (.slice ob b.length cb) wr ∧ Bx (w.heap.size + 1) (.int .i64 6) (.bool neg') (.slice od' d'.length cd') (.string nm') (.int .i64 n') (.slice ol' l'.length cl') (.slice ob' b'.length cb') wr ∧ Below w.heap.size w wr)
      case atStart => exact ⟨0, by omega, rfl, hid (by simpa using hHR.out), kA, kB, hB0⟩
      case round =>
        obtain ⟨i, hti, rfl, hH, kA', kB', hBr⟩ := hrel
        clear kA kB hB0
        obtain ⟨x0, x1, x2, x3, x4, x5, x6⟩ := kA'.res
        obtain ⟨z0, z1, z2, z3, z4, z5, z6⟩ := kB'.res
        by_cases hil : i < l.length
        · have hii : ((i : Nat) : Int) < ((l.length : Nat) : Int) := by omega
          have hil' : i < l'.length := by have := hel.out; omega
          have hii' : ((i : Nat) : Int) < ((l'.length : Nat) : Int) := by omega
          obtain ⟨t, ht⟩ : ∃ t, l[i]? = some t := ⟨l[i], by simp [hil]⟩
          obtain ⟨t', ht'⟩ : ∃ t', l'[i]? = some t' := ⟨l'[i], by simp [hil']⟩
          obtain ⟨pa, pk, pneg, pod, pld, pcd, pnm, pn, pol, pll, pcl, pob, plb, pcb, rfl, hTp, y0, y1, y2, y3, y4, y5, y6⟩ := htR.out.get ht hBr
          obtain ⟨qa, qk, qneg, qod, qld, qcd, qnm, qn, qol, qll, qcl, qob, qlb, qcb, rfl, hTq, u0, u1, u2, u3, u4, u5, u6⟩ := huR.out.get ht' hBr
          have hsz : tsz t ≤ N := by have := tsz_mem ht; simp only [tsz] at hN; omega
          have hokt : ∀ p ∈ parts t, p.ok1 := fun p hp => hok2.out p (mem_partsL ht hp)
          have hokt' : ∀ p ∈ parts t', p.ok1 := fun p hp => hok2'.out p (mem_partsL ht' hp)
          have hTr := hT.below hBr
          have hstep : Hid (cR (l.drop i) (l'.drop i) = lx (cT t t') (cR (l.drop (i + 1)) (l'.drop (i + 1)))) := hid (by
            rw [List.drop_eq_getElem_cons hil, List.drop_eq_getElem_cons hil', cR_cons]
            rw [show l[i] = t from by simpa [hil] using ht, show l'[i] = t' from by simpa [hil'] using ht'])
          clear ht ht' hil'
          have hDr : Below wr.heap.size wr wr.drew := (Below.refl _ wr).drew
          have hS : Hid (∀ w', Below wr.heap.size wr w' → (w'.cell? ⟨w.heap.size, 0, none⟩ = some (.int .i64 6) ∧ w'.cell? ⟨w.heap.size, 1, none⟩ = some (.bool neg) ∧ w'.cell? ⟨w.heap.size, 2, none⟩ = some (.slice od d.length cd) ∧ w'.cell? ⟨w.heap.size, 3, none⟩ = some (.string nm) ∧ w'.cell? ⟨w.heap.size, 4, none⟩ = some (.int .i64 n) ∧ w'.cell? ⟨w.heap.size, 5, none⟩ = some (.slice (some pa) l.length cl) ∧ w'.cell? ⟨w.heap.size, 6, none⟩ = some (.slice ob b.length cb) ∧ w'.cell? ⟨w.heap.size + 1, 0, none⟩ = some (.int .i64 6) ∧ w'.cell? ⟨w.heap.size + 1, 1, none⟩ = some (.bool neg') ∧ w'.cell? ⟨w.heap.size + 1, 2, none⟩ = some (.slice od' d'.length cd') ∧ w'.cell? ⟨w.heap.size + 1, 3, none⟩ = some (.string nm') ∧ w'.cell? ⟨w.heap.size + 1, 4, none⟩ = some (.int .i64 n') ∧ w'.cell? ⟨w.heap.size + 1, 5, none⟩ = some (.slice (some qa) l'.length cl') ∧ w'.cell? ⟨w.heap.size + 1, 6, none⟩ = some (.slice ob' b'.length cb') ∧ w'.cell? (pa.add (i * 7)) = some (.int .i64 pk) ∧ w'.cell? ⟨(pa.add (i * 7)).block, (pa.add (i * 7)).off + 1, none⟩ = some (.bool pneg) ∧ w'.cell? ⟨(pa.add (i * 7)).block, (pa.add (i * 7)).off + 2, none⟩ = some (.slice pod pld pcd) ∧ w'.cell? ⟨(pa.add (i * 7)).block, (pa.add (i * 7)).off + 3, none⟩ = some (.string pnm) ∧ w'.cell? ⟨(pa.add (i * 7)).block, (pa.add (i * 7)).off + 4, none⟩ = some (.int .i64 pn) ∧ w'.cell? ⟨(pa.add (i * 7)).block, (pa.add (i * 7)).off + 5, none⟩ = some (.slice pol pll pcl) ∧ w'.cell? ⟨(pa.add (i * 7)).block, (pa.add (i * 7)).off + 6, none⟩ = some (.slice pob plb pcb) ∧ w'.cell? (qa.add (i * 7)) = some (.int .i64 qk) ∧ w'.cell? ⟨(qa.add (i * 7)).block, (qa.add (i * 7)).off + 1, none⟩ = some (.bool qneg) ∧ w'.cell? ⟨(qa.add (i * 7)).block, (qa.add (i * 7)).off + 2, none⟩ = some (.slice qod qld qcd) ∧ w'.cell? ⟨(qa.add (i * 7)).block, (qa.add (i * 7)).off + 3, none⟩ = some (.string qnm) ∧ w'.cell? ⟨(qa.add (i * 7)).block, (qa.add (i * 7)).off + 4, none⟩ = some (.int .i64 qn) ∧ w'.cell? ⟨(qa.add (i * 7)).block, (qa.add (i * 7)).off + 5, none⟩ = some (.slice qol qll qcl) ∧ w'.cell? ⟨(qa.add (i * 7)).block, (qa.add (i * 7)).off + 6, none⟩ = some (.slice qob qlb qcb))) := hid (fun w' hb => by
            obtain ⟨x0, x1, x2, x3, x4, x5, x6⟩ := (kA'.below hb).res
            obtain ⟨z0, z1, z2, z3, z4, z5, z6⟩ := (kB'.below hb).res
            have q : ∀ {a : Addr} {v : Value}, wr.cell? a = some v → w'.cell? a = some v := fun h => (hb.cell (World.block_lt_of_cell? _ _ h)).trans h
            exact ⟨x0, x1, x2, x3, x4, x5, x6, z0, z1, z2, z3, z4, z5, z6, q y0, q y1, q y2, q y3, q y4, q y5, q y6, q u0, q u1, q u2, q u3, q u4, q u5, q u6⟩)
          clear y0 y1 y2 y3 y4 y5 y6 u0 u1 u2 u3 u4 u5 u6
          go_wp2_with fail
          clear x0 x1 x2 x3 x4 x5 x6 z0 z1 z2 z3 z4 z5 z6
          refine wp_region_held_drew (S := fun w' => w'.cell? ⟨w.heap.size, 0, none⟩ = some (.int .i64 6) ∧ w'.cell? ⟨w.heap.size, 1, none⟩ = some (.bool neg) ∧ w'.cell? ⟨w.heap.size, 2, none⟩ = some (.slice od d.length cd) ∧ w'.cell? ⟨w.heap.size, 3, none⟩ = some (.string nm) ∧ w'.cell? ⟨w.heap.size, 4, none⟩ = some (.int .i64 n) ∧ w'.cell? ⟨w.heap.size, 5, none⟩ = some (.slice (some pa) l.length cl) ∧ w'.cell? ⟨w.heap.size, 6, none⟩ = some (.slice ob b.length cb) ∧ w'.cell? ⟨w.heap.size + 1, 0, none⟩ = some (.int .i64 6) ∧ w'.cell? ⟨w.heap.size + 1, 1, none⟩ = some (.bool neg') ∧ w'.cell? ⟨w.heap.size + 1, 2, none⟩ = some (.slice od' d'.length cd') ∧ w'.cell? ⟨w.heap.size + 1, 3, none⟩ = some (.string nm') ∧ w'.cell? ⟨w.heap.size + 1, 4, none⟩ = some (.int .i64 n') ∧ w'.cell? ⟨w.heap.size + 1, 5, none⟩ = some (.slice (some qa) l'.length cl') ∧ w'.cell? ⟨w.heap.size + 1, 6, none⟩ = some (.slice ob' b'.length cb') ∧ w'.cell? (pa.add (i * 7)) = some (.int .i64 pk) ∧ w'.cell? ⟨(pa.add (i * 7)).block, (pa.add (i * 7)).off + 1, none⟩ = some (.bool pneg) ∧ w'.cell? ⟨(pa.add (i * 7)).block, (pa.add (i * 7)).off + 2, none⟩ = some (.slice pod pld pcd) ∧ w'.cell? ⟨(pa.add (i * 7)).block, (pa.add (i * 7)).off + 3, none⟩ = some (.string pnm) ∧ w'.cell? ⟨(pa.add (i * 7)).block, (pa.add (i * 7)).off + 4, none⟩ = some (.int .i64 pn) ∧ w'.cell? ⟨(pa.add (i * 7)).block, (pa.add (i * 7)).off + 5, none⟩ = some (.slice pol pll pcl) ∧ w'.cell? ⟨(pa.add (i * 7)).block, (pa.add (i * 7)).off + 6, none⟩ = some (.slice pob plb pcb) ∧ w'.cell? (qa.add (i * 7)) = some (.int .i64 qk) ∧ w'.cell? ⟨(qa.add (i * 7)).block, (qa.add (i * 7)).off + 1, none⟩ = some (.bool qneg) ∧ w'.cell? ⟨(qa.add (i * 7)).block, (qa.add (i * 7)).off + 2, none⟩ = some (.slice qod qld qcd) ∧ w'.cell? ⟨(qa.add (i * 7)).block, (qa.add (i * 7)).off + 3, none⟩ = some (.string qnm) ∧ w'.cell? ⟨(qa.add (i * 7)).block, (qa.add (i * 7)).off + 4, none⟩ = some (.int .i64 qn) ∧ w'.cell? ⟨(qa.add (i * 7)).block, (qa.add (i * 7)).off + 5, none⟩ = some (.slice qol qll qcl) ∧ w'.cell? ⟨(qa.add (i * 7)).block, (qa.add (i * 7)).off + 6, none⟩ = some (.slice qob qlb qcb)) (by kernel_rfl) (by exact hS.out _ hDr) (fun hHeld => ?_)
          refine wpAnyH_take (i := 0) (oi := _) (v := ?_) rfl (by kernel_rfl) (by kernel_rfl) (by kernel_rfl) (fun _ _ _ h => h) (Or.inl ⟨by rfl, ?_⟩) (by assumption) ?_
          rotate_left 1
          · (intro w hSw; (try dsimp only at hSw); go_simp; try with_reducible rfl)
          try simp (maxSteps := 10000000) only [List.getElem_toArray, List.getElem_cons_succ, List.getElem_cons_zero, Act.put, List.setIfInBounds_toArray, List.set_cons_zero, List.set_cons_succ]
          refine wpAnyH_take (i := 1) (oi := _) (v := ?_) rfl (by kernel_rfl) (by kernel_rfl) (by kernel_rfl) (fun _ _ _ h => h) (Or.inl ⟨by rfl, ?_⟩) (by assumption) ?_
          rotate_left 1
          · (intro w hSw; (try dsimp only at hSw); go_simp; try with_reducible rfl)
          try simp (maxSteps := 10000000) only [List.getElem_toArray, List.getElem_cons_succ, List.getElem_cons_zero, Act.put, List.setIfInBounds_toArray, List.set_cons_zero, List.set_cons_succ]
          refine wpAnyH_take (i := 2) (oi := _) (v := ?_) rfl (by kernel_rfl) (by kernel_rfl) (by kernel_rfl) (fun _ _ _ h => h) (Or.inl ⟨by rfl, ?_⟩) (by assumption) ?_
          rotate_left 1
          · (intro w hSw; (try dsimp only at hSw); go_simp; try with_reducible rfl)
          try simp (maxSteps := 10000000) only [List.getElem_toArray, List.getElem_cons_succ, List.getElem_cons_zero, Act.put, List.setIfInBounds_toArray, List.set_cons_zero, List.set_cons_succ]
          refine wpAnyH_take (i := 3) (oi := _) (v := ?_) rfl (by kernel_rfl) (by kernel_rfl) (by kernel_rfl) (fun _ _ _ h => h) (Or.inl ⟨by rfl, ?_⟩) (by assumption) ?_
          rotate_left 1
          · (intro w hSw; (try dsimp only at hSw); go_simp; try with_reducible rfl)
          try simp (maxSteps := 10000000) only [List.getElem_toArray, List.getElem_cons_succ, List.getElem_cons_zero, Act.put, List.setIfInBounds_toArray, List.set_cons_zero, List.set_cons_succ]
          refine wpAnyH_take (i := 4) (oi := _) (v := ?_) rfl (by kernel_rfl) (by kernel_rfl) (by kernel_rfl) (fun _ _ _ h => h) (Or.inl ⟨by rfl, ?_⟩) (by assumption) ?_
          rotate_left 1
          · (intro w hSw; (try dsimp only at hSw); go_simp; try with_reducible rfl)
          try simp (maxSteps := 10000000) only [List.getElem_toArray, List.getElem_cons_succ, List.getElem_cons_zero, Act.put, List.setIfInBounds_toArray, List.set_cons_zero, List.set_cons_succ]
          refine wpAnyH_take (i := 5) (oi := _) (v := ?_) rfl (by kernel_rfl) (by kernel_rfl) (by kernel_rfl) (fun _ _ _ h => h) (Or.inl ⟨by rfl, ?_⟩) (by assumption) ?_
          rotate_left 1
          · (intro w hSw; (try dsimp only at hSw); go_simp; try with_reducible rfl)
          try simp (maxSteps := 10000000) only [List.getElem_toArray, List.getElem_cons_succ, List.getElem_cons_zero, Act.put, List.setIfInBounds_toArray, List.set_cons_zero, List.set_cons_succ]
          refine wpAnyH_take (i := 6) (oi := _) (v := ?_) rfl (by kernel_rfl) (by kernel_rfl) (by kernel_rfl) (fun _ _ _ h => h) (Or.inl ⟨by rfl, ?_⟩) (by assumption) ?_
          rotate_left 1
          · (intro w hSw; (try dsimp only at hSw); go_simp; try with_reducible rfl)
          try simp (maxSteps := 10000000) only [List.getElem_toArray, List.getElem_cons_succ, List.getElem_cons_zero, Act.put, List.setIfInBounds_toArray, List.set_cons_zero, List.set_cons_succ]
          refine wpAnyH_take (i := 7) (oi := _) (v := ?_) rfl (by kernel_rfl) (by kernel_rfl) (by kernel_rfl) (fun _ _ _ h => h) (Or.inl ⟨by rfl, ?_⟩) (by assumption) ?_
          rotate_left 1
          · (intro w hSw; (try dsimp only at hSw); go_simp; try with_reducible rfl)
          try simp (maxSteps := 10000000) only [List.getElem_toArray, List.getElem_cons_succ, List.getElem_cons_zero, Act.put, List.setIfInBounds_toArray, List.set_cons_zero, List.set_cons_succ]
          refine wpAnyH_take (i := 8) (oi := _) (v := ?_) rfl (by kernel_rfl) (by kernel_rfl) (by kernel_rfl) (fun _ _ _ h => h) (Or.inl ⟨by rfl, ?_⟩) (by assumption) ?_
          rotate_left 1
          · (intro w hSw; (try dsimp only at hSw); go_simp; try with_reducible rfl)
          try simp (maxSteps := 10000000) only [List.getElem_toArray, List.getElem_cons_succ, List.getElem_cons_zero, Act.put, List.setIfInBounds_toArray, List.set_cons_zero, List.set_cons_succ]
          refine wpAnyH_take (i := 9) (oi := _) (v := ?_) rfl (by kernel_rfl) (by kernel_rfl) (by kernel_rfl) (fun _ _ _ h => h) (Or.inl ⟨by rfl, ?_⟩) (by assumption) ?_
          rotate_left 1
          · (intro w hSw; (try dsimp only at hSw); go_simp; try with_reducible rfl)
          try simp (maxSteps := 10000000) only [List.getElem_toArray, List.getElem_cons_succ, List.getElem_cons_zero, Act.put, List.setIfInBounds_toArray, List.set_cons_zero, List.set_cons_succ]
          refine wpAnyH_ready (rs := [10]) (by kernel_rfl) (by simp) ?_
          refine AllReadyH.cons rfl (fun K hK => ?_) AllReadyH.nil
          go_simp
          refine (hIH.out t t' _ _ _ hsz hokt hokt' (tv_below hTp hDr) (tv_below hTq hDr) (hTr.below hDr)).mono ?_
          rintro e w2 ⟨rfl, b2⟩
          have c2 : Below wr.heap.size wr w2 := below_and hDr (Nat.le_refl _) b2
          try go_simp
          refine hK.out _ _ ?_ (fun hHeld => ?_)
          · exact hS.out _ (by assumption)
          clear hK K
          try simp (maxSteps := 10000000) only [List.getElem_toArray, List.getElem_cons_succ, List.getElem_cons_zero, Act.put, List.setIfInBounds_toArray, List.set_cons_zero, List.set_cons_succ]
          refine wpAnyH_take (i := 11) (oi := _) (v := ?_) rfl (by kernel_rfl) (by kernel_rfl) (by kernel_rfl) (fun _ _ _ h => h) (Or.inl ⟨by rfl, ?_⟩) (by assumption) ?_
          rotate_left 1
          · (intro w hSw; (try dsimp only at hSw); go_simp; try with_reducible rfl)
          try simp (maxSteps := 10000000) only [List.getElem_toArray, List.getElem_cons_succ, List.getElem_cons_zero, Act.put, List.setIfInBounds_toArray, List.set_cons_zero, List.set_cons_succ]
          refine wpAnyH_done (by kernel_rfl) ?_ _
          have kA2 := kA'.below c2
          have kB2 := kB'.below c2
          have hB2 := below_and hBr (by have := hBr.size; omega) c2
          obtain ⟨X, hX⟩ : ∃ X, cT t t' = X := ⟨_, rfl⟩
          rw [hX]
          have HX := hid hX
          clear hX hS hDr hHeld c2 b2 kA' kB' hBr hTp hTq hTr hokt hokt'
          by_cases hx : X = 0
          · subst hx
            go_wp2
            go_roundg (l.length - (i + 1))
            case measure => omega
            case rel =>
              refine ⟨i + 1, by omega, by go_num, hid ?_, kA2, kB2, hB2⟩
              have := hstep.out
              rw [HX.out, lx_zero] at this
              rw [← this]; exact hH.out
          · have f1 : (X == 0) = false := by simpa using hx
            have f2 : (X != 0) = true := by simpa using hx
            have hRx : R = X := by rw [← hH.out, hstep.out, HX.out, lx_ne hx]
            have HR2 := hid hRx
            clear hx hRx
            go_wp2
            go_ret
            exact ⟨by rw [HR2.out]; rfl, hB2⟩
        · have hii : ¬ ((i : Nat) : Int) < ((l.length : Nat) : Int) := by omega
          have hR0 : R = 0 := by rw [← hH.out, List.drop_eq_nil_of_le (by omega), cR_nil]
          have HR2 := hid hR0
          clear hR0
          go_wp2
          go_ret
          exact ⟨by rw [HR2.out]; rfl, hBr⟩
    · have hR2 : Hid (R = cmpZ (l.length : Int) (l'.length : Int)) := hid (by rw [← HR.out, cT_6, lx_ne (by rw [Ne, cz_zero]; omega)])
      have f3 : ((l.length : Int) != (l'.length : Int)) = true := by simp; omega
      have f4 : ((l.length : Int) == (l'.length : Int)) = false := by simp; omega
      clear hl2
      go_wp2_with fail
      refine (order_w _ _ _).mono ?_
      rintro e w2 ⟨rfl, rfl⟩
      go_wp2
      go_ret
      exact ⟨by rw [hR2.out]; rfl, hB0⟩
  have e0 : (k == 0) = false := by simp [hk0]
  have e1 : (k == 1) = false := by simp [hk1]
  have e2 : (k == 2) = false := by simp [hk2]
  have e3 : (k == 3) = false := by simp [hk3]
  have e4 : (k == 4) = false := by simp [hk4]
  have e6 : (k == 6) = false := by simp [hk6]
  have e7 : (k == 7) = false := by simp [hk7]
  have hR2 : Hid (R = 0) := hid (by
    rw [← HR.out, cT, cz_self, lx_zero, if_neg hk0, if_neg hk1, if_neg (by omega), if_neg hk7, if_neg (by omega)])
  go_wp2
  go_ret
  exact ⟨by rw [hR2.out]; rfl, hB0⟩
end Go.Proofs.YtjacoodfhkaioaaGreatDoor
namespace Go.Proofs.YtjacoodfhkaioaaGreatDoor
open Go.ChangeShapes Go.WideShapes Go.ChangeAt Go.ChangeMaps Go.RowKit
set_option linter.unusedSimpArgs false
set_option linter.unusedVariables false
set_option maxRecDepth 2000
structure St_cp where
  l10 : Bool
  l13 : Bool
  l14 : Bool
  l15 : Bool
  x10 : Value
  x13 : Value
  x14 : Value
  x15 : Value
def St_cp.L (s : St_cp) : Array Bool := #[true, true, true, true, true, true, true, true, true, true, s.l10, true, true, s.l13, s.l14, s.l15, false]
def St_cp.n (s : St_cp) : Nat := (!s.l10).toNat + (!s.l13).toNat + (!s.l14).toNat + (!s.l15).toNat
def St_cp.ok (s : St_cp) : Bool := (!s.l14 || (s.l10 && s.l13))
theorem wpAnyH_cp {P : Program} {md : Region.Mode} {ops : Array Oper} {Q : Exit → Act → World → Prop} {S : World → Prop} (A : St_cp → Act) (R : St_cp → World → Prop)
    (hmem0 : (bAll fun l10 => bAll fun l13 => bAll fun l14 => bAll fun l15 => (l10 && l13 && l14 && l15) || !((!l14 || (l10 && l13))) || (!(Region.ready md ops #[true, true, true, true, true, true, true, true, true, true, l10, true, true, l13, l14, l15, false]).isEmpty && (Region.ready md ops #[true, true, true, true, true, true, true, true, true, true, l10, true, true, l13, l14, l15, false]).all fun i => (i == 10 && !l10) || (i == 13 && !l13) || (i == 14 && !l14 && l10 && l13) || (i == 15 && !l15))) = true)
    (hord : ∀ s w, R s w → s.ok = true)
    (h10 : ∀ s w, R s w → s.l10 = false → wpOp P ops Q 10 (fun a' w' => ∃ x, a' = A { s with l10 := true, x10 := x } ∧ R { s with l10 := true, x10 := x } w' ∧ S w') (A s) w)
    (h13 : ∀ s w, R s w → s.l13 = false → wpOp P ops Q 13 (fun a' w' => ∃ x, a' = A { s with l13 := true, x13 := x } ∧ R { s with l13 := true, x13 := x } w' ∧ S w') (A s) w)
    (h14 : ∀ s w, R s w → s.l14 = false → s.l10 = true → s.l13 = true → wpOp P ops Q 14 (fun a' w' => ∃ x, a' = A { s with l14 := true, x14 := x } ∧ R { s with l14 := true, x14 := x } w' ∧ S w') (A s) w)
    (h15 : ∀ s w, R s w → s.l15 = false → wpOp P ops Q 15 (fun a' w' => ∃ x, a' = A { s with l15 := true, x15 := x } ∧ R { s with l15 := true, x15 := x } w' ∧ S w') (A s) w)
    (hdone : ∀ (x10 x13 x14 x15 : Value) w, R ⟨true, true, true, true, x10, x13, x14, x15⟩ w → wpAnyH P md ops Q S 1 #[true, true, true, true, true, true, true, true, true, true, true, true, true, true, true, true, false] (A ⟨true, true, true, true, x10, x13, x14, x15⟩) w)
    (w : World) (a : Act) (x10 x13 x14 x15 : Value) (ha : a = A ⟨false, false, false, false, x10, x13, x14, x15⟩) (hR : R ⟨false, false, false, false, x10, x13, x14, x15⟩ w) :
    wpAnyH P md ops Q S 5 #[true, true, true, true, true, true, true, true, true, true, false, true, true, false, false, false, false] a w := by
  have hmem : ∀ l10 l13 l14 l15 : Bool, (l10 && l13 && l14 && l15) = false → ((!l14 || (l10 && l13))) = true → Region.ready md ops #[true, true, true, true, true, true, true, true, true, true, l10, true, true, l13, l14, l15, false] ≠ [] ∧ ∀ i ∈ Region.ready md ops #[true, true, true, true, true, true, true, true, true, true, l10, true, true, l13, l14, l15, false], (i = 10 ∧ l10 = false) ∨ (i = 13 ∧ l13 = false) ∨ (i = 14 ∧ l14 = false ∧ l10 = true ∧ l13 = true) ∨ (i = 15 ∧ l15 = false) := by
    intro l10 l13 l14 l15 he e1
    have h := (bAll_spec (bAll_spec (bAll_spec (bAll_spec hmem0 l10) l13) l14) l15)
    obtain ⟨r, hr⟩ : ∃ r, Region.ready md ops #[true, true, true, true, true, true, true, true, true, true, l10, true, true, l13, l14, l15, false] = r := ⟨_, rfl⟩
    rw [hr] at h ⊢
    rw [he, e1, Bool.not_true, Bool.false_or, Bool.false_or, Bool.and_eq_true] at h
    refine ⟨fun e => ?_, fun i hi => ?_⟩
    · rw [e] at h; simp at h
    · have h2 := List.all_eq_true.1 h.2 i hi
      simpa [or_assoc, and_assoc] using h2
  refine wpAnyH_inv (m := 1) St_cp.L A R St_cp.n ?_ ?_ ?_ 4 ⟨false, false, false, false, x10, x13, x14, x15⟩ w _ a rfl rfl ha hR
  · rintro ⟨l10, l13, l14, l15, y10, y13, y14, y15⟩ w hR hn
    refine (hmem l10 l13 l14 l15 ?_ (hord _ _ hR)).1
    clear hR
    revert hn
    cases l10 <;> cases l13 <;> cases l14 <;> cases l15 <;> simp [St_cp.n]
  · intro s w hR hn i hi
    have hm := (hmem s.l10 s.l13 s.l14 s.l15 (by
      clear hR hi
      revert hn
      rcases s with ⟨l10, l13, l14, l15, y10, y13, y14, y15⟩
      cases l10 <;> cases l13 <;> cases l14 <;> cases l15 <;> simp [St_cp.n]) (hord _ _ hR)).2 i hi
    rcases hm with ⟨rfl, e⟩ | ⟨rfl, e⟩ | ⟨rfl, e, e0, e1⟩ | ⟨rfl, e⟩
    · refine wpOp_mono (fun a' w' h => ?_) (h10 s w hR e)
      obtain ⟨x, k1, k2, k3⟩ := h
      exact ⟨_, by simp [St_cp.n, e]; try omega, rfl, k1, k2, k3⟩
    · refine wpOp_mono (fun a' w' h => ?_) (h13 s w hR e)
      obtain ⟨x, k1, k2, k3⟩ := h
      exact ⟨_, by simp [St_cp.n, e]; try omega, rfl, k1, k2, k3⟩
    · refine wpOp_mono (fun a' w' h => ?_) (h14 s w hR e e0 e1)
      obtain ⟨x, k1, k2, k3⟩ := h
      exact ⟨_, by simp [St_cp.n, e]; try omega, rfl, k1, k2, k3⟩
    · refine wpOp_mono (fun a' w' h => ?_) (h15 s w hR e)
      obtain ⟨x, k1, k2, k3⟩ := h
      exact ⟨_, by simp [St_cp.n, e]; try omega, rfl, k1, k2, k3⟩
  · rintro ⟨l10, l13, l14, l15, y10, y13, y14, y15⟩ w hR hn
    have : l10 = true ∧ l13 = true ∧ l14 = true ∧ l15 = true := by
      revert hn
      cases l10 <;> cases l13 <;> cases l14 <;> cases l15 <;> simp [St_cp.n]
    obtain ⟨rfl, rfl, rfl, rfl⟩ := this
    exact hdone _ _ _ _ w hR
structure St_ap where
  l1 : Bool
  l7 : Bool
  l8 : Bool
  x1 : Value
  x7 : Value
  x8 : Value
def St_ap.L (s : St_ap) : Array Bool := #[true, s.l1, true, true, true, true, true, s.l7, s.l8, false, false, false]
def St_ap.n (s : St_ap) : Nat := (!s.l1).toNat + (!s.l7).toNat + (!s.l8).toNat
def St_ap.ok (s : St_ap) : Bool := (!s.l8 || (s.l7))
theorem wpAnyH_ap {P : Program} {md : Region.Mode} {ops : Array Oper} {Q : Exit → Act → World → Prop} {S : World → Prop} (A : St_ap → Act) (R : St_ap → World → Prop)
    (hmem0 : (bAll fun l1 => bAll fun l7 => bAll fun l8 => (l1 && l7 && l8) || !((!l8 || (l7))) || (!(Region.ready md ops #[true, l1, true, true, true, true, true, l7, l8, false, false, false]).isEmpty && (Region.ready md ops #[true, l1, true, true, true, true, true, l7, l8, false, false, false]).all fun i => (i == 1 && !l1) || (i == 7 && !l7) || (i == 8 && !l8 && l7))) = true)
    (hord : ∀ s w, R s w → s.ok = true)
    (h1 : ∀ s w, R s w → s.l1 = false → wpOp P ops Q 1 (fun a' w' => ∃ x, a' = A { s with l1 := true, x1 := x } ∧ R { s with l1 := true, x1 := x } w' ∧ S w') (A s) w)
    (h7 : ∀ s w, R s w → s.l7 = false → wpOp P ops Q 7 (fun a' w' => ∃ x, a' = A { s with l7 := true, x7 := x } ∧ R { s with l7 := true, x7 := x } w' ∧ S w') (A s) w)
    (h8 : ∀ s w, R s w → s.l8 = false → s.l7 = true → wpOp P ops Q 8 (fun a' w' => ∃ x, a' = A { s with l8 := true, x8 := x } ∧ R { s with l8 := true, x8 := x } w' ∧ S w') (A s) w)
    (hdone : ∀ (x1 x7 x8 : Value) w, R ⟨true, true, true, x1, x7, x8⟩ w → wpAnyH P md ops Q S 3 #[true, true, true, true, true, true, true, true, true, false, false, false] (A ⟨true, true, true, x1, x7, x8⟩) w)
    (w : World) (a : Act) (x1 x7 x8 : Value) (ha : a = A ⟨false, false, false, x1, x7, x8⟩) (hR : R ⟨false, false, false, x1, x7, x8⟩ w) :
    wpAnyH P md ops Q S 6 #[true, false, true, true, true, true, true, false, false, false, false, false] a w := by
  have hmem : ∀ l1 l7 l8 : Bool, (l1 && l7 && l8) = false → ((!l8 || (l7))) = true → Region.ready md ops #[true, l1, true, true, true, true, true, l7, l8, false, false, false] ≠ [] ∧ ∀ i ∈ Region.ready md ops #[true, l1, true, true, true, true, true, l7, l8, false, false, false], (i = 1 ∧ l1 = false) ∨ (i = 7 ∧ l7 = false) ∨ (i = 8 ∧ l8 = false ∧ l7 = true) := by
    intro l1 l7 l8 he e1
    have h := (bAll_spec (bAll_spec (bAll_spec hmem0 l1) l7) l8)
    obtain ⟨r, hr⟩ : ∃ r, Region.ready md ops #[true, l1, true, true, true, true, true, l7, l8, false, false, false] = r := ⟨_, rfl⟩
    rw [hr] at h ⊢
    rw [he, e1, Bool.not_true, Bool.false_or, Bool.false_or, Bool.and_eq_true] at h
    refine ⟨fun e => ?_, fun i hi => ?_⟩
    · rw [e] at h; simp at h
    · have h2 := List.all_eq_true.1 h.2 i hi
      simpa [or_assoc, and_assoc] using h2
  refine wpAnyH_inv (m := 3) St_ap.L A R St_ap.n ?_ ?_ ?_ 3 ⟨false, false, false, x1, x7, x8⟩ w _ a rfl rfl ha hR
  · rintro ⟨l1, l7, l8, y1, y7, y8⟩ w hR hn
    refine (hmem l1 l7 l8 ?_ (hord _ _ hR)).1
    clear hR
    revert hn
    cases l1 <;> cases l7 <;> cases l8 <;> simp [St_ap.n]
  · intro s w hR hn i hi
    have hm := (hmem s.l1 s.l7 s.l8 (by
      clear hR hi
      revert hn
      rcases s with ⟨l1, l7, l8, y1, y7, y8⟩
      cases l1 <;> cases l7 <;> cases l8 <;> simp [St_ap.n]) (hord _ _ hR)).2 i hi
    rcases hm with ⟨rfl, e⟩ | ⟨rfl, e⟩ | ⟨rfl, e, e0⟩
    · refine wpOp_mono (fun a' w' h => ?_) (h1 s w hR e)
      obtain ⟨x, k1, k2, k3⟩ := h
      exact ⟨_, by simp [St_ap.n, e]; try omega, rfl, k1, k2, k3⟩
    · refine wpOp_mono (fun a' w' h => ?_) (h7 s w hR e)
      obtain ⟨x, k1, k2, k3⟩ := h
      exact ⟨_, by simp [St_ap.n, e]; try omega, rfl, k1, k2, k3⟩
    · refine wpOp_mono (fun a' w' h => ?_) (h8 s w hR e e0)
      obtain ⟨x, k1, k2, k3⟩ := h
      exact ⟨_, by simp [St_ap.n, e]; try omega, rfl, k1, k2, k3⟩
  · rintro ⟨l1, l7, l8, y1, y7, y8⟩ w hR hn
    have : l1 = true ∧ l7 = true ∧ l8 = true := by
      revert hn
      cases l1 <;> cases l7 <;> cases l8 <;> simp [St_ap.n]
    obtain ⟨rfl, rfl, rfl⟩ := this
    exact hdone _ _ _ w hR
structure St_tt where
  l1 : Bool
  l6 : Bool
  l7 : Bool
  x1 : Value
  x6 : Value
  x7 : Value
def St_tt.L (s : St_tt) : Array Bool := #[true, s.l1, true, true, true, true, s.l6, s.l7, false, false, false]
def St_tt.n (s : St_tt) : Nat := (!s.l1).toNat + (!s.l6).toNat + (!s.l7).toNat
def St_tt.ok (s : St_tt) : Bool := (!s.l7 || (s.l6))
theorem wpAnyH_tt {P : Program} {md : Region.Mode} {ops : Array Oper} {Q : Exit → Act → World → Prop} {S : World → Prop} (A : St_tt → Act) (R : St_tt → World → Prop)
    (hmem0 : (bAll fun l1 => bAll fun l6 => bAll fun l7 => (l1 && l6 && l7) || !((!l7 || (l6))) || (!(Region.ready md ops #[true, l1, true, true, true, true, l6, l7, false, false, false]).isEmpty && (Region.ready md ops #[true, l1, true, true, true, true, l6, l7, false, false, false]).all fun i => (i == 1 && !l1) || (i == 6 && !l6) || (i == 7 && !l7 && l6))) = true)
    (hord : ∀ s w, R s w → s.ok = true)
    (h1 : ∀ s w, R s w → s.l1 = false → wpOp P ops Q 1 (fun a' w' => ∃ x, a' = A { s with l1 := true, x1 := x } ∧ R { s with l1 := true, x1 := x } w' ∧ S w') (A s) w)
    (h6 : ∀ s w, R s w → s.l6 = false → wpOp P ops Q 6 (fun a' w' => ∃ x, a' = A { s with l6 := true, x6 := x } ∧ R { s with l6 := true, x6 := x } w' ∧ S w') (A s) w)
    (h7 : ∀ s w, R s w → s.l7 = false → s.l6 = true → wpOp P ops Q 7 (fun a' w' => ∃ x, a' = A { s with l7 := true, x7 := x } ∧ R { s with l7 := true, x7 := x } w' ∧ S w') (A s) w)
    (hdone : ∀ (x1 x6 x7 : Value) w, R ⟨true, true, true, x1, x6, x7⟩ w → wpAnyH P md ops Q S 3 #[true, true, true, true, true, true, true, true, false, false, false] (A ⟨true, true, true, x1, x6, x7⟩) w)
    (w : World) (a : Act) (x1 x6 x7 : Value) (ha : a = A ⟨false, false, false, x1, x6, x7⟩) (hR : R ⟨false, false, false, x1, x6, x7⟩ w) :
    wpAnyH P md ops Q S 6 #[true, false, true, true, true, true, false, false, false, false, false] a w := by
  have hmem : ∀ l1 l6 l7 : Bool, (l1 && l6 && l7) = false → ((!l7 || (l6))) = true → Region.ready md ops #[true, l1, true, true, true, true, l6, l7, false, false, false] ≠ [] ∧ ∀ i ∈ Region.ready md ops #[true, l1, true, true, true, true, l6, l7, false, false, false], (i = 1 ∧ l1 = false) ∨ (i = 6 ∧ l6 = false) ∨ (i = 7 ∧ l7 = false ∧ l6 = true) := by
    intro l1 l6 l7 he e1
    have h := (bAll_spec (bAll_spec (bAll_spec hmem0 l1) l6) l7)
    obtain ⟨r, hr⟩ : ∃ r, Region.ready md ops #[true, l1, true, true, true, true, l6, l7, false, false, false] = r := ⟨_, rfl⟩
    rw [hr] at h ⊢
    rw [he, e1, Bool.not_true, Bool.false_or, Bool.false_or, Bool.and_eq_true] at h
    refine ⟨fun e => ?_, fun i hi => ?_⟩
    · rw [e] at h; simp at h
    · have h2 := List.all_eq_true.1 h.2 i hi
      simpa [or_assoc, and_assoc] using h2
  refine wpAnyH_inv (m := 3) St_tt.L A R St_tt.n ?_ ?_ ?_ 3 ⟨false, false, false, x1, x6, x7⟩ w _ a rfl rfl ha hR
  · rintro ⟨l1, l6, l7, y1, y6, y7⟩ w hR hn
    refine (hmem l1 l6 l7 ?_ (hord _ _ hR)).1
    clear hR
    revert hn
    cases l1 <;> cases l6 <;> cases l7 <;> simp [St_tt.n]
  · intro s w hR hn i hi
    have hm := (hmem s.l1 s.l6 s.l7 (by
      clear hR hi
      revert hn
      rcases s with ⟨l1, l6, l7, y1, y6, y7⟩
      cases l1 <;> cases l6 <;> cases l7 <;> simp [St_tt.n]) (hord _ _ hR)).2 i hi
    rcases hm with ⟨rfl, e⟩ | ⟨rfl, e⟩ | ⟨rfl, e, e0⟩
    · refine wpOp_mono (fun a' w' h => ?_) (h1 s w hR e)
      obtain ⟨x, k1, k2, k3⟩ := h
      exact ⟨_, by simp [St_tt.n, e]; try omega, rfl, k1, k2, k3⟩
    · refine wpOp_mono (fun a' w' h => ?_) (h6 s w hR e)
      obtain ⟨x, k1, k2, k3⟩ := h
      exact ⟨_, by simp [St_tt.n, e]; try omega, rfl, k1, k2, k3⟩
    · refine wpOp_mono (fun a' w' h => ?_) (h7 s w hR e e0)
      obtain ⟨x, k1, k2, k3⟩ := h
      exact ⟨_, by simp [St_tt.n, e]; try omega, rfl, k1, k2, k3⟩
  · rintro ⟨l1, l6, l7, y1, y6, y7⟩ w hR hn
    have : l1 = true ∧ l6 = true ∧ l7 = true := by
      revert hn
      cases l1 <;> cases l6 <;> cases l7 <;> simp [St_tt.n]
    obtain ⟨rfl, rfl, rfl⟩ := this
    exact hdone _ _ _ w hR
end Go.Proofs.YtjacoodfhkaioaaGreatDoor
namespace Go.Proofs.YtjacoodfhkaioaaGreatDoor
open Go.ChangeShapes Go.WideShapes Go.ChangeAt Go.ChangeMaps Go.RowKit Go.Shelf
set_option linter.unusedSimpArgs false
set_option linter.unusedVariables false
set_option maxRecDepth 2000
abbrev Zb (S : Nat) (w : World) : Nat → Prop := fun k => S ≤ k ∧ k < w.heap.size
theorem zb_tv {S S' : Nat} {w w' : World} {t : Tm} {v : Value} (h : TV (Zb S w) w t v) (hb : ∀ k, S ≤ k → k < w.heap.size → w'.heap[k]? = w.heap[k]?) (hs : w.heap.size ≤ w'.heap.size) (hS : S' ≤ S) : TV (Zb S' w') w' t v :=
  TV.mono (fun k _ h => ⟨Nat.le_trans hS h.1, Nat.lt_of_lt_of_le h.2 hs⟩) _ _ (TV.zs (fun k hk => hb k hk.1 hk.2) _ _ h)
/-- new blocks that hold no terms -/
def Zt (S : Nat) (w : World) : Nat → Prop := fun k => S ≤ k ∧ ∃ (cur : Array Value) (e : TypeId) (f : Nat × Nat), w.heap[k]? = some (Obj.cells cur e f) ∧ e ≠ 27
def NT (w w' : World) : Prop := ∀ (k : Nat) (cur : Array Value) (e : TypeId) (f : Nat × Nat), w.heap[k]? = some (Obj.cells cur e f) → e ≠ 27 → w'.heap[k]? = w.heap[k]?
theorem NT.of_below {w w' : World} (h : Below w.heap.size w w') : NT w w' := fun k cur e f hk _ => h.block k (Array.getElem?_eq_some_iff.1 hk).1
theorem NT.refl (w : World) : NT w w := fun _ _ _ _ _ _ => rfl
theorem NT.trans {a b c : World} (h : NT a b) (k : NT b c) : NT a c := fun i cur e f hi he => by
  have h1 := h i cur e f hi he
  exact (k i cur e f (h1.trans hi) he).trans h1
theorem NT.of_only {g : Nat} {cur : Array Value} {w w' : World} (h : Only g w w') (hg : w.heap[g]? = some (.cells cur 27 (0, 0))) : NT w w' := fun k c e f hk he => h.2.2 k (fun eq => by
  subst eq
  rw [hg] at hk
  simp only [Option.some.injEq, Obj.cells.injEq] at hk
  exact he hk.2.1.symm)
theorem NT.of_grown {w w' : World} {v : Value} {B m : Nat} {xs : List Value} (h : w.grownBy w' v.ownBlock) (hO : w.ownsRow B 27 7 v m xs) : NT w w' := fun k c e f hk he => h.block k (Array.getElem?_eq_some_iff.1 hk).1 (fun eq => by
  obtain ⟨_, ⟨h2, _⟩ | ⟨g', cap', cur, h2, _, hg, _⟩⟩ := hO
  · rw [h2] at eq; simp [Value.ownBlock] at eq
  · rw [h2] at eq
    simp only [Value.ownBlock, Option.some.injEq] at eq
    subst eq
    rw [hg] at hk
    simp only [Option.some.injEq, Obj.cells.injEq] at hk
    exact he hk.2.1.symm)
theorem zt_on {S : Nat} {o : Option Addr} {xs : List Value} {w w' : World} (h : Ls (Zt S w) o xs w) (hn : NT w w') : Ls (Zt S w') o xs w' :=
  Ls.mono (h.zs (fun k hk => by
    obtain ⟨_, cur, e, f, h1, h2⟩ := hk
    exact hn k cur e f h1 h2)) (fun k _ hk => by
    obtain ⟨h0, cur, e, f, h1, h2⟩ := hk
    exact ⟨h0, cur, e, f, (hn k cur e f h1 h2).trans h1, h2⟩)
theorem own_zt {S B : Nat} {w : World} {e : TypeId} {v : Value} {n : Nat} {xs : List Value} (h : w.ownsRow B e 1 v n xs) (hS : S ≤ B) (he : e ≠ 27) : ∃ o c, v = .slice o n c ∧ n ≤ c ∧ Ls (Zt S w) o xs w := by
  obtain ⟨h1, ⟨h2, rfl⟩ | ⟨g, cap, cur, h2, hB, hg, hn, _, _, ht⟩⟩ := h
  · refine ⟨none, 0, h2, Nat.le_refl _, ?_⟩
    have : xs = [] := List.eq_nil_of_length_eq_zero (by simpa using h1)
    subst this
    exact Ls.nil _ _ _
  · refine ⟨_, cap, h2, hn, fun j u hj => ⟨_, rfl, ⟨by show S ≤ g; omega, cur, e, _, hg, he⟩, ?_⟩⟩
    rw [addr_add, Nat.zero_add]
    have hj2 : j < n * 1 := by rw [← h1]; exact (List.getElem?_eq_some_iff.1 hj).1
    rw [← ht, List.getElem?_take, if_pos hj2, Array.getElem?_toList] at hj
    simp [World.cell?, hg, hj]
theorem step_append_run {P : Program} {w : World} {ops : Array Oper} {o : Oper} {a : Act} {K : Act → World → Prop} {Q : Exit → Act → World → Prop} {E : Prop} (hgd : o.guard = none) (s x : Operand) (t : TypeId) (ho : o.op = .call { callee := .builtin .append, args := #[s, x], argTypes := #[t, t] })
    (vs vx v' : Value) (w' : World) (hs : a.eval s = vs) (hx : a.eval x = vx) (hr : (Builtin.append_ #[t, t] o.type #[vs, vx]).run P w = .ok v' w') (h : K (a.put o.dst v') w') : if Region.wanted o (yielded ops a.tmps) = true then Oper.wp P o a w K Q else E := by
  have hw : Region.wanted o (yielded ops a.tmps) = true := by simp [Region.wanted, hgd]
  rw [if_pos hw]
  exact wp_append_run s x t ho vs vx v' w' hs hx hr h
abbrev zC : Array Value := #[.int .i64 0, .bool false, nilS, .string noS, .int .i64 0, nilS, nilS]
structure Rcp (V : World) (S : Nat) (k : Int) (neg : Bool) (d : List Nat) (nm : ByteArray) (n : Int) (b : List Nat) (s : St_cp) (w : World) : Prop where
  bel : Below V.heap.size V w
  ok : s.ok = true
  h10 : s.l10 = true → ∃ o c, s.x10 = .slice o d.length c ∧ d.length ≤ c ∧ Ls (Zt S w) o (lim d) w
  h13 : s.l13 = true → ∃ o c, s.x13 = .slice o b.length c ∧ b.length ≤ c ∧ Ls (Zt S w) o (bts b) w
  h14 : s.l14 = true → s.x14 = .agg #[.int .i64 k, .bool neg, s.x10, .string nm, .int .i64 n, nilS, s.x13]
  h15 : s.l15 = true → ∃ g, s.x15 = .pointer (some ⟨g, 0, none⟩) ∧ V.heap.size ≤ g ∧ w.heap[g]? = some (.cells zC 27 (0, 0))
section
variable {V : World} {S : Nat} {k : Int} {neg : Bool} {d : List Nat} {nm : ByteArray} {n : Int} {b : List Nat} {s : St_cp} {w w' : World}
theorem blk_on' {g : Nat} {o : Obj} {w w' : World} (h : w.heap[g]? = some o) (hb : Below w.heap.size w w') : w'.heap[g]? = some o := (hb.block g (Array.getElem?_eq_some_iff.1 h).1).trans h
theorem Rcp.on (h : Rcp V S k neg d nm n b s w) (hb : Below w.heap.size w w') : Rcp V S k neg d nm n b s w' :=
  ⟨below_and' h.bel h.bel.size hb, h.ok, fun e => by
    obtain ⟨o, c, h1, h2, h3⟩ := h.h10 e
    exact ⟨o, c, h1, h2, zt_on h3 (NT.of_below hb)⟩, fun e => by
    obtain ⟨o, c, h1, h2, h3⟩ := h.h13 e
    exact ⟨o, c, h1, h2, zt_on h3 (NT.of_below hb)⟩, h.h14, fun e => by
    obtain ⟨g, h1, h2, h3⟩ := h.h15 e
    exact ⟨g, h1, h2, blk_on' h3 hb⟩⟩
theorem Rcp.no14 (h : Rcp V S k neg d nm n b s w) (h0 : s.l10 = false ∨ s.l13 = false) : s.l14 = false := by
  have hk := h.ok
  rcases h0 with h0 | h0 <;> cases h14 : s.l14 <;> simp_all [St_cp.ok]
theorem Rcp.c10 (h : Rcp V S k neg d nm n b s w) (h0 : s.l10 = false) (hS : S ≤ V.heap.size) {v : Value} (hO : w'.ownsRow w.heap.size 145 1 v d.length (lim d)) (hb : Below w.heap.size w w') : Rcp V S k neg d nm n b { s with l10 := true, x10 := v } w' := by
  have k1 := h.on hb
  have q := h.no14 (.inl h0)
  obtain ⟨o, c, h1, h2, h3⟩ := own_zt hO (Nat.le_trans hS h.bel.size) (by decide)
  exact ⟨k1.bel, by simp [St_cp.ok, q], fun _ => ⟨o, c, h1, h2, h3⟩, k1.h13, fun e => by simp [q] at e, k1.h15⟩
theorem Rcp.c13 (h : Rcp V S k neg d nm n b s w) (h0 : s.l13 = false) (hS : S ≤ V.heap.size) {v : Value} (hO : w'.ownsRow w.heap.size 5 1 v b.length (bts b)) (hb : Below w.heap.size w w') : Rcp V S k neg d nm n b { s with l13 := true, x13 := v } w' := by
  have k1 := h.on hb
  have q := h.no14 (.inr h0)
  obtain ⟨o, c, h1, h2, h3⟩ := own_zt hO (Nat.le_trans hS h.bel.size) (by decide)
  exact ⟨k1.bel, by simp [St_cp.ok, q], k1.h10, fun _ => ⟨o, c, h1, h2, h3⟩, fun e => by simp [q] at e, k1.h15⟩
theorem Rcp.c14 (h : Rcp V S k neg d nm n b s w) (e10 : s.l10 = true) (e13 : s.l13 = true) : Rcp V S k neg d nm n b { s with l14 := true, x14 := .agg #[.int .i64 k, .bool neg, s.x10, .string nm, .int .i64 n, nilS, s.x13] } w :=
  ⟨h.bel, by simp [St_cp.ok, e10, e13], h.h10, h.h13, fun _ => rfl, h.h15⟩
theorem Rcp.c15 (h : Rcp V S k neg d nm n b s w) : Rcp V S k neg d nm n b { s with l15 := true, x15 := .pointer (some ⟨w.heap.size, 0, none⟩) } (w.alloc (.cells zC 27)) := by
  have k1 := h.on ((Below.refl w.heap.size w).alloc (Nat.le_refl _) (.cells zC 27))
  exact ⟨k1.bel, h.ok, k1.h10, k1.h13, k1.h14, fun _ => ⟨_, rfl, h.bel.size, heap_alloc_new w _⟩⟩
end
abbrev Zq (H : Nat) (v : Value) (w : World) : Nat → Prop := fun k => H ≤ k ∧ k < w.heap.size ∧ v.ownBlock ≠ some k
structure Rap (V : World) (vL : Value) (t : Tm) (l1 l7 l8 : Bool) (x1 x7 x8 : Value) (w : World) : Prop where
  bel : Below V.heap.size V w
  ok : (!l8 || l7) = true
  h1 : l1 = true → x1 = vL
  h7 : l7 = true → ∃ xk xneg xod xld xcd xnm xn xol xll xcl xob xlb xcb, x7 = tmV xk xneg (.slice xod xld xcd) xnm xn (.slice xol xll xcl) (.slice xob xlb xcb) ∧ TV (Zb V.heap.size w) w t (tmV xk xneg (.slice xod xld xcd) xnm xn (.slice xol xll xcl) (.slice xob xlb xcb))
  h8 : l8 = true → ∃ g xk xneg xod xld xcd xnm xn xol xll xcl xob xlb xcb, x7 = tmV xk xneg (.slice xod xld xcd) xnm xn (.slice xol xll xcl) (.slice xob xlb xcb) ∧ TV (Zb V.heap.size w) w t (tmV xk xneg (.slice xod xld xcd) xnm xn (.slice xol xll xcl) (.slice xob xlb xcb)) ∧ x8 = .slice (some ⟨g, 0, none⟩) 1 1 ∧ V.heap.size ≤ g ∧ w.heap[g]? = some (.cells #[.int .i64 xk, .bool xneg, .slice xod xld xcd, .string xnm, .int .i64 xn, .slice xol xll xcl, .slice xob xlb xcb] 27 (0, 0))
section
variable {V : World} {vL : Value} {t : Tm} {l1 l7 l8 : Bool} {x1 x7 x8 : Value} {w w' : World}
theorem Rap.on (h : Rap V vL t l1 l7 l8 x1 x7 x8 w) (hb : Below w.heap.size w w') : Rap V vL t l1 l7 l8 x1 x7 x8 w' :=
  ⟨below_and' h.bel h.bel.size hb, h.ok, h.h1, fun e => by
    obtain ⟨xk, xneg, xod, xld, xcd, xnm, xn, xol, xll, xcl, xob, xlb, xcb, h1, h2⟩ := h.h7 e
    exact ⟨xk, xneg, xod, xld, xcd, xnm, xn, xol, xll, xcl, xob, xlb, xcb, h1, zb_tv h2 (fun k _ hk => hb.block k hk) hb.size (Nat.le_refl _)⟩, fun e => by
    obtain ⟨g, xk, xneg, xod, xld, xcd, xnm, xn, xol, xll, xcl, xob, xlb, xcb, h1, h2, h3, h4, h5⟩ := h.h8 e
    exact ⟨g, xk, xneg, xod, xld, xcd, xnm, xn, xol, xll, xcl, xob, xlb, xcb, h1, zb_tv h2 (fun k _ hk => hb.block k hk) hb.size (Nat.le_refl _), h3, h4, blk_on' h5 hb⟩⟩
theorem Rap.c1 (h : Rap V vL t l1 l7 l8 x1 x7 x8 w) : Rap V vL t true l7 l8 vL x7 x8 w := ⟨h.bel, h.ok, fun _ => rfl, h.h7, h.h8⟩
theorem Rap.c7 (h : Rap V vL t l1 l7 l8 x1 x7 x8 w) (h0 : l7 = false) {v : Value} (hT : TV (Zb w.heap.size w') w' t v) (hb : Below w.heap.size w w') : Rap V vL t l1 true l8 x1 v x8 w' := by
  have k1 := h.on hb
  have q : l8 = false := by have := h.ok; subst h0; simpa using this
  subst q
  obtain ⟨xk, xneg, xod, xld, xcd, xnm, xn, xol, xll, xcl, xob, xlb, xcb, rfl⟩ := hT.form
  exact ⟨k1.bel, rfl, k1.h1, fun _ => ⟨xk, xneg, xod, xld, xcd, xnm, xn, xol, xll, xcl, xob, xlb, xcb, rfl, TV.mono (fun k _ hk => ⟨Nat.le_trans h.bel.size hk.1, hk.2⟩) _ _ hT⟩, fun e => by simp at e⟩
theorem Rap.c8 {xk : Int} {xneg : Bool} {xod : Option Addr} {xld xcd : Nat} {xnm : ByteArray} {xn : Int} {xol : Option Addr} {xll xcl : Nat} {xob : Option Addr} {xlb xcb : Nat} (h : Rap V vL t l1 l7 l8 x1 (tmV xk xneg (.slice xod xld xcd) xnm xn (.slice xol xll xcl) (.slice xob xlb xcb)) x8 w) (e7 : l7 = true) : Rap V vL t l1 l7 true x1 (tmV xk xneg (.slice xod xld xcd) xnm xn (.slice xol xll xcl) (.slice xob xlb xcb)) (.slice (some ⟨w.heap.size, 0, none⟩) 1 1) (w.alloc (.cells #[.int .i64 xk, .bool xneg, .slice xod xld xcd, .string xnm, .int .i64 xn, .slice xol xll xcl, .slice xob xlb xcb] 27)) := by
  have k1 := h.on ((Below.refl w.heap.size w).alloc (Nat.le_refl _) (.cells #[.int .i64 xk, .bool xneg, .slice xod xld xcd, .string xnm, .int .i64 xn, .slice xol xll xcl, .slice xob xlb xcb] 27))
  obtain ⟨yk, yneg, yod, yld, ycd, ynm, yn, yol, yll, ycl, yob, ylb, ycb, e, hT⟩ := k1.h7 e7
  simp only [tmV, Value.agg.injEq, Array.mk.injEq, List.cons.injEq, Value.int.injEq, Value.bool.injEq, Value.slice.injEq, Value.string.injEq, and_true, true_and] at e
  obtain ⟨rfl, rfl, ⟨rfl, rfl, rfl⟩, rfl, rfl, ⟨rfl, rfl, rfl⟩, rfl, rfl, rfl⟩ := e
  exact ⟨k1.bel, by simp [e7], k1.h1, k1.h7, fun _ => ⟨w.heap.size, _, _, _, _, _, _, _, _, _, _, _, _, _, rfl, hT, rfl, h.bel.size, heap_alloc_new w _⟩⟩
end
end Go.Proofs.YtjacoodfhkaioaaGreatDoor
