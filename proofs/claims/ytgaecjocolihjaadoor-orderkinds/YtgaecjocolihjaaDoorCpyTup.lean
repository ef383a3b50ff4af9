/- TermTuple of the reference. -/
import Derived.Test.YtgaecjocolihjaaDoorCpyW
namespace Go.Proofs.YtgaecjocolihjaaDoor
open Go.ChangeShapes Go.WideShapes Go.ChangeAt Go.ChangeMaps Go.RowKit Go.Shelf
set_option linter.unusedSimpArgs false
set_option linter.unusedVariables false
set_option maxHeartbeats 8000000 in
set_option maxRecDepth 8000 in
theorem rTuple_w (ls : List Tm) (o : Option Addr) (c : Nat) (w : World) (hl : ls.length ≤ 1000000) (hok : ∀ p ∈ partsL ls, p.ok1 ∧ fairB p = true) (hT : TR (Low w) w ls o) :
    Calls Tryd.prog 10 #[.slice o ls.length c] w fun e w' => ∃ v', e = .returned v' ∧ TV (Zb w.heap.size w') w' (tupT ls) v' ∧ Below w.heap.size w w' := by
  have htR := hid hT
  have hok2 := hid hok
  clear hT hok
  obtain ⟨kB, kG, hB0, hz0⟩ := bx2 w (.int .i64 0) (.bool false) nilS (.string noS) (.int .i64 0) nilS nilS (.int .i64 4) (.bool false) nilS (.string noS) (.int .i64 0) nilS nilS 27 27
  have hR00 : ((w.alloc (.cells zC 27)).alloc (.cells #[.int .i64 4, .bool false, nilS, .string noS, .int .i64 0, nilS, nilS] 27)).heap[w.heap.size]? = some (.cells zC 27 (0, 0)) := (((Below.refl _ _).alloc (Nat.le_refl _) _).block w.heap.size (by simp)).trans (heap_alloc_new w (.cells zC 27))
  have hG00 := heap_alloc_new (w.alloc (.cells zC 27)) (.cells #[.int .i64 4, .bool false, nilS, .string noS, .int .i64 0, nilS, nilS] 27)
  rw [World.size_alloc] at hG00
  obtain ⟨iT, hT1, hT2, hT3, hT4⟩ := info_parts infoT
  go_enter Tryd.func10, Tryd.ntmps10
  go_wp2_with fail
  generalize ((w.alloc (.cells #[.int .i64 0, .bool false, .slice none 0 0, .string { data := #[] }, .int .i64 0, .slice none 0 0, .slice none 0 0] 27)).alloc (.cells #[.int .i64 4, .bool false, .slice none 0 0, .string { data := #[] }, .int .i64 0, .slice none 0 0, .slice none 0 0] 27)) = W0 at *
  go_loopg [4] ls.length (fun t v4 wr => ∃ (i : Nat) (vL : Value) (xs : List Value), t + i = ls.length ∧ v4 = .int .i64 (i : Int) ∧ wr.heap[w.heap.size + 1]? = some (.cells #[.int .i64 4, .bool false, nilS, .string noS, .int .i64 0, vL, nilS] 27 (0, 0)) ∧ wr.heap[w.heap.size]? = some (.cells zC 27 (0, 0)) ∧ wr.ownsRow (w.heap.size + 2) 27 7 vL i xs ∧ RC (Zq (w.heap.size + 2) vL wr) wr (ls.take i) xs ∧ Below w.heap.size w wr ∧ w.heap.size + 2 ≤ wr.heap.size)
  case atStart => exact ⟨0, nilS, [], by omega, rfl, hG00, hR00, World.ownsRow_nil _ _ _ _, rfl, hB0, by omega⟩
  case round =>
    obtain ⟨i, vL, xs, hti, rfl, hgr, hRb, hOw, hRC, hbV, hsz⟩ := hrel
    clear hG00 hR00 hB0 kB kG hz0
    obtain ⟨oL, cL, rfl, hcL⟩ := own_sl hOw
    have kG2 := res7 hgr
    by_cases hil : i < ls.length
    · have hii : ((i : Nat) : Int) < ((ls.length : Nat) : Int) := by omega
      obtain ⟨t, ht⟩ : ∃ t, ls[i]? = some t := ⟨ls[i], by simp [hil]⟩
      obtain ⟨pa, pk, pneg, pod, pld, pcd, pnm, pn, pol, pll, pcl, pob, plb, pcb, hpa, hTp, y0, y1, y2, y3, y4, y5, y6⟩ := htR.out.get ht hbV
      subst hpa
      have hokt : ∀ p ∈ parts t, p.ok1 ∧ fairB p = true := fun p hp => hok2.out p (mem_partsL ht hp)
      have htk : Hid (ls.take (i + 1) = ls.take i ++ [t]) := hid (by rw [List.take_add_one, ht]; rfl)
      clear ht
      have dV5 : Below wr.heap.size wr wr.drew := (Below.refl _ wr).drew
      have hO3 : wr.drew.ownsRow (w.heap.size + 2) 27 7 (.slice oL i cL) i xs := own_blkS hOw (fun k hk => rfl)
      have hRC3 : RC (Zq (w.heap.size + 2) (.slice oL i cL) wr.drew) wr.drew (ls.take i) xs := RC.mono (fun k hk hz => hz) (RC.zs (Z := Zq (w.heap.size + 2) (.slice oL i cL) wr) (w := wr) (w' := wr.drew) (fun k hk => rfl) hRC)
      have hgr3 : wr.drew.heap[w.heap.size + 1]? = some (.cells #[.int .i64 4, .bool false, nilS, .string noS, .int .i64 0, .slice oL i cL, nilS] 27 (0, 0)) := hgr
      have hRb3 : wr.drew.heap[w.heap.size]? = some (.cells zC 27 (0, 0)) := hRb
      have hbV3 : Below w.heap.size w wr.drew := hbV.drew
      have hsz3 : w.heap.size + 2 ≤ wr.drew.heap.size := hsz
      have hTp3 := tv_below hTp dV5
      have hpl : pa.block < w.heap.size := by
        have h1 := htR.out
        cases ls with
        | nil => simp at hil
        | cons q qs =>
          unfold TR at h1
          obtain ⟨a, _, e, h2, _⟩ := h1
          injection e with e
          rw [e]; exact h2
      have hSk : Hid (∀ w' : World, (∀ k, k < w.heap.size → w'.heap[k]? = wr.drew.heap[k]?) → (w'.cell? (pa.add (i * 7)) = some (.int .i64 pk) ∧ w'.cell? ⟨(pa.add (i * 7)).block, (pa.add (i * 7)).off + 1, none⟩ = some (.bool pneg) ∧ w'.cell? ⟨(pa.add (i * 7)).block, (pa.add (i * 7)).off + 2, none⟩ = some (.slice pod pld pcd) ∧ w'.cell? ⟨(pa.add (i * 7)).block, (pa.add (i * 7)).off + 3, none⟩ = some (.string pnm) ∧ w'.cell? ⟨(pa.add (i * 7)).block, (pa.add (i * 7)).off + 4, none⟩ = some (.int .i64 pn) ∧ w'.cell? ⟨(pa.add (i * 7)).block, (pa.add (i * 7)).off + 5, none⟩ = some (.slice pol pll pcl) ∧ w'.cell? ⟨(pa.add (i * 7)).block, (pa.add (i * 7)).off + 6, none⟩ = some (.slice pob plb pcb))) := hid (fun w' hb => by
        have q : ∀ {a : Addr} {v : Value}, a.block = pa.block → wr.cell? a = some v → w'.cell? a = some v := fun e h => (World.cell?_of_block (hb _ (by rw [e]; omega))).trans h
        exact ⟨q (block_add _ _) y0, q (block_add _ _) y1, q (block_add _ _) y2, q (block_add _ _) y3, q (block_add _ _) y4, q (block_add _ _) y5, q (block_add _ _) y6⟩)
      have hS : Hid (∀ w', Below wr.drew.heap.size wr.drew w' → (w'.cell? (pa.add (i * 7)) = some (.int .i64 pk) ∧ w'.cell? ⟨(pa.add (i * 7)).block, (pa.add (i * 7)).off + 1, none⟩ = some (.bool pneg) ∧ w'.cell? ⟨(pa.add (i * 7)).block, (pa.add (i * 7)).off + 2, none⟩ = some (.slice pod pld pcd) ∧ w'.cell? ⟨(pa.add (i * 7)).block, (pa.add (i * 7)).off + 3, none⟩ = some (.string pnm) ∧ w'.cell? ⟨(pa.add (i * 7)).block, (pa.add (i * 7)).off + 4, none⟩ = some (.int .i64 pn) ∧ w'.cell? ⟨(pa.add (i * 7)).block, (pa.add (i * 7)).off + 5, none⟩ = some (.slice pol pll pcl) ∧ w'.cell? ⟨(pa.add (i * 7)).block, (pa.add (i * 7)).off + 6, none⟩ = some (.slice pob plb pcb))) := hid (fun w' hb => hSk.out w' (fun k hk => hb.block k (by omega)))
      clear hRC hOw hgr hRb hbV hsz hTp dV5 kG2 y0 y1 y2 y3 y4 y5 y6
      go_wp2_with fail
      refine wp_region_held_drew (S := fun w' => w'.cell? (pa.add (i * 7)) = some (.int .i64 pk) ∧ w'.cell? ⟨(pa.add (i * 7)).block, (pa.add (i * 7)).off + 1, none⟩ = some (.bool pneg) ∧ w'.cell? ⟨(pa.add (i * 7)).block, (pa.add (i * 7)).off + 2, none⟩ = some (.slice pod pld pcd) ∧ w'.cell? ⟨(pa.add (i * 7)).block, (pa.add (i * 7)).off + 3, none⟩ = some (.string pnm) ∧ w'.cell? ⟨(pa.add (i * 7)).block, (pa.add (i * 7)).off + 4, none⟩ = some (.int .i64 pn) ∧ w'.cell? ⟨(pa.add (i * 7)).block, (pa.add (i * 7)).off + 5, none⟩ = some (.slice pol pll pcl) ∧ w'.cell? ⟨(pa.add (i * 7)).block, (pa.add (i * 7)).off + 6, none⟩ = some (.slice pob plb pcb)) (by kernel_rfl) (by exact hS.out _ (Below.refl _ _)) (fun hHeld => ?_)
      generalize wr.drew = V5 at *
      refine wpAnyH_take (i := 0) (oi := _) (v := ?_) rfl (by kernel_rfl) (by kernel_rfl) (by kernel_rfl) (fun _ _ _ h => h) (Or.inl ⟨by rfl, ?_⟩) (by assumption) ?_
      rotate_left 1
      · (intro w hSw; (try dsimp only at hSw); go_simp; try with_reducible rfl)
      try simp (maxSteps := 10000000) only [List.getElem_toArray, List.getElem_cons_succ, List.getElem_cons_zero, Act.put, List.setIfInBounds_toArray, List.set_cons_zero, List.set_cons_succ]
      refine wpAnyH_take (i := 2) (oi := _) (v := ?_) rfl (by kernel_rfl) (by kernel_rfl) (by kernel_rfl) (fun _ _ _ h => h) (Or.inl ⟨by rfl, ?_⟩) (by assumption) ?_
      rotate_left 1
      · (intro w hSw; (try dsimp only at hSw); go_simp; try with_reducible rfl)
      try simp (maxSteps := 10000000) only [List.getElem_toArray, List.getElem_cons_succ, List.getElem_cons_zero, Act.put, List.setIfInBounds_toArray, List.set_cons_zero, List.set_cons_succ]
      refine wpAnyH_take (i := 3) (oi := _) (v := ?_) rfl (by kernel_rfl) (by kernel_rfl) (by kernel_rfl) (fun _ _ _ h => h) (Or.inl ⟨by rfl, ?_⟩) (by assumption) ?_
      rotate_left 1
      · (intro w hSw; (try dsimp only at hSw); go_simp; try with_reducible rfl)
      try simp (maxSteps := 10000000) only [List.getElem_toArray, List.getElem_cons_succ, List.getElem_cons_zero, Act.put, List.setIfInBounds_toArray, List.set_cons_zero, List.set_cons_succ]
      refine wpAnyH_take (i := 4) (oi := _) (v := ?_) rfl (by kernel_rfl) (by kernel_rfl) (by kernel_rfl) (fun _ _ _ h => h) (Or.inl ⟨by rfl, ?_⟩) (by assumption) ?_
      rotate_left 1
      · (intro w hSw; (try dsimp only at hSw); go_simp; try with_reducible rfl)
      try simp (maxSteps := 10000000) only [List.getElem_toArray, List.getElem_cons_succ, List.getElem_cons_zero, Act.put, List.setIfInBounds_toArray, List.set_cons_zero, List.set_cons_succ]
      refine wpAnyH_take (i := 5) (oi := _) (v := ?_) rfl (by kernel_rfl) (by kernel_rfl) (by kernel_rfl) (fun _ _ _ h => h) (Or.inl ⟨by rfl, ?_⟩) (by assumption) ?_
      rotate_left 1
      · (intro w hSw; (try dsimp only at hSw); go_simp; try with_reducible rfl)
      try simp (maxSteps := 10000000) only [List.getElem_toArray, List.getElem_cons_succ, List.getElem_cons_zero, Act.put, List.setIfInBounds_toArray, List.set_cons_zero, List.set_cons_succ]
      refine wpAnyH_at (m' := 6) (listed' := #[true, false, true, true, true, true, false, false, false, false, false]) (by kernel_rfl) (by kernel_rfl) ?_
      refine wpAnyH_name fun a0 ha0 => ?_
      refine wpAnyH_tt (A := fun s => ((a0.put (some 13) s.x1).put (some 18) s.x6).put (some 19) s.x7) (R := fun s w => Rap V5 (.slice oL i cL) t s.l1 s.l6 s.l7 s.x1 s.x6 s.x7 w) ?_ (fun s w h => h.ok) ?_ ?_ ?_ ?_ _ _ u13 u18 u19 ?_ ?_
      · kernel_rfl
      · intro s w' hR h0
        have hc : w'.cell? ⟨w.heap.size + 1, 5, none⟩ = some (.slice oL i cL) := (res7 (blk_on' hgr3 hR.bel)).c5
        refine wpOp_step rfl (fun K' hK => ?_)
        have hK' := shutO hK
        clear hK
        subst ha0
        simp only [Act.put, List.setIfInBounds_toArray, List.set_cons_zero, List.set_cons_succ]
        go_simp
        refine hK'.out _ _ ⟨_, ?_, hR.c1, hS.out _ hR.bel⟩
        rfl
      · intro s w' hR h0
        refine wpOp_step rfl (fun K' hK => ?_)
        have hK' := shutO hK
        clear hK
        subst ha0
        simp only [Act.put, List.setIfInBounds_toArray, List.set_cons_zero, List.set_cons_succ]
        go_simp
        refine (rCopy_w (tsz t) t _ _ (Nat.le_refl _) hokt (tv_below hTp3 hR.bel)).mono ?_
        rintro e w7 ⟨v7, rfl, hT7, b7⟩
        try go_simp
        refine hK'.out _ _ ⟨_, ?_, hR.c7 h0 hT7 b7, hS.out _ (hR.c7 h0 hT7 b7).bel⟩
        rfl
      · intro s w' hR h0 e7
        obtain ⟨l1, l7, l8, x1, x7, x8⟩ := s
        dsimp only at hR e7 h0
        obtain ⟨xk, xneg, xod, xld, xcd, xnm, xn, xol, xll, xcl, xob, xlb, xcb, hx7, _⟩ := hR.h7 e7
        subst hx7
        refine wpOp_step rfl (fun K' hK => ?_)
        have hK' := shutO hK
        clear hK
        subst ha0
        simp only [Act.put, List.setIfInBounds_toArray, List.set_cons_zero, List.set_cons_succ]
        go_simp
        refine hK'.out _ _ ⟨_, ?_, hR.c8 e7, hS.out _ (hR.c8 e7).bel⟩
        rfl
      · intro x1 x7 x8 w5 hR
        have hx1 := hR.h1 rfl
        obtain ⟨gn, xk, xneg, xod, xld, xcd, xnm, xn, xol, xll, xcl, xob, xlb, xcb, hx7, hT5, hx8, hgn, kgn⟩ := hR.h8 rfl
        have hb5 := hR.bel
        clear hR
        dsimp only at hx1 hx7 hx8
        subst hx1
        subst hx7
        subst hx8
        subst ha0
        try simp only [Act.put, List.setIfInBounds_toArray, List.set_cons_zero, List.set_cons_succ]
        have hO5 : w5.ownsRow (w.heap.size + 2) 27 7 (.slice oL i cL) i xs := own_blkS hO3 (fun k hk => hb5.block k (own_blk7 hO3 k hk).2)
        have hg5 := blk_on' hgr3 hb5
        have hcr : ∀ (j : Nat) (u : Value), ([.int .i64 xk, .bool xneg, .slice xod xld xcd, .string xnm, .int .i64 xn, .slice xol xll xcl, .slice xob xlb xcb] : List Value)[j]? = some u → w5.cell? ((⟨gn, 0, none⟩ : Addr).add j) = some u := by
          intro j u hj
          rw [addr_add, Nat.zero_add]
          simp only [World.cell?, kgn]
          simpa using hj
        have hone : ∀ u ∈ ([.int .i64 xk, .bool xneg, .slice xod xld xcd, .string xnm, .int .i64 xn, .slice xol xll xcl, .slice xob xlb xcb] : List Value), u.oneCell' = true := by
          intro u hu
          simp only [List.mem_cons, List.not_mem_nil, or_false] at hu
          rcases hu with rfl | rfl | rfl | rfl | rfl | rfl | rfl <;> rfl
        refine wpAnyH_ready (rs := [8]) (by kernel_rfl) (by simp) ?_
        refine AllReadyH.cons rfl (fun K hK => ?_) AllReadyH.nil
        refine step_append_lies _ rfl _ _ 24 rfl (w.heap.size + 2) 27 iT (.agg #[.int .i64 0, .bool false, .slice none 0 0, .string ⟨#[]⟩, .int .i64 0, .slice none 0 0, .slice none 0 0]) 7 112 Tryd.underlying24 hT1 hT2 hT3 hT4 rfl (by decide) (.slice oL i cL) i xs rfl hO5 ⟨gn, 0, none⟩ 1 1 [.int .i64 xk, .bool xneg, .slice xod xld xcd, .string xnm, .int .i64 xn, .slice xol xll xcl, .slice xob xlb xcb] rfl rfl hcr hone (by decide) (by unfold maxLen; omega) (by omega) (by have := hb5.size; omega) w5.heap.size rfl (fun g2 cap2 w2 hown hgrow hg2 hlt2 => ?_)
        have hgg : w2.heap[w.heap.size + 1]? = w5.heap[w.heap.size + 1]? := hgrow.block _ (by have := hb5.size; omega) (fun e => by have := (own_blk7 hO5 _ e.symm).1; omega)
        have hg5' := hgg.trans hg5
        obtain ⟨f0, f1, f2, f3, f4, f5, f6⟩ := (res7 hg5').res
        have ff := (res7 hg5').fr
        have q2 : ∀ k, k < V5.heap.size → Value.ownBlock (.slice oL i cL) ≠ some k → w2.heap[k]? = V5.heap[k]? := fun k hk hn => (hgrow.block k (by have := hb5.size; omega) (fun e => hn e.symm)).trans (hb5.block k hk)
        have qs2 := hSk.out w2 (fun k hk => q2 k (by omega) (fun e => by have := (own_blk7 hO5 k e).1; omega))
        refine hK.out _ _ ?_ (fun hHeld => ?_)
        · first | exact hS.out _ (by assumption) | exact qs3 | exact qs2
        clear hK K
        try simp (maxSteps := 10000000) only [List.getElem_toArray, List.getElem_cons_succ, List.getElem_cons_zero, Act.put, List.setIfInBounds_toArray, List.set_cons_zero, List.set_cons_succ]
        refine wpAnyH_take (i := 9) (oi := _) (v := ?_) rfl (by kernel_rfl) (by kernel_rfl) (by kernel_rfl) (fun _ _ _ h => h) (Or.inl ⟨by rfl, ?_⟩) (by assumption) ?_
        rotate_left 1
        · (intro w hSw; (try dsimp only at hSw); go_simp; try with_reducible rfl)
        try simp (maxSteps := 10000000) only [List.getElem_toArray, List.getElem_cons_succ, List.getElem_cons_zero, Act.put, List.setIfInBounds_toArray, List.set_cons_zero, List.set_cons_succ]
        refine wpAnyH_ready (rs := [10]) (by kernel_rfl) (by simp) ?_
        refine AllReadyH.cons rfl (fun K hK => ?_) AllReadyH.nil
        go_simp
        have on5 := only_set w2 (w.heap.size + 1) 5 (.slice (some ⟨g2, 0, none⟩) (i + 1) cap2)
        have hg6 : (w2.setCell ⟨w.heap.size + 1, 5, none⟩ (.slice (some ⟨g2, 0, none⟩) (i + 1) cap2)).heap[w.heap.size + 1]? = some (.cells #[.int .i64 4, .bool false, nilS, .string noS, .int .i64 0, .slice (some ⟨g2, 0, none⟩) (i + 1) cap2, nilS] 27 (0, 0)) := heap_setc hg5' _
        clear f0 f1 f2 f3 f4 f5 f6 ff
        generalize w2.setCell ⟨w.heap.size + 1, 5, none⟩ (.slice (some ⟨g2, 0, none⟩) (i + 1) cap2) = w3 at *
        have qs3 := hSk.out w3 (fun k hk => (on5.2.2 k (by omega)).trans (q2 k (by omega) (fun e => by have := (own_blk7 hO5 k e).1; omega)))
        try go_simp
        refine hK.out _ _ ?_ (fun hHeld => ?_)
        · first | exact hS.out _ (by assumption) | exact qs3 | exact qs2
        clear hK K
        try simp (maxSteps := 10000000) only [List.getElem_toArray, List.getElem_cons_succ, List.getElem_cons_zero, Act.put, List.setIfInBounds_toArray, List.set_cons_zero, List.set_cons_succ]
        refine wpAnyH_done (by kernel_rfl) ?_ _
        obtain ⟨hO6, hRC6⟩ := row_step hsz3 (by omega) hO3 hRC3 hb5 hT5 hgrow hg2 hown on5
        have hsz6 : w.heap.size + 2 ≤ w3.heap.size := by have := hb5.size; have := hgrow.size; have : w3.heap.size = w2.heap.size := on5.2.1; omega
        have hR6 : w3.heap[w.heap.size]? = some (.cells zC 27 (0, 0)) := (on5.2.2 _ (by omega)).trans ((q2 _ (by omega) (fun e => by have := (own_blk7 hO5 _ e).1; omega)).trans hRb3)
        have hb6 : Below w.heap.size w w3 := (((below_and' hbV3 hbV3.size hb5).trans (⟨hgrow.os, hgrow.tape, hgrow.output, hgrow.size, fun k hk => hgrow.block k (by have := hb5.size; have := hbV3.size; omega) (fun e => by have := (own_blk7 hO5 k e.symm).1; omega)⟩ : Below w.heap.size w5 w2)).trans (on5.below (B := w.heap.size) (by omega)))
        clear hO5 hg5 hcr hone hgrow hg2 hown hb5 hT5 q2 qs2 qs3 hgg hg5' kgn hSk hS on5 hlt2
        go_wp2
        go_roundg (ls.length - (i + 1))
        case measure => omega
        case rel => exact ⟨i + 1, _, _, by omega, by go_num, hg6, hR6, hO6, by rw [htk.out]; exact hRC6, hb6, hsz6⟩
      · subst ha0; rfl
      · exact ⟨Below.refl _ _, rfl, fun h => by simp at h, fun h => by simp at h, fun h => by simp at h⟩
    · have hi2 : i = ls.length := by omega
      subst hi2
      have hii : ¬ ((ls.length : Nat) : Int) < ((ls.length : Nat) : Int) := by omega
      have kB2 := res7 hRb
      obtain ⟨y0, y1, y2, y3, y4, y5, y6⟩ := kG2.res
      obtain ⟨z0, z1, z2, z3, z4, z5, z6⟩ := kB2.res
      have zf := kB2.fr
      have onR := only_put wr w.heap.size (.int .i64 4) (.bool false) nilS (.string noS) (.int .i64 0) (.slice oL ls.length cL) nilS
      obtain ⟨r0, r1, r2, r3, r4, r5, r6⟩ := (kB2.put (b0 := .int .i64 4) (b1 := .bool false) (b2 := nilS) (b3 := .string noS) (b4 := .int .i64 0) (b5 := .slice oL ls.length cL) (b6 := nilS)).res
      have hfin : TV (Zb w.heap.size (((((((wr.setCell ⟨w.heap.size, 0, none⟩ (.int .i64 4)).setCell ⟨w.heap.size, 1, none⟩ (.bool false)).setCell ⟨w.heap.size, 2, none⟩ nilS).setCell ⟨w.heap.size, 3, none⟩ (.string noS)).setCell ⟨w.heap.size, 4, none⟩ (.int .i64 0)).setCell ⟨w.heap.size, 5, none⟩ (.slice oL ls.length cL)).setCell ⟨w.heap.size, 6, none⟩ nilS)) (((((((wr.setCell ⟨w.heap.size, 0, none⟩ (.int .i64 4)).setCell ⟨w.heap.size, 1, none⟩ (.bool false)).setCell ⟨w.heap.size, 2, none⟩ nilS).setCell ⟨w.heap.size, 3, none⟩ (.string noS)).setCell ⟨w.heap.size, 4, none⟩ (.int .i64 0)).setCell ⟨w.heap.size, 5, none⟩ (.slice oL ls.length cL)).setCell ⟨w.heap.size, 6, none⟩ nilS) (tupT ls) (tmV 4 false nilS noS 0 (.slice oL ls.length cL) nilS) := by
        have hO2 := own_blkS hOw (fun k hk => onR.2.2 k (by have := (own_blk7 hOw k hk).1; omega))
        rw [List.take_length] at hRC
        have hR2 := RC.mono (Z' := Zb w.heap.size (((((((wr.setCell ⟨w.heap.size, 0, none⟩ (.int .i64 4)).setCell ⟨w.heap.size, 1, none⟩ (.bool false)).setCell ⟨w.heap.size, 2, none⟩ nilS).setCell ⟨w.heap.size, 3, none⟩ (.string noS)).setCell ⟨w.heap.size, 4, none⟩ (.int .i64 0)).setCell ⟨w.heap.size, 5, none⟩ (.slice oL ls.length cL)).setCell ⟨w.heap.size, 6, none⟩ nilS)) (fun k hk hz => ⟨by have := hz.1; omega, hk⟩) (hRC.zs (w' := (((((((wr.setCell ⟨w.heap.size, 0, none⟩ (.int .i64 4)).setCell ⟨w.heap.size, 1, none⟩ (.bool false)).setCell ⟨w.heap.size, 2, none⟩ nilS).setCell ⟨w.heap.size, 3, none⟩ (.string noS)).setCell ⟨w.heap.size, 4, none⟩ (.int .i64 0)).setCell ⟨w.heap.size, 5, none⟩ (.slice oL ls.length cL)).setCell ⟨w.heap.size, 6, none⟩ nilS)) (fun k hk => onR.2.2 k (by have := hk.1; omega)))
        unfold tupT TV
        exact ⟨none, 0, oL, cL, none, 0, rfl, Ls.nil _ _ _, by simp, Lm.nil _, LsB.nil _ _ _, by simp, hcL, own_trz hO2 hR2 (fun q _ hq hq2 => ⟨by omega, hq2⟩)⟩
      have hBF : Below w.heap.size w (((((((wr.setCell ⟨w.heap.size, 0, none⟩ (.int .i64 4)).setCell ⟨w.heap.size, 1, none⟩ (.bool false)).setCell ⟨w.heap.size, 2, none⟩ nilS).setCell ⟨w.heap.size, 3, none⟩ (.string noS)).setCell ⟨w.heap.size, 4, none⟩ (.int .i64 0)).setCell ⟨w.heap.size, 5, none⟩ (.slice oL ls.length cL)).setCell ⟨w.heap.size, 6, none⟩ nilS) := hbV.trans (onR.below (B := w.heap.size) (Nat.le_refl _))
      have HF := hid hfin
      have HBF := hid hBF
      clear hfin hBF onR hRC hOw
      go_wp2
      exact bodyPost_ret (v := tmV 4 false nilS noS 0 (.slice oL ls.length cL) nilS) (by simp [results, Tryd.results10, go_sem, r0, r1, r2, r3, r4, r5, r6]) rfl ⟨_, rfl, HF.out, HBF.out⟩
end Go.Proofs.YtgaecjocolihjaaDoor
