/- Texts of mine, one behind the other: CpyTup, CpyList, TextAw, TextShow, TextShow2. -/
import Derived.Test.YtjacoodfhkaioaaGreatDoorShP
import Derived.Test.YtjacoodfhkaioaaGreatDoorShR
import Derived.Test.YtjacoodfhkaioaaGreatDoorShK
namespace Go.Proofs.YtjacoodfhkaioaaGreatDoor
open Go.ChangeShapes Go.WideShapes Go.ChangeAt Go.ChangeMaps Go.RowKit Go.Shelf
set_option linter.unusedSimpArgs false
set_option linter.unusedVariables false
set_option maxRecDepth 2000
set_option maxHeartbeats 8000000 in
set_option maxRecDepth 8000 in
theorem rTuple_w (ls : List Tm) (o : Option Addr) (c : Nat) (w : World) (hl : ls.length ≤ 1000000) (hok : ∀ p ∈ partsL ls, p.ok1 ∧ fairB p = true) (hT : TR (Low w) w ls o) :
    Calls Tryz.prog 20 #[.slice o ls.length c] w fun e w' => ∃ v', e = .returned v' ∧ TV (Zb w.heap.size w') w' (tupT ls) v' ∧ Below w.heap.size w w' := by
  have htR := hid hT
  have hok2 := hid hok
  clear hT hok
  obtain ⟨kB, kG, hB0, hz0⟩ := bx2 w (.int .i64 0) (.bool false) nilS (.string noS) (.int .i64 0) nilS nilS (.int .i64 4) (.bool false) nilS (.string noS) (.int .i64 0) nilS nilS 27 27
  have hR00 : ((w.alloc (.cells zC 27)).alloc (.cells #[.int .i64 4, .bool false, nilS, .string noS, .int .i64 0, nilS, nilS] 27)).heap[w.heap.size]? = some (.cells zC 27 (0, 0)) := (((Below.refl _ _).alloc (Nat.le_refl _) _).block w.heap.size (by simp)).trans (heap_alloc_new w (.cells zC 27))
  have hG00 := heap_alloc_new (w.alloc (.cells zC 27)) (.cells #[.int .i64 4, .bool false, nilS, .string noS, .int .i64 0, nilS, nilS] 27)
  rw [World.size_alloc] at hG00
  obtain ⟨iT, hT1, hT2, hT3, hT4⟩ := info_parts infoT
  go_enter Tryz.func20, Tryz.ntmps20
  go_wp2_with fail
  generalize ((w.alloc (.cells #[.int .i64 0, .bool false, .slice none 0 0, .string { data := #[] }, .int .i64 0, .slice none 0 0, .slice none 0 0] 27)).alloc (.cells #[.int .i64 4, .bool false, .slice none 0 0, .string { data := #[] }, .int .i64 0, .slice none 0 0, .slice none 0 0] 27)) = W0 at *
  go_loopg [4] ls.length (fun t v4 wr => ∃ (i : Nat) (vL : Value) (xs : List Value), t + i = ls.length ∧ v4 = .int .i64 (i : Int) ∧ wr.heap[w.heap.size + 1]? = some (.cells #[.int .i64 4, .bool false, nilS, .string noS, .int .i64 0, vL, nilS] 27 (0, 0)) ∧ wr.heap[w.heap.size]? = some (.cells zC 27 (0, 0)) ∧ wr.ownsRow (w.heap.size + 2) 27 7 vL i xs ∧ RC (Zq (w.heap.size + 2) vL wr) wr (ls.take i) xs ∧ Below w.heap.size w wr ∧ w.heap.size + 2 ≤ wr.heap.size)
  case atStart => exact ⟨0, nilS, [], by omega, rfl, hG00, hR00, World.ownsRow_nil _ _ _ _, rfl, hB0, by omega⟩
  case round =>
    obtain ⟨i, vL, xs, hti, rfl, hgr, hRb, hOw, hRC, hbV, hsz⟩ := hrel
    clear hG00 hR00 hB0 kB kG hz0
    obtain ⟨oL, cL, rfl, hcL⟩ := own_sl hOw
    have kG2 := res7 hgr
    by_cases hil : i < ls.length
    · have hii : ((i : Nat) : Int) < ((ls.length : Nat) : Int) := by omega
      obtain ⟨t, ht⟩ : ∃ t, ls[i]? = some t := ⟨ls[i], by simp [hil]⟩
      obtain ⟨pa, pk, pneg, pod, pld, pcd, pnm, pn, pol, pll, pcl, pob, plb, pcb, hpa, hTp, y0, y1, y2, y3, y4, y5, y6⟩ := htR.out.get ht hbV
      subst hpa
      have hokt : ∀ p ∈ parts t, p.ok1 ∧ fairB p = true := fun p hp => hok2.out p (mem_partsL ht hp)
      have htk : Hid (ls.take (i + 1) = ls.take i ++ [t]) := hid (by rw [List.take_add_one, ht]; rfl)
      clear ht
      have dV5 : Below wr.heap.size wr wr.drew := (Below.refl _ wr).drew
      have hO3 : wr.drew.ownsRow (w.heap.size + 2) 27 7 (.slice oL i cL) i xs := own_blkS hOw (fun k hk => rfl)
      have hRC3 : RC (Zq (w.heap.size + 2) (.slice oL i cL) wr.drew) wr.drew (ls.take i) xs := RC.mono (fun k hk hz => hz) (RC.zs (Z := Zq (w.heap.size + 2) (.slice oL i cL) wr) (w := wr) (w' := wr.drew) (fun k hk => rfl) hRC)
      have hgr3 : wr.drew.heap[w.heap.size + 1]? = some (.cells #[.int .i64 4, .bool false, nilS, .string noS, .int .i64 0, .slice oL i cL, nilS] 27 (0, 0)) := hgr
      have hRb3 : wr.drew.heap[w.heap.size]? = some (.cells zC 27 (0, 0)) := hRb
      have hbV3 : Below w.heap.size w wr.drew := hbV.drew
      have hsz3 : w.heap.size + 2 ≤ wr.drew.heap.size := hsz
      have hTp3 := tv_below hTp dV5
      have hpl : pa.block < w.heap.size := by
        have h1 := htR.out
        cases ls with
        | nil => simp at hil
        | cons q qs =>
          unfold TR at h1
          obtain ⟨a, _, e, h2, _⟩ := h1
          injection e with e
          rw [e]; exact h2
      have hSk : Hid (∀ w' : World, (∀ k, k < w.heap.size → w'.heap[k]? = wr.drew.heap[k]?) → (w'.cell? (pa.add (i * 7)) = some (.int .i64 pk) ∧ w'.cell? ⟨(pa.add (i * 7)).block, (pa.add (i * 7)).off + 1, none⟩ = some (.bool pneg) ∧ w'.cell? ⟨(pa.add (i * 7)).block, (pa.add (i * 7)).off + 2, none⟩ = some (.slice pod pld pcd) ∧ w'.cell? ⟨(pa.add (i * 7)).block, (pa.add (i * 7)).off + 3, none⟩ = some (.string pnm) ∧ w'.cell? ⟨(pa.add (i * 7)).block, (pa.add (i * 7)).off + 4, none⟩ = some (.int .i64 pn) ∧ w'.cell? ⟨(pa.add (i * 7)).block, (pa.add (i * 7)).off + 5, none⟩ = some (.slice pol pll pcl) ∧ w'.cell? ⟨(pa.add (i * 7)).block, (pa.add (i * 7)).off + 6, none⟩ = some (.slice pob plb pcb))) := hid (fun w' hb => by
        have q : ∀ {a : Addr} {v : Value}, a.block = pa.block → wr.cell? a = some v → w'.cell? a = some v := fun e h => (World.cell?_of_block (hb _ (by rw [e]; omega))).trans h
        exact ⟨q (block_add _ _) y0, q (block_add _ _) y1, q (block_add _ _) y2, q (block_add _ _) y3, q (block_add _ _) y4, q (block_add _ _) y5, q (block_add _ _) y6⟩)
      have hS : Hid (∀ w', Below wr.drew.heap.size wr.drew w' → (w'.cell? (pa.add (i * 7)) = some (.int .i64 pk) ∧ w'.cell? ⟨(pa.add (i * 7)).block, (pa.add (i * 7)).off + 1, none⟩ = some (.bool pneg) ∧ w'.cell? ⟨(pa.add (i * 7)).block, (pa.add (i * 7)).off + 2, none⟩ = some (.slice pod pld pcd) ∧ w'.cell? ⟨(pa.add (i * 7)).block, (pa.add (i * 7)).off + 3, none⟩ = some (.string pnm) ∧ w'.cell? ⟨(pa.add (i * 7)).block, (pa.add (i * 7)).off + 4, none⟩ = some (.int .i64 pn) ∧ w'.cell? ⟨(pa.add (i * 7)).block, (pa.add (i * 7)).off + 5, none⟩ = some (.slice pol pll pcl) ∧ w'.cell? ⟨(pa.add (i * 7)).block, (pa.add (i * 7)).off + 6, none⟩ = some (.slice pob plb pcb))) := hid (fun w' hb => hSk.out w' (fun k hk => hb.block k (by omega)))
      clear hRC hOw hgr hRb hbV hsz hTp dV5 kG2 y0 y1 y2 y3 y4 y5 y6
      go_wp2_with fail
      refine wp_region_held_drew (S := fun w' => w'.cell? (pa.add (i * 7)) = some (.int .i64 pk) ∧ w'.cell? ⟨(pa.add (i * 7)).block, (pa.add (i * 7)).off + 1, none⟩ = some (.bool pneg) ∧ w'.cell? ⟨(pa.add (i * 7)).block, (pa.add (i * 7)).off + 2, none⟩ = some (.slice pod pld pcd) ∧ w'.cell? ⟨(pa.add (i * 7)).block, (pa.add (i * 7)).off + 3, none⟩ = some (.string pnm) ∧ w'.cell? ⟨(pa.add (i * 7)).block, (pa.add (i * 7)).off + 4, none⟩ = some (.int .i64 pn) ∧ w'.cell? ⟨(pa.add (i * 7)).block, (pa.add (i * 7)).off + 5, none⟩ = some (.slice pol pll pcl) ∧ w'.cell? ⟨(pa.add (i * 7)).block, (pa.add (i * 7)).off + 6, none⟩ = some (.slice pob plb pcb)) (by kernel_rfl) (by exact hS.out _ (Below.refl _ _)) (fun hHeld => ?_)
      generalize wr.drew = V5 at *
      refine wpAnyH_take (i := 0) (oi := _) (v := ?_) rfl (by kernel_rfl) (by kernel_rfl) (by kernel_rfl) (fun _ _ _ h => h) (Or.inl ⟨by rfl, ?_⟩) (by assumption) ?_
      rotate_left 1
      · (intro w hSw; (try dsimp only at hSw); go_simp; try with_reducible rfl)
      try simp (maxSteps := 10000000) only [List.getElem_toArray, List.getElem_cons_succ, List.getElem_cons_zero, Act.put, List.setIfInBounds_toArray, List.set_cons_zero, List.set_cons_succ]
      refine wpAnyH_take (i := 2) (oi := _) (v := ?_) rfl (by kernel_rfl) (by kernel_rfl) (by kernel_rfl) (fun _ _ _ h => h) (Or.inl ⟨by rfl, ?_⟩) (by assumption) ?_
      rotate_left 1
      · (intro w hSw; (try dsimp only at hSw); go_simp; try with_reducible rfl)
      try simp (maxSteps := 10000000) only [List.getElem_toArray, List.getElem_cons_succ, List.getElem_cons_zero, Act.put, List.setIfInBounds_toArray, List.set_cons_zero, List.set_cons_succ]
      refine wpAnyH_take (i := 3) (oi := _) (v := ?_) rfl (by kernel_rfl) (by kernel_rfl) (by kernel_rfl) (fun _ _ _ h => h) (Or.inl ⟨by rfl, ?_⟩) (by assumption) ?_
      rotate_left 1
      · (intro w hSw; (try dsimp only at hSw); go_simp; try with_reducible rfl)
      try simp (maxSteps := 10000000) only [List.getElem_toArray, List.getElem_cons_succ, List.getElem_cons_zero, Act.put, List.setIfInBounds_toArray, List.set_cons_zero, List.set_cons_succ]
      refine wpAnyH_take (i := 4) (oi := _) (v := ?_) rfl (by kernel_rfl) (by kernel_rfl) (by kernel_rfl) (fun _ _ _ h => h) (Or.inl ⟨by rfl, ?_⟩) (by assumption) ?_
      rotate_left 1
      · (intro w hSw; (try dsimp only at hSw); go_simp; try with_reducible rfl)
      try simp (maxSteps := 10000000) only [List.getElem_toArray, List.getElem_cons_succ, List.getElem_cons_zero, Act.put, List.setIfInBounds_toArray, List.set_cons_zero, List.set_cons_succ]
      refine wpAnyH_take (i := 5) (oi := _) (v := ?_) rfl (by kernel_rfl) (by kernel_rfl) (by kernel_rfl) (fun _ _ _ h => h) (Or.inl ⟨by rfl, ?_⟩) (by assumption) ?_
      rotate_left 1
      · (intro w hSw; (try dsimp only at hSw); go_simp; try with_reducible rfl)
      try simp (maxSteps := 10000000) only [List.getElem_toArray, List.getElem_cons_succ, List.getElem_cons_zero, Act.put, List.setIfInBounds_toArray, List.set_cons_zero, List.set_cons_succ]
      refine wpAnyH_at (m' := 6) (listed' := #[true, false, true, true, true, true, false, false, false, false, false]) (by kernel_rfl) (by kernel_rfl) ?_
      refine wpAnyH_name fun a0 ha0 => ?_
      refine wpAnyH_tt (A := fun s => ((a0.put (some 13) s.x1).put (some 18) s.x6).put (some 19) s.x7) (R := fun s w => Rap V5 (.slice oL i cL) t s.l1 s.l6 s.l7 s.x1 s.x6 s.x7 w) ?_ (fun s w h => h.ok) ?_ ?_ ?_ ?_ _ _ u13 u18 u19 ?_ ?_
      · kernel_rfl
      · intro s w' hR h0
        have hc : w'.cell? ⟨w.heap.size + 1, 5, none⟩ = some (.slice oL i cL) := (res7 (blk_on' hgr3 hR.bel)).c5
        refine wpOp_step rfl (fun K' hK => ?_)
        have hK' := shutO hK
        clear hK
        subst ha0
        simp only [Act.put, List.setIfInBounds_toArray, List.set_cons_zero, List.set_cons_succ]
        go_simp
        refine hK'.out _ _ ⟨_, ?_, hR.c1, hS.out _ hR.bel⟩
        rfl
      · intro s w' hR h0
        refine wpOp_step rfl (fun K' hK => ?_)
        have hK' := shutO hK
        clear hK
        subst ha0
        simp only [Act.put, List.setIfInBounds_toArray, List.set_cons_zero, List.set_cons_succ]
        go_simp
        refine (rCopy_w (tsz t) t _ _ (Nat.le_refl _) hokt (tv_below hTp3 hR.bel)).mono ?_
        rintro e w7 ⟨v7, rfl, hT7, b7⟩
        try go_simp
        refine hK'.out _ _ ⟨_, ?_, hR.c7 h0 hT7 b7, hS.out _ (hR.c7 h0 hT7 b7).bel⟩
        rfl
      · intro s w' hR h0 e7
        obtain ⟨l1, l7, l8, x1, x7, x8⟩ := s
        dsimp only at hR e7 h0
        obtain ⟨xk, xneg, xod, xld, xcd, xnm, xn, xol, xll, xcl, xob, xlb, xcb, hx7, _⟩ := hR.h7 e7
        subst hx7
        refine wpOp_step rfl (fun K' hK => ?_)
        have hK' := shutO hK
        clear hK
        subst ha0
        simp only [Act.put, List.setIfInBounds_toArray, List.set_cons_zero, List.set_cons_succ]
        go_simp
        refine hK'.out _ _ ⟨_, ?_, hR.c8 e7, hS.out _ (hR.c8 e7).bel⟩
        rfl
      · intro x1 x7 x8 w5 hR
        have hx1 := hR.h1 rfl
        obtain ⟨gn, xk, xneg, xod, xld, xcd, xnm, xn, xol, xll, xcl, xob, xlb, xcb, hx7, hT5, hx8, hgn, kgn⟩ := hR.h8 rfl
        have hb5 := hR.bel
        clear hR
        dsimp only at hx1 hx7 hx8
        subst hx1
        subst hx7
        subst hx8
        subst ha0
        try simp only [Act.put, List.setIfInBounds_toArray, List.set_cons_zero, List.set_cons_succ]
        have hO5 : w5.ownsRow (w.heap.size + 2) 27 7 (.slice oL i cL) i xs := own_blkS hO3 (fun k hk => hb5.block k (own_blk7 hO3 k hk).2)
        have hg5 := blk_on' hgr3 hb5
        have hcr : ∀ (j : Nat) (u : Value), ([.int .i64 xk, .bool xneg, .slice xod xld xcd, .string xnm, .int .i64 xn, .slice xol xll xcl, .slice xob xlb xcb] : List Value)[j]? = some u → w5.cell? ((⟨gn, 0, none⟩ : Addr).add j) = some u := by
          intro j u hj
          rw [addr_add, Nat.zero_add]
          simp only [World.cell?, kgn]
          simpa using hj
        have hone : ∀ u ∈ ([.int .i64 xk, .bool xneg, .slice xod xld xcd, .string xnm, .int .i64 xn, .slice xol xll xcl, .slice xob xlb xcb] : List Value), u.oneCell' = true := by
          intro u hu
          simp only [List.mem_cons, List.not_mem_nil, or_false] at hu
          rcases hu with rfl | rfl | rfl | rfl | rfl | rfl | rfl <;> rfl
        refine wpAnyH_ready (rs := [8]) (by kernel_rfl) (by simp) ?_
        refine AllReadyH.cons rfl (fun K hK => ?_) AllReadyH.nil
        refine step_append_lies _ rfl _ _ 24 rfl (w.heap.size + 2) 27 iT (.agg #[.int .i64 0, .bool false, .slice none 0 0, .string ⟨#[]⟩, .int .i64 0, .slice none 0 0, .slice none 0 0]) 7 112 Tryz.underlying24 hT1 hT2 hT3 hT4 rfl (by decide) (.slice oL i cL) i xs rfl hO5 ⟨gn, 0, none⟩ 1 1 [.int .i64 xk, .bool xneg, .slice xod xld xcd, .string xnm, .int .i64 xn, .slice xol xll xcl, .slice xob xlb xcb] rfl rfl hcr hone (by decide) (by unfold maxLen; omega) (by omega) (by have := hb5.size; omega) w5.heap.size rfl (fun g2 cap2 w2 hown hgrow hg2 hlt2 => ?_)
        have hgg : w2.heap[w.heap.size + 1]? = w5.heap[w.heap.size + 1]? := hgrow.block _ (by have := hb5.size; omega) (fun e => by have := (own_blk7 hO5 _ e.symm).1; omega)
        have hg5' := hgg.trans hg5
        obtain ⟨f0, f1, f2, f3, f4, f5, f6⟩ := (res7 hg5').res
        have ff := (res7 hg5').fr
        have q2 : ∀ k, k < V5.heap.size → Value.ownBlock (.slice oL i cL) ≠ some k → w2.heap[k]? = V5.heap[k]? := fun k hk hn => (hgrow.block k (by have := hb5.size; omega) (fun e => hn e.symm)).trans (hb5.block k hk)
        have qs2 := hSk.out w2 (fun k hk => q2 k (by omega) (fun e => by have := (own_blk7 hO5 k e).1; omega))
        refine hK.out _ _ ?_ (fun hHeld => ?_)
        · first | exact hS.out _ (by assumption) | exact qs3 | exact qs2
        clear hK K
        try simp (maxSteps := 10000000) only [List.getElem_toArray, List.getElem_cons_succ, List.getElem_cons_zero, Act.put, List.setIfInBounds_toArray, List.set_cons_zero, List.set_cons_succ]
        refine wpAnyH_take (i := 9) (oi := _) (v := ?_) rfl (by kernel_rfl) (by kernel_rfl) (by kernel_rfl) (fun _ _ _ h => h) (Or.inl ⟨by rfl, ?_⟩) (by assumption) ?_
        rotate_left 1
        · (intro w hSw; (try dsimp only at hSw); go_simp; try with_reducible rfl)
        try simp (maxSteps := 10000000) only [List.getElem_toArray, List.getElem_cons_succ, List.getElem_cons_zero, Act.put, List.setIfInBounds_toArray, List.set_cons_zero, List.set_cons_succ]
        refine wpAnyH_ready (rs := [10]) (by kernel_rfl) (by simp) ?_
        refine AllReadyH.cons rfl (fun K hK => ?_) AllReadyH.nil
        go_simp
        have on5 := only_set w2 (w.heap.size + 1) 5 (.slice (some ⟨g2, 0, none⟩) (i + 1) cap2)
        have hg6 : (w2.setCell ⟨w.heap.size + 1, 5, none⟩ (.slice (some ⟨g2, 0, none⟩) (i + 1) cap2)).heap[w.heap.size + 1]? = some (.cells #[.int .i64 4, .bool false, nilS, .string noS, .int .i64 0, .slice (some ⟨g2, 0, none⟩) (i + 1) cap2, nilS] 27 (0, 0)) := heap_setc hg5' _
        clear f0 f1 f2 f3 f4 f5 f6 ff
        generalize w2.setCell ⟨w.heap.size + 1, 5, none⟩ (.slice (some ⟨g2, 0, none⟩) (i + 1) cap2) = w3 at *
        have qs3 := hSk.out w3 (fun k hk => (on5.2.2 k (by omega)).trans (q2 k (by omega) (fun e => by have := (own_blk7 hO5 k e).1; omega)))
        try go_simp
        refine hK.out _ _ ?_ (fun hHeld => ?_)
        · first | exact hS.out _ (by assumption) | exact qs3 | exact qs2
        clear hK K
        try simp (maxSteps := 10000000) only [List.getElem_toArray, List.getElem_cons_succ, List.getElem_cons_zero, Act.put, List.setIfInBounds_toArray, List.set_cons_zero, List.set_cons_succ]
        refine wpAnyH_done (by kernel_rfl) ?_ _
        obtain ⟨hO6, hRC6⟩ := row_step hsz3 (by omega) hO3 hRC3 hb5 hT5 hgrow hg2 hown on5
        have hsz6 : w.heap.size + 2 ≤ w3.heap.size := by have := hb5.size; have := hgrow.size; have : w3.heap.size = w2.heap.size := on5.2.1; omega
        have hR6 : w3.heap[w.heap.size]? = some (.cells zC 27 (0, 0)) := (on5.2.2 _ (by omega)).trans ((q2 _ (by omega) (fun e => by have := (own_blk7 hO5 _ e).1; omega)).trans hRb3)
        have hb6 : Below w.heap.size w w3 := (((below_and' hbV3 hbV3.size hb5).trans (⟨hgrow.os, hgrow.tape, hgrow.output, hgrow.size, fun k hk => hgrow.block k (by have := hb5.size; have := hbV3.size; omega) (fun e => by have := (own_blk7 hO5 k e.symm).1; omega)⟩ : Below w.heap.size w5 w2)).trans (on5.below (B := w.heap.size) (by omega)))
        clear hO5 hg5 hcr hone hgrow hg2 hown hb5 hT5 q2 qs2 qs3 hgg hg5' kgn hSk hS on5 hlt2
        go_wp2
        go_roundg (ls.length - (i + 1))
        case measure => omega
        case rel => exact ⟨i + 1, _, _, by omega, by go_num, hg6, hR6, hO6, by rw [htk.out]; exact hRC6, hb6, hsz6⟩
      · subst ha0; rfl
      · exact ⟨Below.refl _ _, rfl, fun h => by simp at h, fun h => by simp at h, fun h => by simp at h⟩
    · have hi2 : i = ls.length := by omega
      subst hi2
      have hii : ¬ ((ls.length : Nat) : Int) < ((ls.length : Nat) : Int) := by omega
      have kB2 := res7 hRb
      obtain ⟨y0, y1, y2, y3, y4, y5, y6⟩ := kG2.res
      obtain ⟨z0, z1, z2, z3, z4, z5, z6⟩ := kB2.res
      have zf := kB2.fr
      have onR := only_put wr w.heap.size (.int .i64 4) (.bool false) nilS (.string noS) (.int .i64 0) (.slice oL ls.length cL) nilS
      obtain ⟨r0, r1, r2, r3, r4, r5, r6⟩ := (kB2.put (b0 := .int .i64 4) (b1 := .bool false) (b2 := nilS) (b3 := .string noS) (b4 := .int .i64 0) (b5 := .slice oL ls.length cL) (b6 := nilS)).res
      have hfin : TV (Zb w.heap.size (((((((wr.setCell ⟨w.heap.size, 0, none⟩ (.int .i64 4)).setCell ⟨w.heap.size, 1, none⟩ (.bool false)).setCell ⟨w.heap.size, 2, none⟩ nilS).setCell ⟨w.heap.size, 3, none⟩ (.string noS)).setCell ⟨w.heap.size, 4, none⟩ (.int .i64 0)).setCell ⟨w.heap.size, 5, none⟩ (.slice oL ls.length cL)).setCell ⟨w.heap.size, 6, none⟩ nilS)) (((((((wr.setCell ⟨w.heap.size, 0, none⟩ (.int .i64 4)).setCell ⟨w.heap.size, 1, none⟩ (.bool false)).setCell ⟨w.heap.size, 2, none⟩ nilS).setCell ⟨w.heap.size, 3, none⟩ (.string noS)).setCell ⟨w.heap.size, 4, none⟩ (.int .i64 0)).setCell ⟨w.heap.size, 5, none⟩ (.slice oL ls.length cL)).setCell ⟨w.heap.size, 6, none⟩ nilS) (tupT ls) (tmV 4 false nilS noS 0 (.slice oL ls.length cL) nilS) := by
        have hO2 := own_blkS hOw (fun k hk => onR.2.2 k (by have := (own_blk7 hOw k hk).1; omega))
        rw [List.take_length] at hRC
        have hR2 := RC.mono (Z' := Zb w.heap.size (((((((wr.setCell ⟨w.heap.size, 0, none⟩ (.int .i64 4)).setCell ⟨w.heap.size, 1, none⟩ (.bool false)).setCell ⟨w.heap.size, 2, none⟩ nilS).setCell ⟨w.heap.size, 3, none⟩ (.string noS)).setCell ⟨w.heap.size, 4, none⟩ (.int .i64 0)).setCell ⟨w.heap.size, 5, none⟩ (.slice oL ls.length cL)).setCell ⟨w.heap.size, 6, none⟩ nilS)) (fun k hk hz => ⟨by have := hz.1; omega, hk⟩) (hRC.zs (w' := (((((((wr.setCell ⟨w.heap.size, 0, none⟩ (.int .i64 4)).setCell ⟨w.heap.size, 1, none⟩ (.bool false)).setCell ⟨w.heap.size, 2, none⟩ nilS).setCell ⟨w.heap.size, 3, none⟩ (.string noS)).setCell ⟨w.heap.size, 4, none⟩ (.int .i64 0)).setCell ⟨w.heap.size, 5, none⟩ (.slice oL ls.length cL)).setCell ⟨w.heap.size, 6, none⟩ nilS)) (fun k hk => onR.2.2 k (by have := hk.1; omega)))
        unfold tupT TV
        exact ⟨none, 0, oL, cL, none, 0, rfl, Ls.nil _ _ _, by simp, Lm.nil _, LsB.nil _ _ _, by simp, hcL, own_trz hO2 hR2 (fun q _ hq hq2 => ⟨by omega, hq2⟩)⟩
      have hBF : Below w.heap.size w (((((((wr.setCell ⟨w.heap.size, 0, none⟩ (.int .i64 4)).setCell ⟨w.heap.size, 1, none⟩ (.bool false)).setCell ⟨w.heap.size, 2, none⟩ nilS).setCell ⟨w.heap.size, 3, none⟩ (.string noS)).setCell ⟨w.heap.size, 4, none⟩ (.int .i64 0)).setCell ⟨w.heap.size, 5, none⟩ (.slice oL ls.length cL)).setCell ⟨w.heap.size, 6, none⟩ nilS) := hbV.trans (onR.below (B := w.heap.size) (Nat.le_refl _))
      have HF := hid hfin
      have HBF := hid hBF
      clear hfin hBF onR hRC hOw
      go_wp2
      exact bodyPost_ret (v := tmV 4 false nilS noS 0 (.slice oL ls.length cL) nilS) (by simp [results, Tryz.results20, go_sem, r0, r1, r2, r3, r4, r5, r6]) rfl ⟨_, rfl, HF.out, HBF.out⟩
end Go.Proofs.YtjacoodfhkaioaaGreatDoor
namespace Go.Proofs.YtjacoodfhkaioaaGreatDoor
open Go.ChangeShapes Go.WideShapes Go.ChangeAt Go.ChangeMaps Go.RowKit Go.Shelf
set_option linter.unusedSimpArgs false
set_option linter.unusedVariables false
set_option maxRecDepth 2000
structure St_tl where
  l4 : Bool
  l5 : Bool
  x4 : Value
  x5 : Value
def St_tl.L (s : St_tl) : Array Bool := #[true, true, true, true, s.l4, s.l5, false, false, false]
def St_tl.n (s : St_tl) : Nat := (!s.l4).toNat + (!s.l5).toNat
def St_tl.ok (s : St_tl) : Bool := true
theorem wpAnyH_tl {P : Program} {md : Region.Mode} {ops : Array Oper} {Q : Exit → Act → World → Prop} {S : World → Prop} (A : St_tl → Act) (R : St_tl → World → Prop)
    (hmem0 : (bAll fun l4 => bAll fun l5 => (l4 && l5) || !(true) || (!(Region.ready md ops #[true, true, true, true, l4, l5, false, false, false]).isEmpty && (Region.ready md ops #[true, true, true, true, l4, l5, false, false, false]).all fun i => (i == 4 && !l4) || (i == 5 && !l5))) = true)
    (hord : ∀ s w, R s w → s.ok = true)
    (h4 : ∀ s w, R s w → s.l4 = false → wpOp P ops Q 4 (fun a' w' => ∃ x, a' = A { s with l4 := true, x4 := x } ∧ R { s with l4 := true, x4 := x } w' ∧ S w') (A s) w)
    (h5 : ∀ s w, R s w → s.l5 = false → wpOp P ops Q 5 (fun a' w' => ∃ x, a' = A { s with l5 := true, x5 := x } ∧ R { s with l5 := true, x5 := x } w' ∧ S w') (A s) w)
    (hdone : ∀ (x4 x5 : Value) w, R ⟨true, true, x4, x5⟩ w → wpAnyH P md ops Q S 3 #[true, true, true, true, true, true, false, false, false] (A ⟨true, true, x4, x5⟩) w)
    (w : World) (a : Act) (x4 x5 : Value) (ha : a = A ⟨false, false, x4, x5⟩) (hR : R ⟨false, false, x4, x5⟩ w) :
    wpAnyH P md ops Q S 5 #[true, true, true, true, false, false, false, false, false] a w := by
  have hmem : ∀ l4 l5 : Bool, (l4 && l5) = false → (true) = true → Region.ready md ops #[true, true, true, true, l4, l5, false, false, false] ≠ [] ∧ ∀ i ∈ Region.ready md ops #[true, true, true, true, l4, l5, false, false, false], (i = 4 ∧ l4 = false) ∨ (i = 5 ∧ l5 = false) := by
    intro l4 l5 he e1
    have h := (bAll_spec (bAll_spec hmem0 l4) l5)
    obtain ⟨r, hr⟩ : ∃ r, Region.ready md ops #[true, true, true, true, l4, l5, false, false, false] = r := ⟨_, rfl⟩
    rw [hr] at h ⊢
    rw [he, e1, Bool.not_true, Bool.false_or, Bool.false_or, Bool.and_eq_true] at h
    refine ⟨fun e => ?_, fun i hi => ?_⟩
    · rw [e] at h; simp at h
    · have h2 := List.all_eq_true.1 h.2 i hi
      simpa [or_assoc, and_assoc] using h2
  refine wpAnyH_inv (m := 3) St_tl.L A R St_tl.n ?_ ?_ ?_ 2 ⟨false, false, x4, x5⟩ w _ a rfl rfl ha hR
  · rintro ⟨l4, l5, y4, y5⟩ w hR hn
    refine (hmem l4 l5 ?_ (hord _ _ hR)).1
    clear hR
    revert hn
    cases l4 <;> cases l5 <;> simp [St_tl.n]
  · intro s w hR hn i hi
    have hm := (hmem s.l4 s.l5 (by
      clear hR hi
      revert hn
      rcases s with ⟨l4, l5, y4, y5⟩
      cases l4 <;> cases l5 <;> simp [St_tl.n]) (hord _ _ hR)).2 i hi
    rcases hm with ⟨rfl, e⟩ | ⟨rfl, e⟩
    · refine wpOp_mono (fun a' w' h => ?_) (h4 s w hR e)
      obtain ⟨x, k1, k2, k3⟩ := h
      exact ⟨_, by simp [St_tl.n, e]; try omega, rfl, k1, k2, k3⟩
    · refine wpOp_mono (fun a' w' h => ?_) (h5 s w hR e)
      obtain ⟨x, k1, k2, k3⟩ := h
      exact ⟨_, by simp [St_tl.n, e]; try omega, rfl, k1, k2, k3⟩
  · rintro ⟨l4, l5, y4, y5⟩ w hR hn
    have : l4 = true ∧ l5 = true := by
      revert hn
      cases l4 <;> cases l5 <;> simp [St_tl.n]
    obtain ⟨rfl, rfl⟩ := this
    exact hdone _ _ w hR

structure Rtl (V : World) (vK : Value) (t : Tm) (s : St_tl) (w : World) : Prop where
  bel : Below V.heap.size V w
  h4 : s.l4 = true → ∃ xk xneg xod xld xcd xnm xn xol xll xcl xob xlb xcb, s.x4 = tmV xk xneg (.slice xod xld xcd) xnm xn (.slice xol xll xcl) (.slice xob xlb xcb) ∧ TV (Zb V.heap.size w) w t (tmV xk xneg (.slice xod xld xcd) xnm xn (.slice xol xll xcl) (.slice xob xlb xcb))
  h5 : s.l5 = true → s.x5 = vK
theorem Rtl.c4 {V : World} {vK : Value} {t : Tm} {s : St_tl} {w w' : World} (h : Rtl V vK t s w) {v : Value} (hT : TV (Zb w.heap.size w') w' t v) (hb : Below w.heap.size w w') : Rtl V vK t { s with l4 := true, x4 := v } w' := by
  obtain ⟨xk, xneg, xod, xld, xcd, xnm, xn, xol, xll, xcl, xob, xlb, xcb, rfl⟩ := hT.form
  exact ⟨below_and' h.bel h.bel.size hb, fun _ => ⟨xk, xneg, xod, xld, xcd, xnm, xn, xol, xll, xcl, xob, xlb, xcb, rfl, TV.mono (fun k _ hk => ⟨Nat.le_trans h.bel.size hk.1, hk.2⟩) _ _ hT⟩, h.h5⟩
theorem Rtl.c5 {V : World} {vK : Value} {t : Tm} {s : St_tl} {w : World} (h : Rtl V vK t s w) : Rtl V vK t { s with l5 := true, x5 := vK } w := ⟨h.bel, h.h4, fun _ => rfl⟩
abbrev Zg (gt : Nat) (w : World) : Nat → Prop := fun k => gt < k ∧ k < w.heap.size
set_option maxHeartbeats 8000000 in
set_option maxRecDepth 8000 in
theorem rList_w (ls : List Tm) (o : Option Addr) (c : Nat) (w : World) (hl : ls.length ≤ 1000000) (hok : ∀ p ∈ partsL ls, p.ok1 ∧ fairB p = true) (hT : TR (Low w) w ls o) :
    Calls Tryz.prog 19 #[.slice o ls.length c] w fun e w' => ∃ v', e = .returned v' ∧ TV (Zb w.heap.size w') w' (listT ls) v' ∧ Below w.heap.size w w' := by
  have htR := hid hT
  have hok2 := hid hok
  clear hT hok
  have hR00 := heap_alloc_new w (.cells zC 27)
  have bR := (Below.refl w.heap.size w).alloc (Nat.le_refl _) (.cells zC 27)
  have hzR : (w.alloc (.cells zC 27)).heap.size = w.heap.size + 1 := by simp
  go_enter Tryz.func19, Tryz.ntmps19
  go_wp2_with fail
  generalize (w.alloc (.cells #[.int .i64 0, .bool false, .slice none 0 0, .string { data := #[] }, .int .i64 0, .slice none 0 0, .slice none 0 0] 27)) = W0 at *
  refine (rNil_w _).mono ?_
  rintro e w1 ⟨rfl, b1⟩
  have hR1 := blk_on' hR00 b1
  have B1 := below_and bR (Nat.le_refl _) b1
  have hz1 := b1.size
  have bN : Below w1.heap.size w1 (w1.alloc (.cells #[.int .i64 5, .bool false, nilS, .string noS, .int .i64 0, nilS, nilS] 27)) := (Below.refl _ _).alloc (Nat.le_refl _) _
  have hnw := heap_alloc_new w1 (.cells #[.int .i64 5, .bool false, nilS, .string noS, .int .i64 0, nilS, nilS] 27)
  have hR2 := blk_on' hR1 bN
  have B2 := below_and B1 (Nat.le_refl _) bN
  have hzN : (w1.alloc (.cells #[.int .i64 5, .bool false, nilS, .string noS, .int .i64 0, nilS, nilS] 27)).heap.size = w1.heap.size + 1 := by simp
  clear hR00 hR1 B1 b1 bR bN
  go_wp2_with fail
  generalize (w1.alloc (.cells #[.int .i64 5, .bool false, nilS, .string noS, .int .i64 0, nilS, nilS] 27)) = W1 at *
  obtain ⟨gt, hgt⟩ : ∃ gt, w1.heap.size = gt := ⟨_, rfl⟩
  rw [hgt] at hnw hzN hz1 ⊢
  clear hgt
  have hgw : w.heap.size < gt := by omega
  go_loopg [4] ls.length (fun t v4 wr => ∃ (kk : Int) (kneg : Bool) (kod : Option Addr) (kld kcd : Nat) (knm : ByteArray) (kn : Int) (kol : Option Addr) (kll kcl : Nat) (kob : Option Addr) (klb kcb : Nat), v4 = .int .i64 ((t : Int) - 1) ∧ t ≤ ls.length ∧ TV (Zg gt wr) wr (listT (ls.drop t)) (tmV kk kneg (.slice kod kld kcd) knm kn (.slice kol kll kcl) (.slice kob klb kcb)) ∧ wr.heap[gt]? = some (.cells #[.int .i64 kk, .bool kneg, .slice kod kld kcd, .string knm, .int .i64 kn, .slice kol kll kcl, .slice kob klb kcb] 27 (0, 0)) ∧ wr.heap[w.heap.size]? = some (.cells zC 27 (0, 0)) ∧ Below w.heap.size w wr)
  case atStart =>
    refine ⟨5, false, none, 0, 0, noS, 0, none, 0, 0, none, 0, 0, rfl, Nat.le_refl _, ?_, hnw, hR2, B2⟩
    rw [List.drop_of_length_le (Nat.le_refl _)]
    exact tv_flat 5 noS 0
  case round =>
    obtain ⟨kk, kneg, kod, kld, kcd, knm, kn, kol, kll, kcl, kob, klb, kcb, rfl, hgk, hV, hgr, hRb, hBr⟩ := hrel
    clear hnw hR2 B2 hzN hz1 hzR
    generalize gk = mm at *
    have hgl : gt < wr.heap.size := (Array.getElem?_eq_some_iff.1 hgr).1
    cases mm with
    | zero =>
      rw [List.drop_zero] at hV
      have kG2 := res7 hgr
      have kB2 := res7 hRb
      obtain ⟨y0, y1, y2, y3, y4, y5, y6⟩ := kG2.res
      obtain ⟨z0, z1, z2, z3, z4, z5, z6⟩ := kB2.res
      have zf := kB2.fr
      have onR := only_put wr w.heap.size (.int .i64 kk) (.bool kneg) (.slice kod kld kcd) (.string knm) (.int .i64 kn) (.slice kol kll kcl) (.slice kob klb kcb)
      obtain ⟨r0, r1, r2, r3, r4, r5, r6⟩ := (kB2.put (b0 := .int .i64 kk) (b1 := .bool kneg) (b2 := .slice kod kld kcd) (b3 := .string knm) (b4 := .int .i64 kn) (b5 := .slice kol kll kcl) (b6 := .slice kob klb kcb)).res
      have hfin : TV (Zb w.heap.size (((((((wr.setCell ⟨w.heap.size, 0, none⟩ (.int .i64 kk)).setCell ⟨w.heap.size, 1, none⟩ (.bool kneg)).setCell ⟨w.heap.size, 2, none⟩ (.slice kod kld kcd)).setCell ⟨w.heap.size, 3, none⟩ (.string knm)).setCell ⟨w.heap.size, 4, none⟩ (.int .i64 kn)).setCell ⟨w.heap.size, 5, none⟩ (.slice kol kll kcl)).setCell ⟨w.heap.size, 6, none⟩ (.slice kob klb kcb))) (((((((wr.setCell ⟨w.heap.size, 0, none⟩ (.int .i64 kk)).setCell ⟨w.heap.size, 1, none⟩ (.bool kneg)).setCell ⟨w.heap.size, 2, none⟩ (.slice kod kld kcd)).setCell ⟨w.heap.size, 3, none⟩ (.string knm)).setCell ⟨w.heap.size, 4, none⟩ (.int .i64 kn)).setCell ⟨w.heap.size, 5, none⟩ (.slice kol kll kcl)).setCell ⟨w.heap.size, 6, none⟩ (.slice kob klb kcb)) (listT ls) (tmV kk kneg (.slice kod kld kcd) knm kn (.slice kol kll kcl) (.slice kob klb kcb)) := TV.mono (fun k hk hz => ⟨by have := hz.1; omega, hk⟩) _ _ (TV.zs (w' := (((((((wr.setCell ⟨w.heap.size, 0, none⟩ (.int .i64 kk)).setCell ⟨w.heap.size, 1, none⟩ (.bool kneg)).setCell ⟨w.heap.size, 2, none⟩ (.slice kod kld kcd)).setCell ⟨w.heap.size, 3, none⟩ (.string knm)).setCell ⟨w.heap.size, 4, none⟩ (.int .i64 kn)).setCell ⟨w.heap.size, 5, none⟩ (.slice kol kll kcl)).setCell ⟨w.heap.size, 6, none⟩ (.slice kob klb kcb))) (fun k hk => onR.2.2 k (by have := hk.1; omega)) _ _ hV)
      have hBF : Below w.heap.size w (((((((wr.setCell ⟨w.heap.size, 0, none⟩ (.int .i64 kk)).setCell ⟨w.heap.size, 1, none⟩ (.bool kneg)).setCell ⟨w.heap.size, 2, none⟩ (.slice kod kld kcd)).setCell ⟨w.heap.size, 3, none⟩ (.string knm)).setCell ⟨w.heap.size, 4, none⟩ (.int .i64 kn)).setCell ⟨w.heap.size, 5, none⟩ (.slice kol kll kcl)).setCell ⟨w.heap.size, 6, none⟩ (.slice kob klb kcb)) := hBr.trans (onR.below (B := w.heap.size) (Nat.le_refl _))
      have HF := hid hfin
      have HBF := hid hBF
      clear hfin hBF onR hV
      go_wp2
      exact bodyPost_ret (v := tmV kk kneg (.slice kod kld kcd) knm kn (.slice kol kll kcl) (.slice kob klb kcb)) (by simp [results, Tryz.results19, go_sem, r0, r1, r2, r3, r4, r5, r6]) rfl ⟨_, rfl, HF.out, HBF.out⟩
    | succ m =>
      have hml : m < ls.length := by omega
      obtain ⟨t, ht⟩ : ∃ t, ls[m]? = some t := ⟨ls[m], by simp [hml]⟩
      obtain ⟨pa, pk, pneg, pod, pld, pcd, pnm, pn, pol, pll, pcl, pob, plb, pcb, hpa, hTp, y0, y1, y2, y3, y4, y5, y6⟩ := htR.out.get ht hBr
      subst hpa
      have hokt : ∀ p ∈ parts t, p.ok1 ∧ fairB p = true := fun p hp => hok2.out p (mem_partsL ht hp)
      have hdr := hid (drop_at ht)
      have hgeq : (0 : Int) ≤ (m : Int) := by omega
      rw [show (((m + 1 : Nat) : Int) - 1) = (m : Int) by omega]
      clear ht
      have dV5 : Below wr.heap.size wr wr.drew := (Below.refl _ wr).drew
      have hV3 : TV (Zg gt wr.drew) wr.drew (listT (ls.drop (m + 1))) (tmV kk kneg (.slice kod kld kcd) knm kn (.slice kol kll kcl) (.slice kob klb kcb)) := TV.mono (fun k hk hz => hz) _ _ (TV.zs (Z := Zg gt wr) (w := wr) (w' := wr.drew) (fun k hk => rfl) _ _ hV)
      have hgr3 : wr.drew.heap[gt]? = some (.cells #[.int .i64 kk, .bool kneg, .slice kod kld kcd, .string knm, .int .i64 kn, .slice kol kll kcl, .slice kob klb kcb] 27 (0, 0)) := hgr
      have hRb3 : wr.drew.heap[w.heap.size]? = some (.cells zC 27 (0, 0)) := hRb
      have hbV3 : Below w.heap.size w wr.drew := hBr.drew
      have hTp3 := tv_below hTp dV5
      have hgl3 : gt < wr.drew.heap.size := hgl
      have hpl : pa.block < w.heap.size := by
        have h1 := htR.out
        cases ls with
        | nil => simp at hml
        | cons q qs =>
          unfold TR at h1
          obtain ⟨a, _, e, h2, _⟩ := h1
          injection e with e
          rw [e]; exact h2
      have hSk : Hid (∀ w' : World, (∀ k, k < w.heap.size → w'.heap[k]? = wr.drew.heap[k]?) → (w'.cell? (pa.add (m * 7)) = some (.int .i64 pk) ∧ w'.cell? ⟨(pa.add (m * 7)).block, (pa.add (m * 7)).off + 1, none⟩ = some (.bool pneg) ∧ w'.cell? ⟨(pa.add (m * 7)).block, (pa.add (m * 7)).off + 2, none⟩ = some (.slice pod pld pcd) ∧ w'.cell? ⟨(pa.add (m * 7)).block, (pa.add (m * 7)).off + 3, none⟩ = some (.string pnm) ∧ w'.cell? ⟨(pa.add (m * 7)).block, (pa.add (m * 7)).off + 4, none⟩ = some (.int .i64 pn) ∧ w'.cell? ⟨(pa.add (m * 7)).block, (pa.add (m * 7)).off + 5, none⟩ = some (.slice pol pll pcl) ∧ w'.cell? ⟨(pa.add (m * 7)).block, (pa.add (m * 7)).off + 6, none⟩ = some (.slice pob plb pcb))) := hid (fun w' hb => by
        have q : ∀ {a : Addr} {v : Value}, a.block = pa.block → wr.cell? a = some v → w'.cell? a = some v := fun e h => (World.cell?_of_block (hb _ (by rw [e]; omega))).trans h
        exact ⟨q (block_add _ _) y0, q (block_add _ _) y1, q (block_add _ _) y2, q (block_add _ _) y3, q (block_add _ _) y4, q (block_add _ _) y5, q (block_add _ _) y6⟩)
      have hS : Hid (∀ w', Below wr.drew.heap.size wr.drew w' → (w'.cell? (pa.add (m * 7)) = some (.int .i64 pk) ∧ w'.cell? ⟨(pa.add (m * 7)).block, (pa.add (m * 7)).off + 1, none⟩ = some (.bool pneg) ∧ w'.cell? ⟨(pa.add (m * 7)).block, (pa.add (m * 7)).off + 2, none⟩ = some (.slice pod pld pcd) ∧ w'.cell? ⟨(pa.add (m * 7)).block, (pa.add (m * 7)).off + 3, none⟩ = some (.string pnm) ∧ w'.cell? ⟨(pa.add (m * 7)).block, (pa.add (m * 7)).off + 4, none⟩ = some (.int .i64 pn) ∧ w'.cell? ⟨(pa.add (m * 7)).block, (pa.add (m * 7)).off + 5, none⟩ = some (.slice pol pll pcl) ∧ w'.cell? ⟨(pa.add (m * 7)).block, (pa.add (m * 7)).off + 6, none⟩ = some (.slice pob plb pcb))) := hid (fun w' hb => hSk.out w' (fun k hk => hb.block k (by omega)))
      clear hV hgr hRb hBr hTp dV5 hgl y0 y1 y2 y3 y4 y5 y6
      go_wp2_with fail
      refine wp_region_held_drew (S := fun w' => w'.cell? (pa.add (m * 7)) = some (.int .i64 pk) ∧ w'.cell? ⟨(pa.add (m * 7)).block, (pa.add (m * 7)).off + 1, none⟩ = some (.bool pneg) ∧ w'.cell? ⟨(pa.add (m * 7)).block, (pa.add (m * 7)).off + 2, none⟩ = some (.slice pod pld pcd) ∧ w'.cell? ⟨(pa.add (m * 7)).block, (pa.add (m * 7)).off + 3, none⟩ = some (.string pnm) ∧ w'.cell? ⟨(pa.add (m * 7)).block, (pa.add (m * 7)).off + 4, none⟩ = some (.int .i64 pn) ∧ w'.cell? ⟨(pa.add (m * 7)).block, (pa.add (m * 7)).off + 5, none⟩ = some (.slice pol pll pcl) ∧ w'.cell? ⟨(pa.add (m * 7)).block, (pa.add (m * 7)).off + 6, none⟩ = some (.slice pob plb pcb)) (by kernel_rfl) (by exact hS.out _ (Below.refl _ _)) (fun hHeld => ?_)
      generalize wr.drew = V5 at *
      refine wpAnyH_take (i := 0) (oi := _) (v := ?_) rfl (by kernel_rfl) (by kernel_rfl) (by kernel_rfl) (fun _ _ _ h => h) (Or.inl ⟨by rfl, ?_⟩) (by assumption) ?_
      rotate_left 1
      · (intro w hSw; (try dsimp only at hSw); go_simp; try with_reducible rfl)
      try simp (maxSteps := 10000000) only [List.getElem_toArray, List.getElem_cons_succ, List.getElem_cons_zero, Act.put, List.setIfInBounds_toArray, List.set_cons_zero, List.set_cons_succ]
      refine wpAnyH_take (i := 1) (oi := _) (v := ?_) rfl (by kernel_rfl) (by kernel_rfl) (by kernel_rfl) (fun _ _ _ h => h) (Or.inl ⟨by rfl, ?_⟩) (by assumption) ?_
      rotate_left 1
      · (intro w hSw; (try dsimp only at hSw); go_simp; try with_reducible rfl)
      try simp (maxSteps := 10000000) only [List.getElem_toArray, List.getElem_cons_succ, List.getElem_cons_zero, Act.put, List.setIfInBounds_toArray, List.set_cons_zero, List.set_cons_succ]
      refine wpAnyH_take (i := 2) (oi := _) (v := ?_) rfl (by kernel_rfl) (by kernel_rfl) (by kernel_rfl) (fun _ _ _ h => h) (Or.inl ⟨by rfl, ?_⟩) (by assumption) ?_
      rotate_left 1
      · (intro w hSw; (try dsimp only at hSw); go_simp; try with_reducible rfl)
      try simp (maxSteps := 10000000) only [List.getElem_toArray, List.getElem_cons_succ, List.getElem_cons_zero, Act.put, List.setIfInBounds_toArray, List.set_cons_zero, List.set_cons_succ]
      refine wpAnyH_take (i := 3) (oi := _) (v := ?_) rfl (by kernel_rfl) (by kernel_rfl) (by kernel_rfl) (fun _ _ _ h => h) (Or.inl ⟨by rfl, ?_⟩) (by assumption) ?_
      rotate_left 1
      · (intro w hSw; (try dsimp only at hSw); go_simp; try with_reducible rfl)
      try simp (maxSteps := 10000000) only [List.getElem_toArray, List.getElem_cons_succ, List.getElem_cons_zero, Act.put, List.setIfInBounds_toArray, List.set_cons_zero, List.set_cons_succ]
      refine wpAnyH_at (m' := 5) (listed' := #[true, true, true, true, false, false, false, false, false]) (by kernel_rfl) (by kernel_rfl) ?_
      refine wpAnyH_name fun a0 ha0 => ?_
      refine wpAnyH_tl (A := fun s => (a0.put (some 17) s.x4).put (some 18) s.x5) (R := Rtl V5 (tmV kk kneg (.slice kod kld kcd) knm kn (.slice kol kll kcl) (.slice kob klb kcb)) t) ?_ (fun s w h => rfl) ?_ ?_ ?_ _ _ u17 u18 ?_ ?_
      · kernel_rfl
      · intro s w' hR h0
        refine wpOp_step rfl (fun K' hK => ?_)
        have hK' := shutO hK
        clear hK
        subst ha0
        simp only [Act.put, List.setIfInBounds_toArray, List.set_cons_zero, List.set_cons_succ]
        go_simp
        refine (rCopy_w (tsz t) t _ _ (Nat.le_refl _) hokt (tv_below hTp3 hR.bel)).mono ?_
        rintro e w7 ⟨v7, rfl, hT7, b7⟩
        try go_simp
        refine hK'.out _ _ ⟨_, ?_, hR.c4 hT7 b7, hS.out _ (hR.c4 hT7 b7).bel⟩
        rfl
      · intro s w' hR h0
        obtain ⟨g0, g1, g2, g3, g4, g5, g6⟩ := (res7 (blk_on' hgr3 hR.bel)).res
        refine wpOp_step rfl (fun K' hK => ?_)
        have hK' := shutO hK
        clear hK
        subst ha0
        simp only [Act.put, List.setIfInBounds_toArray, List.set_cons_zero, List.set_cons_succ]
        go_simp
        refine hK'.out _ _ ⟨_, ?_, hR.c5, hS.out _ hR.bel⟩
        rfl
      · intro x4 x5 w5 hR
        obtain ⟨xk, xneg, xod, xld, xcd, xnm, xn, xol, xll, xcl, xob, xlb, xcb, hx4, hT5⟩ := hR.h4 rfl
        have hx5 := hR.h5 rfl
        have hb5 := hR.bel
        clear hR
        dsimp only at hx4 hx5
        subst hx4
        subst hx5
        subst ha0
        try simp only [Act.put, List.setIfInBounds_toArray, List.set_cons_zero, List.set_cons_succ]
        refine wpAnyH_ready (rs := [6]) (by kernel_rfl) (by simp) ?_
        refine AllReadyH.cons rfl (fun K hK => ?_) AllReadyH.nil
        go_simp
        have bN : Below w5.heap.size w5 (w5.alloc (.cells #[.int .i64 xk, .bool xneg, .slice xod xld xcd, .string xnm, .int .i64 xn, .slice xol xll xcl, .slice xob xlb xcb, .int .i64 kk, .bool kneg, .slice kod kld kcd, .string knm, .int .i64 kn, .slice kol kll kcl, .slice kob klb kcb] 27)) := (Below.refl _ _).alloc (Nat.le_refl _) _
        have hnw := heap_alloc_new w5 (.cells #[.int .i64 xk, .bool xneg, .slice xod xld xcd, .string xnm, .int .i64 xn, .slice xol xll xcl, .slice xob xlb xcb, .int .i64 kk, .bool kneg, .slice kod kld kcd, .string knm, .int .i64 kn, .slice kol kll kcl, .slice kob klb kcb] 27)
        have b6 : Below V5.heap.size V5 (w5.alloc (.cells #[.int .i64 xk, .bool xneg, .slice xod xld xcd, .string xnm, .int .i64 xn, .slice xol xll xcl, .slice xob xlb xcb, .int .i64 kk, .bool kneg, .slice kod kld kcd, .string knm, .int .i64 kn, .slice kol kll kcl, .slice kob klb kcb] 27)) := below_and hb5 (Nat.le_refl _) bN
        generalize (w5.alloc (.cells #[.int .i64 xk, .bool xneg, .slice xod xld xcd, .string xnm, .int .i64 xn, .slice xol xll xcl, .slice xob xlb xcb, .int .i64 kk, .bool kneg, .slice kod kld kcd, .string knm, .int .i64 kn, .slice kol kll kcl, .slice kob klb kcb] 27)) = w6 at *
        have hg6 := blk_on' hgr3 b6
        obtain ⟨f0, f1, f2, f3, f4, f5, f6⟩ := (res7 hg6).res
        have ff := (res7 hg6).fr
        try go_simp
        refine hK.out _ _ ?_ (fun hHeld => ?_)
        · first | exact hS.out _ (by assumption) | exact qs3
        clear hK K
        try simp (maxSteps := 10000000) only [List.getElem_toArray, List.getElem_cons_succ, List.getElem_cons_zero, Act.put, List.setIfInBounds_toArray, List.set_cons_zero, List.set_cons_succ]
        refine wpAnyH_take (i := 7) (oi := _) (v := ?_) rfl (by kernel_rfl) (by kernel_rfl) (by kernel_rfl) (fun _ _ _ h => h) (Or.inl ⟨by rfl, ?_⟩) (by assumption) ?_
        rotate_left 1
        · (intro w hSw; (try dsimp only at hSw); go_simp; try with_reducible rfl)
        try simp (maxSteps := 10000000) only [List.getElem_toArray, List.getElem_cons_succ, List.getElem_cons_zero, Act.put, List.setIfInBounds_toArray, List.set_cons_zero, List.set_cons_succ]
        refine wpAnyH_ready (rs := [8]) (by kernel_rfl) (by simp) ?_
        refine AllReadyH.cons rfl (fun K hK => ?_) AllReadyH.nil
        go_simp
        have on7 := only_put w6 gt (.int .i64 6) (.bool false) nilS (.string noS) (.int .i64 0) (.slice (some ⟨w5.heap.size, 0, none⟩) 2 2) nilS
        have hg7 : (((((((w6.setCell ⟨gt, 0, none⟩ (.int .i64 6)).setCell ⟨gt, 1, none⟩ (.bool false)).setCell ⟨gt, 2, none⟩ nilS).setCell ⟨gt, 3, none⟩ (.string noS)).setCell ⟨gt, 4, none⟩ (.int .i64 0)).setCell ⟨gt, 5, none⟩ (.slice (some ⟨w5.heap.size, 0, none⟩) 2 2)).setCell ⟨gt, 6, none⟩ nilS).heap[gt]? = some (.cells #[.int .i64 6, .bool false, nilS, .string noS, .int .i64 0, .slice (some ⟨w5.heap.size, 0, none⟩) 2 2, nilS] 27 (0, 0)) := heap_put7 hg6 (.int .i64 6) (.bool false) nilS (.string noS) (.int .i64 0) (.slice (some ⟨w5.heap.size, 0, none⟩) 2 2) nilS
        clear f0 f1 f2 f3 f4 f5 f6 ff
        generalize (((((((w6.setCell ⟨gt, 0, none⟩ (.int .i64 6)).setCell ⟨gt, 1, none⟩ (.bool false)).setCell ⟨gt, 2, none⟩ nilS).setCell ⟨gt, 3, none⟩ (.string noS)).setCell ⟨gt, 4, none⟩ (.int .i64 0)).setCell ⟨gt, 5, none⟩ (.slice (some ⟨w5.heap.size, 0, none⟩) 2 2)).setCell ⟨gt, 6, none⟩ nilS) = w7 at *
        have qs3 := hSk.out w7 (fun k hk => (on7.2.2 k (by omega)).trans (b6.block k (by omega)))
        try go_simp
        refine hK.out _ _ ?_ (fun hHeld => ?_)
        · first | exact hS.out _ (by assumption) | exact qs3
        clear hK K
        try simp (maxSteps := 10000000) only [List.getElem_toArray, List.getElem_cons_succ, List.getElem_cons_zero, Act.put, List.setIfInBounds_toArray, List.set_cons_zero, List.set_cons_succ]
        refine wpAnyH_done (by kernel_rfl) ?_ _
        have hs5 := hb5.size
        have hs6 := bN.size
        have hs7 : w7.heap.size = w6.heap.size := on7.2.1
        have hn7 : w7.heap[w5.heap.size]? = some (.cells #[.int .i64 xk, .bool xneg, .slice xod xld xcd, .string xnm, .int .i64 xn, .slice xol xll xcl, .slice xob xlb xcb, .int .i64 kk, .bool kneg, .slice kod kld kcd, .string knm, .int .i64 kn, .slice kol kll kcl, .slice kob klb kcb] 27 (0, 0)) := (on7.2.2 _ (by omega)).trans hnw
        have hln : w5.heap.size < w6.heap.size := (Array.getElem?_eq_some_iff.1 hnw).1
        have tA : TV (Zg gt w7) w7 t (tmV xk xneg (.slice xod xld xcd) xnm xn (.slice xol xll xcl) (.slice xob xlb xcb)) := TV.mono (fun k hk hz => ⟨by have := hz.1; omega, hk⟩) _ _ (TV.zs (w' := w7) (fun k hk => (on7.2.2 k (by have := hk.1; omega)).trans (bN.block k hk.2)) _ _ hT5)
        have tB : TV (Zg gt w7) w7 (listT (ls.drop (m + 1))) (tmV kk kneg (.slice kod kld kcd) knm kn (.slice kol kll kcl) (.slice kob klb kcb)) := TV.mono (fun k hk hz => ⟨hz.1, hk⟩) _ _ (TV.zs (w' := w7) (fun k hk => (on7.2.2 k (by have := hk.1; omega)).trans (b6.block k hk.2)) _ _ hV3)
        have hfin : TV (Zg gt w7) w7 (listT (ls.drop m)) (tmV 6 false nilS noS 0 (.slice (some ⟨w5.heap.size, 0, none⟩) 2 2) nilS) := by
          rw [hdr.out]
          unfold listT consT TV
          exact ⟨none, 0, some ⟨w5.heap.size, 0, none⟩, 2, none, 0, rfl, Ls.nil _ _ _, by simp, Lm.nil _, LsB.nil _ _ _, by simp, by simp, tr_two tA tB hn7 ⟨by omega, by omega⟩⟩
        have hRb7 : w7.heap[w.heap.size]? = some (.cells zC 27 (0, 0)) := (on7.2.2 _ (by omega)).trans (blk_on' hRb3 b6)
        have hB7 : Below w.heap.size w w7 := (below_and' hbV3 hbV3.size b6).trans (on7.below (B := w.heap.size) (by omega))
        clear hnw hg6 bN b6 hb5 hT5 tA tB hS hSk qs3 on7 hgr3 hRb3 hbV3 hV3 hn7
        have hm5 : m ≤ 1000000 := by omega
        go_wp2
        go_roundg m
        case measure => omega
        case rel => exact ⟨6, false, none, 0, 0, noS, 0, some ⟨w5.heap.size, 0, none⟩, 2, 2, none, 0, 0, by first | rfl | go_num, by omega, hfin, hg7, hRb7, hB7⟩
      · subst ha0; rfl
      · exact ⟨Below.refl _ _, fun h => by simp at h, fun h => by simp at h⟩
end Go.Proofs.YtjacoodfhkaioaaGreatDoor
namespace Go.Proofs.YtjacoodfhkaioaaGreatDoor
open Go.ChangeShapes Go.WideShapes Go.ChangeAt Go.RowKit Go.Shelf
set_option linter.unusedSimpArgs false
set_option linter.unusedVariables false
set_option maxRecDepth 2000
abbrev akO : ByteArray := ⟨#[111, 107]⟩
abbrev akT : Tm := tupT [atomT akO, numT 3 3]
abbrev akL : List UInt8 := [123, 111, 107, 44, 60, 51, 62, 125]
theorem ak4 : paE akL = 0 := by kernel_rfl
theorem ak5 : paT akL = some akT := by kernel_rfl
theorem ak6 : prE akT = 0 := by kernel_rfl
theorem ak7 : prS akT = akL := by kernel_rfl
theorem ak8 : ∀ p ∈ partsL [atomT akO, numT 3 3], p.ok1 ∧ fairB p = true := by
  intro p hp
  simp only [partsL, parts_atom, List.mem_append, List.mem_cons, List.not_mem_nil, or_false] at hp
  rcases hp with rfl | hp
  · exact ⟨gd_atom (nm := akO) (by decide) _ (by rw [parts_atom]; simp), by kernel_rfl⟩
  · have hp : p = numT 3 3 := by simpa [numT, parts, partsL] using hp
    subst hp
    exact ⟨gd_num 3 3 _ (by simp [numT, parts]), by kernel_rfl⟩
theorem akAtom_w (nm : ByteArray) (w : World) : Calls Tryz.prog 21 #[.string nm] w fun e w' => e = .returned (tmV 1 false nilS nm 0 nilS nilS) ∧ Below w.heap.size w w' := by
  go_enter Tryz.func21, Tryz.ntmps21
  go_wp2
  exact bodyPost_ret (v := tmV 1 false nilS nm 0 nilS nilS) (by simp [results, Tryz.results21, go_sem]) rfl ⟨rfl, (Below.refl _ w).alloc (Nat.le_refl _) _⟩
def AwakeOk : Prop := ∀ w : World, TabX w → Calls Tryz.prog 9 #[] w fun e w' => e = .returned (.bool true) ∧ Below w.heap.size w w'
set_option maxHeartbeats 4000000 in
theorem awake_ok : AwakeOk := by
  intro w hT
  have c1 := akAtom_w akO w
  go_enter Tryz.func9, Tryz.ntmps9
  go_wp2_with fail
  refine c1.mono ?_
  rintro e w1 ⟨rfl, b1⟩
  obtain ⟨W2, hW2⟩ : ∃ W2, W2 = w1.alloc (.cells #[.int .i64 1, .bool false, nilS, .string akO, .int .i64 0, nilS, nilS, .int .i64 3, .bool false, nilS, .string noS, .int .i64 3, nilS, nilS] 27) := ⟨_, rfl⟩
  have b2 : Below w1.heap.size w1 W2 := by rw [hW2]; exact (Below.refl _ w1).alloc (Nat.le_refl _) _
  have hg2 : W2.heap[w1.heap.size]? = some (.cells #[.int .i64 1, .bool false, nilS, .string akO, .int .i64 0, nilS, nilS, .int .i64 3, .bool false, nilS, .string noS, .int .i64 3, nilS, nilS] 27 (0, 0)) := by rw [hW2]; exact heap_alloc_new w1 _
  have hTR : TR (Low W2) W2 [atomT akO, numT 3 3] (some ⟨w1.heap.size, 0, none⟩) := tr_two (tv_flat 1 akO 0) (tv_flat 3 noS 3) hg2 (Array.getElem?_eq_some_iff.1 hg2).1
  have c2 := rTuple_w [atomT akO, numT 3 3] (some ⟨w1.heap.size, 0, none⟩) 2 W2 (by simp) ak8 hTR
  have bw2 := below_and b1 (Nat.le_refl _) b2
  rw [hW2] at c2
  have hW2H := hid hW2
  have bw2H := hid bw2
  have hTH := hid hT
  clear c1 b1 b2 hg2 hTR hW2 bw2 hT
  go_wp2_with fail
  refine c2.mono ?_
  rw [← hW2H.out]
  rintro e w3 ⟨v3, rfl, hV3, b3⟩
  have bw3 := below_and bw2H.out (Nat.le_refl _) b3
  have hTX := hTH.out.below bw3
  have c3 := print_w akT v3 w3 (by decide) (fun p hp => by
    rw [parts_tup] at hp
    rcases List.mem_cons.1 hp with rfl | hp
    · exact ⟨by simp, by decide, by simp, by simp, Lm.nil _⟩
    · exact (ak8 p hp).1) (TV.mono (fun k hk hz => hk) _ _ hV3) hTX.1.1 hTX.1 hTX.2
  rw [ak6, ak7, show (⟨akL.toArray⟩ : ByteArray) = ⟨#[123, 111, 107, 44, 60, 51, 62, 125]⟩ from rfl] at c3
  have bw3H := hid bw3
  clear c2 hV3 b3 bw3 hTX
  go_wp2_with fail
  refine c3.mono ?_
  rintro e w4 ⟨rfl, b4⟩
  have bw4 := below_and bw3H.out (Nat.le_refl _) b4
  have c4 := Parse_w akL w4 (hTH.out.below bw4) (by decide)
  rw [ak4, ak5, show bs akL = ⟨#[123, 111, 107, 44, 60, 51, 62, 125]⟩ from rfl] at c4
  have bw4H := hid bw4
  clear c3 b4 bw4
  go_wp2_with fail
  refine c4.mono ?_
  rintro e w5 ⟨v5, rfl, hV5, b5⟩
  have hV5' : TV (ZnS w4.heap.size w5) w5 akT v5 := hV5
  have bw5 := hid (below_and bw4H.out (Nat.le_refl _) b5)
  unfold tupT TV at hV5'
  obtain ⟨od, cd, ol, cl, ob, cb, rfl, _, _, _, _, _, hcl, hTR⟩ := hV5'
  obtain ⟨pa, pk, pneg, pod, pld, pcd, pnm, pn, pol, pll, pcl, pob, plb, pcb, rfl, hTp, y0, y1, y2, y3, y4, y5, y6⟩ := hTR.get3 (i := 1) (t := numT 3 3) rfl
  have hpn : pn = 3 := by
    unfold numT TV at hTp
    obtain ⟨_, _, _, _, _, _, e, _⟩ := hTp
    simp only [tmV, Value.agg.injEq, Array.mk.injEq, List.cons.injEq, Value.int.injEq, true_and] at e
    exact e.2.2.2.2.1
  subst hpn
  rw [Nat.one_mul, add7] at y0 y1 y2 y3 y4 y5 y6
  simp only [List.length_cons, List.length_nil, Nat.zero_add, Nat.reduceAdd]
  obtain ⟨W6, hW6⟩ : ∃ W6, W6 = w5.alloc (.cells #[.int .i64 4, .bool false, .slice od 0 cd, .string noS, .int .i64 0, .slice (some pa) 2 cl, .slice ob 0 cb] 27) := ⟨_, rfl⟩
  have b6 : Below w5.heap.size w5 W6 := by rw [hW6]; exact (Below.refl _ w5).alloc (Nat.le_refl _) _
  have hg6 : W6.heap[w5.heap.size]? = some (.cells #[.int .i64 4, .bool false, .slice od 0 cd, .string noS, .int .i64 0, .slice (some pa) 2 cl, .slice ob 0 cb] 27 (0, 0)) := by rw [hW6]; exact heap_alloc_new w5 _
  obtain ⟨x0, x1, x2, x3, x4, x5, x6⟩ := cell7 hg6
  have y4' := (b6.cell (World.block_lt_of_cell? _ _ y4)).trans y4
  have bw6 := hid (below_and bw5.out (Nat.le_refl _) b6)
  have hW6H := hid hW6
  clear hTR hTp y0 y1 y2 y3 y4 y5 y6 hV5 c4 b5 b6 hg6 hW6 hcl
  go_upto_region 3 with fail
  rw [← hW6H.out]
  go_wp2
  go_ret
  exact ⟨rfl, bw6.out⟩
end Go.Proofs.YtjacoodfhkaioaaGreatDoor
namespace Go.Proofs.YtjacoodfhkaioaaGreatDoor
open Go.ChangeShapes Go.WideShapes Go.ChangeAt Go.RowKit Go.Shelf
set_option linter.unusedSimpArgs false
set_option linter.unusedVariables false
set_option maxRecDepth 2000

/-- what is known of the limbs and the bytes of a part -/
def lmP : Tm → Prop | .mk _ _ d _ _ _ b => Lm 4294967296 d ∧ Lm 256 b
mutual
theorem TV.lm {Z : Nat → Prop} {w : World} : ∀ (t : Tm) (v : Value), TV Z w t v → ∀ p ∈ parts t, lmP p
  | .mk k neg d nm n l b, v, h, p, hp => by
    unfold TV at h
    obtain ⟨od, cd, ol, cl, ob, cb, hv, h1, h2, h3, h4, h5, h6, h7⟩ := h
    unfold parts at hp
    rcases List.mem_cons.1 hp with rfl | hp
    · exact ⟨h3, h4.2⟩
    · split at hp
      · exact TR.lm l ol h7 p hp
      · simp at hp
theorem TR.lm {Z : Nat → Prop} {w : World} : ∀ (l : List Tm) (o : Option Addr), TR Z w l o → ∀ p ∈ partsL l, lmP p
  | [], _, _, p, hp => by simp [partsL] at hp
  | t :: l, o, h, p, hp => by
    unfold TR at h
    obtain ⟨a, v, ho, hB, h1, h2, h3⟩ := h
    unfold partsL at hp
    rcases List.mem_append.1 hp with hp | hp
    · exact TV.lm t v h2 p hp
    · exact TR.lm l _ h3 p hp
end
def lmX (T : Tm) : Prop := ∀ p ∈ parts T, lmP p
theorem mem_parts_of {t p : Tm} (hp : p ∈ parts t) : ∀ {l : List Tm}, t ∈ l → p ∈ partsL l
  | [], h => by simp at h
  | u :: l, h => by
    simp only [partsL, List.mem_append]
    rcases List.mem_cons.1 h with rfl | h
    · exact .inl hp
    · exact .inr (mem_parts_of hp h)
theorem lmX.kid {T t : Tm} (h : lmX T) (ht : t ∈ T.kids) : lmX t := fun p hp => h p (by
  rw [parts_eq]
  exact List.mem_cons_of_mem _ (mem_parts_of hp ht))
theorem parts_kid {T t : Tm} (ht : t ∈ T.kids) : (parts t).length < (parts T).length := by
  rw [parts_eq T, List.length_cons]
  have h : ∀ {l : List Tm}, t ∈ l → (parts t).length ≤ (partsL l).length := by
    intro l
    induction l with
    | nil => intro h; simp at h
    | cons u l ih =>
      intro h
      simp only [partsL, List.length_append]
      rcases List.mem_cons.1 h with rfl | h
      · omega
      · have := ih h; omega
  have := h ht
  omega
theorem tx_len : ∀ (N : Nat) (T : Tm), (parts T).length ≤ N → okXs T → lmX T → (tx T).length ≤ 30000010 * (parts T).length ∧ (tb T).length ≤ 30000010 * (parts T).length + 2 := by
  intro N
  induction N with
  | zero => intro T hN; have := parts_pos T; omega
  | succ N ih =>
    intro T hN hok hlm
    cases T with | mk k neg d nm n l b =>
    have hX := hok.self
    have hL : lmP (.mk k neg d nm n l b) := hlm _ (by rw [parts_eq]; simp)
    have hp := parts_pos (.mk k neg d nm n l b)
    obtain ⟨_, _, _, _, _, x4, x6, _⟩ := id hX
    by_cases h46 : k = 4 ∨ k = 6
    · have hkids : (Tm.mk k neg d nm n l b).kids = l := by show (if k = 4 ∨ k = 6 then l else []) = l; rw [if_pos h46]
      have hpl := kids_mem hkids
      have hk : ∀ t ∈ l, (tx t).length ≤ 30000010 * (parts t).length ∧ (tb t).length ≤ 30000010 * (parts t).length + 2 := fun t ht => by
        have hm : t ∈ (Tm.mk k neg d nm n l b).kids := by rw [hkids]; exact ht
        have := parts_kid hm
        exact ih t (by omega) (hok.kid hm) (hlm.kid hm)
      rcases h46 with rfl | rfl
      · have h1 := join_sum 30000010 l (fun t ht => (hk t ht).1)
        have h2 := x4 rfl
        have e : (tx (.mk 4 neg d nm n l b)).length ≤ 30000010 * (parts (.mk 4 neg d nm n l b)).length - 10 := by
          rw [tx_tuple, hpl, Nat.mul_add]
          simp only [List.length_cons, List.length_append, List.length_nil]
          omega
        refine ⟨by omega, ?_⟩
        rw [tb_other (T := .mk 4 neg d nm n l b) (by show (4 : Int) ≠ 5; decide) (by show (4 : Int) ≠ 6; decide)]
        simp only [List.length_cons, List.length_append, List.length_nil]
        omega
      · obtain ⟨H, T, rfl⟩ := pair_of (x6 rfl)
        have h1 := (hk H (by simp)).1
        have h2 := (hk T (by simp)).2
        have e : (partsL [H, T]).length = (parts H).length + (parts T).length := by simp [partsL]
        rw [hpl, tx_cons, tb_cons, e]
        simp only [List.length_cons, List.length_append]
        omega
    · have h1 : (tx (.mk k neg d nm n l b)).length ≤ 30000000 := by rw [tx_leaf (by omega) (by omega)]; exact leaf_len hX hL.1 hL.2
      refine ⟨by omega, ?_⟩
      by_cases h5 : k = 5
      · subst h5; rw [tb_nil]; simp
      · rw [tb_other (T := .mk k neg d nm n l b) h5 (by show k ≠ 6; omega)]
        simp only [List.length_cons, List.length_append, List.length_nil]
        omega
/-- what show answers -/
def Shows (T : Tm) : Prop := ∀ (v : Value) (w : World), TV (Low w) w T v → TabsQ w → Calls Tryz.prog 27 #[v] w fun e w' => e = .returned (.string (bs (tx T))) ∧ Below w.heap.size w w'
theorem bs_lit (x : List UInt8) (a : Array UInt8) (h : a = x.toArray) : (⟨a⟩ : ByteArray) = bs x := by subst h; rfl
set_option maxHeartbeats 2000000 in
theorem show0 (k : Int) (neg : Bool) (d : List Nat) (nm : ByteArray) (n : Int) (l : List Tm) (b : List Nat) (hok : okX (.mk k neg d nm n l b)) (hk : k = 0 ∨ k = 1 ∨ k = 2 ∨ k = 3 ∨ k = 5) : Shows (.mk k neg d nm n l b) := by
  intro v w hT hQ
  rw [tx_leaf (by omega) (by omega)]
  obtain ⟨R, hR⟩ : ∃ R, bs (leafX k neg d nm n b) = R := ⟨_, rfl⟩
  rw [hR]
  have hRH := hid hR
  clear hR
  unfold TV at hT
  obtain ⟨od, cd, ol, cl, ob, cb, rfl, hLd, hcd, hLm, hLb, hcb, hcl, hTR⟩ := hT
  obtain ⟨k0, k7, x0, xn, x23, x4, x6, x7⟩ := hok
  unfold tmV
  obtain ⟨W, hW⟩ : ∃ W, W = w.alloc (.cells #[.int .i64 k, .bool neg, .slice od d.length cd, .string nm, .int .i64 n, .slice ol l.length cl, .slice ob b.length cb] 27) := ⟨_, rfl⟩
  have bW : Below w.heap.size w W := by rw [hW]; exact (Below.refl _ w).alloc (Nat.le_refl _) _
  have hgW : W.heap[w.heap.size]? = some (.cells #[.int .i64 k, .bool neg, .slice od d.length cd, .string nm, .int .i64 n, .slice ol l.length cl, .slice ob b.length cb] 27 (0, 0)) := by rw [hW]; exact heap_alloc_new w _
  obtain ⟨y0, y1, y2, y3, y4, y5, y6⟩ := cell7 hgW
  rcases hk with rfl | rfl | rfl | rfl | rfl
  · have c1 := numText_w _ _ 64 W (by omega) (nums_at (neg := neg) hLd hcd hLm (x0 rfl) bW)
    have e : R = ⟨(txt (sv neg (gval 4294967296 d))).toArray⟩ := by rw [← hRH.out]; unfold leafX; rw [if_pos rfl]; rfl
    clear x0 x23 x4 x6 x7
    go_enter Tryz.func27, Tryz.ntmps27
    go_upto_region 1 with fail
    rw [← hW]
    clear hW
    go_wp2_with fail
    refine c1.mono ?_
    rintro e' w1 ⟨rfl, b1⟩
    subst e
    go_wp2
    all_goals go_ret
    all_goals exact ⟨rfl, bW.trans (below_le b1 bW.size)⟩
  · have c1 := rquote_w nm W xn (hQ.below bW)
    have e : R = ⟨(quoteL nm.data.toList).toArray⟩ := by rw [← hRH.out]; unfold leafX; rw [if_neg (by decide), if_pos rfl]; rfl
    clear x0 x23 x4 x6 x7
    go_enter Tryz.func27, Tryz.ntmps27
    go_upto_region 1 with fail
    rw [← hW]
    clear hW
    go_wp2_with fail
    refine c1.mono ?_
    rintro e' w1 ⟨rfl, b1⟩
    subst e
    go_wp2
    all_goals go_ret
    all_goals exact ⟨rfl, bW.trans (below_le b1 bW.size)⟩
  · obtain ⟨n0, n1⟩ := x23 (.inl rfl)
    obtain ⟨m, rfl⟩ := Int.eq_ofNat_of_zero_le n0
    have c1 := digitsAll_w m (by omega) W
    have hl := Lib.itoa_length_le (m : Int) (by omega) (by omega)
    have e : (⟨#[35]⟩ : ByteArray) ++ bs (Lib.itoa (m : Int)) = R := by rw [← hRH.out, bs_lit [35] #[35] rfl, bs_cat]; unfold leafX; rw [if_neg (by decide), if_neg (by decide), if_pos rfl]; rfl
    have hsz : ¬ 9223372036854775807 < 1 + (bs (Lib.itoa (m : Int))).size := by rw [bs_size]; omega
    have hmz : (m : Int) ≤ 1073741824 := n1
    obtain ⟨D, hD⟩ : ∃ D, bs (Lib.itoa (m : Int)) = D := ⟨_, rfl⟩
    rw [hD] at c1 e hsz
    have hw : IntKind.u64.wrap (m : Int) = (m : Int) := by rw [IntKind.wrap_u64]; omega
    clear x0 x23 x4 x6 x7 n0 n1 hl hD
    go_enter Tryz.func27, Tryz.ntmps27
    go_upto_region 1 with fail
    rw [← hW]
    clear hW
    go_wp2_with fail
    refine c1.mono ?_
    rintro e' w1 ⟨rfl, b1⟩
    go_wp2
    all_goals go_ret
    all_goals exact ⟨rfl, bW.trans (below_le b1 bW.size)⟩
  · obtain ⟨n0, n1⟩ := x23 (.inr rfl)
    obtain ⟨m, rfl⟩ := Int.eq_ofNat_of_zero_le n0
    have c1 := digitsAll_w m (by omega) W
    have hl := Lib.itoa_length_le (m : Int) (by omega) (by omega)
    have e1 : (⟨#[60]⟩ : ByteArray) ++ bs (Lib.itoa (m : Int)) = bs (60 :: Lib.itoa (m : Int)) := by rw [bs_lit [60] #[60] rfl, bs_cat]; rfl
    have e2 : bs (60 :: Lib.itoa (m : Int)) ++ (⟨#[62]⟩ : ByteArray) = R := by rw [← hRH.out, bs_lit [62] #[62] rfl, bs_cat]; unfold leafX; rw [if_neg (by decide), if_neg (by decide), if_neg (by decide), if_pos rfl]; rfl
    have hsz : ¬ 9223372036854775807 < 1 + (bs (Lib.itoa (m : Int))).size := by rw [bs_size]; omega
    have hsz2 : ¬ 9223372036854775807 < (bs (60 :: Lib.itoa (m : Int))).size + 1 := by rw [bs_size, List.length_cons]; omega
    have hmz : (m : Int) ≤ 1073741824 := n1
    obtain ⟨D, hD⟩ : ∃ D, bs (Lib.itoa (m : Int)) = D := ⟨_, rfl⟩
    obtain ⟨D2, hD2⟩ : ∃ D2, bs (60 :: Lib.itoa (m : Int)) = D2 := ⟨_, rfl⟩
    rw [hD] at c1 e1 hsz
    rw [hD2] at e1 e2 hsz2
    have hw : IntKind.u64.wrap (m : Int) = (m : Int) := by rw [IntKind.wrap_u64]; omega
    clear x0 x23 x4 x6 x7 n0 n1 hl hD hD2
    go_enter Tryz.func27, Tryz.ntmps27
    go_upto_region 1 with fail
    rw [← hW]
    clear hW
    go_wp2_with fail
    refine c1.mono ?_
    rintro e' w1 ⟨rfl, b1⟩
    go_wp2
    all_goals go_ret
    all_goals exact ⟨rfl, bW.trans (below_le b1 bW.size)⟩
  · have e : R = ⟨#[91, 93]⟩ := by rw [← hRH.out]; unfold leafX; rw [if_neg (by decide), if_neg (by decide), if_neg (by decide), if_neg (by decide), if_neg (by decide)]; rfl
    clear x0 x23 x4 x6 x7
    go_enter Tryz.func27, Tryz.ntmps27
    go_upto_region 1 with fail
    rw [← hW]
    clear hW
    subst e
    go_wp2
    all_goals go_ret
    all_goals exact ⟨rfl, bW⟩
end Go.Proofs.YtjacoodfhkaioaaGreatDoor
namespace Go.Proofs.YtjacoodfhkaioaaGreatDoor
open Go.ChangeShapes Go.WideShapes Go.ChangeAt Go.RowKit Go.Shelf
set_option linter.unusedSimpArgs false
set_option linter.unusedVariables false
set_option maxRecDepth 2000

set_option maxHeartbeats 4000000 in
theorem show7 (neg : Bool) (d : List Nat) (nm : ByteArray) (n : Int) (l : List Tm) (b : List Nat) (hok : okX (.mk 7 neg d nm n l b)) : Shows (.mk 7 neg d nm n l b) := by
  intro v w hT hQ
  rw [tx_leaf (by omega) (by omega)]
  obtain ⟨R, hR⟩ : ∃ R, bs (leafX 7 neg d nm n b) = R := ⟨_, rfl⟩
  rw [hR]
  have hRH := hid hR
  clear hR
  obtain ⟨k, hk⟩ : ∃ k : Int, k = 7 := ⟨7, rfl⟩
  unfold TV at hT
  obtain ⟨od, cd, ol, cl, ob, cb, rfl, hLd, hcd, hLm, hLb, hcb, hcl, hTR⟩ := hT
  obtain ⟨k0, k7, x0, xn, x23, x4, x6, x7⟩ := hok
  have hb4 := x7 rfl
  clear x0 x23 x4 x6 x7 k0 k7
  rw [← hk]
  unfold tmV
  obtain ⟨W, hW⟩ : ∃ W, W = w.alloc (.cells #[.int .i64 k, .bool neg, .slice od d.length cd, .string nm, .int .i64 n, .slice ol l.length cl, .slice ob b.length cb] 27) := ⟨_, rfl⟩
  have bW : Below w.heap.size w W := by rw [hW]; exact (Below.refl _ w).alloc (Nat.le_refl _) _
  have hgW : W.heap[w.heap.size]? = some (.cells #[.int .i64 k, .bool neg, .slice od d.length cd, .string nm, .int .i64 n, .slice ol l.length cl, .slice ob b.length cb] 27 (0, 0)) := by rw [hW]; exact heap_alloc_new w _
  have hszW : W.heap.size = w.heap.size + 1 := by rw [hW]; simp
  obtain ⟨y0, y1, y2, y3, y4, y5, y6⟩ := cell7 hgW
  subst hk
  go_enter Tryz.func27, Tryz.ntmps27
  go_upto_region 1 with fail
  rw [← hW]
  clear hW
  have hbz : (b.length : Int) ≤ 4096 := by omega
  have hgWH := hid hgW
  go_wp2_with fail
  go_loopw [3, 4] (fun s v wr => ∃ (j : Nat) (S : ByteArray), s = .string S ∧ v = .int .i64 (j : Int) ∧ j ≤ b.length ∧ Hid (S = bs ([60, 60] ++ joinC ((b.take j).map byT))) ∧ Below W.heap.size W wr) (fun _ v _ => b.length - (intOf v).toNat)
  case atStart => exact ⟨0, ⟨#[60, 60]⟩, rfl, rfl, Nat.zero_le _, hid rfl, Below.refl _ _⟩
  case round =>
    obtain ⟨j, S, rfl, rfl, hj, hS, bw⟩ := hrel
    have hgr : wr.heap[w.heap.size]? = some (.cells #[.int .i64 7, .bool neg, .slice od d.length cd, .string nm, .int .i64 n, .slice ol l.length cl, .slice ob b.length cb] 27 (0, 0)) := (bw.block _ (by omega)).trans hgWH.out
    obtain ⟨z0, z1, z2, z3, z4, z5, z6⟩ := cell7 hgr
    clear hgr
    have hjl := joinC_len (b.take j) (fun x hx => hLb.2 x (List.mem_of_mem_take hx))
    rw [List.length_take] at hjl
    have hSl : S.size ≤ 200000 := by rw [hS.out, bs_size, List.length_append]; simp only [List.length_cons, List.length_nil]; omega
    clear hjl
    by_cases hjb : j < b.length
    · have hjz : (j : Int) < (b.length : Int) := by omega
      obtain ⟨x, hx⟩ : ∃ x, b[j]? = some x := ⟨b[j], by simp⟩
      obtain ⟨a, rfl, hZ, hc⟩ := hLb.1 j (.int .u8 (x : Int)) (by simp [bts, hx])
      have hx8 : x < 256 := hLb.2 x (List.mem_of_getElem? hx)
      have hbr : Below w.heap.size w wr := bW.trans (below_le bw bW.size)
      have hcr : wr.cell? (a.add j) = some (.int .u8 (x : Int)) := (hbr.cell (World.block_lt_of_cell? _ _ hc)).trans hc
      have hts : Hid ((b.take (j + 1)).map byT = (b.take j).map byT ++ [byT x]) := hid (by rw [take_snoc hx, List.map_append]; rfl)
      have c1 := fun w' => digitsAll_w x (by omega) w'
      have hdl := byT_len x hx8
      unfold byT at hdl
      have hw : IntKind.u64.wrap (x : Int) = (x : Int) := by rw [IntKind.wrap_u64]; omega
      obtain ⟨D, hD⟩ : ∃ D, bs (Lib.itoa (x : Int)) = D := ⟨_, rfl⟩
      have hDl : D.size ≤ 21 := by rw [← hD, bs_size]; exact hdl
      rw [hD] at c1
      have hDH := hid hD
      clear hc hx hZ hdl hD
      by_cases h0 : j = 0
      · subst h0
        rw [add_zero] at hcr
        obtain ⟨S2, hS2⟩ : ∃ S2, S ++ D = S2 := ⟨_, rfl⟩
        have hsz : ¬ 9223372036854775807 < S.size + D.size := by omega
        go_wp2_with fail
        refine (c1 _).mono ?_
        rintro e w1 ⟨rfl, b1⟩
        go_wp2
        refine ⟨⟨1, S2, rfl, by go_num, by omega, hid ?_, bw.trans (below_le b1 bw.size)⟩, by simp [intOf]; omega⟩
        have e := hts.out
        simp only [Nat.zero_add, List.take_zero, List.map_nil, List.nil_append] at e
        rw [e, ← hS2, hS.out, ← hDH.out, bs_cat]
        simp [joinC, byT]
      · have hk0 : (0 : Int) < (j : Int) := by omega
        obtain ⟨S1, hS1⟩ : ∃ S1, S ++ (⟨#[44]⟩ : ByteArray) = S1 := ⟨_, rfl⟩
        obtain ⟨S2, hS2⟩ : ∃ S2, S1 ++ D = S2 := ⟨_, rfl⟩
        have hS1l : S1.size ≤ 200001 := by rw [← hS1, ByteArray.size_append]; show S.size + 1 ≤ _; omega
        have hsz1 : ¬ 9223372036854775807 < S.size + 1 := by omega
        have hsz : ¬ 9223372036854775807 < S1.size + D.size := by omega
        have h0H := hid h0
        clear h0
        go_wp2_with fail
        refine (c1 _).mono ?_
        rintro e w1 ⟨rfl, b1⟩
        go_wp2
        refine ⟨⟨j + 1, S2, rfl, by go_num, by omega, hid ?_, bw.trans (below_le b1 bw.size)⟩, by simp [intOf]; omega⟩
        have e := hts.out
        have hne : (b.take j).map byT ≠ [] := by
          intro e2
          have := congrArg List.length e2
          have h0 := h0H.out
          rw [List.length_map, List.length_take] at this
          simp only [List.length_nil] at this
          omega
        rw [e, joinC_snoc, if_neg hne, ← hS2, ← hS1, hS.out, ← hDH.out, bs_lit [44] #[44] rfl, bs_cat, bs_cat]
        simp [byT]
    · have hjz : ¬ (j : Int) < (b.length : Int) := by omega
      have e1 : S ++ (⟨#[62, 62]⟩ : ByteArray) = R := by
        rw [← hRH.out, hS.out, List.take_of_length_le (by omega), bs_lit [62, 62] #[62, 62] rfl, bs_cat]
        unfold leafX
        rw [if_neg (by decide), if_neg (by decide), if_neg (by decide), if_neg (by decide), if_pos rfl]
        simp
      have hsz : ¬ 9223372036854775807 < S.size + 2 := by omega
      clear hS
      go_wp2
      go_ret
      exact ⟨rfl, bW.trans (below_le bw bW.size)⟩
end Go.Proofs.YtjacoodfhkaioaaGreatDoor
