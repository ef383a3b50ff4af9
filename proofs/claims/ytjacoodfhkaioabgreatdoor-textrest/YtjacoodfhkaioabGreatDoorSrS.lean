/- Texts of mine, one behind the other: CpyTup, CpyList, TextListsW, RSame, TextUnlikeW, TextBk8, TextRs, TextAw. -/
import Derived.Test.YtjacoodfhkaioabGreatDoorSrO
import Derived.Test.YtjacoodfhkaioabGreatDoorSrR
import Derived.Test.YtjacoodfhkaioabGreatDoorSrK
import Derived.Test.YtjacoodfhkaioabGreatDoorSrI
import Derived.Test.YtjacoodfhkaioabGreatDoorSrH
import Derived.Test.YtjacoodfhkaioabGreatDoorSrN
import Derived.Test.YtjacoodfhkaioabGreatDoorSrQ
namespace Go.Proofs.YtjacoodfhkaioabGreatDoor
open Go.ChangeShapes Go.WideShapes Go.ChangeAt Go.ChangeMaps Go.RowKit Go.Shelf
set_option linter.unusedSimpArgs false
set_option linter.unusedVariables false
set_option maxRecDepth 2000
set_option maxHeartbeats 8000000 in
set_option maxRecDepth 8000 in
theorem rTuple_w (ls : List Tm) (o : Option Addr) (c : Nat) (w : World) (hl : ls.length ≤ 1000000) (hok : ∀ p ∈ partsL ls, p.ok1 ∧ fairB p = true) (hT : TR (Low w) w ls o) :
    Calls Tryz.prog 10 #[.slice o ls.length c] w fun e w' => ∃ v', e = .returned v' ∧ TV (Zb w.heap.size w') w' (tupT ls) v' ∧ Below w.heap.size w w' := by
  have htR := hid hT
  have hok2 := hid hok
  clear hT hok
  obtain ⟨kB, kG, hB0, hz0⟩ := bx2 w (.int .i64 0) (.bool false) nilS (.string noS) (.int .i64 0) nilS nilS (.int .i64 4) (.bool false) nilS (.string noS) (.int .i64 0) nilS nilS 26 26
  have hR00 : ((w.alloc (.cells zC 26)).alloc (.cells #[.int .i64 4, .bool false, nilS, .string noS, .int .i64 0, nilS, nilS] 26)).heap[w.heap.size]? = some (.cells zC 26 (0, 0)) := (((Below.refl _ _).alloc (Nat.le_refl _) _).block w.heap.size (by simp)).trans (heap_alloc_new w (.cells zC 26))
  have hG00 := heap_alloc_new (w.alloc (.cells zC 26)) (.cells #[.int .i64 4, .bool false, nilS, .string noS, .int .i64 0, nilS, nilS] 26)
  rw [World.size_alloc] at hG00
  obtain ⟨iT, hT1, hT2, hT3, hT4⟩ := info_parts infoT
  go_enter Tryz.func10, Tryz.ntmps10
  go_wp2_with fail
  generalize ((w.alloc (.cells #[.int .i64 0, .bool false, .slice none 0 0, .string { data := #[] }, .int .i64 0, .slice none 0 0, .slice none 0 0] 26)).alloc (.cells #[.int .i64 4, .bool false, .slice none 0 0, .string { data := #[] }, .int .i64 0, .slice none 0 0, .slice none 0 0] 26)) = W0 at *
  go_loopg [4] ls.length (fun t v4 wr => ∃ (i : Nat) (vL : Value) (xs : List Value), t + i = ls.length ∧ v4 = .int .i64 (i : Int) ∧ wr.heap[w.heap.size + 1]? = some (.cells #[.int .i64 4, .bool false, nilS, .string noS, .int .i64 0, vL, nilS] 26 (0, 0)) ∧ wr.heap[w.heap.size]? = some (.cells zC 26 (0, 0)) ∧ wr.ownsRow (w.heap.size + 2) 26 7 vL i xs ∧ RC (Zq (w.heap.size + 2) vL wr) wr (ls.take i) xs ∧ Below w.heap.size w wr ∧ w.heap.size + 2 ≤ wr.heap.size)
  case atStart => exact ⟨0, nilS, [], by omega, rfl, hG00, hR00, World.ownsRow_nil _ _ _ _, rfl, hB0, by omega⟩
  case round =>
    obtain ⟨i, vL, xs, hti, rfl, hgr, hRb, hOw, hRC, hbV, hsz⟩ := hrel
    clear hG00 hR00 hB0 kB kG hz0
    obtain ⟨oL, cL, rfl, hcL⟩ := own_sl hOw
    have kG2 := res7 hgr
    by_cases hil : i < ls.length
    · have hii : ((i : Nat) : Int) < ((ls.length : Nat) : Int) := by omega
      obtain ⟨t, ht⟩ : ∃ t, ls[i]? = some t := ⟨ls[i], by simp [hil]⟩
      obtain ⟨pa, pk, pneg, pod, pld, pcd, pnm, pn, pol, pll, pcl, pob, plb, pcb, hpa, hTp, y0, y1, y2, y3, y4, y5, y6⟩ := htR.out.get ht hbV
      subst hpa
      have hokt : ∀ p ∈ parts t, p.ok1 ∧ fairB p = true := fun p hp => hok2.out p (mem_partsL ht hp)
      have htk : Hid (ls.take (i + 1) = ls.take i ++ [t]) := hid (by rw [List.take_add_one, ht]; rfl)
      clear ht
      have dV5 : Below wr.heap.size wr wr.drew := (Below.refl _ wr).drew
      have hO3 : wr.drew.ownsRow (w.heap.size + 2) 26 7 (.slice oL i cL) i xs := own_blkS hOw (fun k hk => rfl)
      have hRC3 : RC (Zq (w.heap.size + 2) (.slice oL i cL) wr.drew) wr.drew (ls.take i) xs := RC.mono (fun k hk hz => hz) (RC.zs (Z := Zq (w.heap.size + 2) (.slice oL i cL) wr) (w := wr) (w' := wr.drew) (fun k hk => rfl) hRC)
      have hgr3 : wr.drew.heap[w.heap.size + 1]? = some (.cells #[.int .i64 4, .bool false, nilS, .string noS, .int .i64 0, .slice oL i cL, nilS] 26 (0, 0)) := hgr
      have hRb3 : wr.drew.heap[w.heap.size]? = some (.cells zC 26 (0, 0)) := hRb
      have hbV3 : Below w.heap.size w wr.drew := hbV.drew
      have hsz3 : w.heap.size + 2 ≤ wr.drew.heap.size := hsz
      have hTp3 := tv_below hTp dV5
      have hpl : pa.block < w.heap.size := by
        have h1 := htR.out
        cases ls with
        | nil => simp at hil
        | cons q qs =>
          unfold TR at h1
          obtain ⟨a, _, e, h2, _⟩ := h1
          injection e with e
          rw [e]; exact h2
      have hSk : Hid (∀ w' : World, (∀ k, k < w.heap.size → w'.heap[k]? = wr.drew.heap[k]?) → (w'.cell? (pa.add (i * 7)) = some (.int .i64 pk) ∧ w'.cell? ⟨(pa.add (i * 7)).block, (pa.add (i * 7)).off + 1, none⟩ = some (.bool pneg) ∧ w'.cell? ⟨(pa.add (i * 7)).block, (pa.add (i * 7)).off + 2, none⟩ = some (.slice pod pld pcd) ∧ w'.cell? ⟨(pa.add (i * 7)).block, (pa.add (i * 7)).off + 3, none⟩ = some (.string pnm) ∧ w'.cell? ⟨(pa.add (i * 7)).block, (pa.add (i * 7)).off + 4, none⟩ = some (.int .i64 pn) ∧ w'.cell? ⟨(pa.add (i * 7)).block, (pa.add (i * 7)).off + 5, none⟩ = some (.slice pol pll pcl) ∧ w'.cell? ⟨(pa.add (i * 7)).block, (pa.add (i * 7)).off + 6, none⟩ = some (.slice pob plb pcb))) := hid (fun w' hb => by
        have q : ∀ {a : Addr} {v : Value}, a.block = pa.block → wr.cell? a = some v → w'.cell? a = some v := fun e h => (World.cell?_of_block (hb _ (by rw [e]; omega))).trans h
        exact ⟨q (block_add _ _) y0, q (block_add _ _) y1, q (block_add _ _) y2, q (block_add _ _) y3, q (block_add _ _) y4, q (block_add _ _) y5, q (block_add _ _) y6⟩)
      have hS : Hid (∀ w', Below wr.drew.heap.size wr.drew w' → (w'.cell? (pa.add (i * 7)) = some (.int .i64 pk) ∧ w'.cell? ⟨(pa.add (i * 7)).block, (pa.add (i * 7)).off + 1, none⟩ = some (.bool pneg) ∧ w'.cell? ⟨(pa.add (i * 7)).block, (pa.add (i * 7)).off + 2, none⟩ = some (.slice pod pld pcd) ∧ w'.cell? ⟨(pa.add (i * 7)).block, (pa.add (i * 7)).off + 3, none⟩ = some (.string pnm) ∧ w'.cell? ⟨(pa.add (i * 7)).block, (pa.add (i * 7)).off + 4, none⟩ = some (.int .i64 pn) ∧ w'.cell? ⟨(pa.add (i * 7)).block, (pa.add (i * 7)).off + 5, none⟩ = some (.slice pol pll pcl) ∧ w'.cell? ⟨(pa.add (i * 7)).block, (pa.add (i * 7)).off + 6, none⟩ = some (.slice pob plb pcb))) := hid (fun w' hb => hSk.out w' (fun k hk => hb.block k (by omega)))
      clear hRC hOw hgr hRb hbV hsz hTp dV5 kG2 y0 y1 y2 y3 y4 y5 y6
      go_wp2_with fail
      refine wp_region_held_drew (S := fun w' => w'.cell? (pa.add (i * 7)) = some (.int .i64 pk) ∧ w'.cell? ⟨(pa.add (i * 7)).block, (pa.add (i * 7)).off + 1, none⟩ = some (.bool pneg) ∧ w'.cell? ⟨(pa.add (i * 7)).block, (pa.add (i * 7)).off + 2, none⟩ = some (.slice pod pld pcd) ∧ w'.cell? ⟨(pa.add (i * 7)).block, (pa.add (i * 7)).off + 3, none⟩ = some (.string pnm) ∧ w'.cell? ⟨(pa.add (i * 7)).block, (pa.add (i * 7)).off + 4, none⟩ = some (.int .i64 pn) ∧ w'.cell? ⟨(pa.add (i * 7)).block, (pa.add (i * 7)).off + 5, none⟩ = some (.slice pol pll pcl) ∧ w'.cell? ⟨(pa.add (i * 7)).block, (pa.add (i * 7)).off + 6, none⟩ = some (.slice pob plb pcb)) (by kernel_rfl) (by exact hS.out _ (Below.refl _ _)) (fun hHeld => ?_)
      generalize wr.drew = V5 at *
      refine wpAnyH_take (i := 0) (oi := _) (v := ?_) rfl (by kernel_rfl) (by kernel_rfl) (by kernel_rfl) (fun _ _ _ h => h) (Or.inl ⟨by rfl, ?_⟩) (by assumption) ?_
      rotate_left 1
      · (intro w hSw; (try dsimp only at hSw); go_simp; try with_reducible rfl)
      try simp (maxSteps := 10000000) only [List.getElem_toArray, List.getElem_cons_succ, List.getElem_cons_zero, Act.put, List.setIfInBounds_toArray, List.set_cons_zero, List.set_cons_succ]
      refine wpAnyH_take (i := 2) (oi := _) (v := ?_) rfl (by kernel_rfl) (by kernel_rfl) (by kernel_rfl) (fun _ _ _ h => h) (Or.inl ⟨by rfl, ?_⟩) (by assumption) ?_
      rotate_left 1
      · (intro w hSw; (try dsimp only at hSw); go_simp; try with_reducible rfl)
      try simp (maxSteps := 10000000) only [List.getElem_toArray, List.getElem_cons_succ, List.getElem_cons_zero, Act.put, List.setIfInBounds_toArray, List.set_cons_zero, List.set_cons_succ]
      refine wpAnyH_take (i := 3) (oi := _) (v := ?_) rfl (by kernel_rfl) (by kernel_rfl) (by kernel_rfl) (fun _ _ _ h => h) (Or.inl ⟨by rfl, ?_⟩) (by assumption) ?_
      rotate_left 1
      · (intro w hSw; (try dsimp only at hSw); go_simp; try with_reducible rfl)
      try simp (maxSteps := 10000000) only [List.getElem_toArray, List.getElem_cons_succ, List.getElem_cons_zero, Act.put, List.setIfInBounds_toArray, List.set_cons_zero, List.set_cons_succ]
      refine wpAnyH_take (i := 4) (oi := _) (v := ?_) rfl (by kernel_rfl) (by kernel_rfl) (by kernel_rfl) (fun _ _ _ h => h) (Or.inl ⟨by rfl, ?_⟩) (by assumption) ?_
      rotate_left 1
      · (intro w hSw; (try dsimp only at hSw); go_simp; try with_reducible rfl)
      try simp (maxSteps := 10000000) only [List.getElem_toArray, List.getElem_cons_succ, List.getElem_cons_zero, Act.put, List.setIfInBounds_toArray, List.set_cons_zero, List.set_cons_succ]
      refine wpAnyH_take (i := 5) (oi := _) (v := ?_) rfl (by kernel_rfl) (by kernel_rfl) (by kernel_rfl) (fun _ _ _ h => h) (Or.inl ⟨by rfl, ?_⟩) (by assumption) ?_
      rotate_left 1
      · (intro w hSw; (try dsimp only at hSw); go_simp; try with_reducible rfl)
      try simp (maxSteps := 10000000) only [List.getElem_toArray, List.getElem_cons_succ, List.getElem_cons_zero, Act.put, List.setIfInBounds_toArray, List.set_cons_zero, List.set_cons_succ]
      refine wpAnyH_at (m' := 6) (listed' := #[true, false, true, true, true, true, false, false, false, false, false]) (by kernel_rfl) (by kernel_rfl) ?_
      refine wpAnyH_name fun a0 ha0 => ?_
      refine wpAnyH_tt (A := fun s => ((a0.put (some 13) s.x1).put (some 18) s.x6).put (some 19) s.x7) (R := fun s w => Rap V5 (.slice oL i cL) t s.l1 s.l6 s.l7 s.x1 s.x6 s.x7 w) ?_ (fun s w h => h.ok) ?_ ?_ ?_ ?_ _ _ u13 u18 u19 ?_ ?_
      · kernel_rfl
      · intro s w' hR h0
        have hc : w'.cell? ⟨w.heap.size + 1, 5, none⟩ = some (.slice oL i cL) := (res7 (blk_on' hgr3 hR.bel)).c5
        refine wpOp_step rfl (fun K' hK => ?_)
        have hK' := shutO hK
        clear hK
        subst ha0
        simp only [Act.put, List.setIfInBounds_toArray, List.set_cons_zero, List.set_cons_succ]
        go_simp
        refine hK'.out _ _ ⟨_, ?_, hR.c1, hS.out _ hR.bel⟩
        rfl
      · intro s w' hR h0
        refine wpOp_step rfl (fun K' hK => ?_)
        have hK' := shutO hK
        clear hK
        subst ha0
        simp only [Act.put, List.setIfInBounds_toArray, List.set_cons_zero, List.set_cons_succ]
        go_simp
        refine (rCopy_w (tsz t) t _ _ (Nat.le_refl _) hokt (tv_below hTp3 hR.bel)).mono ?_
        rintro e w7 ⟨v7, rfl, hT7, b7⟩
        try go_simp
        refine hK'.out _ _ ⟨_, ?_, hR.c7 h0 hT7 b7, hS.out _ (hR.c7 h0 hT7 b7).bel⟩
        rfl
      · intro s w' hR h0 e7
        obtain ⟨l1, l7, l8, x1, x7, x8⟩ := s
        dsimp only at hR e7 h0
        obtain ⟨xk, xneg, xod, xld, xcd, xnm, xn, xol, xll, xcl, xob, xlb, xcb, hx7, _⟩ := hR.h7 e7
        subst hx7
        refine wpOp_step rfl (fun K' hK => ?_)
        have hK' := shutO hK
        clear hK
        subst ha0
        simp only [Act.put, List.setIfInBounds_toArray, List.set_cons_zero, List.set_cons_succ]
        go_simp
        refine hK'.out _ _ ⟨_, ?_, hR.c8 e7, hS.out _ (hR.c8 e7).bel⟩
        rfl
      · intro x1 x7 x8 w5 hR
        have hx1 := hR.h1 rfl
        obtain ⟨gn, xk, xneg, xod, xld, xcd, xnm, xn, xol, xll, xcl, xob, xlb, xcb, hx7, hT5, hx8, hgn, kgn⟩ := hR.h8 rfl
        have hb5 := hR.bel
        clear hR
        dsimp only at hx1 hx7 hx8
        subst hx1
        subst hx7
        subst hx8
        subst ha0
        try simp only [Act.put, List.setIfInBounds_toArray, List.set_cons_zero, List.set_cons_succ]
        have hO5 : w5.ownsRow (w.heap.size + 2) 26 7 (.slice oL i cL) i xs := own_blkS hO3 (fun k hk => hb5.block k (own_blk7 hO3 k hk).2)
        have hg5 := blk_on' hgr3 hb5
        have hcr : ∀ (j : Nat) (u : Value), ([.int .i64 xk, .bool xneg, .slice xod xld xcd, .string xnm, .int .i64 xn, .slice xol xll xcl, .slice xob xlb xcb] : List Value)[j]? = some u → w5.cell? ((⟨gn, 0, none⟩ : Addr).add j) = some u := by
          intro j u hj
          rw [addr_add, Nat.zero_add]
          simp only [World.cell?, kgn]
          simpa using hj
        have hone : ∀ u ∈ ([.int .i64 xk, .bool xneg, .slice xod xld xcd, .string xnm, .int .i64 xn, .slice xol xll xcl, .slice xob xlb xcb] : List Value), u.oneCell' = true := by
          intro u hu
          simp only [List.mem_cons, List.not_mem_nil, or_false] at hu
          rcases hu with rfl | rfl | rfl | rfl | rfl | rfl | rfl <;> rfl
        refine wpAnyH_ready (rs := [8]) (by kernel_rfl) (by simp) ?_
        refine AllReadyH.cons rfl (fun K hK => ?_) AllReadyH.nil
        refine step_append_lies _ rfl _ _ 23 rfl (w.heap.size + 2) 26 iT (.agg #[.int .i64 0, .bool false, .slice none 0 0, .string ⟨#[]⟩, .int .i64 0, .slice none 0 0, .slice none 0 0]) 7 112 Tryz.underlying23 hT1 hT2 hT3 hT4 rfl (by decide) (.slice oL i cL) i xs rfl hO5 ⟨gn, 0, none⟩ 1 1 [.int .i64 xk, .bool xneg, .slice xod xld xcd, .string xnm, .int .i64 xn, .slice xol xll xcl, .slice xob xlb xcb] rfl rfl hcr hone (by decide) (by unfold maxLen; omega) (by omega) (by have := hb5.size; omega) w5.heap.size rfl (fun g2 cap2 w2 hown hgrow hg2 hlt2 => ?_)
        have hgg : w2.heap[w.heap.size + 1]? = w5.heap[w.heap.size + 1]? := hgrow.block _ (by have := hb5.size; omega) (fun e => by have := (own_blk7 hO5 _ e.symm).1; omega)
        have hg5' := hgg.trans hg5
        obtain ⟨f0, f1, f2, f3, f4, f5, f6⟩ := (res7 hg5').res
        have ff := (res7 hg5').fr
        have q2 : ∀ k, k < V5.heap.size → Value.ownBlock (.slice oL i cL) ≠ some k → w2.heap[k]? = V5.heap[k]? := fun k hk hn => (hgrow.block k (by have := hb5.size; omega) (fun e => hn e.symm)).trans (hb5.block k hk)
        have qs2 := hSk.out w2 (fun k hk => q2 k (by omega) (fun e => by have := (own_blk7 hO5 k e).1; omega))
        refine hK.out _ _ ?_ (fun hHeld => ?_)
        · first | exact hS.out _ (by assumption) | exact qs3 | exact qs2
        clear hK K
        try simp (maxSteps := 10000000) only [List.getElem_toArray, List.getElem_cons_succ, List.getElem_cons_zero, Act.put, List.setIfInBounds_toArray, List.set_cons_zero, List.set_cons_succ]
        refine wpAnyH_take (i := 9) (oi := _) (v := ?_) rfl (by kernel_rfl) (by kernel_rfl) (by kernel_rfl) (fun _ _ _ h => h) (Or.inl ⟨by rfl, ?_⟩) (by assumption) ?_
        rotate_left 1
        · (intro w hSw; (try dsimp only at hSw); go_simp; try with_reducible rfl)
        try simp (maxSteps := 10000000) only [List.getElem_toArray, List.getElem_cons_succ, List.getElem_cons_zero, Act.put, List.setIfInBounds_toArray, List.set_cons_zero, List.set_cons_succ]
        refine wpAnyH_ready (rs := [10]) (by kernel_rfl) (by simp) ?_
        refine AllReadyH.cons rfl (fun K hK => ?_) AllReadyH.nil
        go_simp
        have on5 := only_set w2 (w.heap.size + 1) 5 (.slice (some ⟨g2, 0, none⟩) (i + 1) cap2)
        have hg6 : (w2.setCell ⟨w.heap.size + 1, 5, none⟩ (.slice (some ⟨g2, 0, none⟩) (i + 1) cap2)).heap[w.heap.size + 1]? = some (.cells #[.int .i64 4, .bool false, nilS, .string noS, .int .i64 0, .slice (some ⟨g2, 0, none⟩) (i + 1) cap2, nilS] 26 (0, 0)) := heap_setc hg5' _
        clear f0 f1 f2 f3 f4 f5 f6 ff
        generalize w2.setCell ⟨w.heap.size + 1, 5, none⟩ (.slice (some ⟨g2, 0, none⟩) (i + 1) cap2) = w3 at *
        have qs3 := hSk.out w3 (fun k hk => (on5.2.2 k (by omega)).trans (q2 k (by omega) (fun e => by have := (own_blk7 hO5 k e).1; omega)))
        try go_simp
        refine hK.out _ _ ?_ (fun hHeld => ?_)
        · first | exact hS.out _ (by assumption) | exact qs3 | exact qs2
        clear hK K
        try simp (maxSteps := 10000000) only [List.getElem_toArray, List.getElem_cons_succ, List.getElem_cons_zero, Act.put, List.setIfInBounds_toArray, List.set_cons_zero, List.set_cons_succ]
        refine wpAnyH_done (by kernel_rfl) ?_ _
        obtain ⟨hO6, hRC6⟩ := row_step hsz3 (by omega) hO3 hRC3 hb5 hT5 hgrow hg2 hown on5
        have hsz6 : w.heap.size + 2 ≤ w3.heap.size := by have := hb5.size; have := hgrow.size; have : w3.heap.size = w2.heap.size := on5.2.1; omega
        have hR6 : w3.heap[w.heap.size]? = some (.cells zC 26 (0, 0)) := (on5.2.2 _ (by omega)).trans ((q2 _ (by omega) (fun e => by have := (own_blk7 hO5 _ e).1; omega)).trans hRb3)
        have hb6 : Below w.heap.size w w3 := (((below_and' hbV3 hbV3.size hb5).trans (⟨hgrow.os, hgrow.tape, hgrow.output, hgrow.size, fun k hk => hgrow.block k (by have := hb5.size; have := hbV3.size; omega) (fun e => by have := (own_blk7 hO5 k e.symm).1; omega)⟩ : Below w.heap.size w5 w2)).trans (on5.below (B := w.heap.size) (by omega)))
        clear hO5 hg5 hcr hone hgrow hg2 hown hb5 hT5 q2 qs2 qs3 hgg hg5' kgn hSk hS on5 hlt2
        go_wp2
        go_roundg (ls.length - (i + 1))
        case measure => omega
        case rel => exact ⟨i + 1, _, _, by omega, by go_num, hg6, hR6, hO6, by rw [htk.out]; exact hRC6, hb6, hsz6⟩
      · subst ha0; rfl
      · exact ⟨Below.refl _ _, rfl, fun h => by simp at h, fun h => by simp at h, fun h => by simp at h⟩
    · have hi2 : i = ls.length := by omega
      subst hi2
      have hii : ¬ ((ls.length : Nat) : Int) < ((ls.length : Nat) : Int) := by omega
      have kB2 := res7 hRb
      obtain ⟨y0, y1, y2, y3, y4, y5, y6⟩ := kG2.res
      obtain ⟨z0, z1, z2, z3, z4, z5, z6⟩ := kB2.res
      have zf := kB2.fr
      have onR := only_put wr w.heap.size (.int .i64 4) (.bool false) nilS (.string noS) (.int .i64 0) (.slice oL ls.length cL) nilS
      obtain ⟨r0, r1, r2, r3, r4, r5, r6⟩ := (kB2.put (b0 := .int .i64 4) (b1 := .bool false) (b2 := nilS) (b3 := .string noS) (b4 := .int .i64 0) (b5 := .slice oL ls.length cL) (b6 := nilS)).res
      have hfin : TV (Zb w.heap.size (((((((wr.setCell ⟨w.heap.size, 0, none⟩ (.int .i64 4)).setCell ⟨w.heap.size, 1, none⟩ (.bool false)).setCell ⟨w.heap.size, 2, none⟩ nilS).setCell ⟨w.heap.size, 3, none⟩ (.string noS)).setCell ⟨w.heap.size, 4, none⟩ (.int .i64 0)).setCell ⟨w.heap.size, 5, none⟩ (.slice oL ls.length cL)).setCell ⟨w.heap.size, 6, none⟩ nilS)) (((((((wr.setCell ⟨w.heap.size, 0, none⟩ (.int .i64 4)).setCell ⟨w.heap.size, 1, none⟩ (.bool false)).setCell ⟨w.heap.size, 2, none⟩ nilS).setCell ⟨w.heap.size, 3, none⟩ (.string noS)).setCell ⟨w.heap.size, 4, none⟩ (.int .i64 0)).setCell ⟨w.heap.size, 5, none⟩ (.slice oL ls.length cL)).setCell ⟨w.heap.size, 6, none⟩ nilS) (tupT ls) (tmV 4 false nilS noS 0 (.slice oL ls.length cL) nilS) := by
        have hO2 := own_blkS hOw (fun k hk => onR.2.2 k (by have := (own_blk7 hOw k hk).1; omega))
        rw [List.take_length] at hRC
        have hR2 := RC.mono (Z' := Zb w.heap.size (((((((wr.setCell ⟨w.heap.size, 0, none⟩ (.int .i64 4)).setCell ⟨w.heap.size, 1, none⟩ (.bool false)).setCell ⟨w.heap.size, 2, none⟩ nilS).setCell ⟨w.heap.size, 3, none⟩ (.string noS)).setCell ⟨w.heap.size, 4, none⟩ (.int .i64 0)).setCell ⟨w.heap.size, 5, none⟩ (.slice oL ls.length cL)).setCell ⟨w.heap.size, 6, none⟩ nilS)) (fun k hk hz => ⟨by have := hz.1; omega, hk⟩) (hRC.zs (w' := (((((((wr.setCell ⟨w.heap.size, 0, none⟩ (.int .i64 4)).setCell ⟨w.heap.size, 1, none⟩ (.bool false)).setCell ⟨w.heap.size, 2, none⟩ nilS).setCell ⟨w.heap.size, 3, none⟩ (.string noS)).setCell ⟨w.heap.size, 4, none⟩ (.int .i64 0)).setCell ⟨w.heap.size, 5, none⟩ (.slice oL ls.length cL)).setCell ⟨w.heap.size, 6, none⟩ nilS)) (fun k hk => onR.2.2 k (by have := hk.1; omega)))
        unfold tupT TV
        exact ⟨none, 0, oL, cL, none, 0, rfl, Ls.nil _ _ _, by simp, Lm.nil _, LsB.nil _ _ _, by simp, hcL, own_trz hO2 hR2 (fun q _ hq hq2 => ⟨by omega, hq2⟩)⟩
      have hBF : Below w.heap.size w (((((((wr.setCell ⟨w.heap.size, 0, none⟩ (.int .i64 4)).setCell ⟨w.heap.size, 1, none⟩ (.bool false)).setCell ⟨w.heap.size, 2, none⟩ nilS).setCell ⟨w.heap.size, 3, none⟩ (.string noS)).setCell ⟨w.heap.size, 4, none⟩ (.int .i64 0)).setCell ⟨w.heap.size, 5, none⟩ (.slice oL ls.length cL)).setCell ⟨w.heap.size, 6, none⟩ nilS) := hbV.trans (onR.below (B := w.heap.size) (Nat.le_refl _))
      have HF := hid hfin
      have HBF := hid hBF
      clear hfin hBF onR hRC hOw
      go_wp2
      exact bodyPost_ret (v := tmV 4 false nilS noS 0 (.slice oL ls.length cL) nilS) (by simp [results, Tryz.results10, go_sem, r0, r1, r2, r3, r4, r5, r6]) rfl ⟨_, rfl, HF.out, HBF.out⟩
end Go.Proofs.YtjacoodfhkaioabGreatDoor
namespace Go.Proofs.YtjacoodfhkaioabGreatDoor
open Go.ChangeShapes Go.WideShapes Go.ChangeAt Go.ChangeMaps Go.RowKit Go.Shelf
set_option linter.unusedSimpArgs false
set_option linter.unusedVariables false
set_option maxRecDepth 2000
structure St_tl where
  l4 : Bool
  l5 : Bool
  x4 : Value
  x5 : Value
def St_tl.L (s : St_tl) : Array Bool := #[true, true, true, true, s.l4, s.l5, false, false, false]
def St_tl.n (s : St_tl) : Nat := (!s.l4).toNat + (!s.l5).toNat
def St_tl.ok (s : St_tl) : Bool := true
structure Rtl (V : World) (vK : Value) (t : Tm) (s : St_tl) (w : World) : Prop where
  bel : Below V.heap.size V w
  h4 : s.l4 = true → ∃ xk xneg xod xld xcd xnm xn xol xll xcl xob xlb xcb, s.x4 = tmV xk xneg (.slice xod xld xcd) xnm xn (.slice xol xll xcl) (.slice xob xlb xcb) ∧ TV (Zb V.heap.size w) w t (tmV xk xneg (.slice xod xld xcd) xnm xn (.slice xol xll xcl) (.slice xob xlb xcb))
  h5 : s.l5 = true → s.x5 = vK
theorem Rtl.c4 {V : World} {vK : Value} {t : Tm} {s : St_tl} {w w' : World} (h : Rtl V vK t s w) {v : Value} (hT : TV (Zb w.heap.size w') w' t v) (hb : Below w.heap.size w w') : Rtl V vK t { s with l4 := true, x4 := v } w' := by
  obtain ⟨xk, xneg, xod, xld, xcd, xnm, xn, xol, xll, xcl, xob, xlb, xcb, rfl⟩ := hT.form
  exact ⟨below_and' h.bel h.bel.size hb, fun _ => ⟨xk, xneg, xod, xld, xcd, xnm, xn, xol, xll, xcl, xob, xlb, xcb, rfl, TV.mono (fun k _ hk => ⟨Nat.le_trans h.bel.size hk.1, hk.2⟩) _ _ hT⟩, h.h5⟩
theorem Rtl.c5 {V : World} {vK : Value} {t : Tm} {s : St_tl} {w : World} (h : Rtl V vK t s w) : Rtl V vK t { s with l5 := true, x5 := vK } w := ⟨h.bel, h.h4, fun _ => rfl⟩
end Go.Proofs.YtjacoodfhkaioabGreatDoor
namespace Go.Proofs.YtjacoodfhkaioabGreatDoor
open Go.ChangeShapes Go.WideShapes Go.ChangeAt Go.ChangeMaps Go.RowKit Go.Shelf
set_option linter.unusedSimpArgs false
set_option linter.unusedVariables false
set_option maxRecDepth 2000
/-- what Rooms says of the terms of a row -/
theorem rooms_facts7 {w : World} {l : List Tm} {o : Option Addr} (hT : TR (Low w) w l o) (h : l.all okRow = true) :
    (∀ p ∈ partsL l, p.ok1 ∧ fairB p = true) ∧ depL l ≤ 9 ∧ ∀ t ∈ l, (parts t).length ≤ 65536 := by
  rw [List.all_eq_true] at h
  have h1 : ∀ t ∈ l, (∀ p ∈ parts t, p.ok1 ∧ fairB p = true) ∧ dep t ≤ 9 ∧ (parts t).length ≤ 65536 := fun t ht => by
    have h2 := h t ht
    unfold okRow at h2
    rw [Bool.and_eq_true] at h2
    obtain ⟨v, hv⟩ := hT.mem ht
    obtain ⟨g1, g2⟩ := room_ok (by omega) t v 8 hv h2.1
    obtain ⟨g3, g4⟩ := may_parts h2.2
    exact ⟨fun p hp => ⟨g1 p hp, g4 p hp⟩, by omega, g3⟩
  clear h hT
  refine ⟨?_, ?_, fun t ht => (h1 t ht).2.2⟩
  · intro p hp
    induction l with
    | nil => simp [partsL] at hp
    | cons t l ih =>
      simp only [partsL, List.mem_append] at hp
      rcases hp with hp | hp
      · exact (h1 t (by simp)).1 p hp
      · exact ih (fun t ht => h1 t (by simp [ht])) hp
  · induction l with
    | nil => simp [depL]
    | cons t l ih =>
      simp only [depL]
      have := (h1 t (by simp)).2.1
      have := ih (fun t ht => h1 t (by simp [ht]))
      omega
theorem prE_zero {T : Tm} (h : prE T = 0) : mayB T = true ∧ (tx T).length ≤ 65536 ∧ prS T = tx T := by
  unfold prE at h
  unfold prS
  split at h
  · rename_i hm
    split at h
    · rename_i hl
      rw [if_pos hm, if_pos hl]
      exact ⟨hm, hl, rfl⟩
    · simp at h
  · simp at h
end Go.Proofs.YtjacoodfhkaioabGreatDoor
namespace Go.Proofs.YtjacoodfhkaioabGreatDoor
open Go.ChangeShapes Go.WideShapes Go.ChangeAt Go.ChangeMaps Go.RowKit Go.Shelf
set_option linter.unusedSimpArgs false
set_option linter.unusedVariables false
set_option maxRecDepth 2000
set_option maxHeartbeats 2000000 in
theorem rSame_w (A U : Tm) (va vb : Value) (w : World) (hoA : ∀ p ∈ parts A, p.ok1) (hoU : ∀ p ∈ parts U, p.ok1) (hA : TV (Low w) w A va) (hU : TV (Low w) w U vb) (hT : Tabs w) :
    Calls Tryz.prog 9 #[va, vb] w fun e w' => e = .returned (.bool (cT A U == 0)) ∧ Below w.heap.size w w' := by
  have HA := hid hA
  have HU := hid hU
  obtain ⟨pk, pneg, pod, pld, pcd, pnm, pn, pol, pll, pcl, pob, plb, pcb, rfl⟩ := hA.form
  obtain ⟨qk, qneg, qod, qld, qcd, qnm, qn, qol, qll, qcl, qob, qlb, qcb, rfl⟩ := hU.form
  clear hA hU
  obtain ⟨kA, kB, hB0, hz0⟩ := bx2 w (.int .i64 pk) (.bool pneg) (.slice pod pld pcd) (.string pnm) (.int .i64 pn) (.slice pol pll pcl) (.slice pob plb pcb) (.int .i64 qk) (.bool qneg) (.slice qod qld qcd) (.string qnm) (.int .i64 qn) (.slice qol qll qcl) (.slice qob qlb qcb) 26 26
  have hTA := tv_below HA.out hB0
  have hTU := tv_below HU.out hB0
  have hT0 := hT.below hB0
  go_enter Tryz.func9, Tryz.ntmps9
  go_wp2_with fail
  generalize ((w.alloc (.cells #[.int .i64 pk, .bool pneg, .slice pod pld pcd, .string pnm, .int .i64 pn, .slice pol pll pcl, .slice pob plb pcb] 26)).alloc (.cells #[.int .i64 qk, .bool qneg, .slice qod qld qcd, .string qnm, .int .i64 qn, .slice qol qll qcl, .slice qob qlb qcb] 26)) = W0 at *
  refine (rCompare_w (tsz A) A U _ _ _ (Nat.le_refl _) hoA hoU hTA hTU hT0).mono ?_
  rintro e w1 ⟨rfl, b1⟩
  go_wp2
  go_ret
  exact ⟨rfl, below_and hB0 (Nat.le_refl _) b1⟩
end Go.Proofs.YtjacoodfhkaioabGreatDoor
namespace Go.Proofs.YtjacoodfhkaioabGreatDoor
open Go.ChangeShapes Go.WideShapes Go.ChangeAt Go.RowKit Go.Shelf
set_option linter.unusedSimpArgs false
set_option linter.unusedVariables false
set_option maxRecDepth 2000
mutual
theorem tv_okB {Z : Nat → Prop} {w : World} : ∀ (T : Tm) (v : Value), TV Z w T v → ∀ p ∈ parts T, okB p
  | .mk k neg d nm n l b, v, h, p, hp => by
    unfold TV at h
    obtain ⟨od, cd, ol, cl, ob, cb, _, _, _, _, hB, _, _, hR⟩ := h
    simp only [parts, List.mem_cons] at hp
    rcases hp with rfl | hp
    · exact hB.2
    · split at hp
      · exact tr_okB l _ hR p hp
      · simp at hp
theorem tr_okB {Z : Nat → Prop} {w : World} : ∀ (l : List Tm) (o : Option Addr), TR Z w l o → ∀ p ∈ partsL l, okB p
  | [], _, _, p, hp => by simp [partsL] at hp
  | t :: l, o, h, p, hp => by
    unfold TR at h
    obtain ⟨a, v, _, _, _, h2, h3⟩ := h
    simp only [partsL, List.mem_append] at hp
    rcases hp with hp | hp
    · exact tv_okB t v h2 p hp
    · exact tr_okB l _ h3 p hp
end
theorem mg_of {T : Tm} {w : World} {v : Value} (h1 : ∀ p ∈ parts T, p.ok1 ∧ fairB p = true) (hT : TV (Low w) w T v) : Mg T := fun p hp => ⟨(h1 p hp).2, (h1 p hp).1, tv_okB T v hT p hp⟩
theorem prE_cases (T : Tm) (h : mayB T = true) : prE T = 0 ∨ prE T = 3 := by
  unfold prE
  rw [if_pos h]
  split
  · exact .inl rfl
  · exact .inr rfl
end Go.Proofs.YtjacoodfhkaioabGreatDoor
namespace Go.Proofs.YtjacoodfhkaioabGreatDoor
open Go.ChangeShapes Go.WideShapes Go.ChangeAt Go.RowKit Go.Shelf
set_option linter.unusedSimpArgs false
set_option linter.unusedVariables false
set_option maxRecDepth 2000

theorem back2 {T : Tm} {q : List UInt8} (hM : Mg T) (hm : mayB T = true) (hv : Lib.validD q = true) (hf : Fol q) (hl : (tx T ++ q).length ≤ 65536) : rdE (tx T ++ q) = 0 ∧ rdN (tx T ++ q) = (tx T).length ∧ rdT (tx T ++ q) = some T := by
  have h1 := read_back (q := q) hM hv hf
  have hv2 : Lib.validD (tx T ++ q) = true := by rw [(vd_tx _).1 T (Nat.le_refl _) hM q]; exact hv
  have hE : rdE (tx T ++ q) = 0 := by unfold rdE; rw [if_neg (by omega), if_neg (by rw [hv2]; simp), h1]; simp [hm]
  refine ⟨hE, ?_, ?_⟩
  · unfold rdN; rw [if_pos hE, h1, List.length_append]; simp
  · unfold rdT; rw [if_pos hE, h1]
end Go.Proofs.YtjacoodfhkaioabGreatDoor
namespace Go.Proofs.YtjacoodfhkaioabGreatDoor
open Go.ChangeShapes Go.WideShapes Go.ChangeAt Go.RowKit Go.Shelf
set_option linter.unusedSimpArgs false
set_option linter.unusedVariables false
set_option maxRecDepth 2000

abbrev sgR : List (List UInt8) := [[44], [32], [124], [93], [125], [62], [39], [195, 169]]
theorem sgR_ok : ∀ q ∈ sgR, Lib.validD q = true ∧ (∃ b t, q = b :: t ∧ bareB b.toNat false = false) ∧ q.length ≤ 2 := by
  intro q hq
  simp only [sgR, List.mem_cons, List.not_mem_nil, or_false] at hq
  rcases hq with rfl | rfl | rfl | rfl | rfl | rfl | rfl | rfl <;> exact ⟨by decide, ⟨_, _, rfl, by decide⟩, by decide⟩
theorem rest_read {A B : Tm} (hA : Mg A) (hB : Mg B) (hm : mayB A = true) {q : List UInt8} (hq : q ∈ sgR) (hl : (tx A).length + (tx B).length ≤ 60000) : rdE (tx A ++ (q ++ tx B)) = 0 ∧ rdN (tx A ++ (q ++ tx B)) = (tx A).length ∧ rdT (tx A ++ (q ++ tx B)) = some A ∧ paE (tx A ++ (q ++ tx B)) = 10 := by
  obtain ⟨hv, ⟨b, t, rfl, hb⟩, h2⟩ := sgR_ok q hq
  have hvB : Lib.validD (tx B) = true := by have := (vd_tx _).1 B (Nat.le_refl _) hB []; rw [List.append_nil] at this; rw [this]; rfl
  have hv2 : Lib.validD ((b :: t) ++ tx B) = true := by rw [vd_app hv]; exact hvB
  simp only [List.length_cons] at h2
  have hlen : (tx A ++ ((b :: t) ++ tx B)).length = (tx A).length + (t.length + 1 + (tx B).length) := by simp; omega
  obtain ⟨e1, e2, e3⟩ := back2 (q := (b :: t) ++ tx B) hA hm hv2 (fol_cons _ hb) (by rw [hlen]; omega)
  refine ⟨e1, e2, e3, ?_⟩
  unfold paE
  rw [if_pos e1, e2, if_pos (by rw [hlen]; omega)]
end Go.Proofs.YtjacoodfhkaioabGreatDoor
namespace Go.Proofs.YtjacoodfhkaioabGreatDoor
open Go.ChangeShapes Go.WideShapes Go.ChangeAt Go.RowKit Go.Shelf
set_option linter.unusedSimpArgs false
set_option linter.unusedVariables false
set_option maxRecDepth 2000
abbrev akO : ByteArray := ⟨#[111, 107]⟩
abbrev akT : Tm := tupT [atomT akO, numT 3 3]
abbrev akL : List UInt8 := [123, 111, 107, 44, 60, 51, 62, 125]
theorem ak4 : paE akL = 0 := by kernel_rfl
theorem ak5 : paT akL = some akT := by kernel_rfl
theorem ak6 : prE akT = 0 := by kernel_rfl
theorem ak7 : prS akT = akL := by kernel_rfl
theorem ak8 : ∀ p ∈ partsL [atomT akO, numT 3 3], p.ok1 ∧ fairB p = true := by
  intro p hp
  simp only [partsL, parts_atom, List.mem_append, List.mem_cons, List.not_mem_nil, or_false] at hp
  rcases hp with rfl | hp
  · exact ⟨gd_atom (nm := akO) (by decide) _ (by rw [parts_atom]; simp), by kernel_rfl⟩
  · have hp : p = numT 3 3 := by simpa [numT, parts, partsL] using hp
    subst hp
    exact ⟨gd_num 3 3 _ (by simp [numT, parts]), by kernel_rfl⟩
theorem akAtom_w (nm : ByteArray) (w : World) : Calls Tryz.prog 11 #[.string nm] w fun e w' => e = .returned (tmV 1 false nilS nm 0 nilS nilS) ∧ Below w.heap.size w w' := by
  go_enter Tryz.func11, Tryz.ntmps11
  go_wp2
  exact bodyPost_ret (v := tmV 1 false nilS nm 0 nilS nilS) (by simp [results, Tryz.results11, go_sem]) rfl ⟨rfl, (Below.refl _ w).alloc (Nat.le_refl _) _⟩
def AwakeOk : Prop := ∀ w : World, TabX w → Calls Tryz.prog 4 #[] w fun e w' => e = .returned (.bool true) ∧ Below w.heap.size w w'
set_option maxHeartbeats 4000000 in
theorem awake_ok : AwakeOk := by
  intro w hT
  have c1 := akAtom_w akO w
  go_enter Tryz.func4, Tryz.ntmps4
  go_wp2_with fail
  refine c1.mono ?_
  rintro e w1 ⟨rfl, b1⟩
  obtain ⟨W2, hW2⟩ : ∃ W2, W2 = w1.alloc (.cells #[.int .i64 1, .bool false, nilS, .string akO, .int .i64 0, nilS, nilS, .int .i64 3, .bool false, nilS, .string noS, .int .i64 3, nilS, nilS] 26) := ⟨_, rfl⟩
  have b2 : Below w1.heap.size w1 W2 := by rw [hW2]; exact (Below.refl _ w1).alloc (Nat.le_refl _) _
  have hg2 : W2.heap[w1.heap.size]? = some (.cells #[.int .i64 1, .bool false, nilS, .string akO, .int .i64 0, nilS, nilS, .int .i64 3, .bool false, nilS, .string noS, .int .i64 3, nilS, nilS] 26 (0, 0)) := by rw [hW2]; exact heap_alloc_new w1 _
  have hTR : TR (Low W2) W2 [atomT akO, numT 3 3] (some ⟨w1.heap.size, 0, none⟩) := tr_two (tv_flat 1 akO 0) (tv_flat 3 noS 3) hg2 (Array.getElem?_eq_some_iff.1 hg2).1
  have c2 := rTuple_w [atomT akO, numT 3 3] (some ⟨w1.heap.size, 0, none⟩) 2 W2 (by simp) ak8 hTR
  have bw2 := below_and b1 (Nat.le_refl _) b2
  rw [hW2] at c2
  have hW2H := hid hW2
  have bw2H := hid bw2
  have hTH := hid hT
  clear c1 b1 b2 hg2 hTR hW2 bw2 hT
  go_wp2_with fail
  refine c2.mono ?_
  rw [← hW2H.out]
  rintro e w3 ⟨v3, rfl, hV3, b3⟩
  have bw3 := below_and bw2H.out (Nat.le_refl _) b3
  have hTX := hTH.out.below bw3
  have c3 := print_w akT v3 w3 (by decide) (fun p hp => by
    rw [parts_tup] at hp
    rcases List.mem_cons.1 hp with rfl | hp
    · exact ⟨by simp, by decide, by simp, by simp, Lm.nil _⟩
    · exact (ak8 p hp).1) (TV.mono (fun k hk hz => hk) _ _ hV3) hTX.1.1 hTX.1 hTX.2
  rw [ak6, ak7, show (⟨akL.toArray⟩ : ByteArray) = ⟨#[123, 111, 107, 44, 60, 51, 62, 125]⟩ from rfl] at c3
  have bw3H := hid bw3
  clear c2 hV3 b3 bw3 hTX
  go_wp2_with fail
  refine c3.mono ?_
  rintro e w4 ⟨rfl, b4⟩
  have bw4 := below_and bw3H.out (Nat.le_refl _) b4
  have c4 := Parse_w akL w4 (hTH.out.below bw4) (by decide)
  rw [ak4, ak5, show bs akL = ⟨#[123, 111, 107, 44, 60, 51, 62, 125]⟩ from rfl] at c4
  have bw4H := hid bw4
  clear c3 b4 bw4
  go_wp2_with fail
  refine c4.mono ?_
  rintro e w5 ⟨v5, rfl, hV5, b5⟩
  have hV5' : TV (ZnS w4.heap.size w5) w5 akT v5 := hV5
  have bw5 := hid (below_and bw4H.out (Nat.le_refl _) b5)
  unfold tupT TV at hV5'
  obtain ⟨od, cd, ol, cl, ob, cb, rfl, _, _, _, _, _, hcl, hTR⟩ := hV5'
  obtain ⟨pa, pk, pneg, pod, pld, pcd, pnm, pn, pol, pll, pcl, pob, plb, pcb, rfl, hTp, y0, y1, y2, y3, y4, y5, y6⟩ := hTR.get3 (i := 1) (t := numT 3 3) rfl
  have hpn : pn = 3 := by
    unfold numT TV at hTp
    obtain ⟨_, _, _, _, _, _, e, _⟩ := hTp
    simp only [tmV, Value.agg.injEq, Array.mk.injEq, List.cons.injEq, Value.int.injEq, true_and] at e
    exact e.2.2.2.2.1
  subst hpn
  rw [Nat.one_mul, add7] at y0 y1 y2 y3 y4 y5 y6
  simp only [List.length_cons, List.length_nil, Nat.zero_add, Nat.reduceAdd]
  obtain ⟨W6, hW6⟩ : ∃ W6, W6 = w5.alloc (.cells #[.int .i64 4, .bool false, .slice od 0 cd, .string noS, .int .i64 0, .slice (some pa) 2 cl, .slice ob 0 cb] 26) := ⟨_, rfl⟩
  have b6 : Below w5.heap.size w5 W6 := by rw [hW6]; exact (Below.refl _ w5).alloc (Nat.le_refl _) _
  have hg6 : W6.heap[w5.heap.size]? = some (.cells #[.int .i64 4, .bool false, .slice od 0 cd, .string noS, .int .i64 0, .slice (some pa) 2 cl, .slice ob 0 cb] 26 (0, 0)) := by rw [hW6]; exact heap_alloc_new w5 _
  obtain ⟨x0, x1, x2, x3, x4, x5, x6⟩ := cell7 hg6
  have y4' := (b6.cell (World.block_lt_of_cell? _ _ y4)).trans y4
  have bw6 := hid (below_and bw5.out (Nat.le_refl _) b6)
  have hW6H := hid hW6
  clear hTR hTp y0 y1 y2 y3 y4 y5 y6 hV5 c4 b5 b6 hg6 hW6 hcl
  go_upto_region 3 with fail
  rw [← hW6H.out]
  go_wp2
  go_ret
  exact ⟨rfl, bw6.out⟩
end Go.Proofs.YtjacoodfhkaioabGreatDoor
