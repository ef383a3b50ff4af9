/- TermList of the reference. -/
import Derived.Test.YtgaecjocolihjaaDoorCpyTup
namespace Go.Proofs.YtgaecjocolihjaaDoor
open Go.ChangeShapes Go.WideShapes Go.ChangeAt Go.ChangeMaps Go.RowKit Go.Shelf
set_option linter.unusedSimpArgs false
set_option linter.unusedVariables false
structure St_tl where
  l4 : Bool
  l5 : Bool
  x4 : Value
  x5 : Value
def St_tl.L (s : St_tl) : Array Bool := #[true, true, true, true, s.l4, s.l5, false, false, false]
def St_tl.n (s : St_tl) : Nat := (!s.l4).toNat + (!s.l5).toNat
def St_tl.ok (s : St_tl) : Bool := true
theorem wpAnyH_tl {P : Program} {md : Region.Mode} {ops : Array Oper} {Q : Exit → Act → World → Prop} {S : World → Prop} (A : St_tl → Act) (R : St_tl → World → Prop)
    (hmem0 : (bAll fun l4 => bAll fun l5 => (l4 && l5) || !(true) || (!(Region.ready md ops #[true, true, true, true, l4, l5, false, false, false]).isEmpty && (Region.ready md ops #[true, true, true, true, l4, l5, false, false, false]).all fun i => (i == 4 && !l4) || (i == 5 && !l5))) = true)
    (hord : ∀ s w, R s w → s.ok = true)
    (h4 : ∀ s w, R s w → s.l4 = false → wpOp P ops Q 4 (fun a' w' => ∃ x, a' = A { s with l4 := true, x4 := x } ∧ R { s with l4 := true, x4 := x } w' ∧ S w') (A s) w)
    (h5 : ∀ s w, R s w → s.l5 = false → wpOp P ops Q 5 (fun a' w' => ∃ x, a' = A { s with l5 := true, x5 := x } ∧ R { s with l5 := true, x5 := x } w' ∧ S w') (A s) w)
    (hdone : ∀ (x4 x5 : Value) w, R ⟨true, true, x4, x5⟩ w → wpAnyH P md ops Q S 3 #[true, true, true, true, true, true, false, false, false] (A ⟨true, true, x4, x5⟩) w)
    (w : World) (a : Act) (x4 x5 : Value) (ha : a = A ⟨false, false, x4, x5⟩) (hR : R ⟨false, false, x4, x5⟩ w) :
    wpAnyH P md ops Q S 5 #[true, true, true, true, false, false, false, false, false] a w := by
  have hmem : ∀ l4 l5 : Bool, (l4 && l5) = false → (true) = true → Region.ready md ops #[true, true, true, true, l4, l5, false, false, false] ≠ [] ∧ ∀ i ∈ Region.ready md ops #[true, true, true, true, l4, l5, false, false, false], (i = 4 ∧ l4 = false) ∨ (i = 5 ∧ l5 = false) := by
    intro l4 l5 he e1
    have h := (bAll_spec (bAll_spec hmem0 l4) l5)
    obtain ⟨r, hr⟩ : ∃ r, Region.ready md ops #[true, true, true, true, l4, l5, false, false, false] = r := ⟨_, rfl⟩
    rw [hr] at h ⊢
    rw [he, e1, Bool.not_true, Bool.false_or, Bool.false_or, Bool.and_eq_true] at h
    refine ⟨fun e => ?_, fun i hi => ?_⟩
    · rw [e] at h; simp at h
    · have h2 := List.all_eq_true.1 h.2 i hi
      simpa [or_assoc, and_assoc] using h2
  refine wpAnyH_inv (m := 3) St_tl.L A R St_tl.n ?_ ?_ ?_ 2 ⟨false, false, x4, x5⟩ w _ a rfl rfl ha hR
  · rintro ⟨l4, l5, y4, y5⟩ w hR hn
    refine (hmem l4 l5 ?_ (hord _ _ hR)).1
    clear hR
    revert hn
    cases l4 <;> cases l5 <;> simp [St_tl.n]
  · intro s w hR hn i hi
    have hm := (hmem s.l4 s.l5 (by
      clear hR hi
      revert hn
      rcases s with ⟨l4, l5, y4, y5⟩
      cases l4 <;> cases l5 <;> simp [St_tl.n]) (hord _ _ hR)).2 i hi
    rcases hm with ⟨rfl, e⟩ | ⟨rfl, e⟩
    · refine wpOp_mono (fun a' w' h => ?_) (h4 s w hR e)
      obtain ⟨x, k1, k2, k3⟩ := h
      exact ⟨_, by simp [St_tl.n, e]; try omega, rfl, k1, k2, k3⟩
    · refine wpOp_mono (fun a' w' h => ?_) (h5 s w hR e)
      obtain ⟨x, k1, k2, k3⟩ := h
      exact ⟨_, by simp [St_tl.n, e]; try omega, rfl, k1, k2, k3⟩
  · rintro ⟨l4, l5, y4, y5⟩ w hR hn
    have : l4 = true ∧ l5 = true := by
      revert hn
      cases l4 <;> cases l5 <;> simp [St_tl.n]
    obtain ⟨rfl, rfl⟩ := this
    exact hdone _ _ w hR

structure Rtl (V : World) (vK : Value) (t : Tm) (s : St_tl) (w : World) : Prop where
  bel : Below V.heap.size V w
  h4 : s.l4 = true → ∃ xk xneg xod xld xcd xnm xn xol xll xcl xob xlb xcb, s.x4 = tmV xk xneg (.slice xod xld xcd) xnm xn (.slice xol xll xcl) (.slice xob xlb xcb) ∧ TV (Zb V.heap.size w) w t (tmV xk xneg (.slice xod xld xcd) xnm xn (.slice xol xll xcl) (.slice xob xlb xcb))
  h5 : s.l5 = true → s.x5 = vK
theorem Rtl.c4 {V : World} {vK : Value} {t : Tm} {s : St_tl} {w w' : World} (h : Rtl V vK t s w) {v : Value} (hT : TV (Zb w.heap.size w') w' t v) (hb : Below w.heap.size w w') : Rtl V vK t { s with l4 := true, x4 := v } w' := by
  obtain ⟨xk, xneg, xod, xld, xcd, xnm, xn, xol, xll, xcl, xob, xlb, xcb, rfl⟩ := hT.form
  exact ⟨below_and' h.bel h.bel.size hb, fun _ => ⟨xk, xneg, xod, xld, xcd, xnm, xn, xol, xll, xcl, xob, xlb, xcb, rfl, TV.mono (fun k _ hk => ⟨Nat.le_trans h.bel.size hk.1, hk.2⟩) _ _ hT⟩, h.h5⟩
theorem Rtl.c5 {V : World} {vK : Value} {t : Tm} {s : St_tl} {w : World} (h : Rtl V vK t s w) : Rtl V vK t { s with l5 := true, x5 := vK } w := ⟨h.bel, h.h4, fun _ => rfl⟩
abbrev Zg (gt : Nat) (w : World) : Nat → Prop := fun k => gt < k ∧ k < w.heap.size
set_option maxHeartbeats 8000000 in
set_option maxRecDepth 8000 in
theorem rList_w (ls : List Tm) (o : Option Addr) (c : Nat) (w : World) (hl : ls.length ≤ 1000000) (hok : ∀ p ∈ partsL ls, p.ok1 ∧ fairB p = true) (hT : TR (Low w) w ls o) :
    Calls Tryd.prog 20 #[.slice o ls.length c] w fun e w' => ∃ v', e = .returned v' ∧ TV (Zb w.heap.size w') w' (listT ls) v' ∧ Below w.heap.size w w' := by
  have htR := hid hT
  have hok2 := hid hok
  clear hT hok
  have hR00 := heap_alloc_new w (.cells zC 27)
  have bR := (Below.refl w.heap.size w).alloc (Nat.le_refl _) (.cells zC 27)
  have hzR : (w.alloc (.cells zC 27)).heap.size = w.heap.size + 1 := by simp
  go_enter Tryd.func20, Tryd.ntmps20
  go_wp2_with fail
  generalize (w.alloc (.cells #[.int .i64 0, .bool false, .slice none 0 0, .string { data := #[] }, .int .i64 0, .slice none 0 0, .slice none 0 0] 27)) = W0 at *
  refine (rNil_w _).mono ?_
  rintro e w1 ⟨rfl, b1⟩
  have hR1 := blk_on' hR00 b1
  have B1 := below_and bR (Nat.le_refl _) b1
  have hz1 := b1.size
  have bN : Below w1.heap.size w1 (w1.alloc (.cells #[.int .i64 5, .bool false, nilS, .string noS, .int .i64 0, nilS, nilS] 27)) := (Below.refl _ _).alloc (Nat.le_refl _) _
  have hnw := heap_alloc_new w1 (.cells #[.int .i64 5, .bool false, nilS, .string noS, .int .i64 0, nilS, nilS] 27)
  have hR2 := blk_on' hR1 bN
  have B2 := below_and B1 (Nat.le_refl _) bN
  have hzN : (w1.alloc (.cells #[.int .i64 5, .bool false, nilS, .string noS, .int .i64 0, nilS, nilS] 27)).heap.size = w1.heap.size + 1 := by simp
  clear hR00 hR1 B1 b1 bR bN
  go_wp2_with fail
  generalize (w1.alloc (.cells #[.int .i64 5, .bool false, nilS, .string noS, .int .i64 0, nilS, nilS] 27)) = W1 at *
  obtain ⟨gt, hgt⟩ : ∃ gt, w1.heap.size = gt := ⟨_, rfl⟩
  rw [hgt] at hnw hzN hz1 ⊢
  clear hgt
  have hgw : w.heap.size < gt := by omega
  go_loopg [4] ls.length (fun t v4 wr => ∃ (kk : Int) (kneg : Bool) (kod : Option Addr) (kld kcd : Nat) (knm : ByteArray) (kn : Int) (kol : Option Addr) (kll kcl : Nat) (kob : Option Addr) (klb kcb : Nat), v4 = .int .i64 ((t : Int) - 1) ∧ t ≤ ls.length ∧ TV (Zg gt wr) wr (listT (ls.drop t)) (tmV kk kneg (.slice kod kld kcd) knm kn (.slice kol kll kcl) (.slice kob klb kcb)) ∧ wr.heap[gt]? = some (.cells #[.int .i64 kk, .bool kneg, .slice kod kld kcd, .string knm, .int .i64 kn, .slice kol kll kcl, .slice kob klb kcb] 27 (0, 0)) ∧ wr.heap[w.heap.size]? = some (.cells zC 27 (0, 0)) ∧ Below w.heap.size w wr)
  case atStart =>
    refine ⟨5, false, none, 0, 0, noS, 0, none, 0, 0, none, 0, 0, rfl, Nat.le_refl _, ?_, hnw, hR2, B2⟩
    rw [List.drop_of_length_le (Nat.le_refl _)]
    exact tv_flat 5 noS 0
  case round =>
    obtain ⟨kk, kneg, kod, kld, kcd, knm, kn, kol, kll, kcl, kob, klb, kcb, rfl, hgk, hV, hgr, hRb, hBr⟩ := hrel
    clear hnw hR2 B2 hzN hz1 hzR
    generalize gk = mm at *
    have hgl : gt < wr.heap.size := (Array.getElem?_eq_some_iff.1 hgr).1
    cases mm with
    | zero =>
      rw [List.drop_zero] at hV
      have kG2 := res7 hgr
      have kB2 := res7 hRb
      obtain ⟨y0, y1, y2, y3, y4, y5, y6⟩ := kG2.res
      obtain ⟨z0, z1, z2, z3, z4, z5, z6⟩ := kB2.res
      have zf := kB2.fr
      have onR := only_put wr w.heap.size (.int .i64 kk) (.bool kneg) (.slice kod kld kcd) (.string knm) (.int .i64 kn) (.slice kol kll kcl) (.slice kob klb kcb)
      obtain ⟨r0, r1, r2, r3, r4, r5, r6⟩ := (kB2.put (b0 := .int .i64 kk) (b1 := .bool kneg) (b2 := .slice kod kld kcd) (b3 := .string knm) (b4 := .int .i64 kn) (b5 := .slice kol kll kcl) (b6 := .slice kob klb kcb)).res
      have hfin : TV (Zb w.heap.size (((((((wr.setCell ⟨w.heap.size, 0, none⟩ (.int .i64 kk)).setCell ⟨w.heap.size, 1, none⟩ (.bool kneg)).setCell ⟨w.heap.size, 2, none⟩ (.slice kod kld kcd)).setCell ⟨w.heap.size, 3, none⟩ (.string knm)).setCell ⟨w.heap.size, 4, none⟩ (.int .i64 kn)).setCell ⟨w.heap.size, 5, none⟩ (.slice kol kll kcl)).setCell ⟨w.heap.size, 6, none⟩ (.slice kob klb kcb))) (((((((wr.setCell ⟨w.heap.size, 0, none⟩ (.int .i64 kk)).setCell ⟨w.heap.size, 1, none⟩ (.bool kneg)).setCell ⟨w.heap.size, 2, none⟩ (.slice kod kld kcd)).setCell ⟨w.heap.size, 3, none⟩ (.string knm)).setCell ⟨w.heap.size, 4, none⟩ (.int .i64 kn)).setCell ⟨w.heap.size, 5, none⟩ (.slice kol kll kcl)).setCell ⟨w.heap.size, 6, none⟩ (.slice kob klb kcb)) (listT ls) (tmV kk kneg (.slice kod kld kcd) knm kn (.slice kol kll kcl) (.slice kob klb kcb)) := TV.mono (fun k hk hz => ⟨by have := hz.1; omega, hk⟩) _ _ (TV.zs (w' := (((((((wr.setCell ⟨w.heap.size, 0, none⟩ (.int .i64 kk)).setCell ⟨w.heap.size, 1, none⟩ (.bool kneg)).setCell ⟨w.heap.size, 2, none⟩ (.slice kod kld kcd)).setCell ⟨w.heap.size, 3, none⟩ (.string knm)).setCell ⟨w.heap.size, 4, none⟩ (.int .i64 kn)).setCell ⟨w.heap.size, 5, none⟩ (.slice kol kll kcl)).setCell ⟨w.heap.size, 6, none⟩ (.slice kob klb kcb))) (fun k hk => onR.2.2 k (by have := hk.1; omega)) _ _ hV)
      have hBF : Below w.heap.size w (((((((wr.setCell ⟨w.heap.size, 0, none⟩ (.int .i64 kk)).setCell ⟨w.heap.size, 1, none⟩ (.bool kneg)).setCell ⟨w.heap.size, 2, none⟩ (.slice kod kld kcd)).setCell ⟨w.heap.size, 3, none⟩ (.string knm)).setCell ⟨w.heap.size, 4, none⟩ (.int .i64 kn)).setCell ⟨w.heap.size, 5, none⟩ (.slice kol kll kcl)).setCell ⟨w.heap.size, 6, none⟩ (.slice kob klb kcb)) := hBr.trans (onR.below (B := w.heap.size) (Nat.le_refl _))
      have HF := hid hfin
      have HBF := hid hBF
      clear hfin hBF onR hV
      go_wp2
      exact bodyPost_ret (v := tmV kk kneg (.slice kod kld kcd) knm kn (.slice kol kll kcl) (.slice kob klb kcb)) (by simp [results, Tryd.results20, go_sem, r0, r1, r2, r3, r4, r5, r6]) rfl ⟨_, rfl, HF.out, HBF.out⟩
    | succ m =>
      have hml : m < ls.length := by omega
      obtain ⟨t, ht⟩ : ∃ t, ls[m]? = some t := ⟨ls[m], by simp [hml]⟩
      obtain ⟨pa, pk, pneg, pod, pld, pcd, pnm, pn, pol, pll, pcl, pob, plb, pcb, hpa, hTp, y0, y1, y2, y3, y4, y5, y6⟩ := htR.out.get ht hBr
      subst hpa
      have hokt : ∀ p ∈ parts t, p.ok1 ∧ fairB p = true := fun p hp => hok2.out p (mem_partsL ht hp)
      have hdr := hid (drop_at ht)
      have hgeq : (0 : Int) ≤ (m : Int) := by omega
      rw [show (((m + 1 : Nat) : Int) - 1) = (m : Int) by omega]
      clear ht
      have dV5 : Below wr.heap.size wr wr.drew := (Below.refl _ wr).drew
      have hV3 : TV (Zg gt wr.drew) wr.drew (listT (ls.drop (m + 1))) (tmV kk kneg (.slice kod kld kcd) knm kn (.slice kol kll kcl) (.slice kob klb kcb)) := TV.mono (fun k hk hz => hz) _ _ (TV.zs (Z := Zg gt wr) (w := wr) (w' := wr.drew) (fun k hk => rfl) _ _ hV)
      have hgr3 : wr.drew.heap[gt]? = some (.cells #[.int .i64 kk, .bool kneg, .slice kod kld kcd, .string knm, .int .i64 kn, .slice kol kll kcl, .slice kob klb kcb] 27 (0, 0)) := hgr
      have hRb3 : wr.drew.heap[w.heap.size]? = some (.cells zC 27 (0, 0)) := hRb
      have hbV3 : Below w.heap.size w wr.drew := hBr.drew
      have hTp3 := tv_below hTp dV5
      have hgl3 : gt < wr.drew.heap.size := hgl
      have hpl : pa.block < w.heap.size := by
        have h1 := htR.out
        cases ls with
        | nil => simp at hml
        | cons q qs =>
          unfold TR at h1
          obtain ⟨a, _, e, h2, _⟩ := h1
          injection e with e
          rw [e]; exact h2
      have hSk : Hid (∀ w' : World, (∀ k, k < w.heap.size → w'.heap[k]? = wr.drew.heap[k]?) → (w'.cell? (pa.add (m * 7)) = some (.int .i64 pk) ∧ w'.cell? ⟨(pa.add (m * 7)).block, (pa.add (m * 7)).off + 1, none⟩ = some (.bool pneg) ∧ w'.cell? ⟨(pa.add (m * 7)).block, (pa.add (m * 7)).off + 2, none⟩ = some (.slice pod pld pcd) ∧ w'.cell? ⟨(pa.add (m * 7)).block, (pa.add (m * 7)).off + 3, none⟩ = some (.string pnm) ∧ w'.cell? ⟨(pa.add (m * 7)).block, (pa.add (m * 7)).off + 4, none⟩ = some (.int .i64 pn) ∧ w'.cell? ⟨(pa.add (m * 7)).block, (pa.add (m * 7)).off + 5, none⟩ = some (.slice pol pll pcl) ∧ w'.cell? ⟨(pa.add (m * 7)).block, (pa.add (m * 7)).off + 6, none⟩ = some (.slice pob plb pcb))) := hid (fun w' hb => by
        have q : ∀ {a : Addr} {v : Value}, a.block = pa.block → wr.cell? a = some v → w'.cell? a = some v := fun e h => (World.cell?_of_block (hb _ (by rw [e]; omega))).trans h
        exact ⟨q (block_add _ _) y0, q (block_add _ _) y1, q (block_add _ _) y2, q (block_add _ _) y3, q (block_add _ _) y4, q (block_add _ _) y5, q (block_add _ _) y6⟩)
      have hS : Hid (∀ w', Below wr.drew.heap.size wr.drew w' → (w'.cell? (pa.add (m * 7)) = some (.int .i64 pk) ∧ w'.cell? ⟨(pa.add (m * 7)).block, (pa.add (m * 7)).off + 1, none⟩ = some (.bool pneg) ∧ w'.cell? ⟨(pa.add (m * 7)).block, (pa.add (m * 7)).off + 2, none⟩ = some (.slice pod pld pcd) ∧ w'.cell? ⟨(pa.add (m * 7)).block, (pa.add (m * 7)).off + 3, none⟩ = some (.string pnm) ∧ w'.cell? ⟨(pa.add (m * 7)).block, (pa.add (m * 7)).off + 4, none⟩ = some (.int .i64 pn) ∧ w'.cell? ⟨(pa.add (m * 7)).block, (pa.add (m * 7)).off + 5, none⟩ = some (.slice pol pll pcl) ∧ w'.cell? ⟨(pa.add (m * 7)).block, (pa.add (m * 7)).off + 6, none⟩ = some (.slice pob plb pcb))) := hid (fun w' hb => hSk.out w' (fun k hk => hb.block k (by omega)))
      clear hV hgr hRb hBr hTp dV5 hgl y0 y1 y2 y3 y4 y5 y6
      go_wp2_with fail
      refine wp_region_held_drew (S := fun w' => w'.cell? (pa.add (m * 7)) = some (.int .i64 pk) ∧ w'.cell? ⟨(pa.add (m * 7)).block, (pa.add (m * 7)).off + 1, none⟩ = some (.bool pneg) ∧ w'.cell? ⟨(pa.add (m * 7)).block, (pa.add (m * 7)).off + 2, none⟩ = some (.slice pod pld pcd) ∧ w'.cell? ⟨(pa.add (m * 7)).block, (pa.add (m * 7)).off + 3, none⟩ = some (.string pnm) ∧ w'.cell? ⟨(pa.add (m * 7)).block, (pa.add (m * 7)).off + 4, none⟩ = some (.int .i64 pn) ∧ w'.cell? ⟨(pa.add (m * 7)).block, (pa.add (m * 7)).off + 5, none⟩ = some (.slice pol pll pcl) ∧ w'.cell? ⟨(pa.add (m * 7)).block, (pa.add (m * 7)).off + 6, none⟩ = some (.slice pob plb pcb)) (by kernel_rfl) (by exact hS.out _ (Below.refl _ _)) (fun hHeld => ?_)
      generalize wr.drew = V5 at *
      refine wpAnyH_take (i := 0) (oi := _) (v := ?_) rfl (by kernel_rfl) (by kernel_rfl) (by kernel_rfl) (fun _ _ _ h => h) (Or.inl ⟨by rfl, ?_⟩) (by assumption) ?_
      rotate_left 1
      · (intro w hSw; (try dsimp only at hSw); go_simp; try with_reducible rfl)
      try simp (maxSteps := 10000000) only [List.getElem_toArray, List.getElem_cons_succ, List.getElem_cons_zero, Act.put, List.setIfInBounds_toArray, List.set_cons_zero, List.set_cons_succ]
      refine wpAnyH_take (i := 1) (oi := _) (v := ?_) rfl (by kernel_rfl) (by kernel_rfl) (by kernel_rfl) (fun _ _ _ h => h) (Or.inl ⟨by rfl, ?_⟩) (by assumption) ?_
      rotate_left 1
      · (intro w hSw; (try dsimp only at hSw); go_simp; try with_reducible rfl)
      try simp (maxSteps := 10000000) only [List.getElem_toArray, List.getElem_cons_succ, List.getElem_cons_zero, Act.put, List.setIfInBounds_toArray, List.set_cons_zero, List.set_cons_succ]
      refine wpAnyH_take (i := 2) (oi := _) (v := ?_) rfl (by kernel_rfl) (by kernel_rfl) (by kernel_rfl) (fun _ _ _ h => h) (Or.inl ⟨by rfl, ?_⟩) (by assumption) ?_
      rotate_left 1
      · (intro w hSw; (try dsimp only at hSw); go_simp; try with_reducible rfl)
      try simp (maxSteps := 10000000) only [List.getElem_toArray, List.getElem_cons_succ, List.getElem_cons_zero, Act.put, List.setIfInBounds_toArray, List.set_cons_zero, List.set_cons_succ]
      refine wpAnyH_take (i := 3) (oi := _) (v := ?_) rfl (by kernel_rfl) (by kernel_rfl) (by kernel_rfl) (fun _ _ _ h => h) (Or.inl ⟨by rfl, ?_⟩) (by assumption) ?_
      rotate_left 1
      · (intro w hSw; (try dsimp only at hSw); go_simp; try with_reducible rfl)
      try simp (maxSteps := 10000000) only [List.getElem_toArray, List.getElem_cons_succ, List.getElem_cons_zero, Act.put, List.setIfInBounds_toArray, List.set_cons_zero, List.set_cons_succ]
      refine wpAnyH_at (m' := 5) (listed' := #[true, true, true, true, false, false, false, false, false]) (by kernel_rfl) (by kernel_rfl) ?_
      refine wpAnyH_name fun a0 ha0 => ?_
      refine wpAnyH_tl (A := fun s => (a0.put (some 17) s.x4).put (some 18) s.x5) (R := Rtl V5 (tmV kk kneg (.slice kod kld kcd) knm kn (.slice kol kll kcl) (.slice kob klb kcb)) t) ?_ (fun s w h => rfl) ?_ ?_ ?_ _ _ u17 u18 ?_ ?_
      · kernel_rfl
      · intro s w' hR h0
        refine wpOp_step rfl (fun K' hK => ?_)
        have hK' := shutO hK
        clear hK
        subst ha0
        simp only [Act.put, List.setIfInBounds_toArray, List.set_cons_zero, List.set_cons_succ]
        go_simp
        refine (rCopy_w (tsz t) t _ _ (Nat.le_refl _) hokt (tv_below hTp3 hR.bel)).mono ?_
        rintro e w7 ⟨v7, rfl, hT7, b7⟩
        try go_simp
        refine hK'.out _ _ ⟨_, ?_, hR.c4 hT7 b7, hS.out _ (hR.c4 hT7 b7).bel⟩
        rfl
      · intro s w' hR h0
        obtain ⟨g0, g1, g2, g3, g4, g5, g6⟩ := (res7 (blk_on' hgr3 hR.bel)).res
        refine wpOp_step rfl (fun K' hK => ?_)
        have hK' := shutO hK
        clear hK
        subst ha0
        simp only [Act.put, List.setIfInBounds_toArray, List.set_cons_zero, List.set_cons_succ]
        go_simp
        refine hK'.out _ _ ⟨_, ?_, hR.c5, hS.out _ hR.bel⟩
        rfl
      · intro x4 x5 w5 hR
        obtain ⟨xk, xneg, xod, xld, xcd, xnm, xn, xol, xll, xcl, xob, xlb, xcb, hx4, hT5⟩ := hR.h4 rfl
        have hx5 := hR.h5 rfl
        have hb5 := hR.bel
        clear hR
        dsimp only at hx4 hx5
        subst hx4
        subst hx5
        subst ha0
        try simp only [Act.put, List.setIfInBounds_toArray, List.set_cons_zero, List.set_cons_succ]
        refine wpAnyH_ready (rs := [6]) (by kernel_rfl) (by simp) ?_
        refine AllReadyH.cons rfl (fun K hK => ?_) AllReadyH.nil
        go_simp
        have bN : Below w5.heap.size w5 (w5.alloc (.cells #[.int .i64 xk, .bool xneg, .slice xod xld xcd, .string xnm, .int .i64 xn, .slice xol xll xcl, .slice xob xlb xcb, .int .i64 kk, .bool kneg, .slice kod kld kcd, .string knm, .int .i64 kn, .slice kol kll kcl, .slice kob klb kcb] 27)) := (Below.refl _ _).alloc (Nat.le_refl _) _
        have hnw := heap_alloc_new w5 (.cells #[.int .i64 xk, .bool xneg, .slice xod xld xcd, .string xnm, .int .i64 xn, .slice xol xll xcl, .slice xob xlb xcb, .int .i64 kk, .bool kneg, .slice kod kld kcd, .string knm, .int .i64 kn, .slice kol kll kcl, .slice kob klb kcb] 27)
        have b6 : Below V5.heap.size V5 (w5.alloc (.cells #[.int .i64 xk, .bool xneg, .slice xod xld xcd, .string xnm, .int .i64 xn, .slice xol xll xcl, .slice xob xlb xcb, .int .i64 kk, .bool kneg, .slice kod kld kcd, .string knm, .int .i64 kn, .slice kol kll kcl, .slice kob klb kcb] 27)) := below_and hb5 (Nat.le_refl _) bN
        generalize (w5.alloc (.cells #[.int .i64 xk, .bool xneg, .slice xod xld xcd, .string xnm, .int .i64 xn, .slice xol xll xcl, .slice xob xlb xcb, .int .i64 kk, .bool kneg, .slice kod kld kcd, .string knm, .int .i64 kn, .slice kol kll kcl, .slice kob klb kcb] 27)) = w6 at *
        have hg6 := blk_on' hgr3 b6
        obtain ⟨f0, f1, f2, f3, f4, f5, f6⟩ := (res7 hg6).res
        have ff := (res7 hg6).fr
        try go_simp
        refine hK.out _ _ ?_ (fun hHeld => ?_)
        · first | exact hS.out _ (by assumption) | exact qs3
        clear hK K
        try simp (maxSteps := 10000000) only [List.getElem_toArray, List.getElem_cons_succ, List.getElem_cons_zero, Act.put, List.setIfInBounds_toArray, List.set_cons_zero, List.set_cons_succ]
        refine wpAnyH_take (i := 7) (oi := _) (v := ?_) rfl (by kernel_rfl) (by kernel_rfl) (by kernel_rfl) (fun _ _ _ h => h) (Or.inl ⟨by rfl, ?_⟩) (by assumption) ?_
        rotate_left 1
        · (intro w hSw; (try dsimp only at hSw); go_simp; try with_reducible rfl)
        try simp (maxSteps := 10000000) only [List.getElem_toArray, List.getElem_cons_succ, List.getElem_cons_zero, Act.put, List.setIfInBounds_toArray, List.set_cons_zero, List.set_cons_succ]
        refine wpAnyH_ready (rs := [8]) (by kernel_rfl) (by simp) ?_
        refine AllReadyH.cons rfl (fun K hK => ?_) AllReadyH.nil
        go_simp
        have on7 := only_put w6 gt (.int .i64 6) (.bool false) nilS (.string noS) (.int .i64 0) (.slice (some ⟨w5.heap.size, 0, none⟩) 2 2) nilS
        have hg7 : (((((((w6.setCell ⟨gt, 0, none⟩ (.int .i64 6)).setCell ⟨gt, 1, none⟩ (.bool false)).setCell ⟨gt, 2, none⟩ nilS).setCell ⟨gt, 3, none⟩ (.string noS)).setCell ⟨gt, 4, none⟩ (.int .i64 0)).setCell ⟨gt, 5, none⟩ (.slice (some ⟨w5.heap.size, 0, none⟩) 2 2)).setCell ⟨gt, 6, none⟩ nilS).heap[gt]? = some (.cells #[.int .i64 6, .bool false, nilS, .string noS, .int .i64 0, .slice (some ⟨w5.heap.size, 0, none⟩) 2 2, nilS] 27 (0, 0)) := heap_put7 hg6 (.int .i64 6) (.bool false) nilS (.string noS) (.int .i64 0) (.slice (some ⟨w5.heap.size, 0, none⟩) 2 2) nilS
        clear f0 f1 f2 f3 f4 f5 f6 ff
        generalize (((((((w6.setCell ⟨gt, 0, none⟩ (.int .i64 6)).setCell ⟨gt, 1, none⟩ (.bool false)).setCell ⟨gt, 2, none⟩ nilS).setCell ⟨gt, 3, none⟩ (.string noS)).setCell ⟨gt, 4, none⟩ (.int .i64 0)).setCell ⟨gt, 5, none⟩ (.slice (some ⟨w5.heap.size, 0, none⟩) 2 2)).setCell ⟨gt, 6, none⟩ nilS) = w7 at *
        have qs3 := hSk.out w7 (fun k hk => (on7.2.2 k (by omega)).trans (b6.block k (by omega)))
        try go_simp
        refine hK.out _ _ ?_ (fun hHeld => ?_)
        · first | exact hS.out _ (by assumption) | exact qs3
        clear hK K
        try simp (maxSteps := 10000000) only [List.getElem_toArray, List.getElem_cons_succ, List.getElem_cons_zero, Act.put, List.setIfInBounds_toArray, List.set_cons_zero, List.set_cons_succ]
        refine wpAnyH_done (by kernel_rfl) ?_ _
        have hs5 := hb5.size
        have hs6 := bN.size
        have hs7 : w7.heap.size = w6.heap.size := on7.2.1
        have hn7 : w7.heap[w5.heap.size]? = some (.cells #[.int .i64 xk, .bool xneg, .slice xod xld xcd, .string xnm, .int .i64 xn, .slice xol xll xcl, .slice xob xlb xcb, .int .i64 kk, .bool kneg, .slice kod kld kcd, .string knm, .int .i64 kn, .slice kol kll kcl, .slice kob klb kcb] 27 (0, 0)) := (on7.2.2 _ (by omega)).trans hnw
        have hln : w5.heap.size < w6.heap.size := (Array.getElem?_eq_some_iff.1 hnw).1
        have tA : TV (Zg gt w7) w7 t (tmV xk xneg (.slice xod xld xcd) xnm xn (.slice xol xll xcl) (.slice xob xlb xcb)) := TV.mono (fun k hk hz => ⟨by have := hz.1; omega, hk⟩) _ _ (TV.zs (w' := w7) (fun k hk => (on7.2.2 k (by have := hk.1; omega)).trans (bN.block k hk.2)) _ _ hT5)
        have tB : TV (Zg gt w7) w7 (listT (ls.drop (m + 1))) (tmV kk kneg (.slice kod kld kcd) knm kn (.slice kol kll kcl) (.slice kob klb kcb)) := TV.mono (fun k hk hz => ⟨hz.1, hk⟩) _ _ (TV.zs (w' := w7) (fun k hk => (on7.2.2 k (by have := hk.1; omega)).trans (b6.block k hk.2)) _ _ hV3)
        have hfin : TV (Zg gt w7) w7 (listT (ls.drop m)) (tmV 6 false nilS noS 0 (.slice (some ⟨w5.heap.size, 0, none⟩) 2 2) nilS) := by
          rw [hdr.out]
          unfold listT consT TV
          exact ⟨none, 0, some ⟨w5.heap.size, 0, none⟩, 2, none, 0, rfl, Ls.nil _ _ _, by simp, Lm.nil _, LsB.nil _ _ _, by simp, by simp, tr_two tA tB hn7 ⟨by omega, by omega⟩⟩
        have hRb7 : w7.heap[w.heap.size]? = some (.cells zC 27 (0, 0)) := (on7.2.2 _ (by omega)).trans (blk_on' hRb3 b6)
        have hB7 : Below w.heap.size w w7 := (below_and' hbV3 hbV3.size b6).trans (on7.below (B := w.heap.size) (by omega))
        clear hnw hg6 bN b6 hb5 hT5 tA tB hS hSk qs3 on7 hgr3 hRb3 hbV3 hV3 hn7
        have hm5 : m ≤ 1000000 := by omega
        go_wp2
        go_roundg m
        case measure => omega
        case rel => exact ⟨6, false, none, 0, 0, noS, 0, some ⟨w5.heap.size, 0, none⟩, 2, 2, none, 0, 0, by first | rfl | go_num, by omega, hfin, hg7, hRb7, hB7⟩
      · subst ha0; rfl
      · exact ⟨Below.refl _ _, fun h => by simp at h, fun h => by simp at h⟩
end Go.Proofs.YtgaecjocolihjaaDoor
