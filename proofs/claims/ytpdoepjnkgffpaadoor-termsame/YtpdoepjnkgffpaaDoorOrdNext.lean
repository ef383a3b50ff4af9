/- next of package order's walk: the next two parts against each other. -/
import Derived.Test.YtpdoepjnkgffpaaDoorOrdWalkAll
namespace Go.Proofs.YtpdoepjnkgffpaaDoor
open Go.ChangeShapes Go.WideShapes Go.ChangeAt Go.RowKit Go.Shelf
set_option linter.unusedSimpArgs false
set_option linter.unusedVariables false
set_option maxRecDepth 2000
/-- the walk's object, whatever is at hand -/
def WkE (g : Nat) (v : Value) (w : World) : Prop := ∃ a0 a1 a2 a3 a4 a5 a6 b0 b1 b2 b3 b4 b5 b6, WkO g a0 a1 a2 a3 a4 a5 a6 b0 b1 b2 b3 b4 b5 b6 v w
theorem WkO.e {g : Nat} {a0 a1 a2 a3 a4 a5 a6 b0 b1 b2 b3 b4 b5 b6 v : Value} {w : World} (h : WkO g a0 a1 a2 a3 a4 a5 a6 b0 b1 b2 b3 b4 b5 b6 v w) : WkE g v w := ⟨_, _, _, _, _, _, _, _, _, _, _, _, _, _, h⟩
/-- behind next: what was found, what waits -/
def NxP (B g : Nat) (Z : Nat → Prop) (w : World) (c : Int) (mm : Nat) (e : Ending) (w' : World) : Prop :=
  ∃ (x : Int) (st : List Rp) (lv : Nat) (v : Value), e = .returned (.int .i64 x) ∧ WkE g v w' ∧ w'.ownsRow B 63 2 v st.length (rpv st) ∧ StO Z w' lv st ∧ st.length + lv ≤ 1000001 ∧ Wr B w w' ∧ (x ≠ 0 → c = x) ∧ (x = 0 → c = cSt st ∧ mSt st < mm)
/-- what waits when the first two of a row are at hand -/
def rest (r : Rp) (st : List Rp) : List Rp := if r.la = [] then st else r :: st
theorem cSt_step (t t' : Tm) (l l' : List Tm) (oa oa2 : Option Addr) (ca ca2 : Nat) (ob ob2 : Option Addr) (cb cb2 : Nat) (st : List Rp) :
    cSt (⟨oa, ca, t :: l, ob, cb, t' :: l'⟩ :: st) = lx (cT t t') (cSt (rest ⟨oa2, ca2, l, ob2, cb2, l'⟩ st)) := by
  unfold rest
  show lx (cR (t :: l) (t' :: l')) (cSt st) = _
  rw [cR_cons, lx_assoc]
  by_cases h : l = []
  · subst h; rw [cR_nil, lx_zero]; simp
  · simp only [h, if_false]; rfl
theorem mSt_step (t t' : Tm) (l l' : List Tm) (oa oa2 : Option Addr) (ca ca2 : Nat) (ob ob2 : Option Addr) (cb cb2 : Nat) (st : List Rp) :
    mSt (⟨oa, ca, t :: l, ob, cb, t' :: l'⟩ :: st) = (partsL t.kids).length + 1 + mSt (rest ⟨oa2, ca2, l, ob2, cb2, l'⟩ st) := by
  unfold rest
  show (partsL (t :: l)).length + mSt st = _
  rw [partsL, parts_eq]
  by_cases h : l = []
  · subst h; simp [partsL]
  · simp only [h, if_false, mSt, List.length_append, List.length_cons]; omega
theorem WkO.own {g : Nat} {a0 a1 a2 a3 a4 a5 a6 b0 b1 b2 b3 b4 b5 b6 v : Value} {w : World} (h : WkO g a0 a1 a2 a3 a4 a5 a6 b0 b1 b2 b3 b4 b5 b6 v w) : OwnW w g := ⟨_, .inl h⟩
theorem Wr.at {B g : Nat} {w w' : World} (h : Only g w w') (hB : B ≤ g) (ho : OwnW w g) : Wr B w w' := Wr.of_kept (Kept.of_only h) (fun k _ hk => by subst hk; exact ⟨hB, ho⟩)
theorem Wr.kept {B g : Nat} {a0 a1 a2 a3 a4 a5 a6 b0 b1 b2 b3 b4 b5 b6 v : Value} {m : Nat} {xs : List Value} {w w' : World} (hB : B ≤ g) (h : WkO g a0 a1 a2 a3 a4 a5 a6 b0 b1 b2 b3 b4 b5 b6 v w) (hO : w.ownsRow B 63 2 v m xs) (hk : Kept (fun k => k = g ∨ v.ownBlock = some k) w w') : Wr B w w' :=
  Wr.of_kept hk (fun k _ hk => by
    rcases hk with rfl | hk
    · exact ⟨hB, h.own⟩
    · obtain ⟨_, _, _, _, _, hb⟩ := own_shape2 hO
      obtain ⟨h1, _, cur, h3⟩ := hb k hk
      exact ⟨h1, cur, .inr h3⟩)
theorem nstart {B g rg m cap : Nat} {a0 a1 a2 a3 a4 a5 a6 b0 b1 b2 b3 b4 b5 b6 v sa sb : Value} {xs : List Value} {w : World} {cur : Array Value} (hB : B ≤ g) (hW : WkO g a0 a1 a2 a3 a4 a5 a6 b0 b1 b2 b3 b4 b5 b6 v w) (hO : w.ownsRow B 63 2 (.slice (some ⟨rg, 0, none⟩) m cap) m xs) (hne : rg ≠ g) :
    ∀ W1, W1 = (w.setCell ⟨g, 14, none⟩ (.slice (some ⟨rg, 0, none⟩) m cap)).alloc (.cells #[sa, sb] 63) →
    WkO g a0 a1 a2 a3 a4 a5 a6 b0 b1 b2 b3 b4 b5 b6 (.slice (some ⟨rg, 0, none⟩) m cap) W1 ∧ W1.ownsRow B 63 2 (.slice (some ⟨rg, 0, none⟩) m cap) m xs ∧ Box w.heap.size sa sb W1 ∧ Wr B w W1 ∧ W1.heap.size = w.heap.size + 1 := by
  rintro W1 rfl
  have h0 := hW.setv (.slice (some ⟨rg, 0, none⟩) m cap)
  have ho := only_set w g 14 (.slice (some ⟨rg, 0, none⟩) m cap)
  have hb := (Below.refl (w.setCell ⟨g, 14, none⟩ (.slice (some ⟨rg, 0, none⟩) m cap)).heap.size (w.setCell ⟨g, 14, none⟩ (.slice (some ⟨rg, 0, none⟩) m cap))).alloc (Nat.le_refl _) (.cells #[sa, sb] 63)
  have hx := Box.new (w.setCell ⟨g, 14, none⟩ (.slice (some ⟨rg, 0, none⟩) m cap)) sa sb 63
  rw [ho.2.1] at hx
  refine ⟨h0.below hb, (own_block hO (fun k hk => ho.2.2 k ?_)).alloc _, hx, (Wr.at ho hB hW.own).trans (Wr.of_below hb), by rw [World.size_alloc, ho.2.1]⟩
  simp only [Value.ownBlock, Option.some.injEq] at hk
  subst hk
  exact hne
theorem Box.blk {g : Nat} {u v : Value} {w w' : World} (h : Box g u v w) (hb : w'.heap[g]? = w.heap[g]?) : Box g u v w' :=
  ⟨(World.cell?_of_block (a := ⟨g, 0, none⟩) hb).trans h.1, (World.cell?_of_block (a := ⟨g, 1, none⟩) hb).trans h.2.1, (World.frozen?_of_block (a := ⟨g, 0, none⟩) hb).trans h.2.2.1, (World.frozen?_of_block (a := ⟨g, 1, none⟩) hb).trans h.2.2.2⟩
section
variable {neg neg' : Bool} {d d' : List Nat} {nm nm' : ByteArray} {n n' : Int} {l l' : List Tm} {b b' : List Nat}
theorem cT_0 : cT (.mk 0 neg d nm n l b) (.mk 0 neg' d' nm' n' l' b') = cmpZ (sv neg (gval 4294967296 d)) (sv neg' (gval 4294967296 d')) := by rw [cT, cz_self, lx_zero, if_pos rfl]
theorem cT_1 : cT (.mk 1 neg d nm n l b) (.mk 1 neg' d' nm' n' l' b') = lessZ nm.data.toList nm'.data.toList := by rw [cT, cz_self, lx_zero, if_neg (by decide), if_pos rfl]
theorem cT_2 : cT (.mk 2 neg d nm n l b) (.mk 2 neg' d' nm' n' l' b') = cmpZ n n' := by rw [cT, cz_self, lx_zero, if_neg (by decide), if_neg (by decide), if_pos (by decide)]
theorem cT_3 : cT (.mk 3 neg d nm n l b) (.mk 3 neg' d' nm' n' l' b') = cmpZ n n' := by rw [cT, cz_self, lx_zero, if_neg (by decide), if_neg (by decide), if_pos (by decide)]
theorem cT_7 : cT (.mk 7 neg d nm n l b) (.mk 7 neg' d' nm' n' l' b') = lexZ b b' := by rw [cT, cz_self, lx_zero, if_neg (by decide), if_neg (by decide), if_neg (by decide), if_pos rfl]
theorem cT_4 : cT (.mk 4 neg d nm n l b) (.mk 4 neg' d' nm' n' l' b') = lx (cmpZ (l.length : Int) (l'.length : Int)) (cR l l') := by rw [cT, cz_self, lx_zero, if_neg (by decide), if_neg (by decide), if_neg (by decide), if_neg (by decide), if_pos (by decide)]
theorem cT_6 : cT (.mk 6 neg d nm n l b) (.mk 6 neg' d' nm' n' l' b') = lx (cmpZ (l.length : Int) (l'.length : Int)) (cR l l') := by rw [cT, cz_self, lx_zero, if_neg (by decide), if_neg (by decide), if_neg (by decide), if_neg (by decide), if_pos (by decide)]
theorem cT_5 : cT (.mk 5 neg d nm n l b) (.mk 5 neg' d' nm' n' l' b') = 0 := by rw [cT, cz_self, lx_zero, if_neg (by decide), if_neg (by decide), if_neg (by decide), if_neg (by decide), if_neg (by decide)]
theorem cT_kind {k k' : Int} (h : k ≠ k') : cT (.mk k neg d nm n l b) (.mk k' neg' d' nm' n' l' b') = cmpZ k k' := by rw [cT, lx_ne (by rw [Ne, cz_zero]; exact h)]
end
theorem own_ne {B g : Nat} {a0 a1 a2 a3 a4 a5 a6 b0 b1 b2 b3 b4 b5 b6 v v' : Value} {m : Nat} {xs : List Value} {w : World} (h : WkO g a0 a1 a2 a3 a4 a5 a6 b0 b1 b2 b3 b4 b5 b6 v w) (hO : w.ownsRow B 63 2 v' m xs) (k : Nat) (hk : v'.ownBlock = some k) : k ≠ g ∧ k < w.heap.size := by
  obtain ⟨_, _, _, _, _, hb⟩ := own_shape2 hO
  obtain ⟨_, h2, cur, hc⟩ := hb k hk
  refine ⟨fun e => ?_, h2⟩
  subst e
  unfold WkO at h
  rw [h] at hc
  simp at hc
theorem fin_leaf {x CC : Int} {MM pk : Nat} {S1 : List Rp} (h1 : lx x (cSt S1) = CC) (h2 : pk + 1 + mSt S1 = MM) : (x ≠ 0 → CC = x) ∧ (x = 0 → CC = cSt S1 ∧ mSt S1 < MM) := by
  refine ⟨fun h => by rw [← h1, lx_ne h], fun h => ⟨by rw [← h1, h, lx_zero], by omega⟩⟩
theorem fin_push {CC : Int} {MM : Nat} {S1 : List Rp} {l l' : List Tm} (ol ol' : Option Addr) (cl cl' : Nat) (h1 : lx (lx (cmpZ (l.length : Int) (l'.length : Int)) (cR l l')) (cSt S1) = CC) (he : l.length = l'.length) (h2 : (partsL l).length + 1 + mSt S1 = MM) : ((0 : Int) ≠ 0 → CC = 0) ∧ ((0 : Int) = 0 → CC = cSt (⟨ol, cl, l, ol', cl', l'⟩ :: S1) ∧ mSt (⟨ol, cl, l, ol', cl', l'⟩ :: S1) < MM) := by
  refine ⟨fun h => absurd rfl h, fun _ => ⟨?_, ?_⟩⟩
  · rw [← h1, he, cz_self, lx_zero]; rfl
  · show (partsL l).length + mSt S1 < MM; omega
set_option maxHeartbeats 4000000 in
set_option maxRecDepth 8000 in
theorem next_w (B g : Nat) (Z : Nat → Prop) (v : Value) (r : Rp) (st : List Rp) (lv : Nat) (w : World) (hB : B ≤ g) (hE : WkE g v w) (hO : w.ownsRow B 63 2 v (r :: st).length (rpv (r :: st))) (hSt : StO Z w lv (r :: st)) (hlen : (r :: st).length + lv ≤ 1000001)
    (hZ : ZP B Z w) (hTB : ∀ w', Wr B w w' → Tabs w') :
    Calls Tryd.prog 50 #[.pointer (some ⟨g, 0, none⟩)] w (NxP B g Z w (cSt (r :: st)) (mSt (r :: st))) := by
  obtain ⟨a0, a1, a2, a3, a4, a5, a6, b0, b1, b2, b3, b4, b5, b6, hW⟩ := hE
  obtain ⟨⟨hne, hll, hca, hcb, hta, htb, hwa, hwb, hda⟩, hSt'⟩ := hSt
  obtain ⟨oa, ca, la, ob, cb, lb⟩ := r
  dsimp only at hne hll hca hcb hta htb hwa hwb hda
  cases la with
  | nil => exact absurd rfl hne
  | cons t ra =>
  cases lb with
  | nil => simp at hll
  | cons t' rb =>
  clear hne
  unfold TR at hta htb
  obtain ⟨a, va, rfl, hZa, hAa, hTa, hTra⟩ := hta
  obtain ⟨a', vb, rfl, hZb, hAb, hTb, hTrb⟩ := htb
  cases t with | mk tk tneg td tnm tn tl tb =>
  cases t' with | mk uk uneg ud unm un ul ub =>
  have hTa' := hTa
  have hTb' := hTb
  unfold TV at hTa hTb
  obtain ⟨tod, tcd, tol, tcl, tob, tcb, rfl, _⟩ := hTa
  obtain ⟨uod, ucd, uol, ucl, uob, ucb, rfl, _⟩ := hTb
  obtain ⟨o5, cap, rfl, ho5, _, hbk⟩ := own_shape2 hO
  obtain ⟨rg, rfl⟩ := ho5 (by simp)
  clear ho5 hbk
  rw [cSt_step _ _ ra rb (some a) (some ⟨a.block, a.off + 7, none⟩) ca (ca - 1) (some a') (some ⟨a'.block, a'.off + 7, none⟩) cb (cb - 1) st, mSt_step _ _ ra rb (some a) (some ⟨a.block, a.off + 7, none⟩) ca (ca - 1) (some a') (some ⟨a'.block, a'.off + 7, none⟩) cb (cb - 1) st]
  obtain ⟨S1, hS1⟩ : ∃ S1, rest ⟨some ⟨a.block, a.off + 7, none⟩, ca - 1, ra, some ⟨a'.block, a'.off + 7, none⟩, cb - 1, rb⟩ st = S1 := ⟨_, rfl⟩
  rw [hS1]
  have HS1 := hid hS1
  clear hS1
  simp only [rpv, List.length_cons] at hO hll hca hcb hlen
  obtain ⟨hO', hx, hy, hBr, hgr, hcap, cur, hcur⟩ := own_take2 hO
  clear hO
  have hHll := hid hll
  have hwt := hid hwa.head
  have hwu := hid hwb.head
  obtain ⟨ht0, ht7, ht6, ht1, htd, htn, _⟩ := hwa.head.self
  obtain ⟨hu0, hu7, hu6, hu1, hud, hun, _⟩ := hwb.head.self
  have hlvS : ∃ lvS, StO Z w lvS S1 ∧ S1.length + lvS ≤ 1000001 ∧ dep (.mk tk tneg td tnm tn tl tb) ≤ lvS := by
    simp only [depL] at hda
    rw [← HS1.out]
    unfold rest
    by_cases hr : ra = []
    · simp only [hr, if_true]
      exact ⟨lv + 1, hSt', by omega, by omega⟩
    · simp only [hr, if_false]
      exact ⟨lv, ⟨⟨hr, by simpa using hll, by dsimp only; omega, by dsimp only; omega, hTra, hTrb, hwa.tail, hwb.tail, by dsimp only; omega⟩, hSt'⟩, by simp only [List.length_cons]; omega, by omega⟩
  obtain ⟨lvS, hSS', hlS, hdS⟩ := hlvS
  have hSS := hid hSS'
  have hTT := hid hTa'
  have hTU := hid hTb'
  clear hll hwa hwb hda hSt' hTra hTrb hSS' hTa' hTb'
  have hcv := hW.rv
  have hfr := hW.fr
  have hgl := hW.lt
  have hgne : rg ≠ g := fun e => by
    subst e
    unfold WkO at hW
    rw [hW] at hcur
    simp at hcur
  have hst1 := nstart (sa := .slice (some a) (ra.length + 1) ca) (sb := .slice (some a') (rb.length + 1) cb) (cur := cur) hB hW hO' hgne
  obtain ⟨CC, hCC⟩ : ∃ CC, lx (cT (.mk tk tneg td tnm tn tl tb) (.mk uk uneg ud unm un ul ub)) (cSt S1) = CC := ⟨_, rfl⟩
  obtain ⟨MM, hMM⟩ : ∃ MM, (partsL (Tm.mk tk tneg td tnm tn tl tb).kids).length + 1 + mSt S1 = MM := ⟨_, rfl⟩
  rw [hCC, hMM]
  have HCC := hid hCC
  have HMM := hid hMM
  clear hCC hMM
  have h1a : (1 : Int) ≤ (ra.length : Int) + 1 := by omega
  have h1b : (1 : Int) ≤ (rb.length : Int) + 1 := by omega
  have hq1 : (((ra.length : Int) + 1) == 0) = false := by simp; omega
  have hq2 : (((rb.length : Int) + 1) == 0) = false := by simp; omega
  go_enter Tryd.func50, Tryd.ntmps50
  go_upto_region 6 with fail
  generalize hWW : (w.setCell ⟨g, 14, none⟩ (.slice (some ⟨rg, 0, none⟩) st.length cap)).alloc (.cells #[.slice (some a) (ra.length + 1) ca, .slice (some a') (rb.length + 1) cb] 63) = W1
  obtain ⟨kW, kO, kx, kwr, hz1⟩ := hst1 W1 hWW.symm
  clear hst1 hWW hcv hfr hx hy hcur hO'
  have hDr : Below W1.heap.size W1 W1.drew := (Below.refl _ W1).drew
  have hS : Hid (∀ w', Below W1.heap.size W1 w' → (w'.cell? ⟨w.heap.size, 0, none⟩ = some (.slice (some a) (ra.length + 1) ca) ∧ w'.cell? ⟨w.heap.size, 1, none⟩ = some (.slice (some a') (rb.length + 1) cb))) := hid (fun w' hb => ⟨(kx.below hb (by omega)).1, (kx.below hb (by omega)).2.1⟩)
  go_cut [3] from 46 to 53 (fun v3 wx => v3 = .int .i64 (st.length : Int) ∧ ∃ v2, WkO g a0 a1 a2 a3 a4 a5 a6 b0 b1 b2 b3 b4 b5 b6 v2 wx ∧ wx.ownsRow B 63 2 v2 S1.length (rpv S1) ∧ Box w.heap.size (.slice (some a) (ra.length + 1) ca) (.slice (some a') (rb.length + 1) cb) wx ∧ Wr B w wx)
  case first =>
    by_cases hr1 : ra = []
    · have hr0 : Hid (ra.length = 0) := hid (by rw [hr1]; rfl)
      have hr2 : Hid (rb.length = 0) := hid (by have := hHll.out; have := hr0.out; omega)
      have HR1 := hid hr1
      clear hr1
      obtain ⟨oA, hoA⟩ : ∃ oA, (if ca = 1 then some a else some (⟨a.block, a.off + 7, none⟩ : Addr)) = oA := ⟨_, rfl⟩
      obtain ⟨oB, hoB⟩ : ∃ oB, (if cb = 1 then some a' else some (⟨a'.block, a'.off + 7, none⟩ : Addr)) = oB := ⟨_, rfl⟩
      refine wp_region_held_drew (S := fun w' => w'.cell? ⟨w.heap.size, 0, none⟩ = some (.slice (some a) (ra.length + 1) ca) ∧ w'.cell? ⟨w.heap.size, 1, none⟩ = some (.slice (some a') (rb.length + 1) cb)) (by kernel_rfl) (by exact hS.out _ hDr) (fun hHeld => ?_)
      refine wpAnyH_take (i := 0) (oi := _) (v := ?_) rfl (by kernel_rfl) (by kernel_rfl) (by kernel_rfl) (fun _ _ _ h => h) (Or.inl ⟨by rfl, ?_⟩) (by assumption) ?_
      rotate_left 1
      · (intro w hSw; (try dsimp only at hSw); go_simp; try with_reducible rfl)
      try simp (maxSteps := 10000000) only [List.getElem_toArray, List.getElem_cons_succ, List.getElem_cons_zero, Act.put, List.setIfInBounds_toArray, List.set_cons_zero, List.set_cons_succ]
      refine wpAnyH_take (i := 1) (oi := _) (v := ?_) rfl (by kernel_rfl) (by kernel_rfl) (by kernel_rfl) (fun _ _ _ h => h) (Or.inl ⟨by rfl, ?_⟩) (by assumption) ?_
      rotate_left 1
      · (intro w hSw; (try dsimp only at hSw); go_simp; try with_reducible rfl)
      try simp (maxSteps := 10000000) only [List.getElem_toArray, List.getElem_cons_succ, List.getElem_cons_zero, Act.put, List.setIfInBounds_toArray, List.set_cons_zero, List.set_cons_succ]
      refine wpAnyH_take (i := 2) (oi := _) (v := ?_) rfl (by kernel_rfl) (by kernel_rfl) (by kernel_rfl) (fun _ _ _ h => h) (Or.inl ⟨by rfl, ?_⟩) (by assumption) ?_
      rotate_left 1
      · (intro w hSw; (try dsimp only at hSw); go_simp; try with_reducible rfl)
      try simp (maxSteps := 10000000) only [List.getElem_toArray, List.getElem_cons_succ, List.getElem_cons_zero, Act.put, List.setIfInBounds_toArray, List.set_cons_zero, List.set_cons_succ]
      refine wpAnyH_take (i := 3) (oi := _) (v := ?_) rfl (by kernel_rfl) (by kernel_rfl) (by kernel_rfl) (fun _ _ _ h => h) (Or.inl ⟨by rfl, ?_⟩) (by assumption) ?_
      rotate_left 1
      · (intro w hSw; (try dsimp only at hSw); go_simp; try with_reducible rfl)
      try simp (maxSteps := 10000000) only [List.getElem_toArray, List.getElem_cons_succ, List.getElem_cons_zero, Act.put, List.setIfInBounds_toArray, List.set_cons_zero, List.set_cons_succ]
      refine wpAnyH_take (i := 4) (oi := _) (v := ?_) rfl (by kernel_rfl) (by kernel_rfl) (by kernel_rfl) (fun _ _ _ h => h) (Or.inl ⟨by rfl, ?_⟩) (by assumption) ?_
      rotate_left 1
      · (intro w hSw; (try dsimp only at hSw); go_simp; try with_reducible rfl)
      try simp (maxSteps := 10000000) only [List.getElem_toArray, List.getElem_cons_succ, List.getElem_cons_zero, Act.put, List.setIfInBounds_toArray, List.set_cons_zero, List.set_cons_succ]
      refine wpAnyH_take (i := 5) (oi := _) (v := ?_) rfl (by kernel_rfl) (by kernel_rfl) (by kernel_rfl) (fun _ _ _ h => h) (Or.inl ⟨by rfl, ?_⟩) (by assumption) ?_
      rotate_left 1
      · (intro w hSw; (try dsimp only at hSw); go_simp; try with_reducible rfl)
      try simp (maxSteps := 10000000) only [List.getElem_toArray, List.getElem_cons_succ, List.getElem_cons_zero, Act.put, List.setIfInBounds_toArray, List.set_cons_zero, List.set_cons_succ]
      refine wpAnyH_take (i := 6) (oi := _) (v := ?_) rfl (by kernel_rfl) (by kernel_rfl) (by kernel_rfl) (fun _ _ _ h => h) (Or.inl ⟨by rfl, ?_⟩) (by assumption) ?_
      rotate_left 1
      · (intro w hSw; (try dsimp only at hSw); go_simp; try with_reducible rfl)
      try simp (maxSteps := 10000000) only [List.getElem_toArray, List.getElem_cons_succ, List.getElem_cons_zero, Act.put, List.setIfInBounds_toArray, List.set_cons_zero, List.set_cons_succ]
      refine wpAnyH_ready (rs := [7]) (by kernel_rfl) (by simp) ?_
      refine AllReadyH.cons rfl (fun K hK => ?_) AllReadyH.nil
      go_simp
      refine (wait_none g _ _ _ _ _ _ _ hr0.out hr2.out).mono ?_
      rintro e w1 ⟨⟨ve, rfl⟩, rfl⟩
      try go_simp
      refine hK.out _ _ ?_ (fun hHeld => ?_)
      · first | exact hS.out _ (by assumption) | exact ⟨kx1.1, kx1.2.1⟩ | exact hW1.c14
      clear hK K
      try simp (maxSteps := 10000000) only [List.getElem_toArray, List.getElem_cons_succ, List.getElem_cons_zero, Act.put, List.setIfInBounds_toArray, List.set_cons_zero, List.set_cons_succ]
      refine wpAnyH_done (by kernel_rfl) ?_ _
      go_wp2_with fail
      go_meet
      have := HS1.out
      simp only [rest, HR1.out, if_true] at this
      subst this
      exact ⟨rfl, _, kW.below hDr, own_block kO (fun k hk => rfl), kx.drew, kwr.trans (Wr.of_below hDr)⟩
    · have hr0 : 0 < ra.length := List.length_pos_iff.2 hr1
      have hca1 : ¬ ca = 1 := by omega
      have hcb1 : ¬ cb = 1 := by have := hHll.out; omega
      refine wp_region_held_drew (S := fun w' => w'.cell? ⟨w.heap.size, 0, none⟩ = some (.slice (some a) (ra.length + 1) ca) ∧ w'.cell? ⟨w.heap.size, 1, none⟩ = some (.slice (some a') (rb.length + 1) cb)) (by kernel_rfl) (by exact hS.out _ hDr) (fun hHeld => ?_)
      refine wpAnyH_take (i := 0) (oi := _) (v := ?_) rfl (by kernel_rfl) (by kernel_rfl) (by kernel_rfl) (fun _ _ _ h => h) (Or.inl ⟨by rfl, ?_⟩) (by assumption) ?_
      rotate_left 1
      · (intro w hSw; (try dsimp only at hSw); go_simp; try with_reducible rfl)
      try simp (maxSteps := 10000000) only [List.getElem_toArray, List.getElem_cons_succ, List.getElem_cons_zero, Act.put, List.setIfInBounds_toArray, List.set_cons_zero, List.set_cons_succ]
      refine wpAnyH_take (i := 1) (oi := _) (v := ?_) rfl (by kernel_rfl) (by kernel_rfl) (by kernel_rfl) (fun _ _ _ h => h) (Or.inl ⟨by rfl, ?_⟩) (by assumption) ?_
      rotate_left 1
      · (intro w hSw; (try dsimp only at hSw); go_simp; try with_reducible rfl)
      try simp (maxSteps := 10000000) only [List.getElem_toArray, List.getElem_cons_succ, List.getElem_cons_zero, Act.put, List.setIfInBounds_toArray, List.set_cons_zero, List.set_cons_succ]
      refine wpAnyH_take (i := 2) (oi := _) (v := ?_) rfl (by kernel_rfl) (by kernel_rfl) (by kernel_rfl) (fun _ _ _ h => h) (Or.inl ⟨by rfl, ?_⟩) (by assumption) ?_
      rotate_left 1
      · (intro w hSw; (try dsimp only at hSw); go_simp; try with_reducible rfl)
      try simp (maxSteps := 10000000) only [List.getElem_toArray, List.getElem_cons_succ, List.getElem_cons_zero, Act.put, List.setIfInBounds_toArray, List.set_cons_zero, List.set_cons_succ]
      refine wpAnyH_take (i := 3) (oi := _) (v := ?_) rfl (by kernel_rfl) (by kernel_rfl) (by kernel_rfl) (fun _ _ _ h => h) (Or.inl ⟨by rfl, ?_⟩) (by assumption) ?_
      rotate_left 1
      · (intro w hSw; (try dsimp only at hSw); go_simp; try with_reducible rfl)
      try simp (maxSteps := 10000000) only [List.getElem_toArray, List.getElem_cons_succ, List.getElem_cons_zero, Act.put, List.setIfInBounds_toArray, List.set_cons_zero, List.set_cons_succ]
      refine wpAnyH_take (i := 4) (oi := _) (v := ?_) rfl (by kernel_rfl) (by kernel_rfl) (by kernel_rfl) (fun _ _ _ h => h) (Or.inl ⟨by rfl, ?_⟩) (by assumption) ?_
      rotate_left 1
      · (intro w hSw; (try dsimp only at hSw); go_simp; try with_reducible rfl)
      try simp (maxSteps := 10000000) only [List.getElem_toArray, List.getElem_cons_succ, List.getElem_cons_zero, Act.put, List.setIfInBounds_toArray, List.set_cons_zero, List.set_cons_succ]
      refine wpAnyH_take (i := 5) (oi := _) (v := ?_) rfl (by kernel_rfl) (by kernel_rfl) (by kernel_rfl) (fun _ _ _ h => h) (Or.inl ⟨by rfl, ?_⟩) (by assumption) ?_
      rotate_left 1
      · (intro w hSw; (try dsimp only at hSw); go_simp; try with_reducible rfl)
      try simp (maxSteps := 10000000) only [List.getElem_toArray, List.getElem_cons_succ, List.getElem_cons_zero, Act.put, List.setIfInBounds_toArray, List.set_cons_zero, List.set_cons_succ]
      refine wpAnyH_take (i := 6) (oi := _) (v := ?_) rfl (by kernel_rfl) (by kernel_rfl) (by kernel_rfl) (fun _ _ _ h => h) (Or.inl ⟨by rfl, ?_⟩) (by assumption) ?_
      rotate_left 1
      · (intro w hSw; (try dsimp only at hSw); go_simp; try with_reducible rfl)
      try simp (maxSteps := 10000000) only [List.getElem_toArray, List.getElem_cons_succ, List.getElem_cons_zero, Act.put, List.setIfInBounds_toArray, List.set_cons_zero, List.set_cons_succ]
      refine wpAnyH_ready (rs := [7]) (by kernel_rfl) (by simp) ?_
      refine AllReadyH.cons rfl (fun K hK => ?_) AllReadyH.nil
      go_simp
      refine (wait_w B g _ _ _ _ _ _ _ _ _ _ _ _ _ _ (.slice (some ⟨rg, 0, none⟩) st.length cap) st.length (rpv st) (some ⟨a.block, a.off + 7, none⟩) ra.length (ca - 1) (some ⟨a'.block, a'.off + 7, none⟩) rb.length (cb - 1) _ hB (kW.below hDr) (own_block kO (fun k hk => rfl)) (by omega) (by omega)).mono ?_
      rintro e w1 ⟨⟨ve, rfl⟩, v', hW1, hO1, hK1⟩
      have kx1 := kx.blk (hK1.block w.heap.size (by show _ < W1.heap.size; omega) (by
        rintro (h | h)
        · omega
        · simp only [Value.ownBlock, Option.some.injEq] at h; omega))
      try go_simp
      refine hK.out _ _ ?_ (fun hHeld => ?_)
      · first | exact hS.out _ (by assumption) | exact ⟨kx1.1, kx1.2.1⟩ | exact hW1.c14
      clear hK K
      try simp (maxSteps := 10000000) only [List.getElem_toArray, List.getElem_cons_succ, List.getElem_cons_zero, Act.put, List.setIfInBounds_toArray, List.set_cons_zero, List.set_cons_succ]
      refine wpAnyH_done (by kernel_rfl) ?_ _
      go_wp2_with fail
      go_meet
      have := HS1.out
      simp only [rest, hr1, if_false] at this
      subst this
      exact ⟨rfl, _, hW1, by simpa [rpv] using hO1, kx1, (kwr.trans (Wr.of_below hDr)).trans (Wr.kept hB (kW.below hDr) (own_block kO (fun k hk => rfl)) hK1)⟩
  case rest =>
    obtain ⟨rfl, v2, kW2, kO2, kx2, kwr2⟩ := hcut
    have dV : Below wc.heap.size wc wc.drew := (Below.refl _ wc).drew
    have kW3 := kW2.below dV
    have kO3 : wc.drew.ownsRow B 63 2 v2 S1.length (rpv S1) := own_block kO2 (fun k hk => rfl)
    have kx3 := kx2.drew
    have kwr3 := kwr2.trans (Wr.of_below dV)
    have hgZ : ∀ k, Z k → k ≠ g := fun k hk e => by
      subst e
      exact (hZ k hk).2 hB hW.own
    have hzs3 := kwr3.zs hZ
    have hA3 := hAa.zs hZa hzs3
    have hB3 := hAb.zs hZb hzs3
    have hsz3 := kwr3.size
    have hgl3 := hW.lt
    clear hS hDr kW kO kx kwr kW2 kO2 kx2 kwr2 dV hzs3 hAa hAb hW
    have hS : Hid (∀ w', Kept (fun k => k = g) wc.drew w' → (w'.cell? ⟨w.heap.size, 0, none⟩ = some (.slice (some a) (ra.length + 1) ca) ∧ w'.cell? ⟨w.heap.size, 1, none⟩ = some (.slice (some a') (rb.length + 1) cb) ∧ w'.cell? a = some (.int .i64 tk) ∧ w'.cell? ⟨a.block, a.off + 1, none⟩ = some (.bool tneg) ∧ w'.cell? ⟨a.block, a.off + 2, none⟩ = some (.slice tod td.length tcd) ∧ w'.cell? ⟨a.block, a.off + 3, none⟩ = some (.string tnm) ∧ w'.cell? ⟨a.block, a.off + 4, none⟩ = some (.int .i64 tn) ∧ w'.cell? ⟨a.block, a.off + 5, none⟩ = some (.slice tol tl.length tcl) ∧ w'.cell? ⟨a.block, a.off + 6, none⟩ = some (.slice tob tb.length tcb) ∧ w'.cell? a' = some (.int .i64 uk) ∧ w'.cell? ⟨a'.block, a'.off + 1, none⟩ = some (.bool uneg) ∧ w'.cell? ⟨a'.block, a'.off + 2, none⟩ = some (.slice uod ud.length ucd) ∧ w'.cell? ⟨a'.block, a'.off + 3, none⟩ = some (.string unm) ∧ w'.cell? ⟨a'.block, a'.off + 4, none⟩ = some (.int .i64 un) ∧ w'.cell? ⟨a'.block, a'.off + 5, none⟩ = some (.slice uol ul.length ucl) ∧ w'.cell? ⟨a'.block, a'.off + 6, none⟩ = some (.slice uob ub.length ucb))) := hid (fun w' hk => by
      have q : Zs Z wc.drew w' := fun k hk' => hk.block k (by have := (hZ k hk').1; omega) (hgZ k hk')
      obtain ⟨x0, x1, x2, x3, x4, x5, x6⟩ := (hA3.zs hZa q).tm
      obtain ⟨y0, y1, y2, y3, y4, y5, y6⟩ := (hB3.zs hZb q).tm
      have kb := kx3.blk (hk.block w.heap.size kx3.lt (by omega))
      exact ⟨kb.1, kb.2.1, x0, x1, x2, x3, x4, x5, x6, y0, y1, y2, y3, y4, y5, y6⟩)
    have hkr : Kept (fun k => k = g) wc.drew wc.drew := Kept.refl _ _
    go_upto_region 7 with fail
    refine wp_region_held_drew (S := fun w' => w'.cell? ⟨w.heap.size, 0, none⟩ = some (.slice (some a) (ra.length + 1) ca) ∧ w'.cell? ⟨w.heap.size, 1, none⟩ = some (.slice (some a') (rb.length + 1) cb) ∧ w'.cell? a = some (.int .i64 tk) ∧ w'.cell? ⟨a.block, a.off + 1, none⟩ = some (.bool tneg) ∧ w'.cell? ⟨a.block, a.off + 2, none⟩ = some (.slice tod td.length tcd) ∧ w'.cell? ⟨a.block, a.off + 3, none⟩ = some (.string tnm) ∧ w'.cell? ⟨a.block, a.off + 4, none⟩ = some (.int .i64 tn) ∧ w'.cell? ⟨a.block, a.off + 5, none⟩ = some (.slice tol tl.length tcl) ∧ w'.cell? ⟨a.block, a.off + 6, none⟩ = some (.slice tob tb.length tcb) ∧ w'.cell? a' = some (.int .i64 uk) ∧ w'.cell? ⟨a'.block, a'.off + 1, none⟩ = some (.bool uneg) ∧ w'.cell? ⟨a'.block, a'.off + 2, none⟩ = some (.slice uod ud.length ucd) ∧ w'.cell? ⟨a'.block, a'.off + 3, none⟩ = some (.string unm) ∧ w'.cell? ⟨a'.block, a'.off + 4, none⟩ = some (.int .i64 un) ∧ w'.cell? ⟨a'.block, a'.off + 5, none⟩ = some (.slice uol ul.length ucl) ∧ w'.cell? ⟨a'.block, a'.off + 6, none⟩ = some (.slice uob ub.length ucb)) (by kernel_rfl) (by exact hS.out _ hkr) (fun hHeld => ?_)
    generalize wc.drew = V at *
    obtain ⟨u0, u1, u2, u3, u4, u5, u6⟩ := kW3.ra
    have uf := kW3.fr
    refine wpAnyH_take (i := 0) (oi := _) (v := ?_) rfl (by kernel_rfl) (by kernel_rfl) (by kernel_rfl) (fun _ _ _ h => h) (Or.inl ⟨by rfl, ?_⟩) (by assumption) ?_
    rotate_left 1
    · (intro w hSw; (try dsimp only at hSw); go_simp; try with_reducible rfl)
    try simp (maxSteps := 10000000) only [List.getElem_toArray, List.getElem_cons_succ, List.getElem_cons_zero, Act.put, List.setIfInBounds_toArray, List.set_cons_zero, List.set_cons_succ]
    refine wpAnyH_take (i := 1) (oi := _) (v := ?_) rfl (by kernel_rfl) (by kernel_rfl) (by kernel_rfl) (fun _ _ _ h => h) (Or.inl ⟨by rfl, ?_⟩) (by assumption) ?_
    rotate_left 1
    · (intro w hSw; (try dsimp only at hSw); go_simp; try with_reducible rfl)
    try simp (maxSteps := 10000000) only [List.getElem_toArray, List.getElem_cons_succ, List.getElem_cons_zero, Act.put, List.setIfInBounds_toArray, List.set_cons_zero, List.set_cons_succ]
    refine wpAnyH_take (i := 2) (oi := _) (v := ?_) rfl (by kernel_rfl) (by kernel_rfl) (by kernel_rfl) (fun _ _ _ h => h) (Or.inl ⟨by rfl, ?_⟩) (by assumption) ?_
    rotate_left 1
    · (intro w hSw; (try dsimp only at hSw); go_simp; try with_reducible rfl)
    try simp (maxSteps := 10000000) only [List.getElem_toArray, List.getElem_cons_succ, List.getElem_cons_zero, Act.put, List.setIfInBounds_toArray, List.set_cons_zero, List.set_cons_succ]
    refine wpAnyH_take (i := 3) (oi := _) (v := ?_) rfl (by kernel_rfl) (by kernel_rfl) (by kernel_rfl) (fun _ _ _ h => h) (Or.inl ⟨by rfl, ?_⟩) (by assumption) ?_
    rotate_left 1
    · (intro w hSw; (try dsimp only at hSw); go_simp; try with_reducible rfl)
    try simp (maxSteps := 10000000) only [List.getElem_toArray, List.getElem_cons_succ, List.getElem_cons_zero, Act.put, List.setIfInBounds_toArray, List.set_cons_zero, List.set_cons_succ]
    refine wpAnyH_take (i := 4) (oi := _) (v := ?_) rfl (by kernel_rfl) (by kernel_rfl) (by kernel_rfl) (fun _ _ _ h => h) (Or.inl ⟨by rfl, ?_⟩) (by assumption) ?_
    rotate_left 1
    · (intro w hSw; (try dsimp only at hSw); go_simp; try with_reducible rfl)
    try simp (maxSteps := 10000000) only [List.getElem_toArray, List.getElem_cons_succ, List.getElem_cons_zero, Act.put, List.setIfInBounds_toArray, List.set_cons_zero, List.set_cons_succ]
    refine wpAnyH_take (i := 5) (oi := _) (v := ?_) rfl (by kernel_rfl) (by kernel_rfl) (by kernel_rfl) (fun _ _ _ h => h) (Or.inl ⟨by rfl, ?_⟩) (by assumption) ?_
    rotate_left 1
    · (intro w hSw; (try dsimp only at hSw); go_simp; try with_reducible rfl)
    try simp (maxSteps := 10000000) only [List.getElem_toArray, List.getElem_cons_succ, List.getElem_cons_zero, Act.put, List.setIfInBounds_toArray, List.set_cons_zero, List.set_cons_succ]
    refine wpAnyH_take (i := 6) (oi := _) (v := ?_) rfl (by kernel_rfl) (by kernel_rfl) (by kernel_rfl) (fun _ _ _ h => h) (Or.inl ⟨by rfl, ?_⟩) (by assumption) ?_
    rotate_left 1
    · (intro w hSw; (try dsimp only at hSw); go_simp; try with_reducible rfl)
    try simp (maxSteps := 10000000) only [List.getElem_toArray, List.getElem_cons_succ, List.getElem_cons_zero, Act.put, List.setIfInBounds_toArray, List.set_cons_zero, List.set_cons_succ]
    refine wpAnyH_take (i := 7) (oi := _) (v := ?_) rfl (by kernel_rfl) (by kernel_rfl) (by kernel_rfl) (fun _ _ _ h => h) (Or.inl ⟨by rfl, ?_⟩) (by assumption) ?_
    rotate_left 1
    · (intro w hSw; (try dsimp only at hSw); go_simp; try with_reducible rfl)
    try simp (maxSteps := 10000000) only [List.getElem_toArray, List.getElem_cons_succ, List.getElem_cons_zero, Act.put, List.setIfInBounds_toArray, List.set_cons_zero, List.set_cons_succ]
    refine wpAnyH_take (i := 8) (oi := _) (v := ?_) rfl (by kernel_rfl) (by kernel_rfl) (by kernel_rfl) (fun _ _ _ h => h) (Or.inl ⟨by rfl, ?_⟩) (by assumption) ?_
    rotate_left 1
    · (intro w hSw; (try dsimp only at hSw); go_simp; try with_reducible rfl)
    try simp (maxSteps := 10000000) only [List.getElem_toArray, List.getElem_cons_succ, List.getElem_cons_zero, Act.put, List.setIfInBounds_toArray, List.set_cons_zero, List.set_cons_succ]
    refine wpAnyH_take (i := 9) (oi := _) (v := ?_) rfl (by kernel_rfl) (by kernel_rfl) (by kernel_rfl) (fun _ _ _ h => h) (Or.inl ⟨by rfl, ?_⟩) (by assumption) ?_
    rotate_left 1
    · (intro w hSw; (try dsimp only at hSw); go_simp; try with_reducible rfl)
    try simp (maxSteps := 10000000) only [List.getElem_toArray, List.getElem_cons_succ, List.getElem_cons_zero, Act.put, List.setIfInBounds_toArray, List.set_cons_zero, List.set_cons_succ]
    refine wpAnyH_take (i := 10) (oi := _) (v := ?_) rfl (by kernel_rfl) (by kernel_rfl) (by kernel_rfl) (fun _ _ _ h => h) (Or.inl ⟨by rfl, ?_⟩) (by assumption) ?_
    rotate_left 1
    · (intro w hSw; (try dsimp only at hSw); go_simp; try with_reducible rfl)
    try simp (maxSteps := 10000000) only [List.getElem_toArray, List.getElem_cons_succ, List.getElem_cons_zero, Act.put, List.setIfInBounds_toArray, List.set_cons_zero, List.set_cons_succ]
    refine wpAnyH_take (i := 11) (oi := _) (v := ?_) rfl (by kernel_rfl) (by kernel_rfl) (by kernel_rfl) (fun _ _ _ h => h) (Or.inl ⟨by rfl, ?_⟩) (by assumption) ?_
    rotate_left 1
    · (intro w hSw; (try dsimp only at hSw); go_simp; try with_reducible rfl)
    try simp (maxSteps := 10000000) only [List.getElem_toArray, List.getElem_cons_succ, List.getElem_cons_zero, Act.put, List.setIfInBounds_toArray, List.set_cons_zero, List.set_cons_succ]
    refine wpAnyH_ready (rs := [12]) (by kernel_rfl) (by simp) ?_
    refine AllReadyH.cons rfl (fun K hK => ?_) AllReadyH.nil
    go_simp
    have kW4 := kW3.seta (.int .i64 tk) (.bool tneg) (.slice tod td.length tcd) (.string tnm) (.int .i64 tn) (.slice tol tl.length tcl) (.slice tob tb.length tcb)
    have on4 := only_seta V g (.int .i64 tk) (.bool tneg) (.slice tod td.length tcd) (.string tnm) (.int .i64 tn) (.slice tol tl.length tcl) (.slice tob tb.length tcb)
    clear u0 u1 u2 u3 u4 u5 u6 uf
    generalize (((((((V.setCell ⟨g, 0, none⟩ (.int .i64 tk)).setCell ⟨g, 1, none⟩ (.bool tneg)).setCell ⟨g, 2, none⟩ (.slice tod td.length tcd)).setCell ⟨g, 3, none⟩ (.string tnm)).setCell ⟨g, 4, none⟩ (.int .i64 tn)).setCell ⟨g, 5, none⟩ (.slice tol tl.length tcl)).setCell ⟨g, 6, none⟩ (.slice tob tb.length tcb)) = wA at *
    have kk4 : Kept (fun k => k = g) V wA := Kept.of_only on4
    obtain ⟨u0, u1, u2, u3, u4, u5, u6⟩ := kW4.rb
    have uf := kW4.fr
    try go_simp
    refine hK.out _ _ ?_ (fun hHeld => ?_)
    · first | exact hS.out _ (by assumption) | exact ⟨kx1.1, kx1.2.1⟩ | exact hW1.c14
    clear hK K
    try simp (maxSteps := 10000000) only [List.getElem_toArray, List.getElem_cons_succ, List.getElem_cons_zero, Act.put, List.setIfInBounds_toArray, List.set_cons_zero, List.set_cons_succ]
    refine wpAnyH_take (i := 13) (oi := _) (v := ?_) rfl (by kernel_rfl) (by kernel_rfl) (by kernel_rfl) (fun _ _ _ h => h) (Or.inl ⟨by rfl, ?_⟩) (by assumption) ?_
    rotate_left 1
    · (intro w hSw; (try dsimp only at hSw); go_simp; try with_reducible rfl)
    try simp (maxSteps := 10000000) only [List.getElem_toArray, List.getElem_cons_succ, List.getElem_cons_zero, Act.put, List.setIfInBounds_toArray, List.set_cons_zero, List.set_cons_succ]
    refine wpAnyH_take (i := 14) (oi := _) (v := ?_) rfl (by kernel_rfl) (by kernel_rfl) (by kernel_rfl) (fun _ _ _ h => h) (Or.inl ⟨by rfl, ?_⟩) (by assumption) ?_
    rotate_left 1
    · (intro w hSw; (try dsimp only at hSw); go_simp; try with_reducible rfl)
    try simp (maxSteps := 10000000) only [List.getElem_toArray, List.getElem_cons_succ, List.getElem_cons_zero, Act.put, List.setIfInBounds_toArray, List.set_cons_zero, List.set_cons_succ]
    refine wpAnyH_ready (rs := [15]) (by kernel_rfl) (by simp) ?_
    refine AllReadyH.cons rfl (fun K hK => ?_) AllReadyH.nil
    go_simp
    have kW5 := kW4.setb (.int .i64 uk) (.bool uneg) (.slice uod ud.length ucd) (.string unm) (.int .i64 un) (.slice uol ul.length ucl) (.slice uob ub.length ucb)
    have on5 := only_setb wA g (.int .i64 uk) (.bool uneg) (.slice uod ud.length ucd) (.string unm) (.int .i64 un) (.slice uol ul.length ucl) (.slice uob ub.length ucb)
    clear u0 u1 u2 u3 u4 u5 u6 uf
    generalize (((((((wA.setCell ⟨g, 7, none⟩ (.int .i64 uk)).setCell ⟨g, 8, none⟩ (.bool uneg)).setCell ⟨g, 9, none⟩ (.slice uod ud.length ucd)).setCell ⟨g, 10, none⟩ (.string unm)).setCell ⟨g, 11, none⟩ (.int .i64 un)).setCell ⟨g, 12, none⟩ (.slice uol ul.length ucl)).setCell ⟨g, 13, none⟩ (.slice uob ub.length ucb)) = wB at *
    have kk5 : Kept (fun k => k = g) V wB := kk4.trans (Kept.of_only on5)
    try go_simp
    refine hK.out _ _ ?_ (fun hHeld => ?_)
    · first | exact hS.out _ (by assumption) | exact ⟨kx1.1, kx1.2.1⟩ | exact hW1.c14
    clear hK K
    try simp (maxSteps := 10000000) only [List.getElem_toArray, List.getElem_cons_succ, List.getElem_cons_zero, Act.put, List.setIfInBounds_toArray, List.set_cons_zero, List.set_cons_succ]
    refine wpAnyH_done (by kernel_rfl) ?_ _
    have kwr5 : Wr B w wB := kwr3.trans (Wr.of_kept kk5 (fun k _ hk => by subst hk; exact ⟨hB, kW3.own⟩))
    have kO5 : wB.ownsRow B 63 2 v2 S1.length (rpv S1) := own_block kO3 (fun k hk => kk5.block k (own_ne kW3 kO3 k hk).2 (own_ne kW3 kO3 k hk).1)
    clear hS hkr kk4 kk5 kW4 on4 on5 kW3 kO3 kwr3 hA3 hB3 kx3 hHeld
    have hS : Hid (∀ w', Below wB.heap.size wB w' → (w'.cell? ⟨g, 0, none⟩ = some (.int .i64 tk) ∧ w'.cell? ⟨g, 1, none⟩ = some (.bool tneg) ∧ w'.cell? ⟨g, 2, none⟩ = some (.slice tod td.length tcd) ∧ w'.cell? ⟨g, 3, none⟩ = some (.string tnm) ∧ w'.cell? ⟨g, 4, none⟩ = some (.int .i64 tn) ∧ w'.cell? ⟨g, 5, none⟩ = some (.slice tol tl.length tcl) ∧ w'.cell? ⟨g, 6, none⟩ = some (.slice tob tb.length tcb) ∧ w'.cell? ⟨g, 7, none⟩ = some (.int .i64 uk) ∧ w'.cell? ⟨g, 8, none⟩ = some (.bool uneg) ∧ w'.cell? ⟨g, 9, none⟩ = some (.slice uod ud.length ucd) ∧ w'.cell? ⟨g, 10, none⟩ = some (.string unm) ∧ w'.cell? ⟨g, 11, none⟩ = some (.int .i64 un) ∧ w'.cell? ⟨g, 12, none⟩ = some (.slice uol ul.length ucl) ∧ w'.cell? ⟨g, 13, none⟩ = some (.slice uob ub.length ucb))) := hid (fun w' hb => (kW5.below hb).c14)
    have hDB : Below wB.heap.size wB wB.drew := (Below.refl _ wB).drew
    go_wp2_with fail
    refine wp_region_held_drew (S := fun w' => w'.cell? ⟨g, 0, none⟩ = some (.int .i64 tk) ∧ w'.cell? ⟨g, 1, none⟩ = some (.bool tneg) ∧ w'.cell? ⟨g, 2, none⟩ = some (.slice tod td.length tcd) ∧ w'.cell? ⟨g, 3, none⟩ = some (.string tnm) ∧ w'.cell? ⟨g, 4, none⟩ = some (.int .i64 tn) ∧ w'.cell? ⟨g, 5, none⟩ = some (.slice tol tl.length tcl) ∧ w'.cell? ⟨g, 6, none⟩ = some (.slice tob tb.length tcb) ∧ w'.cell? ⟨g, 7, none⟩ = some (.int .i64 uk) ∧ w'.cell? ⟨g, 8, none⟩ = some (.bool uneg) ∧ w'.cell? ⟨g, 9, none⟩ = some (.slice uod ud.length ucd) ∧ w'.cell? ⟨g, 10, none⟩ = some (.string unm) ∧ w'.cell? ⟨g, 11, none⟩ = some (.int .i64 un) ∧ w'.cell? ⟨g, 12, none⟩ = some (.slice uol ul.length ucl) ∧ w'.cell? ⟨g, 13, none⟩ = some (.slice uob ub.length ucb)) (by kernel_rfl) (by exact hS.out _ hDB) (fun hHeld => ?_)
    refine wpAnyH_take (i := 0) (oi := _) (v := ?_) rfl (by kernel_rfl) (by kernel_rfl) (by kernel_rfl) (fun _ _ _ h => h) (Or.inl ⟨by rfl, ?_⟩) (by assumption) ?_
    rotate_left 1
    · (intro w hSw; (try dsimp only at hSw); go_simp; try with_reducible rfl)
    try simp (maxSteps := 10000000) only [List.getElem_toArray, List.getElem_cons_succ, List.getElem_cons_zero, Act.put, List.setIfInBounds_toArray, List.set_cons_zero, List.set_cons_succ]
    refine wpAnyH_take (i := 1) (oi := _) (v := ?_) rfl (by kernel_rfl) (by kernel_rfl) (by kernel_rfl) (fun _ _ _ h => h) (Or.inl ⟨by rfl, ?_⟩) (by assumption) ?_
    rotate_left 1
    · (intro w hSw; (try dsimp only at hSw); go_simp; try with_reducible rfl)
    try simp (maxSteps := 10000000) only [List.getElem_toArray, List.getElem_cons_succ, List.getElem_cons_zero, Act.put, List.setIfInBounds_toArray, List.set_cons_zero, List.set_cons_succ]
    refine wpAnyH_take (i := 2) (oi := _) (v := ?_) rfl (by kernel_rfl) (by kernel_rfl) (by kernel_rfl) (fun _ _ _ h => h) (Or.inl ⟨by rfl, ?_⟩) (by assumption) ?_
    rotate_left 1
    · (intro w hSw; (try dsimp only at hSw); go_simp; try with_reducible rfl)
    try simp (maxSteps := 10000000) only [List.getElem_toArray, List.getElem_cons_succ, List.getElem_cons_zero, Act.put, List.setIfInBounds_toArray, List.set_cons_zero, List.set_cons_succ]
    refine wpAnyH_take (i := 3) (oi := _) (v := ?_) rfl (by kernel_rfl) (by kernel_rfl) (by kernel_rfl) (fun _ _ _ h => h) (Or.inl ⟨by rfl, ?_⟩) (by assumption) ?_
    rotate_left 1
    · (intro w hSw; (try dsimp only at hSw); go_simp; try with_reducible rfl)
    try simp (maxSteps := 10000000) only [List.getElem_toArray, List.getElem_cons_succ, List.getElem_cons_zero, Act.put, List.setIfInBounds_toArray, List.set_cons_zero, List.set_cons_succ]
    refine wpAnyH_take (i := 5) (oi := _) (v := ?_) rfl (by kernel_rfl) (by kernel_rfl) (by kernel_rfl) (fun _ _ _ h => h) (Or.inl ⟨by rfl, ?_⟩) (by assumption) ?_
    rotate_left 1
    · (intro w hSw; (try dsimp only at hSw); go_simp; try with_reducible rfl)
    try simp (maxSteps := 10000000) only [List.getElem_toArray, List.getElem_cons_succ, List.getElem_cons_zero, Act.put, List.setIfInBounds_toArray, List.set_cons_zero, List.set_cons_succ]
    refine wpAnyH_take (i := 6) (oi := _) (v := ?_) rfl (by kernel_rfl) (by kernel_rfl) (by kernel_rfl) (fun _ _ _ h => h) (Or.inl ⟨by rfl, ?_⟩) (by assumption) ?_
    rotate_left 1
    · (intro w hSw; (try dsimp only at hSw); go_simp; try with_reducible rfl)
    try simp (maxSteps := 10000000) only [List.getElem_toArray, List.getElem_cons_succ, List.getElem_cons_zero, Act.put, List.setIfInBounds_toArray, List.set_cons_zero, List.set_cons_succ]
    refine wpAnyH_take (i := 7) (oi := _) (v := ?_) rfl (by kernel_rfl) (by kernel_rfl) (by kernel_rfl) (fun _ _ _ h => h) (Or.inl ⟨by rfl, ?_⟩) (by assumption) ?_
    rotate_left 1
    · (intro w hSw; (try dsimp only at hSw); go_simp; try with_reducible rfl)
    try simp (maxSteps := 10000000) only [List.getElem_toArray, List.getElem_cons_succ, List.getElem_cons_zero, Act.put, List.setIfInBounds_toArray, List.set_cons_zero, List.set_cons_succ]
    refine wpAnyH_take (i := 8) (oi := _) (v := ?_) rfl (by kernel_rfl) (by kernel_rfl) (by kernel_rfl) (fun _ _ _ h => h) (Or.inl ⟨by rfl, ?_⟩) (by assumption) ?_
    rotate_left 1
    · (intro w hSw; (try dsimp only at hSw); go_simp; try with_reducible rfl)
    try simp (maxSteps := 10000000) only [List.getElem_toArray, List.getElem_cons_succ, List.getElem_cons_zero, Act.put, List.setIfInBounds_toArray, List.set_cons_zero, List.set_cons_succ]
    refine wpAnyH_ready (rs := [4]) (by kernel_rfl) (by simp) ?_
    refine AllReadyH.cons rfl (fun K hK => ?_) AllReadyH.nil
    go_simp
    refine (kindOf_w tk tneg tod td.length tcd tnm tn tol tl.length tcl tob tb.length tcb _ ht0 ht7).mono ?_
    rintro e w6 ⟨rfl, b6⟩
    have c6 : Below wB.heap.size wB w6 := below_and hDB (Nat.le_refl _) b6
    try go_simp
    refine hK.out _ _ ?_ (fun hHeld => ?_)
    · first | exact hS.out _ (by assumption) | exact ⟨kx1.1, kx1.2.1⟩ | exact hW1.c14
    clear hK K
    try simp (maxSteps := 10000000) only [List.getElem_toArray, List.getElem_cons_succ, List.getElem_cons_zero, Act.put, List.setIfInBounds_toArray, List.set_cons_zero, List.set_cons_succ]
    refine wpAnyH_ready (rs := [9]) (by kernel_rfl) (by simp) ?_
    refine AllReadyH.cons rfl (fun K hK => ?_) AllReadyH.nil
    go_simp
    refine (kindOf_w uk uneg uod ud.length ucd unm un uol ul.length ucl uob ub.length ucb _ hu0 hu7).mono ?_
    rintro e w7 ⟨rfl, b7⟩
    have c7 : Below wB.heap.size wB w7 := below_and c6 (Nat.le_refl _) b7
    try go_simp
    refine hK.out _ _ ?_ (fun hHeld => ?_)
    · first | exact hS.out _ (by assumption) | exact ⟨kx1.1, kx1.2.1⟩ | exact hW1.c14
    clear hK K
    try simp (maxSteps := 10000000) only [List.getElem_toArray, List.getElem_cons_succ, List.getElem_cons_zero, Act.put, List.setIfInBounds_toArray, List.set_cons_zero, List.set_cons_succ]
    refine wpAnyH_take (i := 10) (oi := _) (v := ?_) rfl (by kernel_rfl) (by kernel_rfl) (by kernel_rfl) (fun _ _ _ h => h) (Or.inl ⟨by rfl, ?_⟩) (by assumption) ?_
    rotate_left 1
    · (intro w hSw; (try dsimp only at hSw); go_simp; try with_reducible rfl)
    try simp (maxSteps := 10000000) only [List.getElem_toArray, List.getElem_cons_succ, List.getElem_cons_zero, Act.put, List.setIfInBounds_toArray, List.set_cons_zero, List.set_cons_succ]
    refine wpAnyH_take (i := 11) (oi := _) (v := ?_) rfl (by kernel_rfl) (by kernel_rfl) (by kernel_rfl) (fun _ _ _ h => h) (Or.inl ⟨by rfl, ?_⟩) (by assumption) ?_
    rotate_left 1
    · (intro w hSw; (try dsimp only at hSw); go_simp; try with_reducible rfl)
    try simp (maxSteps := 10000000) only [List.getElem_toArray, List.getElem_cons_succ, List.getElem_cons_zero, Act.put, List.setIfInBounds_toArray, List.set_cons_zero, List.set_cons_succ]
    refine wpAnyH_done (by kernel_rfl) ?_ _
    have kW7 := kW5.below c7
    have kO7 : w7.ownsRow B 63 2 v2 S1.length (rpv S1) := own_block kO5 (fun k hk => c7.block k (own_ne kW5 kO5 k hk).2)
    have kwr7 := kwr5.trans (Wr.of_below c7)
    have hT7 := hTB _ kwr7
    have hz7 := kwr7.zs hZ
    have iT := TV.mono (Z' := Low w7) (fun k hk _ => hk) _ _ (TV.zs hz7 _ _ hTT.out)
    have iU := TV.mono (Z' := Low w7) (fun k hk _ => hk) _ _ (TV.zs hz7 _ _ hTU.out)
    clear hS hDB kW5 kO5 kwr5 c6 c7 b6 b7 hHeld hz7
    have hTk := iT
    have hUk := iU
    unfold TV at hTk hUk
    obtain ⟨_, _, _, _, _, _, e4, g1, g2, g3, g4, g5, g6, g7⟩ := hTk
    obtain ⟨_, _, _, _, _, _, e5, k1, k2, k3, k4, k5, k6, k7⟩ := hUk
    simp only [tmV, Value.agg.injEq, Array.mk.injEq, List.cons.injEq, Value.slice.injEq, and_true, true_and] at e4 e5
    obtain ⟨⟨rfl, rfl⟩, ⟨rfl, rfl⟩, rfl, rfl⟩ := e4
    obtain ⟨⟨rfl, rfl⟩, ⟨rfl, rfl⟩, rfl, rfl⟩ := e5
    have G1 := hid (And.intro g1 (And.intro g2 (And.intro g3 g4)))
    have K1 := hid (And.intro k1 (And.intro k2 (And.intro k3 k4)))
    have htl : Hid (tl.length ≤ tcl ∧ TR Z w tl tol) := hid (by
      have h := hTT.out
      unfold TV at h
      obtain ⟨_, _, _, _, _, _, e4, _, _, _, _, _, h6, h7⟩ := h
      simp only [tmV, Value.agg.injEq, Array.mk.injEq, List.cons.injEq, Value.slice.injEq, and_true, true_and] at e4
      obtain ⟨⟨rfl, rfl⟩, ⟨rfl, rfl⟩, rfl, rfl⟩ := e4
      exact ⟨h6, h7⟩)
    have hul : Hid (ul.length ≤ ucl ∧ TR Z w ul uol) := hid (by
      have h := hTU.out
      unfold TV at h
      obtain ⟨_, _, _, _, _, _, e4, _, _, _, _, _, h6, h7⟩ := h
      simp only [tmV, Value.agg.injEq, Array.mk.injEq, List.cons.injEq, Value.slice.injEq, and_true, true_and] at e4
      obtain ⟨⟨rfl, rfl⟩, ⟨rfl, rfl⟩, rfl, rfl⟩ := e4
      exact ⟨h6, h7⟩)
    clear iT iU g1 g2 g3 g4 g5 g6 g7 k1 k2 k3 k4 k5 k6 k7 hTT hTU
    by_cases hk : tk = uk
    case neg =>
      have f1 : (tk != uk) = true := by simpa using hk
      have hcT := hid (cT_kind (neg := tneg) (neg' := uneg) (d := td) (d' := ud) (nm := tnm) (nm' := unm) (n := tn) (n' := un) (l := tl) (l' := ul) (b := tb) (b' := ub) hk)
      clear hk
      go_wp2_with fail
      refine (compareInt_w _ _ _).mono ?_
      rw [compareInt_z]
      rintro e w8 ⟨rfl, rfl⟩
      go_wp2
      go_ret
      exact ⟨_, S1, lvS, v2, rfl, kW7.e, kO7, StO.zs (kwr7.zs hZ) _ _ hSS.out, hlS, kwr7, fin_leaf (by rw [← hcT.out]; exact HCC.out) HMM.out⟩
    subst hk
    have hcase : tk = 0 ∨ tk = 1 ∨ tk = 2 ∨ tk = 3 ∨ tk = 4 ∨ tk = 5 ∨ tk = 6 ∨ tk = 7 := by omega
    rcases hcase with rfl | rfl | rfl | rfl | rfl | rfl | rfl | rfl
    · skip
      obtain ⟨q0, q1, q2, q3, q4, q5, q6, q7⟩ := kW7.rk
      go_wp2_with fail
      clear q0 q1 q2 q3 q4 q5 q6 q7
      refine (ints_w _ _ _ _ _ _ _ _ _ _ _ _ _ _ _ _ _ _ _ _ _ _ _ _ _ _ _ _ _ kW7 htd hud G1.out.1 G1.out.2.1 G1.out.2.2.1 K1.out.1 K1.out.2.1 K1.out.2.2.1).mono ?_
      rintro e w8 ⟨rfl, b8⟩
      go_wp2
      go_ret
      exact ⟨_, S1, lvS, v2, rfl, (kW7.below b8).e, own_block kO7 (fun k hk => b8.block k (own_ne kW7 kO7 k hk).2), StO.zs ((kwr7.trans (Wr.of_below b8)).zs hZ) _ _ hSS.out, hlS, kwr7.trans (Wr.of_below b8), fin_leaf (by rw [← cT_0]; exact HCC.out) HMM.out⟩
    · skip
      obtain ⟨q0, q1, q2, q3, q4, q5, q6, q7⟩ := kW7.rk
      go_wp2_with fail
      clear q0 q1 q2 q3 q4 q5 q6 q7
      refine (atoms_w _ _ _ _ _ _ _ _ _ _ _ _ _ _ _ _ _ _ _ _ _ _ _ _ _ _ _ _ _ kW7 htn hun hT7).mono ?_
      rintro e w8 ⟨rfl, b8⟩
      go_wp2
      go_ret
      exact ⟨_, S1, lvS, v2, rfl, (kW7.below b8).e, own_block kO7 (fun k hk => b8.block k (own_ne kW7 kO7 k hk).2), StO.zs ((kwr7.trans (Wr.of_below b8)).zs hZ) _ _ hSS.out, hlS, kwr7.trans (Wr.of_below b8), fin_leaf (by rw [← cT_1]; exact HCC.out) HMM.out⟩
    · skip
      obtain ⟨q0, q1, q2, q3, q4, q5, q6, q7⟩ := kW7.rk
      go_wp2_with fail
      clear q0 q1 q2 q3 q4 q5 q6 q7
      refine (numbers_w _ _ _ _ _ _ _ _ _ _ _ _ _ _ _ _ _ _ _ _ _ _ _ _ _ _ _ _ _ kW7).mono ?_
      rintro e w8 ⟨rfl, b8⟩
      go_wp2
      go_ret
      exact ⟨_, S1, lvS, v2, rfl, (kW7.below b8).e, own_block kO7 (fun k hk => b8.block k (own_ne kW7 kO7 k hk).2), StO.zs ((kwr7.trans (Wr.of_below b8)).zs hZ) _ _ hSS.out, hlS, kwr7.trans (Wr.of_below b8), fin_leaf (by rw [← cT_2]; exact HCC.out) HMM.out⟩
    · skip
      obtain ⟨q0, q1, q2, q3, q4, q5, q6, q7⟩ := kW7.rk
      go_wp2_with fail
      clear q0 q1 q2 q3 q4 q5 q6 q7
      refine (numbers_w _ _ _ _ _ _ _ _ _ _ _ _ _ _ _ _ _ _ _ _ _ _ _ _ _ _ _ _ _ kW7).mono ?_
      rintro e w8 ⟨rfl, b8⟩
      go_wp2
      go_ret
      exact ⟨_, S1, lvS, v2, rfl, (kW7.below b8).e, own_block kO7 (fun k hk => b8.block k (own_ne kW7 kO7 k hk).2), StO.zs ((kwr7.trans (Wr.of_below b8)).zs hZ) _ _ hSS.out, hlS, kwr7.trans (Wr.of_below b8), fin_leaf (by rw [← cT_3]; exact HCC.out) HMM.out⟩
    · by_cases hlen2 : tl.length = ul.length
      · by_cases hpos : 0 < tl.length
        · have hlS' := hlS
          obtain ⟨q0, q1, q2, q3, q4, q5, q6, q7⟩ := kW7.rk
          go_wp2_with fail
          clear q0 q1 q2 q3 q4 q5 q6 q7
          refine (tuples_w B _ _ _ _ _ _ _ _ _ _ _ _ _ _ _ _ _ _ _ _ _ _ _ _ _ _ _ _ _ _ _ hB kW7 kO7 (by omega) hpos hlen2).mono ?_
          rintro e w8 ⟨rfl, v8, kW8, kO8, kK8⟩
          have kwr8 := kwr7.trans (Wr.kept hB kW7 kO7 kK8)
          go_wp2
          go_ret
          have hl0 : (Tm.mk 4 tneg td tnm tn tl tb).kids ≠ [] := by
            simp only [Tm.kids]
            rw [if_pos (by decide)]
            intro e; rw [e] at hpos; simp at hpos
          have hdk := dep_kids _ hl0
          have hkl : (Tm.mk 4 tneg td tnm tn tl tb).kids = tl := by simp [Tm.kids]
          have hHM := HMM.out
          rw [hkl] at hdk hHM
          refine ⟨0, ⟨tol, tcl, tl, uol, ucl, ul⟩ :: S1, lvS - 1, v8, rfl, kW8.e, by simpa [rpv] using kO8, ⟨⟨by intro e; dsimp only at e; rw [e] at hpos; simp at hpos, hlen2, htl.out.1, hul.out.1, TR.zs (kwr8.zs hZ) _ _ htl.out.2, TR.zs (kwr8.zs hZ) _ _ hul.out.2, hwt.out.l (by decide), hwu.out.l (by decide), by show depL tl ≤ lvS - 1; omega⟩, by rw [show lvS - 1 + 1 = lvS by omega]; exact StO.zs (kwr8.zs hZ) _ _ hSS.out⟩, by simp only [List.length_cons]; omega, kwr8, fin_push _ _ _ _ (by rw [← cT_4]; exact HCC.out) hlen2 hHM⟩
        · have e1 : tl = [] := List.eq_nil_of_length_eq_zero (by omega)
          have e2 : ul = [] := List.eq_nil_of_length_eq_zero (by omega)
          obtain ⟨q0, q1, q2, q3, q4, q5, q6, q7⟩ := kW7.rk
          go_wp2_with fail
          clear q0 q1 q2 q3 q4 q5 q6 q7
          refine (tuples_nil _ _ _ _ _ _ _ _ _ _ _ _ _ _ _ _ _ _ _ _ _ _ _ _ _ _ _ _ _ kW7 e1 e2).mono ?_
          have e3 : lx (cmpZ (tl.length : Int) (ul.length : Int)) (cR tl ul) = 0 := by rw [e1, e2, cz_self, lx_zero, cR_nil]
          rintro e w8 ⟨rfl, b8⟩
          go_wp2
          go_ret
          exact ⟨_, S1, lvS, v2, rfl, (kW7.below b8).e, own_block kO7 (fun k hk => b8.block k (own_ne kW7 kO7 k hk).2), StO.zs ((kwr7.trans (Wr.of_below b8)).zs hZ) _ _ hSS.out, hlS, kwr7.trans (Wr.of_below b8), fin_leaf (by rw [← e3.symm.symm, ← cT_4]; exact HCC.out) HMM.out⟩
      · skip
        obtain ⟨q0, q1, q2, q3, q4, q5, q6, q7⟩ := kW7.rk
        go_wp2_with fail
        clear q0 q1 q2 q3 q4 q5 q6 q7
        refine (tuples_ne _ _ _ _ _ _ _ _ _ _ _ _ _ _ _ _ _ _ _ _ _ _ _ _ _ _ _ _ _ kW7 hlen2).mono ?_
        have e3 : lx (cmpZ (tl.length : Int) (ul.length : Int)) (cR tl ul) = cmpZ (tl.length : Int) (ul.length : Int) := lx_ne (by rw [Ne, cz_zero]; omega) _
        rintro e w8 ⟨rfl, b8⟩
        go_wp2
        go_ret
        exact ⟨_, S1, lvS, v2, rfl, (kW7.below b8).e, own_block kO7 (fun k hk => b8.block k (own_ne kW7 kO7 k hk).2), StO.zs ((kwr7.trans (Wr.of_below b8)).zs hZ) _ _ hSS.out, hlS, kwr7.trans (Wr.of_below b8), fin_leaf (by rw [← e3, ← cT_4]; exact HCC.out) HMM.out⟩
    · skip
      obtain ⟨q0, q1, q2, q3, q4, q5, q6, q7⟩ := kW7.rk
      go_wp2_with fail
      clear q0 q1 q2 q3 q4 q5 q6 q7
      refine (nils_w _ _).mono ?_
      rintro e w8 ⟨rfl, rfl⟩
      go_wp2
      go_ret
      exact ⟨_, S1, lvS, v2, rfl, kW7.e, kO7, StO.zs (kwr7.zs hZ) _ _ hSS.out, hlS, kwr7, fin_leaf (by rw [← cT_5]; exact HCC.out) HMM.out⟩
    · have hlen2 : tl.length = ul.length := by rw [ht6 rfl, hu6 rfl]
      have hpos : 0 < tl.length := by rw [ht6 rfl]; decide
      clear ht6 hu6
      obtain ⟨q0, q1, q2, q3, q4, q5, q6, q7⟩ := kW7.rk
      go_wp2_with fail
      clear q0 q1 q2 q3 q4 q5 q6 q7
      refine (conses_w B _ _ _ _ _ _ _ _ _ _ _ _ _ _ _ _ _ _ _ _ _ _ _ _ _ _ _ _ _ _ _ hB kW7 kO7 (by omega) hpos).mono ?_
      rintro e w8 ⟨rfl, v8, kW8, kO8, kK8⟩
      have kwr8 := kwr7.trans (Wr.kept hB kW7 kO7 kK8)
      go_wp2
      go_ret
      have hl0 : (Tm.mk 6 tneg td tnm tn tl tb).kids ≠ [] := by
        simp only [Tm.kids]
        rw [if_pos (by decide)]
        intro e; rw [e] at hpos; simp at hpos
      have hdk := dep_kids _ hl0
      have hkl : (Tm.mk 6 tneg td tnm tn tl tb).kids = tl := by simp [Tm.kids]
      have hHM := HMM.out
      rw [hkl] at hdk hHM
      refine ⟨0, ⟨tol, tcl, tl, uol, ucl, ul⟩ :: S1, lvS - 1, v8, rfl, kW8.e, by simpa [rpv] using kO8, ⟨⟨by intro e; dsimp only at e; rw [e] at hpos; simp at hpos, hlen2, htl.out.1, hul.out.1, TR.zs (kwr8.zs hZ) _ _ htl.out.2, TR.zs (kwr8.zs hZ) _ _ hul.out.2, hwt.out.l (by decide), hwu.out.l (by decide), by show depL tl ≤ lvS - 1; omega⟩, by rw [show lvS - 1 + 1 = lvS by omega]; exact StO.zs (kwr8.zs hZ) _ _ hSS.out⟩, by simp only [List.length_cons]; omega, kwr8, fin_push _ _ _ _ (by rw [← cT_6]; exact HCC.out) hlen2 hHM⟩
    · skip
      obtain ⟨q0, q1, q2, q3, q4, q5, q6, q7⟩ := kW7.rk
      go_wp2_with fail
      clear q0 q1 q2 q3 q4 q5 q6 q7
      refine (bins_w _ _ _ _ _ _ _ _ _ _ _ _ _ _ _ _ _ _ _ _ _ _ _ _ _ _ _ _ _ kW7 G1.out.2.2.2 K1.out.2.2.2).mono ?_
      rintro e w8 ⟨rfl, b8⟩
      go_wp2
      go_ret
      exact ⟨_, S1, lvS, v2, rfl, (kW7.below b8).e, own_block kO7 (fun k hk => b8.block k (own_ne kW7 kO7 k hk).2), StO.zs ((kwr7.trans (Wr.of_below b8)).zs hZ) _ _ hSS.out, hlS, kwr7.trans (Wr.of_below b8), fin_leaf (by rw [← cT_7]; exact HCC.out) HMM.out⟩
end Go.Proofs.YtpdoepjnkgffpaaDoor
