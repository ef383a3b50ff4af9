/- copies of package term: a round's step. -/
import Derived.Test.YtddbndachoofoaaDoorTermCp
namespace Go.Proofs.YtddbndachoofoaaDoor
open Go.ChangeShapes Go.WideShapes Go.ChangeAt Go.RowKit Go.Shelf
set_option linter.unusedSimpArgs false
set_option linter.unusedVariables false
theorem rowB_of {w : World} {S g n c : Nat} {xs : List Value} (h : w.ownsRow S 29 7 (.slice (some ⟨g, 0, none⟩) n c) n xs) : RowB w g xs := by
  obtain ⟨cur, hg, _, ht, _⟩ := own_blk h
  exact ⟨cur, hg, ht⟩
theorem partsL_len : ∀ l : List Tm, l.length ≤ (partsL l).length
  | [] => Nat.le_refl _
  | t :: l => by
    have := partsL_len l
    simp only [partsL, parts_eq, List.length_cons, List.length_append]; omega
theorem own_cells7 {w : World} {S g n c i : Nat} {pre rest : List Value} {a0 a1 a2 a3 a4 a5 a6 : Value} (h : w.ownsRow S 29 7 (.slice (some ⟨g, 0, none⟩) n c) n (pre ++ (a0 :: a1 :: a2 :: a3 :: a4 :: a5 :: a6 :: rest))) (hp : pre.length = i) :
    w.cell? ⟨g, i, none⟩ = some a0 ∧ w.cell? ⟨g, i + 1, none⟩ = some a1 ∧ w.cell? ⟨g, i + 2, none⟩ = some a2 ∧ w.cell? ⟨g, i + 3, none⟩ = some a3 ∧ w.cell? ⟨g, i + 4, none⟩ = some a4 ∧ w.cell? ⟨g, i + 5, none⟩ = some a5 ∧ w.cell? ⟨g, i + 6, none⟩ = some a6 := by
  subst hp
  have hr := rowB_of h
  have q : ∀ (j : Nat) (u : Value), (a0 :: a1 :: a2 :: a3 :: a4 :: a5 :: a6 :: rest)[j]? = some u → w.cell? ⟨g, pre.length + j, none⟩ = some u := fun j u hj => hr.cell _ _ (by rw [List.getElem?_append_right (by omega)]; simpa using hj)
  exact ⟨q 0 _ rfl, q 1 _ rfl, q 2 _ rfl, q 3 _ rfl, q 4 _ rfl, q 5 _ rfl, q 6 _ rfl⟩
theorem own_fr {w : World} {S s g n c : Nat} {e : TypeId} {xs : List Value} (h : w.ownsRow S e s (.slice (some ⟨g, 0, none⟩) n c) n xs) (j : Nat) : w.frozen? ⟨g, j, none⟩ = false := by
  obtain ⟨cur, hg, _⟩ := own_blk h
  simp [World.frozen?, hg]
/-- between two rows -/
structure CI (S : Nat) (w : World) (Fp : Nat → Prop) (st : List Pr) (G : World → Prop) : Prop where
  nd : (st.map Pr.g).Nodup
  pend : ∀ r ∈ st, Pend S w r
  fp : FpOk S w Fp st
  wo : Wo S w Fp st G
  ok : ∀ r ∈ st, ∀ p ∈ partsL r.l, p.ok1
/-- within a row: i of its terms are done -/
structure CJ (S : Nat) (w : World) (Fp : Nat → Prop) (st : List Pr) (g c : Nat) (l : List Tm) (i : Nat) (pre xs : List Value) (G : World → Prop) : Prop where
  nd : (g :: st.map Pr.g).Nodup
  pend : ∀ r ∈ st, Pend S w r
  fp : FpOk S w Fp st
  fpg : ¬ Fp g
  wi : Wi S w Fp st g pre (l.drop i) G
  ok : ∀ r ∈ st, ∀ p ∈ partsL r.l, p.ok1
  okl : ∀ p ∈ partsL (l.drop i), p.ok1
  pl : pre.length = i * 7
  rc : RC (fun k => k < S) w (l.drop i) xs
  own : w.ownsRow S 29 7 (.slice (some ⟨g, 0, none⟩) l.length c) l.length (pre ++ xs)
  gS : S ≤ g
theorem CI.kept {S : Nat} {w w' : World} {Fp : Nat → Prop} {st : List Pr} {G : World → Prop} (h : CI S w Fp st G) {M : Nat → Prop} (hk : Kept M w w') (hM : ∀ k, M k → S ≤ k) (hr : ∀ r ∈ st, ¬ M r.g) (hf : ∀ k, Fp k → ¬ M k) (hS : S ≤ w.heap.size) : CI S w' Fp st G := by
  have hFp : ∀ k, Fp k → w'.heap[k]? = w.heap[k]? := fun k hk' => by
    obtain ⟨_, ⟨c, t, hc, _⟩, _⟩ := h.fp k hk'
    exact hk.block k (Array.getElem?_eq_some_iff.1 hc).1 (hf k hk')
  refine ⟨h.nd, fun r hr' => (h.pend r hr').kept hk hM (hr r hr') hS, fun k hk' => ?_, h.wo.move hFp, h.ok⟩
  obtain ⟨h1, ⟨c, t, hc, ht⟩, h3⟩ := h.fp k hk'
  exact ⟨h1, ⟨c, t, (hFp k hk').trans hc, ht⟩, h3⟩
theorem CJ.kept {S : Nat} {w w' : World} {Fp : Nat → Prop} {st : List Pr} {g c : Nat} {l : List Tm} {i : Nat} {pre xs : List Value} {G : World → Prop} (h : CJ S w Fp st g c l i pre xs G) {M : Nat → Prop} (hk : Kept M w w') (hM : ∀ k, M k → S ≤ k) (hr : ∀ r ∈ st, ¬ M r.g) (hf : ∀ k, Fp k → ¬ M k) (hg : ¬ M g) (hS : S ≤ w.heap.size) : CJ S w' Fp st g c l i pre xs G := by
  have hFp : ∀ k, Fp k → w'.heap[k]? = w.heap[k]? := fun k hk' => by
    obtain ⟨_, ⟨c, t, hc, _⟩, _⟩ := h.fp k hk'
    exact hk.block k (Array.getElem?_eq_some_iff.1 hc).1 (hf k hk')
  refine ⟨h.nd, fun r hr' => (h.pend r hr').kept hk hM (hr r hr') hS, fun k hk' => ?_, h.fpg, h.wi.move hFp, h.ok, h.okl, h.pl, h.rc.zs (fun k hk' => hk.block k (by omega) (fun hm => by have := hM k hm; omega)), ?_, h.gS⟩
  · obtain ⟨h1, ⟨c, t, hc, ht⟩, h3⟩ := h.fp k hk'
    exact ⟨h1, ⟨c, t, (hFp k hk').trans hc, ht⟩, h3⟩
  · have ho := h.own
    refine ⟨ho.1, ?_⟩
    rcases ho.2 with hn | ⟨g', cap', cur', hv, hB, hg', rest⟩
    · exact .inl hn
    · have : g' = g := by simp at hv; exact hv.1.symm
      subst this
      exact .inr ⟨g', cap', cur', hv, hB, (hk.block g' (Array.getElem?_eq_some_iff.1 hg').1 hg).trans hg', rest⟩
theorem own_same {w w' : World} {B s : Nat} {e : TypeId} {g n c : Nat} {xs : List Value} (h : w.ownsRow B e s (.slice (some ⟨g, 0, none⟩) n c) n xs) (hb : w'.heap[g]? = w.heap[g]?) : w'.ownsRow B e s (.slice (some ⟨g, 0, none⟩) n c) n xs := by
  obtain ⟨h1, ⟨h2, _⟩ | ⟨g', cap', cur, h2, hB, hg, rest⟩⟩ := h
  · simp at h2
  · have : g' = g := by simp at h2; exact h2.1.symm
    subst this
    exact ⟨h1, .inr ⟨g', cap', cur, h2, hB, hb.trans hg, rest⟩⟩
theorem isAt_blk {w : World} {B s : Nat} {e : TypeId} {o : Option Addr} {n c k : Nat} {xs : List Value} (h : w.ownsRow B e s (.slice o n c) n xs) (hk : isAt o k) : B ≤ k ∧ ∃ cur, w.heap[k]? = some (.cells cur e (0, 0)) := by
  have hk' : o = some ⟨k, 0, none⟩ := hk
  subst hk'
  obtain ⟨cur, hg, hB, _⟩ := own_blk h
  exact ⟨hB, cur, hg⟩
theorem cj_step {S B : Nat} {w wF : World} {Fp : Nat → Prop} {st : List Pr} {g c i : Nat} {l : List Tm} {t : Tm} {pre ys : List Value} {a0 a1 a2 a3 a4 a5 a6 : Value} {G : World → Prop} {k : Int} {neg : Bool} {nm : ByteArray} {n : Int} {oD oL oB : Option Addr} {lD cD lL cL lB cB : Nat} {M : Nat → Prop}
    (hJ : CJ S w Fp st g c l i pre (a0 :: a1 :: a2 :: a3 :: a4 :: a5 :: a6 :: ys) G) (hd : l.drop i = t :: l.drop (i + 1)) (hDt : Dt S B w (prT t) (tmV k neg (.slice oD lD cD) nm n (.slice oL lL cL) (.slice oB lB cB))) (hSB : S ≤ B) (hgB : g < B) (hrB : ∀ r ∈ st, r.g < B) (hfB : ∀ k, Fp k → k < B)
    (hk : Kept M w wF) (hM : ∀ k, M k → S ≤ k ∧ k < B) (hMr : ∀ r ∈ st, ¬ M r.g) (hMf : ∀ k, Fp k → ¬ M k) (hS : S ≤ w.heap.size)
    (hown : wF.ownsRow S 29 7 (.slice (some ⟨g, 0, none⟩) l.length c) l.length ((pre ++ [.int .i64 k, .bool neg, .slice oD lD cD, .string nm, .int .i64 n, .slice oL lL cL, .slice oB lB cB]) ++ ys)) :
    lL = t.kids.length ∧ (t.kids = [] → CJ S wF (fun k => Fp k ∨ isAt oD k ∨ isAt oB k) st g c l (i + 1) (pre ++ [.int .i64 k, .bool neg, .slice oD lD cD, .string nm, .int .i64 n, .slice oL lL cL, .slice oB lB cB]) ys G) ∧
    (t.kids ≠ [] → ∃ gL, oL = some ⟨gL, 0, none⟩ ∧ CJ S wF (fun k => Fp k ∨ isAt oD k ∨ isAt oB k) (⟨gL, cL, t.kids⟩ :: st) g c l (i + 1) (pre ++ [.int .i64 k, .bool neg, .slice oD lD cD, .string nm, .int .i64 n, .slice oL lL cL, .slice oB lB cB]) ys G) := by
  have hF : ∀ k, Fp k → wF.heap[k]? = w.heap[k]? := fun k hk' => by
    obtain ⟨_, ⟨c, t, hc, _⟩, _⟩ := hJ.fp k hk'
    exact hk.block k (Array.getElem?_eq_some_iff.1 hc).1 (hMf k hk')
  have hN : ∀ k, B ≤ k → k < w.heap.size → wF.heap[k]? = w.heap[k]? := fun k h1 h2 => hk.block k h2 (fun hm => by have := (hM k hm).2; omega)
  have hwi := hJ.wi
  rw [hd] at hwi
  obtain ⟨s1, s2, s3⟩ := wi_step (w3 := wF) hwi hSB hDt hF hN
  have hDD : (∀ k, isAt oD k → B ≤ k ∧ ∃ cur, w.heap[k]? = some (.cells cur 52 (0, 0))) ∧ (∀ k, isAt oB k → B ≤ k ∧ ∃ cur, w.heap[k]? = some (.cells cur 5 (0, 0))) := by
    cases hP : prT t with | mk pk pneg pd pnm pn pl pb =>
    rw [hP] at hDt
    unfold Dt at hDt
    obtain ⟨D, L, Bv, xs, e, hD, hL, hRC, hBv, hLm⟩ := hDt
    simp only [Value.agg.injEq, Array.mk.injEq, List.cons.injEq, Value.int.injEq, Value.bool.injEq, Value.string.injEq, and_true, true_and] at e
    obtain ⟨rfl, rfl, rfl, rfl, rfl, rfl, rfl⟩ := e
    obtain ⟨_, _, e1, _⟩ := own_sl hD
    obtain ⟨_, _, e3, _⟩ := own_sl hBv
    simp only [Value.slice.injEq] at e1 e3
    obtain ⟨rfl, rfl, rfl⟩ := e1
    obtain ⟨rfl, rfl, rfl⟩ := e3
    exact ⟨fun k hk => isAt_blk hD hk, fun k hk => isAt_blk hBv hk⟩
  have hrc := hJ.rc
  rw [hd] at hrc
  obtain ⟨_, _, _, _, _, _, _, _, _, _, _, _, _, zs, _, ez, hRCz⟩ := hrc
  simp only [List.cons.injEq] at ez
  obtain ⟨_, _, _, _, _, _, _, rfl⟩ := ez
  have hRF : RC (fun k => k < S) wF (l.drop (i + 1)) ys := hRCz.zs (fun k hk' => hk.block k (by omega) (fun hm => by have := (hM k hm).1; omega))
  have hpend : ∀ r ∈ st, Pend S wF r := fun r hr => (hJ.pend r hr).kept hk (fun k hm => (hM k hm).1) (hMr r hr) hS
  have hpl : (pre ++ [.int .i64 k, .bool neg, .slice oD lD cD, .string nm, .int .i64 n, .slice oL lL cL, .slice oB lB cB] : List Value).length = (i + 1) * 7 := by
    rw [List.length_append, hJ.pl]; simp only [List.length_cons, List.length_nil]; omega
  have hokl := hJ.okl
  rw [hd] at hokl
  have hok2 : ∀ p ∈ partsL (l.drop (i + 1)), p.ok1 := fun p hp => hokl p (by simp [partsL, hp])
  have hfp : ∀ k, (Fp k ∨ isAt oD k ∨ isAt oB k) → S ≤ k ∧ (∃ c t, wF.heap[k]? = some (.cells c t (0, 0)) ∧ t ≠ 23 ∧ (¬ Fp k → t ≠ 29)) ∧ ∀ r ∈ st, r.g ≠ k := by
    intro k hk'
    rcases hk' with h | h | h
    · obtain ⟨h1, ⟨c, t, hc, ht⟩, h3⟩ := hJ.fp k h
      exact ⟨h1, ⟨c, t, (hF k h).trans hc, ht, fun hn => absurd h hn⟩, h3⟩
    · obtain ⟨h1, cur, hc⟩ := hDD.1 k h
      exact ⟨by omega, ⟨cur, 52, (hN k h1 (Array.getElem?_eq_some_iff.1 hc).1).trans hc, by decide, fun _ => by decide⟩, fun r hr => by have := hrB r hr; omega⟩
    · obtain ⟨h1, cur, hc⟩ := hDD.2 k h
      exact ⟨by omega, ⟨cur, 5, (hN k h1 (Array.getElem?_eq_some_iff.1 hc).1).trans hc, by decide, fun _ => by decide⟩, fun r hr => by have := hrB r hr; omega⟩
  have hfg : ¬ (Fp g ∨ isAt oD g ∨ isAt oB g) := by
    rintro (h | h | h)
    · exact hJ.fpg h
    · have := (hDD.1 g h).1; omega
    · have := (hDD.2 g h).1; omega
  refine ⟨s1, fun h0 => ?_, fun h0 => ?_⟩
  · refine ⟨hJ.nd, hpend, fun k hk' => ?_, hfg, s2 h0, hJ.ok, hok2, hpl, hRF, hown, hJ.gS⟩
    obtain ⟨h1, ⟨c, t, hc, ht, _⟩, h3⟩ := hfp k hk'
    exact ⟨h1, ⟨c, t, hc, ht⟩, h3⟩
  · obtain ⟨gL, hoL, hBL, ⟨xs, hRx, hOx⟩, hW⟩ := s3 h0
    subst hoL
    rw [s1] at hOx
    obtain ⟨cur, hgL, _, _, _⟩ := own_blk hOx
    refine ⟨gL, rfl, ?_, fun r hr => ?_, fun k hk' => ?_, hfg, hW, fun r hr => ?_, hok2, hpl, hRF, hown, hJ.gS⟩
    · have hnd := hJ.nd
      simp only [List.nodup_cons, List.map_cons, List.mem_cons, not_or] at hnd ⊢
      refine ⟨⟨by omega, hnd.1⟩, ?_, hnd.2⟩
      intro hm
      obtain ⟨r, hr, e⟩ := List.mem_map.1 hm
      have := hrB r hr
      omega
    · rcases List.mem_cons.1 hr with rfl | hr
      · refine Pend.kept (w := w) ⟨by show S ≤ gL; omega, xs, hRx, ?_⟩ hk (fun k hm => (hM k hm).1) (fun hm => by have := (hM _ hm).2; simp only at this; omega) hS
        exact own_mono hOx hSB
      · exact hpend r hr
    · obtain ⟨h1, ⟨c, t', hc, ht, ht2⟩, h3⟩ := hfp k hk'
      refine ⟨h1, ⟨c, t', hc, ht⟩, fun r hr => ?_⟩
      rcases List.mem_cons.1 hr with rfl | hr
      · intro e
        simp only at e
        subst e
        have hn : ¬ Fp gL := fun hf => by have := hfB gL hf; omega
        have hc2 := (hN gL hBL (Array.getElem?_eq_some_iff.1 hgL).1).trans hgL
        rw [hc] at hc2
        simp only [Option.some.injEq, Obj.cells.injEq] at hc2
        exact ht2 hn hc2.2.1
      · exact h3 r hr
    · rcases List.mem_cons.1 hr with rfl | hr
      · intro p hp
        exact hokl p (by simp only [partsL, parts_eq]; simp only at hp; simp [hp])
      · exact hJ.ok r hr
theorem Dt.form {S B : Nat} {w : World} {T : Tm} {v : Value} (h : Dt S B w T v) : ∃ k neg od ld cd nm n ol ll cl ob lb cb, v = tmV k neg (.slice od ld cd) nm n (.slice ol ll cl) (.slice ob lb cb) := by
  cases T with | mk k neg d nm n l b =>
  unfold Dt at h
  obtain ⟨D, L, Bv, xs, rfl, hD, hL, _, hB, _⟩ := h
  obtain ⟨_, _, rfl, _⟩ := own_sl hD
  obtain ⟨_, _, rfl, _⟩ := own_sl hL
  obtain ⟨_, _, rfl, _⟩ := own_sl hB
  exact ⟨_, _, _, _, _, _, _, _, _, _, _, _, _, rfl⟩
theorem only_put7 (w : World) (g i : Nat) (b0 b1 b2 b3 b4 b5 b6 : Value) : Only g w (((((((w.setCell ⟨g, i, none⟩ b0).setCell ⟨g, i + 1, none⟩ b1).setCell ⟨g, i + 2, none⟩ b2).setCell ⟨g, i + 3, none⟩ b3).setCell ⟨g, i + 4, none⟩ b4).setCell ⟨g, i + 5, none⟩ b5).setCell ⟨g, i + 6, none⟩ b6) :=
  ((((((only_set w g i b0).setCell _ b1).setCell _ b2).setCell _ b3).setCell _ b4).setCell _ b5).setCell _ b6
/-- the waiting rows lie in a block of another kind -/
theorem wait_ne {w : World} {S : Nat} {v : Value} {m : Nat} {xs : List Value} (h : w.ownsRow S 23 1 v m xs) {k : Nat} {c : Array Value} {t : TypeId} (hk : w.heap[k]? = some (.cells c t (0, 0))) (ht : t ≠ 23) : ¬ v.ownBlock = some k := by
  intro e
  obtain ⟨h1, ⟨h2, h3⟩ | ⟨g', cap', cur, h2, hB, hg, rest⟩⟩ := h
  · subst h2; simp [Value.ownBlock] at e
  · subst h2
    simp [Value.ownBlock] at e
    subst e
    rw [hg] at hk
    simp only [Option.some.injEq, Obj.cells.injEq] at hk
    exact ht hk.2.1.symm
end Go.Proofs.YtddbndachoofoaaDoor
