/- A copy under way: rows that wait, what is done. -/
import Derived.Test.YtddbndachoofoaaDoorTermDet2
namespace Go.Proofs.YtddbndachoofoaaDoor
open Go.ChangeShapes Go.WideShapes Go.ChangeAt Go.RowKit Go.Shelf
set_option linter.unusedSimpArgs false
set_option linter.unusedVariables false
mutual
/-- a copy: each part with what its kind uses -/
def cpT : Tm → Tm
  | .mk k neg d nm n l b => if k = 4 ∨ k = 6 then .mk k false [] noS 0 (cpL l) [] else prT (.mk k neg d nm n [] b)
def cpL : List Tm → List Tm
  | [] => []
  | t :: l => cpT t :: cpL l
end
theorem cpL_len : ∀ l : List Tm, (cpL l).length = l.length
  | [] => rfl
  | t :: l => by simp only [cpL, List.length_cons, cpL_len l]
theorem cpT_eq {T : Tm} {k : Int} {neg : Bool} {d : List Nat} {nm : ByteArray} {n : Int} {l : List Tm} {b : List Nat} (h : prT T = .mk k neg d nm n l b) : cpT T = .mk k neg d nm n (cpL l) b ∧ l = T.kids := by
  cases T with | mk k' neg' d' nm' n' l' b' =>
  unfold cpT Tm.kids
  by_cases h4 : k' = 4
  · subst h4
    simp only [prT] at h
    simp at h
    obtain ⟨rfl, rfl, rfl, rfl, rfl, rfl, rfl⟩ := h
    simp
  by_cases h6 : k' = 6
  · subst h6
    simp only [prT] at h
    simp at h
    obtain ⟨rfl, rfl, rfl, rfl, rfl, rfl, rfl⟩ := h
    simp
  simp only [h4, h6, or_self, if_false]
  have e : prT (.mk k' neg' d' nm' n' l' b') = prT (.mk k' neg' d' nm' n' [] b') := by simp only [prT, h4, h6, if_false]
  rw [e] at h
  have hl : l = [] := by
    unfold prT at h
    by_cases e0 : k' = 0
    · subst e0; simp at h; exact h.2.2.2.2.2.1
    by_cases e1 : k' = 1
    · subst e1; simp at h; exact h.2.2.2.2.2.1
    by_cases e2 : k' = 2
    · subst e2; simp at h; exact h.2.2.2.2.2.1
    by_cases e3 : k' = 3
    · subst e3; simp at h; exact h.2.2.2.2.2.1
    by_cases e7 : k' = 7
    · subst e7; simp at h; exact h.2.2.2.2.2.1
    simp only [e0, e1, e2, e3, h4, h6, e7, if_false] at h
    simp at h; exact h.2.2.2.2.2.1
  subst hl
  exact ⟨by rw [h]; simp [cpL], rfl⟩
/-- new memory that may be written -/
def Zw (S : Nat) (w : World) : Nat → Prop := fun k => S ≤ k ∧ ∀ j, w.frozen? ⟨k, j, none⟩ = false
theorem zw_of {S : Nat} {w : World} {k : Nat} {c : Array Value} {t : TypeId} (hS : S ≤ k) (h : w.heap[k]? = some (.cells c t (0, 0))) : Zw S w k := ⟨hS, fun j => by simp [World.frozen?, h]⟩
def RowB (w : World) (g : Nat) (ys : List Value) : Prop := ∃ cur, w.heap[g]? = some (.cells cur 29 (0, 0)) ∧ cur.toList.take ys.length = ys
theorem RowB.cell {w : World} {g : Nat} {ys : List Value} (h : RowB w g ys) (j : Nat) (u : Value) (hj : ys[j]? = some u) : w.cell? ⟨g, j, none⟩ = some u := by
  obtain ⟨cur, hg, ht⟩ := h
  have hc : w.cell? ⟨g, j, none⟩ = cur[j]? := by simp [World.cell?, hg]
  rw [hc, ← Array.getElem?_toList]
  have hjl : j < ys.length := (List.getElem?_eq_some_iff.1 hj).1
  have := congrArg (·[j]?) ht
  simp only [List.getElem?_take] at this
  rw [if_pos hjl] at this
  rw [this, hj]
structure Pr where
  g : Nat
  c : Nat
  l : List Tm
def Pr.val (r : Pr) : Value := .slice (some ⟨r.g, 0, none⟩) r.l.length r.c
def Done (S : Nat) (w : World) (r : Pr) : Prop := ∃ ys, S ≤ r.g ∧ RC (Zw S w) w (cpL r.l) ys ∧ RowB w r.g ys
theorem Done.tr {S : Nat} {w : World} {r : Pr} (h : Done S w r) : TR (Zw S w) w (cpL r.l) (some ⟨r.g, 0, none⟩) := by
  obtain ⟨ys, hS, h1, h2⟩ := h
  refine h1.tr (fun _ => ?_) (fun j u hj => ?_)
  · obtain ⟨cur, hg, _⟩ := h2
    exact zw_of hS hg
  · rw [addr_add, Nat.zero_add]; exact h2.cell j u hj
def Pend (S : Nat) (w : World) (r : Pr) : Prop := S ≤ r.g ∧ ∃ xs, RC (fun k => k < S) w r.l xs ∧ w.ownsRow S 29 7 r.val r.l.length xs
theorem own_blk {w : World} {B s : Nat} {e : TypeId} {g n c : Nat} {xs : List Value} (h : w.ownsRow B e s (.slice (some ⟨g, 0, none⟩) n c) n xs) : ∃ cur, w.heap[g]? = some (.cells cur e (0, 0)) ∧ B ≤ g ∧ cur.toList.take xs.length = xs ∧ n ≤ c := by
  obtain ⟨h1, ⟨h2, _⟩ | ⟨g', cap', cur, h2, hB, hg, hn, hm, hs, ht⟩⟩ := h
  · simp at h2
  · simp only [Value.slice.injEq, Option.some.injEq, Addr.mk.injEq, and_true, true_and] at h2
    obtain ⟨rfl, rfl⟩ := h2
    exact ⟨cur, hg, hB, by rw [h1]; exact ht, hn⟩
theorem Pend.blk {S : Nat} {w : World} {r : Pr} (h : Pend S w r) : ∃ cur, w.heap[r.g]? = some (.cells cur 29 (0, 0)) := by
  obtain ⟨_, xs, _, h2⟩ := h
  obtain ⟨cur, hg, _⟩ := own_blk h2
  exact ⟨cur, hg⟩
theorem Pend.kept {S : Nat} {M : Nat → Prop} {w w' : World} {r : Pr} (h : Pend S w r) (hk : Kept M w w') (hM : ∀ k, M k → S ≤ k) (hr : ¬ M r.g) (hS : S ≤ w.heap.size) : Pend S w' r := by
  obtain ⟨cur, hg⟩ := h.blk
  obtain ⟨h1, xs, h2, h3⟩ := h
  refine ⟨h1, xs, h2.zs (fun k hk' => hk.block k (by omega) (fun hm => by have := hM k hm; omega)), ?_⟩
  refine ⟨h3.1, ?_⟩
  rcases h3.2 with hn | ⟨g', cap', cur', hv, hB, hg', rest⟩
  · exact .inl hn
  · have : g' = r.g := by unfold Pr.val at hv; simp at hv; exact hv.1.symm
    subst this
    exact .inr ⟨r.g, cap', cur', hv, hB, (hk.block r.g (Array.getElem?_eq_some_iff.1 hg').1 hr).trans hg', rest⟩
def FpOk (S : Nat) (w : World) (Fp : Nat → Prop) (st : List Pr) : Prop := ∀ k, Fp k → S ≤ k ∧ (∃ c t, w.heap[k]? = some (.cells c t (0, 0)) ∧ t ≠ 23) ∧ ∀ r ∈ st, r.g ≠ k
def mu : List Pr → Nat
  | [] => 0
  | r :: st => (partsL r.l).length + 1 + mu st
theorem mu_len : ∀ st : List Pr, st.length ≤ mu st
  | [] => Nat.le_refl _
  | r :: st => by have := mu_len st; simp only [mu, List.length_cons]; omega
/-- what one's own cells say in another world -/
theorem own_ls {S B : Nat} {w w' : World} {e : TypeId} {o : Option Addr} {n c : Nat} {xs : List Value} (h : w.ownsRow B e 1 (.slice o n c) n xs) (hS : S ≤ B) (hk : ∀ g, o = some ⟨g, 0, none⟩ → w'.heap[g]? = w.heap[g]?) : Ls (Zw S w') o xs w' := by
  intro j u hj
  obtain ⟨h1, ⟨h2, h3⟩ | ⟨g', cap', cur, h2, hB, hg, hn, hm, hs, ht⟩⟩ := h
  · subst h3; simp at h1; subst h1; simp at hj
  · simp only [Value.slice.injEq, true_and] at h2
    obtain ⟨rfl, rfl⟩ := h2
    have hg' := (hk g' rfl).trans hg
    refine ⟨_, rfl, zw_of (show S ≤ g' by omega) hg', ?_⟩
    rw [addr_add, Nat.zero_add]
    have hc : w'.cell? ⟨g', j, none⟩ = cur[j]? := by simp [World.cell?, hg']
    rw [hc, ← Array.getElem?_toList]
    have hjl : j < xs.length := (List.getElem?_eq_some_iff.1 hj).1
    have := congrArg (·[j]?) ht
    simp only [List.getElem?_take, ← h1] at this
    rw [if_pos hjl] at this
    rw [this, hj]
/-- seven cells of a row stored -/
theorem own_put7 {w : World} {S g n c i : Nat} {pre rest : List Value} {a0 a1 a2 a3 a4 a5 a6 b0 b1 b2 b3 b4 b5 b6 : Value} (h : w.ownsRow S 29 7 (.slice (some ⟨g, 0, none⟩) n c) n (pre ++ (a0 :: a1 :: a2 :: a3 :: a4 :: a5 :: a6 :: rest))) (hp : pre.length = i) :
    (((((((w.setCell ⟨g, i, none⟩ b0).setCell ⟨g, i + 1, none⟩ b1).setCell ⟨g, i + 2, none⟩ b2).setCell ⟨g, i + 3, none⟩ b3).setCell ⟨g, i + 4, none⟩ b4).setCell ⟨g, i + 5, none⟩ b5).setCell ⟨g, i + 6, none⟩ b6).ownsRow S 29 7 (.slice (some ⟨g, 0, none⟩) n c) n (pre ++ (b0 :: b1 :: b2 :: b3 :: b4 :: b5 :: b6 :: rest)) := by
  subst hp
  have h0 := (h.stored pre.length b0).1
  have h1 := (h0.stored (pre.length + 1) b1).1
  have h2 := (h1.stored (pre.length + 2) b2).1
  have h3 := (h2.stored (pre.length + 3) b3).1
  have h4 := (h3.stored (pre.length + 4) b4).1
  have h5 := (h4.stored (pre.length + 5) b5).1
  have h6 := (h5.stored (pre.length + 6) b6).1
  simpa [List.set_append_right] using h6
/-- if all that waits is done, and the row under way too, the whole is -/
def Wi (S : Nat) (w : World) (Fp : Nat → Prop) (st : List Pr) (g : Nat) (pre : List Value) (l : List Tm) (G : World → Prop) : Prop :=
  ∀ w', (∀ k, Fp k → w'.heap[k]? = w.heap[k]?) → (∀ r ∈ st, Done S w' r) → ∀ ys, RC (Zw S w') w' (cpL l) ys → RowB w' g (pre ++ ys) → G w'
def Wo (S : Nat) (w : World) (Fp : Nat → Prop) (st : List Pr) (G : World → Prop) : Prop :=
  ∀ w', (∀ k, Fp k → w'.heap[k]? = w.heap[k]?) → (∀ r ∈ st, Done S w' r) → G w'
theorem Wi.move {S : Nat} {w w2 : World} {Fp : Nat → Prop} {st : List Pr} {g : Nat} {pre : List Value} {l : List Tm} {G : World → Prop} (h : Wi S w Fp st g pre l G) (hF : ∀ k, Fp k → w2.heap[k]? = w.heap[k]?) : Wi S w2 Fp st g pre l G :=
  fun w' h1 h2 ys h3 h4 => h w' (fun k hk => (h1 k hk).trans (hF k hk)) h2 ys h3 h4
theorem Wo.move {S : Nat} {w w2 : World} {Fp : Nat → Prop} {st : List Pr} {G : World → Prop} (h : Wo S w Fp st G) (hF : ∀ k, Fp k → w2.heap[k]? = w.heap[k]?) : Wo S w2 Fp st G :=
  fun w' h1 h2 => h w' (fun k hk => (h1 k hk).trans (hF k hk)) h2
theorem Wo.pop {S : Nat} {w : World} {Fp : Nat → Prop} {r : Pr} {st : List Pr} {G : World → Prop} (h : Wo S w Fp (r :: st) G) (hS : S ≤ r.g) : Wi S w Fp st r.g [] r.l G :=
  fun w' h1 h2 ys h3 h4 => h w' h1 (fun q hq => by
    rcases List.mem_cons.1 hq with rfl | hq
    · exact ⟨ys, hS, h3, h4⟩
    · exact h2 q hq)
theorem Wi.fin {S : Nat} {w : World} {Fp : Nat → Prop} {st : List Pr} {g : Nat} {pre : List Value} {G : World → Prop} (h : Wi S w Fp st g pre [] G) (hr : RowB w g pre) : Wo S w (fun k => Fp k ∨ k = g) st G :=
  fun w' h1 h2 => h w' (fun k hk => h1 k (.inl hk)) h2 [] rfl (by
    obtain ⟨cur, hg, ht⟩ := hr
    rw [List.append_nil]
    exact ⟨cur, (h1 g (.inr rfl)).trans hg, ht⟩)
def isAt (o : Option Addr) (k : Nat) : Prop := o = some ⟨k, 0, none⟩
theorem wi_step {S B : Nat} {w w2 w3 : World} {Fp : Nat → Prop} {st : List Pr} {g : Nat} {pre : List Value} {t : Tm} {l' : List Tm} {G : World → Prop} {k : Int} {neg : Bool} {nm : ByteArray} {n : Int} {oD oL oB : Option Addr} {lD cD lL cL lB cB : Nat}
    (hW : Wi S w Fp st g pre (t :: l') G) (hB : S ≤ B) (hDt : Dt S B w2 (prT t) (tmV k neg (.slice oD lD cD) nm n (.slice oL lL cL) (.slice oB lB cB)))
    (hF : ∀ k, Fp k → w3.heap[k]? = w.heap[k]?) (hN : ∀ k, B ≤ k → k < w2.heap.size → w3.heap[k]? = w2.heap[k]?) :
    lL = t.kids.length ∧ (t.kids = [] → Wi S w3 (fun k => Fp k ∨ isAt oD k ∨ isAt oB k) st g (pre ++ [.int .i64 k, .bool neg, .slice oD lD cD, .string nm, .int .i64 n, .slice oL lL cL, .slice oB lB cB]) l' G) ∧
    (t.kids ≠ [] → ∃ gL, oL = some ⟨gL, 0, none⟩ ∧ B ≤ gL ∧ (∃ xs, RC (fun k => k < S) w2 t.kids xs ∧ w2.ownsRow B 29 7 (.slice oL lL cL) t.kids.length xs) ∧ Wi S w3 (fun k => Fp k ∨ isAt oD k ∨ isAt oB k) (⟨gL, cL, t.kids⟩ :: st) g (pre ++ [.int .i64 k, .bool neg, .slice oD lD cD, .string nm, .int .i64 n, .slice oL lL cL, .slice oB lB cB]) l' G) := by
  obtain ⟨P, hP⟩ : ∃ P, prT t = P := ⟨_, rfl⟩
  rw [hP] at hDt
  cases P with | mk pk pneg pd pnm pn pl pb =>
  obtain ⟨hc, hkk⟩ := cpT_eq hP
  unfold Dt at hDt
  obtain ⟨D, L, Bv, xs, e, hD, hL, hRC, hBv, hLm, hLb⟩ := hDt
  simp only [Value.agg.injEq, Array.mk.injEq, List.cons.injEq, Value.int.injEq, Value.bool.injEq, Value.string.injEq, and_true, true_and] at e
  obtain ⟨rfl, rfl, rfl, rfl, rfl, rfl, rfl⟩ := e
  obtain ⟨_, _, e1, hcD⟩ := own_sl hD
  obtain ⟨_, _, e2, hcL⟩ := own_sl hL
  obtain ⟨_, _, e3, hcB⟩ := own_sl hBv
  simp only [Value.slice.injEq] at e1 e2 e3
  obtain ⟨rfl, rfl, rfl⟩ := e1
  obtain ⟨rfl, rfl, rfl⟩ := e2
  obtain ⟨rfl, rfl, rfl⟩ := e3
  subst hkk
  have fin : ∀ w', (∀ k, Fp k ∨ isAt oD k ∨ isAt oB k → w'.heap[k]? = w3.heap[k]?) → TR (Zw S w') w' (cpL t.kids) oL → TV (Zw S w') w' (cpT t) (tmV k neg (.slice oD pd.length cD) nm n (.slice oL t.kids.length cL) (.slice oB pb.length cB)) := by
    intro w' hFp hTR
    rw [hc]
    unfold TV
    refine ⟨oD, cD, oL, cL, oB, cB, by rw [cpL_len], own_ls hD hB (fun g' hg' => ?_), hcD, hLm, ⟨own_ls hBv hB (fun g' hg' => ?_), hLb⟩, hcB, by rw [cpL_len]; exact hcL, hTR⟩
    · subst hg'
      obtain ⟨cur, hq, hBg, _⟩ := own_blk hD
      exact (hFp g' (.inr (.inl rfl))).trans (hN g' hBg (Array.getElem?_eq_some_iff.1 hq).1)
    · subst hg'
      obtain ⟨cur, hq, hBg, _⟩ := own_blk hBv
      exact (hFp g' (.inr (.inr rfl))).trans (hN g' hBg (Array.getElem?_eq_some_iff.1 hq).1)
  refine ⟨rfl, fun h0 => ?_, fun h0 => ?_⟩
  · intro w' hFp hDone ys hR hRow
    refine hW w' (fun k hk => (hFp k (.inl hk)).trans (hF k hk)) hDone _ ⟨_, _, _, _, _, _, _, _, _, _, _, _, _, ys, fin w' hFp (by rw [h0]; unfold cpL TR; trivial), rfl, hR⟩ ?_
    simpa using hRow
  · obtain ⟨h1, ⟨h2, h3⟩ | ⟨gL, cap', cur, h2, hBg, hg, rest⟩⟩ := id hL
    · exact absurd (List.eq_nil_of_length_eq_zero h3) h0
    · simp only [Value.slice.injEq, true_and] at h2
      obtain ⟨rfl, rfl⟩ := h2
      refine ⟨gL, rfl, hBg, ⟨xs, hRC, hL⟩, ?_⟩
      intro w' hFp hDone ys hR hRow
      refine hW w' (fun k hk => (hFp k (.inl hk)).trans (hF k hk)) (fun r hr => hDone r (List.mem_cons_of_mem _ hr)) _ ⟨_, _, _, _, _, _, _, _, _, _, _, _, _, ys, fin w' hFp (hDone ⟨gL, cL, t.kids⟩ (by simp)).tr, rfl, hR⟩ ?_
      simpa using hRow
end Go.Proofs.YtddbndachoofoaaDoor
