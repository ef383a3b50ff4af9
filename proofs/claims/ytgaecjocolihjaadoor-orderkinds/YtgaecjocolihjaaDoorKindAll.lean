/- Texts of mine, one behind the other: KindOrd, KindM. -/
import Derived.Test.YtgaecjocolihjaaDoorCpyAll
namespace Go.Proofs.YtgaecjocolihjaaDoor
open Go.ChangeShapes Go.WideShapes Go.ChangeAt Go.ChangeMaps Go.RowKit Go.Shelf
set_option linter.unusedSimpArgs false
set_option linter.unusedVariables false
structure St_kd where
  l1 : Bool
  l3 : Bool
  l4 : Bool
  l6 : Bool
  l8 : Bool
  l9 : Bool
  l10 : Bool
  l11 : Bool
  x1 : Value
  x3 : Value
  x4 : Value
  x6 : Value
  x8 : Value
  x9 : Value
  x10 : Value
  x11 : Value
def St_kd.L (s : St_kd) : Array Bool := #[true, s.l1, true, s.l3, s.l4, true, s.l6, true, s.l8, s.l9, s.l10, s.l11, false, false]
def St_kd.n (s : St_kd) : Nat := (!s.l1).toNat + (!s.l3).toNat + (!s.l4).toNat + (!s.l6).toNat + (!s.l8).toNat + (!s.l9).toNat + (!s.l10).toNat + (!s.l11).toNat
def St_kd.ok (s : St_kd) : Bool := (!s.l3 || (s.l1)) && (!s.l4 || (s.l3)) && (!s.l8 || (s.l6 && s.l4)) && (!s.l9 || (s.l8))
theorem wpAnyH_kd {P : Program} {md : Region.Mode} {ops : Array Oper} {Q : Exit → Act → World → Prop} {S : World → Prop} (A : St_kd → Act) (R : St_kd → World → Prop)
    (hmem0 : (bAll fun l1 => bAll fun l3 => bAll fun l4 => bAll fun l6 => bAll fun l8 => bAll fun l9 => bAll fun l10 => bAll fun l11 => (l1 && l3 && l4 && l6 && l8 && l9 && l10 && l11) || !((!l3 || (l1)) && (!l4 || (l3)) && (!l8 || (l6 && l4)) && (!l9 || (l8))) || (!(Region.ready md ops #[true, l1, true, l3, l4, true, l6, true, l8, l9, l10, l11, false, false]).isEmpty && (Region.ready md ops #[true, l1, true, l3, l4, true, l6, true, l8, l9, l10, l11, false, false]).all fun i => (i == 1 && !l1) || (i == 3 && !l3 && l1) || (i == 4 && !l4 && l3) || (i == 6 && !l6) || (i == 8 && !l8 && l6 && l4) || (i == 9 && !l9 && l8) || (i == 10 && !l10) || (i == 11 && !l11))) = true)
    (hord : ∀ s w, R s w → s.ok = true)
    (h1 : ∀ s w, R s w → s.l1 = false → wpOp P ops Q 1 (fun a' w' => ∃ x, a' = A { s with l1 := true, x1 := x } ∧ R { s with l1 := true, x1 := x } w' ∧ S w') (A s) w)
    (h3 : ∀ s w, R s w → s.l3 = false → s.l1 = true → wpOp P ops Q 3 (fun a' w' => ∃ x, a' = A { s with l3 := true, x3 := x } ∧ R { s with l3 := true, x3 := x } w' ∧ S w') (A s) w)
    (h4 : ∀ s w, R s w → s.l4 = false → s.l3 = true → wpOp P ops Q 4 (fun a' w' => ∃ x, a' = A { s with l4 := true, x4 := x } ∧ R { s with l4 := true, x4 := x } w' ∧ S w') (A s) w)
    (h6 : ∀ s w, R s w → s.l6 = false → wpOp P ops Q 6 (fun a' w' => ∃ x, a' = A { s with l6 := true, x6 := x } ∧ R { s with l6 := true, x6 := x } w' ∧ S w') (A s) w)
    (h8 : ∀ s w, R s w → s.l8 = false → s.l6 = true → s.l4 = true → wpOp P ops Q 8 (fun a' w' => ∃ x, a' = A { s with l8 := true, x8 := x } ∧ R { s with l8 := true, x8 := x } w' ∧ S w') (A s) w)
    (h9 : ∀ s w, R s w → s.l9 = false → s.l8 = true → wpOp P ops Q 9 (fun a' w' => ∃ x, a' = A { s with l9 := true, x9 := x } ∧ R { s with l9 := true, x9 := x } w' ∧ S w') (A s) w)
    (h10 : ∀ s w, R s w → s.l10 = false → wpOp P ops Q 10 (fun a' w' => ∃ x, a' = A { s with l10 := true, x10 := x } ∧ R { s with l10 := true, x10 := x } w' ∧ S w') (A s) w)
    (h11 : ∀ s w, R s w → s.l11 = false → wpOp P ops Q 11 (fun a' w' => ∃ x, a' = A { s with l11 := true, x11 := x } ∧ R { s with l11 := true, x11 := x } w' ∧ S w') (A s) w)
    (hdone : ∀ (x1 x3 x4 x6 x8 x9 x10 x11 : Value) w, R ⟨true, true, true, true, true, true, true, true, x1, x3, x4, x6, x8, x9, x10, x11⟩ w → wpAnyH P md ops Q S 2 #[true, true, true, true, true, true, true, true, true, true, true, true, false, false] (A ⟨true, true, true, true, true, true, true, true, x1, x3, x4, x6, x8, x9, x10, x11⟩) w)
    (w : World) (a : Act) (x1 x3 x4 x6 x8 x9 x10 x11 : Value) (ha : a = A ⟨false, false, false, false, false, false, false, false, x1, x3, x4, x6, x8, x9, x10, x11⟩) (hR : R ⟨false, false, false, false, false, false, false, false, x1, x3, x4, x6, x8, x9, x10, x11⟩ w) :
    wpAnyH P md ops Q S 10 #[true, false, true, false, false, true, false, true, false, false, false, false, false, false] a w := by
  have hmem : ∀ l1 l3 l4 l6 l8 l9 l10 l11 : Bool, (l1 && l3 && l4 && l6 && l8 && l9 && l10 && l11) = false → ((!l3 || (l1)) && (!l4 || (l3)) && (!l8 || (l6 && l4)) && (!l9 || (l8))) = true → Region.ready md ops #[true, l1, true, l3, l4, true, l6, true, l8, l9, l10, l11, false, false] ≠ [] ∧ ∀ i ∈ Region.ready md ops #[true, l1, true, l3, l4, true, l6, true, l8, l9, l10, l11, false, false], (i = 1 ∧ l1 = false) ∨ (i = 3 ∧ l3 = false ∧ l1 = true) ∨ (i = 4 ∧ l4 = false ∧ l3 = true) ∨ (i = 6 ∧ l6 = false) ∨ (i = 8 ∧ l8 = false ∧ l6 = true ∧ l4 = true) ∨ (i = 9 ∧ l9 = false ∧ l8 = true) ∨ (i = 10 ∧ l10 = false) ∨ (i = 11 ∧ l11 = false) := by
    intro l1 l3 l4 l6 l8 l9 l10 l11 he e1
    have h := (bAll_spec (bAll_spec (bAll_spec (bAll_spec (bAll_spec (bAll_spec (bAll_spec (bAll_spec hmem0 l1) l3) l4) l6) l8) l9) l10) l11)
    obtain ⟨r, hr⟩ : ∃ r, Region.ready md ops #[true, l1, true, l3, l4, true, l6, true, l8, l9, l10, l11, false, false] = r := ⟨_, rfl⟩
    rw [hr] at h ⊢
    rw [he, e1, Bool.not_true, Bool.false_or, Bool.false_or, Bool.and_eq_true] at h
    refine ⟨fun e => ?_, fun i hi => ?_⟩
    · rw [e] at h; simp at h
    · have h2 := List.all_eq_true.1 h.2 i hi
      simpa [or_assoc, and_assoc] using h2
  refine wpAnyH_inv (m := 2) St_kd.L A R St_kd.n ?_ ?_ ?_ 8 ⟨false, false, false, false, false, false, false, false, x1, x3, x4, x6, x8, x9, x10, x11⟩ w _ a rfl rfl ha hR
  · rintro ⟨l1, l3, l4, l6, l8, l9, l10, l11, y1, y3, y4, y6, y8, y9, y10, y11⟩ w hR hn
    refine (hmem l1 l3 l4 l6 l8 l9 l10 l11 ?_ (hord _ _ hR)).1
    clear hR
    revert hn
    cases l1 <;> cases l3 <;> cases l4 <;> cases l6 <;> cases l8 <;> cases l9 <;> cases l10 <;> cases l11 <;> simp [St_kd.n]
  · intro s w hR hn i hi
    have hm := (hmem s.l1 s.l3 s.l4 s.l6 s.l8 s.l9 s.l10 s.l11 (by
      clear hR hi
      revert hn
      rcases s with ⟨l1, l3, l4, l6, l8, l9, l10, l11, y1, y3, y4, y6, y8, y9, y10, y11⟩
      cases l1 <;> cases l3 <;> cases l4 <;> cases l6 <;> cases l8 <;> cases l9 <;> cases l10 <;> cases l11 <;> simp [St_kd.n]) (hord _ _ hR)).2 i hi
    rcases hm with ⟨rfl, e⟩ | ⟨rfl, e, e0⟩ | ⟨rfl, e, e0⟩ | ⟨rfl, e⟩ | ⟨rfl, e, e0, e1⟩ | ⟨rfl, e, e0⟩ | ⟨rfl, e⟩ | ⟨rfl, e⟩
    · refine wpOp_mono (fun a' w' h => ?_) (h1 s w hR e)
      obtain ⟨x, k1, k2, k3⟩ := h
      exact ⟨_, by simp [St_kd.n, e]; try omega, rfl, k1, k2, k3⟩
    · refine wpOp_mono (fun a' w' h => ?_) (h3 s w hR e e0)
      obtain ⟨x, k1, k2, k3⟩ := h
      exact ⟨_, by simp [St_kd.n, e]; try omega, rfl, k1, k2, k3⟩
    · refine wpOp_mono (fun a' w' h => ?_) (h4 s w hR e e0)
      obtain ⟨x, k1, k2, k3⟩ := h
      exact ⟨_, by simp [St_kd.n, e]; try omega, rfl, k1, k2, k3⟩
    · refine wpOp_mono (fun a' w' h => ?_) (h6 s w hR e)
      obtain ⟨x, k1, k2, k3⟩ := h
      exact ⟨_, by simp [St_kd.n, e]; try omega, rfl, k1, k2, k3⟩
    · refine wpOp_mono (fun a' w' h => ?_) (h8 s w hR e e0 e1)
      obtain ⟨x, k1, k2, k3⟩ := h
      exact ⟨_, by simp [St_kd.n, e]; try omega, rfl, k1, k2, k3⟩
    · refine wpOp_mono (fun a' w' h => ?_) (h9 s w hR e e0)
      obtain ⟨x, k1, k2, k3⟩ := h
      exact ⟨_, by simp [St_kd.n, e]; try omega, rfl, k1, k2, k3⟩
    · refine wpOp_mono (fun a' w' h => ?_) (h10 s w hR e)
      obtain ⟨x, k1, k2, k3⟩ := h
      exact ⟨_, by simp [St_kd.n, e]; try omega, rfl, k1, k2, k3⟩
    · refine wpOp_mono (fun a' w' h => ?_) (h11 s w hR e)
      obtain ⟨x, k1, k2, k3⟩ := h
      exact ⟨_, by simp [St_kd.n, e]; try omega, rfl, k1, k2, k3⟩
  · rintro ⟨l1, l3, l4, l6, l8, l9, l10, l11, y1, y3, y4, y6, y8, y9, y10, y11⟩ w hR hn
    have : l1 = true ∧ l3 = true ∧ l4 = true ∧ l6 = true ∧ l8 = true ∧ l9 = true ∧ l10 = true ∧ l11 = true := by
      revert hn
      cases l1 <;> cases l3 <;> cases l4 <;> cases l6 <;> cases l8 <;> cases l9 <;> cases l10 <;> cases l11 <;> simp [St_kd.n]
    obtain ⟨rfl, rfl, rfl, rfl, rfl, rfl, rfl, rfl⟩ := this
    exact hdone _ _ _ _ _ _ _ _ w hR
abbrev pt (k : Nat) : Value := .pointer (some ⟨k, 0, none⟩)
def Pk (s : St_kd) (k : Nat) : Prop := (s.l3 = false ∧ s.x1.ownBlock = some k) ∨ (s.l8 = false ∧ s.x6.ownBlock = some k) ∨ s.x10 = pt k ∨ s.x11 = pt k
abbrev Zk (s : St_kd) (w : World) : Nat → Prop := fun k => k < w.heap.size ∧ ¬ Pk s k
theorem kd_tr {s s' : St_kd} {w w' : World} (hb : ∀ k, k < w.heap.size → ¬ Pk s k → w'.heap[k]? = w.heap[k]?) (hsz : w.heap.size ≤ w'.heap.size) (hP : ∀ k, k < w.heap.size → Pk s' k → Pk s k) {L : List Tm} {o : Option Addr} (h : TR (Zk s w) w L o) : TR (Zk s' w') w' L o :=
  TR.mono (fun k hk hz => ⟨hk, fun hp => hz.2 (hP k hz.1 hp)⟩) _ _ (TR.zs (fun k hk => hb k hk.1 hk.2) _ _ h)
theorem kd_tv {s s' : St_kd} {w w' : World} (hb : ∀ k, k < w.heap.size → ¬ Pk s k → w'.heap[k]? = w.heap[k]?) (hsz : w.heap.size ≤ w'.heap.size) (hP : ∀ k, k < w.heap.size → Pk s' k → Pk s k) {T : Tm} {v : Value} (h : TV (Zk s w) w T v) : TV (Zk s' w') w' T v :=
  TV.mono (fun k hk hz => ⟨hk, fun hp => hz.2 (hP k hz.1 hp)⟩) _ _ (TV.zs (fun k hk => hb k hk.1 hk.2) _ _ h)
structure Rk (V : World) (A U : Tm) (l : List Tm) (ca cb : Array Value) (F : List Tm → Tm) (s : St_kd) (w : World) : Prop where
  bel : Below V.heap.size V w
  ok : s.ok = true
  lt : ∀ k, Pk s k → V.heap.size ≤ k ∧ k < w.heap.size
  u1 : s.l1 = false → s.x1 = undef
  u6 : s.l6 = false → s.x6 = undef
  u10 : s.l10 = false → s.x10 = undef
  u11 : s.l11 = false → s.x11 = undef
  h1 : s.l1 = true → s.l3 = false → ∃ g, s.x1 = .slice (some ⟨g, 0, none⟩) 1 1 ∧ w.heap[g]? = some (.cells ca 27 (0, 0))
  h3 : s.l3 = true → s.l4 = false → ∃ o c, s.x3 = .slice o (A :: l).length c ∧ TR (Zk s w) w (A :: l) o
  h4 : s.l4 = true → ∃ xk xneg xod xld xcd xnm xn xol xll xcl xob xlb xcb, s.x4 = tmV xk xneg (.slice xod xld xcd) xnm xn (.slice xol xll xcl) (.slice xob xlb xcb) ∧ TV (Zk s w) w (F (A :: l)) (tmV xk xneg (.slice xod xld xcd) xnm xn (.slice xol xll xcl) (.slice xob xlb xcb))
  h6 : s.l6 = true → s.l8 = false → ∃ g, s.x6 = .slice (some ⟨g, 0, none⟩) 1 1 ∧ w.heap[g]? = some (.cells cb 27 (0, 0))
  h8 : s.l8 = true → s.l9 = false → ∃ o c, s.x8 = .slice o (U :: l).length c ∧ TR (Zk s w) w (U :: l) o
  h9 : s.l9 = true → ∃ xk xneg xod xld xcd xnm xn xol xll xcl xob xlb xcb, s.x9 = tmV xk xneg (.slice xod xld xcd) xnm xn (.slice xol xll xcl) (.slice xob xlb xcb) ∧ TV (Zk s w) w (F (U :: l)) (tmV xk xneg (.slice xod xld xcd) xnm xn (.slice xol xll xcl) (.slice xob xlb xcb))
  h10 : s.l10 = true → ∃ g, s.x10 = pt g ∧ w.heap[g]? = some (.cells zC 27 (0, 0))
  h11 : s.l11 = true → ∃ g, s.x11 = pt g ∧ w.heap[g]? = some (.cells zC 27 (0, 0))
  d16 : ∀ k, s.l3 = false → s.x1.ownBlock = some k → s.l8 = false → s.x6.ownBlock ≠ some k
  d1x : ∀ k, s.l3 = false → s.x1.ownBlock = some k → s.x10 ≠ pt k ∧ s.x11 ≠ pt k
  d6x : ∀ k, s.l8 = false → s.x6.ownBlock = some k → s.x10 ≠ pt k ∧ s.x11 ≠ pt k
  dxx : ∀ k, s.x10 = pt k → s.x11 ≠ pt k
theorem Rk.n1 {V : World} {A U : Tm} {l : List Tm} {ca cb : Array Value} {F : List Tm → Tm} {s : St_kd} {w : World} (h : Rk V A U l ca cb F s w) (h0 : s.l1 = false) : Rk V A U l ca cb F { s with l1 := true, x1 := .slice (some ⟨w.heap.size, 0, none⟩) 1 1 } (w.alloc (.cells ca 27)) := by
  have hb : Below w.heap.size w (w.alloc (.cells ca 27)) := (Below.refl _ _).alloc (Nat.le_refl _) _
  have q3 : s.l3 = false := by have := h.ok; cases e : s.l3 <;> simp_all [St_kd.ok]
  have q4 : s.l4 = false := by have := h.ok; cases e : s.l4 <;> simp_all [St_kd.ok]
  have hP : ∀ k, k < w.heap.size → Pk { s with l1 := true, x1 := .slice (some ⟨w.heap.size, 0, none⟩) 1 1 } k → Pk s k := by
    intro k hk hp
    rcases hp with ⟨e1, e2⟩ | ⟨e1, e2⟩ | e | e
    all_goals first | (exact .inr (.inr (.inl e))) | (exact .inr (.inr (.inr e))) | (simp only [Value.ownBlock, Option.some.injEq] at e2; omega) | (exact .inr (.inl ⟨e1, e2⟩)) | (exact .inl ⟨e1, e2⟩)
  have hlt : ∀ k, Pk { s with l1 := true, x1 := .slice (some ⟨w.heap.size, 0, none⟩) 1 1 } k → k = w.heap.size ∨ Pk s k := by
    intro k hp
    rcases Nat.lt_or_ge k w.heap.size with hk | hk
    · exact .inr (hP k hk hp)
    · rcases hp with ⟨e1, e2⟩ | ⟨e1, e2⟩ | e | e
      all_goals first | (exact .inr (.inr (.inr (.inl e)))) | (exact .inr (.inr (.inr (.inr e)))) | (simp only [Value.ownBlock, Option.some.injEq] at e2; exact .inl e2.symm) | (exact .inr (.inr (.inl ⟨e1, e2⟩))) | (exact .inr (.inl ⟨e1, e2⟩))
  have hs := hb.size
  exact {
    bel := below_and' h.bel h.bel.size hb
    ok := by have hk := h.ok; cases q1 : s.l1 <;> cases q3' : s.l3 <;> cases q4' : s.l4 <;> cases q6 : s.l6 <;> cases q8 : s.l8 <;> simp_all [St_kd.ok]
    lt := fun k hp => by
      rcases hlt k hp with e | e
      · subst e; exact ⟨h.bel.size, by simp⟩
      · have := h.lt k e; exact ⟨this.1, by omega⟩
    u1 := fun e => by simp at e
    u6 := h.u6
    u10 := h.u10
    u11 := h.u11
    h1 := fun _ _ => ⟨w.heap.size, rfl, heap_alloc_new w _⟩
    h3 := fun e _ => by simp [q3] at e
    h4 := fun e => by simp [q4] at e
    h6 := fun e1 e2 => by
      obtain ⟨g, a1, a2⟩ := h.h6 e1 e2
      exact ⟨g, a1, blk_on' a2 hb⟩
    h8 := fun e1 e2 => by
      obtain ⟨o, c, a1, a2⟩ := h.h8 e1 e2
      exact ⟨o, c, a1, kd_tr (fun k hk _ => hb.block k hk) hs hP a2⟩
    h9 := fun e1 => by
      obtain ⟨xk, xneg, xod, xld, xcd, xnm, xn, xol, xll, xcl, xob, xlb, xcb, a1, a2⟩ := h.h9 e1
      exact ⟨xk, xneg, xod, xld, xcd, xnm, xn, xol, xll, xcl, xob, xlb, xcb, a1, kd_tv (fun k hk _ => hb.block k hk) hs hP a2⟩
    h10 := fun e => by
      obtain ⟨g, a1, a2⟩ := h.h10 e
      exact ⟨g, a1, blk_on' a2 hb⟩
    h11 := fun e => by
      obtain ⟨g, a1, a2⟩ := h.h11 e
      exact ⟨g, a1, blk_on' a2 hb⟩
    d16 := fun k f1 f2 f3 f4 => by
      first
        | (simp only [Value.ownBlock, Option.some.injEq] at f2; have := (h.lt k (.inr (.inl ⟨f3, f4⟩))).2; omega)
        | (simp only [Value.ownBlock, Option.some.injEq] at f4; have := (h.lt k (.inl ⟨f1, f2⟩)).2; omega)
    d1x := fun k f1 f2 => by
      first
        | exact h.d1x k f1 f2
        | (simp only [Value.ownBlock, Option.some.injEq] at f2
           exact ⟨fun e => by have := (h.lt k (.inr (.inr (.inl e)))).2; omega, fun e => by have := (h.lt k (.inr (.inr (.inr e)))).2; omega⟩)
    d6x := fun k f1 f2 => by
      first
        | exact h.d6x k f1 f2
        | (simp only [Value.ownBlock, Option.some.injEq] at f2
           exact ⟨fun e => by have := (h.lt k (.inr (.inr (.inl e)))).2; omega, fun e => by have := (h.lt k (.inr (.inr (.inr e)))).2; omega⟩)
    dxx := h.dxx }
theorem Rk.a3 {V : World} {A U : Tm} {l : List Tm} {ca cb : Array Value} {F : List Tm → Tm} {s : St_kd} {w w' : World} (h : Rk V A U l ca cb F s w) (e1 : s.l1 = true) (h0 : s.l3 = false) {v' : Value} {xs : List Value} (hRC : RC (fun k => k < V.heap.size) w (A :: l) xs) (hO : w'.ownsRow V.heap.size 27 7 v' (A :: l).length xs) (hg : w.grownBy w' s.x1.ownBlock) (hat : v'.ownBlock = s.x1.ownBlock ∨ v'.ownBlock = some w.heap.size) :
    Rk V A U l ca cb F { s with l3 := true, x3 := v' } w' := by
  have q4 : s.l4 = false := by have := h.ok; cases e : s.l4 <;> simp_all [St_kd.ok]
  have hs := hg.size
  have hbo : ∀ k, k < w.heap.size → s.x1.ownBlock ≠ some k → w'.heap[k]? = w.heap[k]? := fun k hk hn => hg.block k hk (fun e => hn e.symm)
  have hb : ∀ k, k < w.heap.size → ¬ Pk s k → w'.heap[k]? = w.heap[k]? := fun k hk hn => hbo k hk (fun e => hn (.inl ⟨h0, e⟩))
  have hP0 : ∀ k, Pk { s with l3 := true, x3 := v' } k → Pk s k := by
    intro k hp
    rcases hp with ⟨f1, f2⟩ | ⟨f1, f2⟩ | e | e
    all_goals first | (exact .inr (.inr (.inl e))) | (exact .inr (.inr (.inr e))) | (simp at f1; done) | (exact .inr (.inl ⟨f1, f2⟩)) | (exact .inl ⟨f1, f2⟩)
  have hP : ∀ k, k < w.heap.size → Pk { s with l3 := true, x3 := v' } k → Pk s k := fun k _ hp => hP0 k hp
  have hbel : Below V.heap.size V w' := ⟨hg.os.trans h.bel.os, hg.tape.trans h.bel.tape, hg.output.trans h.bel.output, Nat.le_trans h.bel.size hg.size, fun k hk => (hbo k (Nat.lt_of_lt_of_le hk h.bel.size) (fun e => by have := (h.lt k (.inl ⟨h0, e⟩)).1; omega)).trans (h.bel.block k hk)⟩
  obtain ⟨o', c', rfl, hc'⟩ := own_sl hO
  have hnP : ∀ g, o' = some ⟨g, 0, none⟩ → ¬ Pk { s with l3 := true, x3 := .slice o' (A :: l).length c' } g := by
    intro g hgo hp
    subst hgo
    rcases hat with e | e
    · rcases hp with ⟨f1, f2⟩ | ⟨f1, f2⟩ | f | f
      all_goals first
        | (simp at f1; done)
        | (simp only [Value.ownBlock] at e; exact h.d16 g h0 e.symm f1 f2)
        | (simp only [Value.ownBlock] at e; exact h.d16 g f1 f2 h0 e.symm)
        | (simp only [Value.ownBlock] at e; exact (h.d1x g h0 e.symm).1 f)
        | (simp only [Value.ownBlock] at e; exact (h.d1x g h0 e.symm).2 f)
    · simp only [Value.ownBlock, Option.some.injEq] at e
      have := (h.lt g (hP0 g hp)).2
      omega
  have hR2 : TR (Zk { s with l3 := true, x3 := .slice o' (A :: l).length c' } w') w' (A :: l) o' := by
    refine own_trz hO (RC.mono (Z := fun k => k < V.heap.size) (fun k hk hz => ⟨hk, fun hp => by have := (h.lt k (hP0 k hp)).1; omega⟩) (hRC.zs (fun k hk => hbo k (Nat.lt_of_lt_of_le hk h.bel.size) (fun e => by have := (h.lt k (.inl ⟨h0, e⟩)).1; omega)))) (fun g hgo _ hgl => ⟨hgl, hnP g hgo⟩)
  exact {
    bel := hbel
    ok := by have hk := h.ok; cases q1 : s.l1 <;> cases q3 : s.l3 <;> cases q4' : s.l4 <;> cases q6 : s.l6 <;> cases q8 : s.l8 <;> simp_all [St_kd.ok]
    lt := fun k hp => by have := h.lt k (hP0 k hp); exact ⟨this.1, by omega⟩
    u1 := h.u1
    u6 := h.u6
    u10 := h.u10
    u11 := h.u11
    h1 := fun _ e => by simp at e
    h3 := fun _ _ => ⟨o', c', rfl, hR2⟩
    h4 := fun e => by simp [q4] at e
    h6 := fun e1 e2 => by
      obtain ⟨g, a1, a2⟩ := h.h6 e1 e2
      exact ⟨g, a1, (hbo g (Array.getElem?_eq_some_iff.1 a2).1 (fun ee => h.d16 g h0 ee e2 (by rw [a1]; rfl))).trans a2⟩
    h8 := fun e1 e2 => by
      obtain ⟨o, c, a1, a2⟩ := h.h8 e1 e2
      exact ⟨o, c, a1, kd_tr hb hs hP a2⟩
    h9 := fun e1 => by
      obtain ⟨xk, xneg, xod, xld, xcd, xnm, xn, xol, xll, xcl, xob, xlb, xcb, a1, a2⟩ := h.h9 e1
      exact ⟨xk, xneg, xod, xld, xcd, xnm, xn, xol, xll, xcl, xob, xlb, xcb, a1, kd_tv hb hs hP a2⟩
    h10 := fun e => by
      obtain ⟨g, a1, a2⟩ := h.h10 e
      exact ⟨g, a1, (hbo g (Array.getElem?_eq_some_iff.1 a2).1 (fun ee => (h.d1x g h0 ee).1 a1)).trans a2⟩
    h11 := fun e => by
      obtain ⟨g, a1, a2⟩ := h.h11 e
      exact ⟨g, a1, (hbo g (Array.getElem?_eq_some_iff.1 a2).1 (fun ee => (h.d1x g h0 ee).2 a1)).trans a2⟩
    d16 := fun k f1 f2 f3 f4 => by first | (simp at f1; done) | (simp at f3; done)
    d1x := fun k f1 f2 => by first | (simp at f1; done) | exact h.d1x k f1 f2
    d6x := fun k f1 f2 => by first | (simp at f1; done) | exact h.d6x k f1 f2
    dxx := h.dxx }
theorem Rk.c4 {V : World} {A U : Tm} {l : List Tm} {ca cb : Array Value} {F : List Tm → Tm} {s : St_kd} {w w' : World} (h : Rk V A U l ca cb F s w) (e3 : s.l3 = true) (h0 : s.l4 = false) {v : Value} (hT : TV (Zb w.heap.size w') w' (F (A :: l)) v) (hb : Below w.heap.size w w') : Rk V A U l ca cb F { s with l4 := true, x4 := v } w' := by
  have hs := hb.size
  have hP : ∀ k, k < w.heap.size → Pk { s with l4 := true, x4 := v } k → Pk s k := fun k _ hp => hp
  have b2 : ∀ k, k < w.heap.size → ¬ Pk s k → w'.heap[k]? = w.heap[k]? := fun k hk _ => hb.block k hk
  obtain ⟨xk, xneg, xod, xld, xcd, xnm, xn, xol, xll, xcl, xob, xlb, xcb, rfl⟩ := hT.form
  exact {
    bel := below_and' h.bel h.bel.size hb
    ok := by have hk := h.ok; cases q1 : s.l1 <;> cases q3 : s.l3 <;> cases q4' : s.l4 <;> cases q6 : s.l6 <;> cases q8 : s.l8 <;> simp_all [St_kd.ok]
    lt := fun k hp => by have := h.lt k hp; exact ⟨this.1, by omega⟩
    u1 := h.u1
    u6 := h.u6
    u10 := h.u10
    u11 := h.u11
    h1 := fun f1 f2 => by
      obtain ⟨g, a1, a2⟩ := h.h1 f1 f2
      exact ⟨g, a1, blk_on' a2 hb⟩
    h3 := fun _ e => by simp at e
    h4 := fun _ => ⟨xk, xneg, xod, xld, xcd, xnm, xn, xol, xll, xcl, xob, xlb, xcb, rfl, TV.mono (fun k hk hz => ⟨hk, fun hp => by have := (h.lt k hp).2; have := hz.1; omega⟩) _ _ hT⟩
    h6 := fun e1 e2 => by
      obtain ⟨g, a1, a2⟩ := h.h6 e1 e2
      exact ⟨g, a1, blk_on' a2 hb⟩
    h8 := fun e1 e2 => by
      obtain ⟨o, c, a1, a2⟩ := h.h8 e1 e2
      exact ⟨o, c, a1, kd_tr b2 hs hP a2⟩
    h9 := fun e1 => by
      obtain ⟨xk, xneg, xod, xld, xcd, xnm, xn, xol, xll, xcl, xob, xlb, xcb, a1, a2⟩ := h.h9 e1
      exact ⟨xk, xneg, xod, xld, xcd, xnm, xn, xol, xll, xcl, xob, xlb, xcb, a1, kd_tv b2 hs hP a2⟩
    h10 := fun e => by
      obtain ⟨g, a1, a2⟩ := h.h10 e
      exact ⟨g, a1, blk_on' a2 hb⟩
    h11 := fun e => by
      obtain ⟨g, a1, a2⟩ := h.h11 e
      exact ⟨g, a1, blk_on' a2 hb⟩
    d16 := h.d16
    d1x := h.d1x
    d6x := h.d6x
    dxx := h.dxx }
theorem Rk.n6 {V : World} {A U : Tm} {l : List Tm} {ca cb : Array Value} {F : List Tm → Tm} {s : St_kd} {w : World} (h : Rk V A U l ca cb F s w) (h0 : s.l6 = false) : Rk V A U l ca cb F { s with l6 := true, x6 := .slice (some ⟨w.heap.size, 0, none⟩) 1 1 } (w.alloc (.cells cb 27)) := by
  have hb : Below w.heap.size w (w.alloc (.cells cb 27)) := (Below.refl _ _).alloc (Nat.le_refl _) _
  have q3 : s.l8 = false := by have := h.ok; cases e : s.l8 <;> simp_all [St_kd.ok]
  have q4 : s.l9 = false := by have := h.ok; cases e : s.l9 <;> simp_all [St_kd.ok]
  have hP : ∀ k, k < w.heap.size → Pk { s with l6 := true, x6 := .slice (some ⟨w.heap.size, 0, none⟩) 1 1 } k → Pk s k := by
    intro k hk hp
    rcases hp with ⟨e1, e2⟩ | ⟨e1, e2⟩ | e | e
    all_goals first | (exact .inr (.inr (.inl e))) | (exact .inr (.inr (.inr e))) | (simp only [Value.ownBlock, Option.some.injEq] at e2; omega) | (exact .inr (.inl ⟨e1, e2⟩)) | (exact .inl ⟨e1, e2⟩)
  have hlt : ∀ k, Pk { s with l6 := true, x6 := .slice (some ⟨w.heap.size, 0, none⟩) 1 1 } k → k = w.heap.size ∨ Pk s k := by
    intro k hp
    rcases Nat.lt_or_ge k w.heap.size with hk | hk
    · exact .inr (hP k hk hp)
    · rcases hp with ⟨e1, e2⟩ | ⟨e1, e2⟩ | e | e
      all_goals first | (exact .inr (.inr (.inr (.inl e)))) | (exact .inr (.inr (.inr (.inr e)))) | (simp only [Value.ownBlock, Option.some.injEq] at e2; exact .inl e2.symm) | (exact .inr (.inr (.inl ⟨e1, e2⟩))) | (exact .inr (.inl ⟨e1, e2⟩))
  have hs := hb.size
  exact {
    bel := below_and' h.bel h.bel.size hb
    ok := by have hk := h.ok; cases q1 : s.l1 <;> cases q3' : s.l3 <;> cases q4' : s.l4 <;> cases q6 : s.l6 <;> cases q8 : s.l8 <;> simp_all [St_kd.ok]
    lt := fun k hp => by
      rcases hlt k hp with e | e
      · subst e; exact ⟨h.bel.size, by simp⟩
      · have := h.lt k e; exact ⟨this.1, by omega⟩
    u6 := fun e => by simp at e
    u1 := h.u1
    u10 := h.u10
    u11 := h.u11
    h6 := fun _ _ => ⟨w.heap.size, rfl, heap_alloc_new w _⟩
    h8 := fun e _ => by simp [q3] at e
    h9 := fun e => by simp [q4] at e
    h1 := fun e1 e2 => by
      obtain ⟨g, a1, a2⟩ := h.h1 e1 e2
      exact ⟨g, a1, blk_on' a2 hb⟩
    h3 := fun e1 e2 => by
      obtain ⟨o, c, a1, a2⟩ := h.h3 e1 e2
      exact ⟨o, c, a1, kd_tr (fun k hk _ => hb.block k hk) hs hP a2⟩
    h4 := fun e1 => by
      obtain ⟨xk, xneg, xod, xld, xcd, xnm, xn, xol, xll, xcl, xob, xlb, xcb, a1, a2⟩ := h.h4 e1
      exact ⟨xk, xneg, xod, xld, xcd, xnm, xn, xol, xll, xcl, xob, xlb, xcb, a1, kd_tv (fun k hk _ => hb.block k hk) hs hP a2⟩
    h10 := fun e => by
      obtain ⟨g, a1, a2⟩ := h.h10 e
      exact ⟨g, a1, blk_on' a2 hb⟩
    h11 := fun e => by
      obtain ⟨g, a1, a2⟩ := h.h11 e
      exact ⟨g, a1, blk_on' a2 hb⟩
    d16 := fun k f1 f2 f3 f4 => by
      first
        | (simp only [Value.ownBlock, Option.some.injEq] at f2; have := (h.lt k (.inr (.inl ⟨f3, f4⟩))).2; omega)
        | (simp only [Value.ownBlock, Option.some.injEq] at f4; have := (h.lt k (.inl ⟨f1, f2⟩)).2; omega)
    d1x := fun k f1 f2 => by
      first
        | exact h.d1x k f1 f2
        | (simp only [Value.ownBlock, Option.some.injEq] at f2
           exact ⟨fun e => by have := (h.lt k (.inr (.inr (.inl e)))).2; omega, fun e => by have := (h.lt k (.inr (.inr (.inr e)))).2; omega⟩)
    d6x := fun k f1 f2 => by
      first
        | exact h.d6x k f1 f2
        | (simp only [Value.ownBlock, Option.some.injEq] at f2
           exact ⟨fun e => by have := (h.lt k (.inr (.inr (.inl e)))).2; omega, fun e => by have := (h.lt k (.inr (.inr (.inr e)))).2; omega⟩)
    dxx := h.dxx }
theorem Rk.a8 {V : World} {A U : Tm} {l : List Tm} {ca cb : Array Value} {F : List Tm → Tm} {s : St_kd} {w w' : World} (h : Rk V A U l ca cb F s w) (e1 : s.l6 = true) (h0 : s.l8 = false) (e4 : s.l4 = true) {v' : Value} {xs : List Value} (hRC : RC (fun k => k < V.heap.size) w (U :: l) xs) (hO : w'.ownsRow V.heap.size 27 7 v' (U :: l).length xs) (hg : w.grownBy w' s.x6.ownBlock) (hat : v'.ownBlock = s.x6.ownBlock ∨ v'.ownBlock = some w.heap.size) :
    Rk V A U l ca cb F { s with l8 := true, x8 := v' } w' := by
  have q4 : s.l9 = false := by have := h.ok; cases e : s.l9 <;> simp_all [St_kd.ok]
  have hs := hg.size
  have hbo : ∀ k, k < w.heap.size → s.x6.ownBlock ≠ some k → w'.heap[k]? = w.heap[k]? := fun k hk hn => hg.block k hk (fun e => hn e.symm)
  have hb : ∀ k, k < w.heap.size → ¬ Pk s k → w'.heap[k]? = w.heap[k]? := fun k hk hn => hbo k hk (fun e => hn (.inr (.inl ⟨h0, e⟩)))
  have hP0 : ∀ k, Pk { s with l8 := true, x8 := v' } k → Pk s k := by
    intro k hp
    rcases hp with ⟨f1, f2⟩ | ⟨f1, f2⟩ | e | e
    all_goals first | (exact .inr (.inr (.inl e))) | (exact .inr (.inr (.inr e))) | (simp at f1; done) | (exact .inr (.inl ⟨f1, f2⟩)) | (exact .inl ⟨f1, f2⟩)
  have hP : ∀ k, k < w.heap.size → Pk { s with l8 := true, x8 := v' } k → Pk s k := fun k _ hp => hP0 k hp
  have hbel : Below V.heap.size V w' := ⟨hg.os.trans h.bel.os, hg.tape.trans h.bel.tape, hg.output.trans h.bel.output, Nat.le_trans h.bel.size hg.size, fun k hk => (hbo k (Nat.lt_of_lt_of_le hk h.bel.size) (fun e => by have := (h.lt k (.inr (.inl ⟨h0, e⟩))).1; omega)).trans (h.bel.block k hk)⟩
  obtain ⟨o', c', rfl, hc'⟩ := own_sl hO
  have hnP : ∀ g, o' = some ⟨g, 0, none⟩ → ¬ Pk { s with l8 := true, x8 := .slice o' (U :: l).length c' } g := by
    intro g hgo hp
    subst hgo
    rcases hat with e | e
    · rcases hp with ⟨f1, f2⟩ | ⟨f1, f2⟩ | f | f
      all_goals first
        | (simp at f1; done)
        | (simp only [Value.ownBlock] at e; exact h.d16 g h0 e.symm f1 f2)
        | (simp only [Value.ownBlock] at e; exact h.d16 g f1 f2 h0 e.symm)
        | (simp only [Value.ownBlock] at e; exact (h.d6x g h0 e.symm).1 f)
        | (simp only [Value.ownBlock] at e; exact (h.d6x g h0 e.symm).2 f)
    · simp only [Value.ownBlock, Option.some.injEq] at e
      have := (h.lt g (hP0 g hp)).2
      omega
  have hR2 : TR (Zk { s with l8 := true, x8 := .slice o' (U :: l).length c' } w') w' (U :: l) o' := by
    refine own_trz hO (RC.mono (Z := fun k => k < V.heap.size) (fun k hk hz => ⟨hk, fun hp => by have := (h.lt k (hP0 k hp)).1; omega⟩) (hRC.zs (fun k hk => hbo k (Nat.lt_of_lt_of_le hk h.bel.size) (fun e => by have := (h.lt k (.inr (.inl ⟨h0, e⟩))).1; omega)))) (fun g hgo _ hgl => ⟨hgl, hnP g hgo⟩)
  exact {
    bel := hbel
    ok := by have hk := h.ok; cases q1 : s.l1 <;> cases q3 : s.l3 <;> cases q4' : s.l4 <;> cases q6 : s.l6 <;> cases q8 : s.l8 <;> simp_all [St_kd.ok]
    lt := fun k hp => by have := h.lt k (hP0 k hp); exact ⟨this.1, by omega⟩
    u6 := h.u6
    u1 := h.u1
    u10 := h.u10
    u11 := h.u11
    h6 := fun _ e => by simp at e
    h8 := fun _ _ => ⟨o', c', rfl, hR2⟩
    h9 := fun e => by simp [q4] at e
    h1 := fun e1 e2 => by
      obtain ⟨g, a1, a2⟩ := h.h1 e1 e2
      exact ⟨g, a1, (hbo g (Array.getElem?_eq_some_iff.1 a2).1 (fun ee => h.d16 g e2 (by rw [a1]; rfl) h0 ee)).trans a2⟩
    h3 := fun e1 e2 => by
      obtain ⟨o, c, a1, a2⟩ := h.h3 e1 e2
      exact ⟨o, c, a1, kd_tr hb hs hP a2⟩
    h4 := fun e1 => by
      obtain ⟨xk, xneg, xod, xld, xcd, xnm, xn, xol, xll, xcl, xob, xlb, xcb, a1, a2⟩ := h.h4 e1
      exact ⟨xk, xneg, xod, xld, xcd, xnm, xn, xol, xll, xcl, xob, xlb, xcb, a1, kd_tv hb hs hP a2⟩
    h10 := fun e => by
      obtain ⟨g, a1, a2⟩ := h.h10 e
      exact ⟨g, a1, (hbo g (Array.getElem?_eq_some_iff.1 a2).1 (fun ee => (h.d6x g h0 ee).1 a1)).trans a2⟩
    h11 := fun e => by
      obtain ⟨g, a1, a2⟩ := h.h11 e
      exact ⟨g, a1, (hbo g (Array.getElem?_eq_some_iff.1 a2).1 (fun ee => (h.d6x g h0 ee).2 a1)).trans a2⟩
    d16 := fun k f1 f2 f3 f4 => by first | (simp at f1; done) | (simp at f3; done)
    d1x := fun k f1 f2 => by first | (simp at f1; done) | exact h.d1x k f1 f2
    d6x := fun k f1 f2 => by first | (simp at f1; done) | exact h.d6x k f1 f2
    dxx := h.dxx }
theorem Rk.c9 {V : World} {A U : Tm} {l : List Tm} {ca cb : Array Value} {F : List Tm → Tm} {s : St_kd} {w w' : World} (h : Rk V A U l ca cb F s w) (e3 : s.l8 = true) (h0 : s.l9 = false) {v : Value} (hT : TV (Zb w.heap.size w') w' (F (U :: l)) v) (hb : Below w.heap.size w w') : Rk V A U l ca cb F { s with l9 := true, x9 := v } w' := by
  have hs := hb.size
  have hP : ∀ k, k < w.heap.size → Pk { s with l9 := true, x9 := v } k → Pk s k := fun k _ hp => hp
  have b2 : ∀ k, k < w.heap.size → ¬ Pk s k → w'.heap[k]? = w.heap[k]? := fun k hk _ => hb.block k hk
  obtain ⟨xk, xneg, xod, xld, xcd, xnm, xn, xol, xll, xcl, xob, xlb, xcb, rfl⟩ := hT.form
  exact {
    bel := below_and' h.bel h.bel.size hb
    ok := by have hk := h.ok; cases q1 : s.l1 <;> cases q3 : s.l3 <;> cases q4' : s.l4 <;> cases q6 : s.l6 <;> cases q8 : s.l8 <;> simp_all [St_kd.ok]
    lt := fun k hp => by have := h.lt k hp; exact ⟨this.1, by omega⟩
    u1 := h.u1
    u6 := h.u6
    u10 := h.u10
    u11 := h.u11
    h6 := fun f1 f2 => by
      obtain ⟨g, a1, a2⟩ := h.h6 f1 f2
      exact ⟨g, a1, blk_on' a2 hb⟩
    h8 := fun _ e => by simp at e
    h9 := fun _ => ⟨xk, xneg, xod, xld, xcd, xnm, xn, xol, xll, xcl, xob, xlb, xcb, rfl, TV.mono (fun k hk hz => ⟨hk, fun hp => by have := (h.lt k hp).2; have := hz.1; omega⟩) _ _ hT⟩
    h1 := fun e1 e2 => by
      obtain ⟨g, a1, a2⟩ := h.h1 e1 e2
      exact ⟨g, a1, blk_on' a2 hb⟩
    h3 := fun e1 e2 => by
      obtain ⟨o, c, a1, a2⟩ := h.h3 e1 e2
      exact ⟨o, c, a1, kd_tr b2 hs hP a2⟩
    h4 := fun e1 => by
      obtain ⟨xk, xneg, xod, xld, xcd, xnm, xn, xol, xll, xcl, xob, xlb, xcb, a1, a2⟩ := h.h4 e1
      exact ⟨xk, xneg, xod, xld, xcd, xnm, xn, xol, xll, xcl, xob, xlb, xcb, a1, kd_tv b2 hs hP a2⟩
    h10 := fun e => by
      obtain ⟨g, a1, a2⟩ := h.h10 e
      exact ⟨g, a1, blk_on' a2 hb⟩
    h11 := fun e => by
      obtain ⟨g, a1, a2⟩ := h.h11 e
      exact ⟨g, a1, blk_on' a2 hb⟩
    d16 := h.d16
    d1x := h.d1x
    d6x := h.d6x
    dxx := h.dxx }
theorem Rk.n10 {V : World} {A U : Tm} {l : List Tm} {ca cb : Array Value} {F : List Tm → Tm} {s : St_kd} {w : World} (h : Rk V A U l ca cb F s w) (h0 : s.l10 = false) : Rk V A U l ca cb F { s with l10 := true, x10 := pt w.heap.size } (w.alloc (.cells zC 27)) := by
  have hb : Below w.heap.size w (w.alloc (.cells zC 27)) := (Below.refl _ _).alloc (Nat.le_refl _) _
  have hs := hb.size
  have hlt : ∀ k, Pk { s with l10 := true, x10 := pt w.heap.size } k → k = w.heap.size ∨ Pk s k := by
    intro k hp
    rcases hp with e | e | e | e
    all_goals first | (exact .inr (.inl e)) | (exact .inr (.inr (.inl e))) | (simp only [pt, Value.pointer.injEq, Option.some.injEq, Addr.mk.injEq, and_true] at e; exact .inl e.symm) | (exact .inr (.inr (.inr (.inl e)))) | (exact .inr (.inr (.inr (.inr e))))
  have hP : ∀ k, k < w.heap.size → Pk { s with l10 := true, x10 := pt w.heap.size } k → Pk s k := fun k hk hp => by
    rcases hlt k hp with e | e
    · omega
    · exact e
  have b2 : ∀ k, k < w.heap.size → ¬ Pk s k → (w.alloc (.cells zC 27)).heap[k]? = w.heap[k]? := fun k hk _ => hb.block k hk
  have hne : ∀ k, Pk s k → pt w.heap.size ≠ pt k := fun k hp e => by
    simp only [pt, Value.pointer.injEq, Option.some.injEq, Addr.mk.injEq, and_true] at e
    have := (h.lt k hp).2
    omega
  exact {
    bel := below_and' h.bel h.bel.size hb
    ok := h.ok
    lt := fun k hp => by
      rcases hlt k hp with e | e
      · subst e; exact ⟨h.bel.size, by simp⟩
      · have := h.lt k e; exact ⟨this.1, by omega⟩
    u1 := h.u1
    u6 := h.u6
    u10 := fun e => by simp at e
    u11 := h.u11
    h1 := fun f1 f2 => by
      obtain ⟨g, a1, a2⟩ := h.h1 f1 f2
      exact ⟨g, a1, blk_on' a2 hb⟩
    h3 := fun f1 f2 => by
      obtain ⟨o, c, a1, a2⟩ := h.h3 f1 f2
      exact ⟨o, c, a1, kd_tr b2 hs hP a2⟩
    h4 := fun f1 => by
      obtain ⟨xk, xneg, xod, xld, xcd, xnm, xn, xol, xll, xcl, xob, xlb, xcb, a1, a2⟩ := h.h4 f1
      exact ⟨xk, xneg, xod, xld, xcd, xnm, xn, xol, xll, xcl, xob, xlb, xcb, a1, kd_tv b2 hs hP a2⟩
    h6 := fun f1 f2 => by
      obtain ⟨g, a1, a2⟩ := h.h6 f1 f2
      exact ⟨g, a1, blk_on' a2 hb⟩
    h8 := fun f1 f2 => by
      obtain ⟨o, c, a1, a2⟩ := h.h8 f1 f2
      exact ⟨o, c, a1, kd_tr b2 hs hP a2⟩
    h9 := fun f1 => by
      obtain ⟨xk, xneg, xod, xld, xcd, xnm, xn, xol, xll, xcl, xob, xlb, xcb, a1, a2⟩ := h.h9 f1
      exact ⟨xk, xneg, xod, xld, xcd, xnm, xn, xol, xll, xcl, xob, xlb, xcb, a1, kd_tv b2 hs hP a2⟩
    h10 := fun _ => ⟨w.heap.size, rfl, heap_alloc_new w _⟩
    h11 := fun e => by
      obtain ⟨g, a1, a2⟩ := h.h11 e
      exact ⟨g, a1, blk_on' a2 hb⟩
    d16 := h.d16
    d1x := fun k f1 f2 => by
      have := h.d1x k f1 f2
      first | exact ⟨hne k (.inl ⟨f1, f2⟩), this.2⟩ | exact ⟨this.1, hne k (.inl ⟨f1, f2⟩)⟩
    d6x := fun k f1 f2 => by
      have := h.d6x k f1 f2
      first | exact ⟨hne k (.inr (.inl ⟨f1, f2⟩)), this.2⟩ | exact ⟨this.1, hne k (.inr (.inl ⟨f1, f2⟩))⟩
    dxx := fun k f1 f2 => by
      first | exact hne k (.inr (.inr (.inr f2))) f1 | exact hne k (.inr (.inr (.inl f1))) f2 }
theorem Rk.n11 {V : World} {A U : Tm} {l : List Tm} {ca cb : Array Value} {F : List Tm → Tm} {s : St_kd} {w : World} (h : Rk V A U l ca cb F s w) (h0 : s.l11 = false) : Rk V A U l ca cb F { s with l11 := true, x11 := pt w.heap.size } (w.alloc (.cells zC 27)) := by
  have hb : Below w.heap.size w (w.alloc (.cells zC 27)) := (Below.refl _ _).alloc (Nat.le_refl _) _
  have hs := hb.size
  have hlt : ∀ k, Pk { s with l11 := true, x11 := pt w.heap.size } k → k = w.heap.size ∨ Pk s k := by
    intro k hp
    rcases hp with e | e | e | e
    all_goals first | (exact .inr (.inl e)) | (exact .inr (.inr (.inl e))) | (simp only [pt, Value.pointer.injEq, Option.some.injEq, Addr.mk.injEq, and_true] at e; exact .inl e.symm) | (exact .inr (.inr (.inr (.inl e)))) | (exact .inr (.inr (.inr (.inr e))))
  have hP : ∀ k, k < w.heap.size → Pk { s with l11 := true, x11 := pt w.heap.size } k → Pk s k := fun k hk hp => by
    rcases hlt k hp with e | e
    · omega
    · exact e
  have b2 : ∀ k, k < w.heap.size → ¬ Pk s k → (w.alloc (.cells zC 27)).heap[k]? = w.heap[k]? := fun k hk _ => hb.block k hk
  have hne : ∀ k, Pk s k → pt w.heap.size ≠ pt k := fun k hp e => by
    simp only [pt, Value.pointer.injEq, Option.some.injEq, Addr.mk.injEq, and_true] at e
    have := (h.lt k hp).2
    omega
  exact {
    bel := below_and' h.bel h.bel.size hb
    ok := h.ok
    lt := fun k hp => by
      rcases hlt k hp with e | e
      · subst e; exact ⟨h.bel.size, by simp⟩
      · have := h.lt k e; exact ⟨this.1, by omega⟩
    u1 := h.u1
    u6 := h.u6
    u11 := fun e => by simp at e
    u10 := h.u10
    h1 := fun f1 f2 => by
      obtain ⟨g, a1, a2⟩ := h.h1 f1 f2
      exact ⟨g, a1, blk_on' a2 hb⟩
    h3 := fun f1 f2 => by
      obtain ⟨o, c, a1, a2⟩ := h.h3 f1 f2
      exact ⟨o, c, a1, kd_tr b2 hs hP a2⟩
    h4 := fun f1 => by
      obtain ⟨xk, xneg, xod, xld, xcd, xnm, xn, xol, xll, xcl, xob, xlb, xcb, a1, a2⟩ := h.h4 f1
      exact ⟨xk, xneg, xod, xld, xcd, xnm, xn, xol, xll, xcl, xob, xlb, xcb, a1, kd_tv b2 hs hP a2⟩
    h6 := fun f1 f2 => by
      obtain ⟨g, a1, a2⟩ := h.h6 f1 f2
      exact ⟨g, a1, blk_on' a2 hb⟩
    h8 := fun f1 f2 => by
      obtain ⟨o, c, a1, a2⟩ := h.h8 f1 f2
      exact ⟨o, c, a1, kd_tr b2 hs hP a2⟩
    h9 := fun f1 => by
      obtain ⟨xk, xneg, xod, xld, xcd, xnm, xn, xol, xll, xcl, xob, xlb, xcb, a1, a2⟩ := h.h9 f1
      exact ⟨xk, xneg, xod, xld, xcd, xnm, xn, xol, xll, xcl, xob, xlb, xcb, a1, kd_tv b2 hs hP a2⟩
    h11 := fun _ => ⟨w.heap.size, rfl, heap_alloc_new w _⟩
    h10 := fun e => by
      obtain ⟨g, a1, a2⟩ := h.h10 e
      exact ⟨g, a1, blk_on' a2 hb⟩
    d16 := h.d16
    d1x := fun k f1 f2 => by
      have := h.d1x k f1 f2
      first | exact ⟨hne k (.inl ⟨f1, f2⟩), this.2⟩ | exact ⟨this.1, hne k (.inl ⟨f1, f2⟩)⟩
    d6x := fun k f1 f2 => by
      have := h.d6x k f1 f2
      first | exact ⟨hne k (.inr (.inl ⟨f1, f2⟩)), this.2⟩ | exact ⟨this.1, hne k (.inr (.inl ⟨f1, f2⟩))⟩
    dxx := fun k f1 f2 => by
      first | exact hne k (.inr (.inr (.inr f2))) f1 | exact hne k (.inr (.inr (.inl f1))) f2 }
end Go.Proofs.YtgaecjocolihjaaDoor
namespace Go.Proofs.YtgaecjocolihjaaDoor
open Go.ChangeShapes Go.WideShapes Go.ChangeAt Go.ChangeMaps Go.RowKit Go.Shelf
set_option linter.unusedSimpArgs false
set_option linter.unusedVariables false
theorem cmpB_self : ∀ a : List UInt8, Lib.compareBytes a a = 0
  | [] => rfl
  | x :: xs => by
    unfold Lib.compareBytes
    simp [UInt8.lt_irrefl, cmpB_self xs]
theorem less_self (a : List UInt8) : lessZ a a = 0 := by
  unfold lessZ; split
  · exact lexZ_self _
  · exact cmpB_self _
mutual
theorem cT_refl : ∀ a : Tm, cT a a = 0
  | .mk k neg d nm n l b => by
    rw [cT, cz_self, lx_zero]
    by_cases h0 : k = 0
    · rw [if_pos h0, cz_self]
    rw [if_neg h0]
    by_cases h1 : k = 1
    · rw [if_pos h1, less_self]
    rw [if_neg h1]
    by_cases h2 : k = 2 ∨ k = 3
    · rw [if_pos h2, cz_self]
    rw [if_neg h2]
    by_cases h7 : k = 7
    · rw [if_pos h7, lexZ_self]
    rw [if_neg h7]
    by_cases h4 : k = 4 ∨ k = 6
    · rw [if_pos h4, cz_self, lx_zero, cR_refl l]
    rw [if_neg h4]
theorem cR_refl : ∀ l : List Tm, cR l l = 0
  | [] => cR_nil _
  | t :: l => by rw [cR_cons, cT_refl t, lx_zero, cR_refl l]
end
theorem ok_list {l : List Tm} (h : ∀ p ∈ partsL l, p.ok1) : ∀ p ∈ parts (listT l), p.ok1 := fun p hp => by
  rcases mem_list_parts l p hp with h1 | ⟨a, b, rfl⟩ | rfl
  · exact h p h1
  · exact ⟨by simp, by simp [ByteArray.size], by simp, by simp, Lm.nil _⟩
  · exact ⟨by simp, by simp [ByteArray.size], by simp, by simp, Lm.nil _⟩
theorem ok_tup {l : List Tm} (hl : l.length ≤ 1000000) (h : ∀ p ∈ partsL l, p.ok1) : ∀ p ∈ parts (tupT l), p.ok1 := fun p hp => by
  rw [parts_tup] at hp
  rcases List.mem_cons.1 hp with rfl | hp
  · exact ⟨by simp, by simp [ByteArray.size], hl, by simp, Lm.nil _⟩
  · exact h p hp
theorem cT_tup (A U : Tm) (l : List Tm) : cT (tupT (A :: l)) (tupT (U :: l)) = cT A U := by
  unfold tupT
  rw [cT_4, cR_cons, cR_refl, lx_right]
  have : cmpZ ((A :: l).length : Int) ((U :: l).length : Int) = 0 := by simp [cz_self]
  rw [this, lx_zero]
theorem cT_list (A U : Tm) (l : List Tm) : cT (listT (A :: l)) (listT (U :: l)) = cT A U := by
  unfold listT consT
  rw [cT_6, cR_cons, cR_cons, cT_refl, lx_zero, cR_nil, lx_right]
  have : cmpZ (([A, listT l] : List Tm).length : Int) (([U, listT l] : List Tm).length : Int) = 0 := by simp [cz_self]
  rw [this, lx_zero]
theorem cT_more (A B C : Tm) (l : List Tm) : cT (tupT (A :: l)) (tupT (B :: C :: l)) = -1 := by
  unfold tupT
  have h : cmpZ ((A :: l).length : Int) ((B :: C :: l).length : Int) = -1 := by
    unfold cmpZ
    rw [if_pos (by simp only [List.length_cons]; omega)]
  rw [cT_4, h, lx_ne (by decide)]
theorem cT_tl (A B : Tm) (l l' : List Tm) : cT (tupT (A :: l)) (listT (B :: l')) = -1 := by
  unfold tupT listT consT
  rw [cT_kind (by decide)]
  decide
theorem wf_tupT {l : List Tm} (hl : l.length ≤ 1000000) (h : wfL l) : wfT (tupT l) := fun p hp => by
  rw [parts_tup] at hp
  rcases List.mem_cons.1 hp with rfl | hp
  · exact ⟨by omega, by omega, fun e => by omega, fun e => by omega, by simp, by simp [ByteArray.size], hl, by simp, Lm.nil _⟩
  · exact h p hp
theorem wf_listT {l : List Tm} (h : wfL l) : wfT (listT l) := fun p hp => by
  rcases mem_list_parts l p hp with h1 | ⟨a, b, rfl⟩ | rfl
  · exact h p h1
  · exact ⟨by omega, by omega, fun _ => rfl, fun e => by omega, by simp, by simp [ByteArray.size], by simp, by simp, Lm.nil _⟩
  · exact ⟨by omega, by omega, fun e => by omega, fun e => by omega, by simp, by simp [ByteArray.size], by simp, by simp, Lm.nil _⟩
theorem dep_tup (l : List Tm) : dep (tupT l) = depL l + 1 := by simp [tupT, dep]
theorem wfL_of {l : List Tm} (h : ∀ t ∈ l, wfT t) : wfL l := by
  induction l with
  | nil => exact wfL.nil
  | cons t l ih => exact wfL.cons (h t (by simp)) (ih (fun q hq => h q (by simp [hq])))
theorem RC.cat {Z : Nat → Prop} {w : World} : ∀ {l l' : List Tm} {xs ys : List Value}, RC Z w l xs → RC Z w l' ys → RC Z w (l ++ l') (xs ++ ys)
  | [], l', xs, ys, h, h' => by
    have : xs = [] := h
    subst this
    exact h'
  | t :: l, l', xs, ys, h, h' => by
    obtain ⟨k, neg, od, ld, cd, nm, n, ol, ll, cl, ob, lb, cb, zs, ht, rfl, hr⟩ := h
    exact ⟨k, neg, od, ld, cd, nm, n, ol, ll, cl, ob, lb, cb, zs ++ ys, ht, rfl, hr.cat h'⟩
/-- a row of one's own, lengthened by another row -/
theorem ap2_run (w : World) (B g n0 : Nat) (xs0 : List Value) (o : Option Addr) (c : Nat) (l : List Tm) (hO : w.ownsRow B 27 7 (.slice (some ⟨g, 0, none⟩) n0 n0) n0 xs0) (hB : B ≤ w.heap.size) (hn : n0 ≤ 2) (hl : l.length ≤ 1000) (hT : TR (fun k => k < B) w l o) :
    ∃ v' w' ys, (Builtin.append_ #[24, 24] 24 #[.slice (some ⟨g, 0, none⟩) n0 n0, .slice o l.length c]).run Tryd.prog w = .ok v' w' ∧ w'.ownsRow B 27 7 v' (n0 + l.length) (xs0 ++ ys) ∧ RC (fun k => k < B) w l ys ∧ w.grownBy w' (some g) ∧ (v'.ownBlock = some g ∨ v'.ownBlock = some w.heap.size) := by
  obtain ⟨iT, hT1, hT2, hT3, hT4⟩ := info_parts infoT
  obtain ⟨ys, hRC, hLc⟩ := hT.rc
  cases o with
  | none =>
    have hl0 : l = [] := by
      cases l with
      | nil => rfl
      | cons t q => unfold TR at hT; obtain ⟨a, _, e, _⟩ := hT; simp at e
    subst hl0
    have hy : ys = [] := hRC
    subst hy
    refine ⟨.slice (some ⟨g, 0, none⟩) n0 n0, w, [], ?_, by simpa using hO, hRC, ⟨rfl, rfl, rfl, Nat.le_refl _, fun _ _ _ => rfl⟩, .inl rfl⟩
    simp [Builtin.append_, run_underlying Tryd.underlying24, sizeOf, typeInfo, hT1, Builtin.lenOf, Builtin.firstCells, storeCells, Result.andThen]
  | some a =>
    obtain ⟨v', w', hr, hown, hgrow, _, hat⟩ := run_append_own_at (P := Tryd.prog) w B 24 24 27 iT (.agg #[.int .i64 0, .bool false, .slice none 0 0, .string ⟨#[]⟩, .int .i64 0, .slice none 0 0, .slice none 0 0]) 7 112 Tryd.underlying24 hT1 hT2 hT3 hT4 rfl (by decide) (.slice (some ⟨g, 0, none⟩) n0 n0) n0 xs0 hO a l.length c ys (by rw [hRC.len]) (fun j u hj => by
      obtain ⟨a', ha, hc⟩ := hLc j u hj
      injection ha with ha; subst ha
      exact hc) hRC.one (by unfold maxLen; omega) (by omega) hB
    exact ⟨v', w', ys, hr, hown, hRC, hgrow, hat⟩
theorem own_one {w : World} {B g : Nat} {a0 a1 a2 a3 a4 a5 a6 : Value} (hB : B ≤ g) (h : w.heap[g]? = some (.cells #[a0, a1, a2, a3, a4, a5, a6] 27 (0, 0))) : w.ownsRow B 27 7 (.slice (some ⟨g, 0, none⟩) 1 1) 1 [a0, a1, a2, a3, a4, a5, a6] :=
  ⟨rfl, .inr ⟨g, 1, _, rfl, hB, h, Nat.le_refl _, by unfold maxLen; omega, rfl, rfl⟩⟩
theorem own_two {w : World} {B g : Nat} {a0 a1 a2 a3 a4 a5 a6 b0 b1 b2 b3 b4 b5 b6 : Value} (hB : B ≤ g) (h : w.heap[g]? = some (.cells #[a0, a1, a2, a3, a4, a5, a6, b0, b1, b2, b3, b4, b5, b6] 27 (0, 0))) : w.ownsRow B 27 7 (.slice (some ⟨g, 0, none⟩) 2 2) 2 [a0, a1, a2, a3, a4, a5, a6, b0, b1, b2, b3, b4, b5, b6] :=
  ⟨rfl, .inr ⟨g, 2, _, rfl, hB, h, Nat.le_refl _, by unfold maxLen; omega, rfl, rfl⟩⟩
theorem tv_kind {Z : Nat → Prop} {w : World} {T : Tm} {k : Int} {neg : Bool} {D : Value} {nm : ByteArray} {n : Int} {L B : Value} (h : TV Z w T (tmV k neg D nm n L B)) : T.kind = k := by
  cases T with | mk tk tneg td tnm tn tl tb =>
  unfold TV at h
  obtain ⟨_, _, _, _, _, _, e, _⟩ := h
  simp only [tmV, Value.agg.injEq, Array.mk.injEq, List.cons.injEq, Value.int.injEq, true_and] at e
  exact e.1.symm
theorem cT_kinds {A U : Tm} (h : A.kind ≠ U.kind) : cT A U = cmpZ A.kind U.kind := by
  cases A with | mk k neg d nm n l b =>
  cases U with | mk k' neg' d' nm' n' l' b' =>
  exact cT_kind h
end Go.Proofs.YtgaecjocolihjaaDoor
