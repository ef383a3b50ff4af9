/- detached of package term: a part on memory of its own. -/
import Derived.Test.YtddbndachoofoaaDoorTermMayC
namespace Go.Proofs.YtddbndachoofoaaDoor
open Go.ChangeShapes Go.WideShapes Go.ChangeAt Go.RowKit Go.Shelf
set_option linter.unusedSimpArgs false
set_option linter.unusedVariables false
theorem infoT : (Tryd.prog.info? 29).map (fun i => (i.zero, i.size, i.bytes)) = some (some (.agg #[.int .i64 0, .bool false, .slice none 0 0, .string ⟨#[]⟩, .int .i64 0, .slice none 0 0, .slice none 0 0]), 7, 112) := by kernel_rfl
/-- cells in a row, wherever they lie -/
def Lc (o : Option Addr) (xs : List Value) (w : World) : Prop := ∀ (j : Nat) (u : Value), xs[j]? = some u → ∃ a, o = some a ∧ w.cell? (a.add j) = some u
/-- append(nil, ..): a row of one's own -/
theorem ap_run (t e : TypeId) (i : TypeInfo) (z : Value) (size bytes : Nat) (ht : Tryd.prog.underlying t = some (.slice e)) (hi : Tryd.prog.info? e = some i) (hz : i.zero = some z) (hsize : i.size = size) (hby : i.bytes = bytes) (hzs : z.cells.size = size) (hsz : 0 < size)
    (W : World) (ao : Option Addr) (c n : Nat) (xs : List Value) (hl : xs.length = n * size) (h1 : ∀ u ∈ xs, u.oneCell' = true) (hn : n ≤ 1000000) (hb : n * bytes ≤ 140737488355328) (h : Lc ao xs W) :
    ∃ v' w', (Builtin.append_ #[t, t] t #[.slice none 0 0, .slice ao n c]).run Tryd.prog W = .ok v' w' ∧ w'.ownsRow W.heap.size e size v' n xs ∧ Below W.heap.size W w' := by
  cases ao with
  | none =>
    have hl0 : xs = [] := by
      cases xs with
      | nil => rfl
      | cons x t => obtain ⟨a, ha, _⟩ := h 0 x (by simp); simp at ha
    subst hl0
    have hn0 : n = 0 := by
      rcases Nat.eq_zero_or_pos n with h | h
      · exact h
      · have := Nat.mul_pos h hsz
        simp at hl; omega
    subst hn0
    refine ⟨.slice none 0 0, W, ?_, World.ownsRow_nil _ _ _ _, Below.refl _ _⟩
    simp [Builtin.append_, run_underlying ht, sizeOf, typeInfo, hi, Builtin.lenOf, Builtin.firstCells]
  | some a =>
    obtain ⟨v', w', hrun, hown, hgrow, _⟩ := run_append_own (P := Tryd.prog) W W.heap.size t t e i z size bytes ht hi hz hsize hby hzs hsz (.slice none 0 0) 0 [] (World.ownsRow_nil _ _ _ _) a n c xs hl (fun j u hj => by
        obtain ⟨a', ha, hc⟩ := h j u hj
        injection ha with ha; subst ha
        exact hc) h1 (by unfold maxLen; omega) (by simpa using hb) (Nat.le_refl _)
    refine ⟨v', w', hrun, by simpa using hown, (Below.refl _ W).grown hgrow (Nat.le_refl _) (fun k hk => by simp [Value.ownBlock] at hk)⟩
/-- the cells of terms in a row -/
def RC (Z : Nat → Prop) (w : World) : List Tm → List Value → Prop
  | [], xs => xs = []
  | t :: l, xs => ∃ k neg od ld cd nm n ol ll cl ob lb cb ys, TV Z w t (tmV k neg (.slice od ld cd) nm n (.slice ol ll cl) (.slice ob lb cb)) ∧ xs = .int .i64 k :: .bool neg :: .slice od ld cd :: .string nm :: .int .i64 n :: .slice ol ll cl :: .slice ob lb cb :: ys ∧ RC Z w l ys
theorem RC.len {Z : Nat → Prop} {w : World} : ∀ {l : List Tm} {xs : List Value}, RC Z w l xs → xs.length = l.length * 7
  | [], xs, h => by have : xs = [] := h; subst this; rfl
  | t :: l, xs, h => by
    obtain ⟨k, neg, od, ld, cd, nm, n, ol, ll, cl, ob, lb, cb, ys, _, rfl, hr⟩ := h
    have := hr.len
    simp only [List.length_cons]; omega
theorem RC.one {Z : Nat → Prop} {w : World} : ∀ {l : List Tm} {xs : List Value}, RC Z w l xs → ∀ u ∈ xs, u.oneCell' = true
  | [], xs, h => by have : xs = [] := h; subst this; simp
  | t :: l, xs, h => by
    obtain ⟨k, neg, od, ld, cd, nm, n, ol, ll, cl, ob, lb, cb, ys, _, rfl, hr⟩ := h
    intro u hu
    simp only [List.mem_cons] at hu
    rcases hu with rfl | rfl | rfl | rfl | rfl | rfl | rfl | hu
    all_goals first | rfl | exact hr.one u hu
theorem RC.zs {Z : Nat → Prop} {w w' : World} (hb : Zs Z w w') : ∀ {l : List Tm} {xs : List Value}, RC Z w l xs → RC Z w' l xs
  | [], xs, h => h
  | t :: l, xs, h => by
    obtain ⟨k, neg, od, ld, cd, nm, n, ol, ll, cl, ob, lb, cb, ys, ht, rfl, hr⟩ := h
    exact ⟨k, neg, od, ld, cd, nm, n, ol, ll, cl, ob, lb, cb, ys, TV.zs hb _ _ ht, rfl, hr.zs hb⟩
theorem TV.form {Z : Nat → Prop} {w : World} {t : Tm} {v : Value} (h : TV Z w t v) : ∃ k neg od ld cd nm n ol ll cl ob lb cb, v = tmV k neg (.slice od ld cd) nm n (.slice ol ll cl) (.slice ob lb cb) := by
  cases t with | mk k neg d nm n l b =>
  unfold TV at h
  obtain ⟨od, cd, ol, cl, ob, cb, rfl, _⟩ := h
  exact ⟨_, _, _, _, _, _, _, _, _, _, _, _, _, rfl⟩
theorem TR.rc {Z : Nat → Prop} {w : World} : ∀ {l : List Tm} {o : Option Addr}, TR Z w l o → ∃ xs, RC Z w l xs ∧ Lc o xs w
  | [], o, _ => ⟨[], rfl, fun j u hj => by simp at hj⟩
  | t :: l, o, h => by
    unfold TR at h
    obtain ⟨a, v, rfl, hZ, hA, hT, hr⟩ := h
    obtain ⟨k, neg, od, ld, cd, nm, n, ol, ll, cl, ob, lb, cb, rfl⟩ := hT.form
    obtain ⟨ys, h1, h2⟩ := TR.rc hr
    obtain ⟨c0, c1, c2, c3, c4, c5, c6⟩ := hA.tm
    refine ⟨_, ⟨k, neg, od, ld, cd, nm, n, ol, ll, cl, ob, lb, cb, ys, hT, rfl, h1⟩, fun j u hj => ⟨a, rfl, ?_⟩⟩
    rcases j with _ | _ | _ | _ | _ | _ | _ | j
    · simp at hj; subst hj; rw [add_zero]; exact c0
    · simp at hj; subst hj; exact c1
    · simp at hj; subst hj; exact c2
    · simp at hj; subst hj; exact c3
    · simp at hj; subst hj; exact c4
    · simp at hj; subst hj; exact c5
    · simp at hj; subst hj; exact c6
    · simp only [List.getElem?_cons_succ] at hj
      obtain ⟨a', ha, hc⟩ := h2 j u hj
      injection ha with ha; subst ha
      rw [add_add] at hc
      rw [show j + 1 + 1 + 1 + 1 + 1 + 1 + 1 = 7 + j by omega]; exact hc
theorem RC.tr {Z : Nat → Prop} {w : World} : ∀ {l : List Tm} {xs : List Value} {a : Addr}, RC Z w l xs → (l ≠ [] → Z a.block) → (∀ (j : Nat) (u : Value), xs[j]? = some u → w.cell? (a.add j) = some u) → TR Z w l (some a)
  | [], xs, a, _, _, _ => by unfold TR; trivial
  | t :: l, xs, a, h, hZ, hc => by
    obtain ⟨k, neg, od, ld, cd, nm, n, ol, ll, cl, ob, lb, cb, ys, ht, rfl, hr⟩ := h
    unfold TR
    have h0 := hc 0 _ rfl
    rw [add_zero] at h0
    refine ⟨a, _, rfl, hZ (by simp), ⟨_, _, _, _, _, _, _, rfl, h0, hc 1 _ rfl, hc 2 _ rfl, hc 3 _ rfl, hc 4 _ rfl, hc 5 _ rfl, hc 6 _ rfl⟩, ht, RC.tr hr (fun _ => by rw [block_add]; exact hZ (by simp)) (fun j u hj => ?_)⟩
    rw [add_add, show 7 + j = j + 7 by omega]
    exact hc (j + 7) u (by simpa using hj)
theorem Ls.lc {Z : Nat → Prop} {o : Option Addr} {xs : List Value} {w : World} (h : Ls Z o xs w) : Lc o xs w := fun j u hj => by
  obtain ⟨a, h1, _, h2⟩ := h j u hj
  exact ⟨a, h1, h2⟩
theorem lim_len (d : List Nat) : (lim d).length = d.length := by simp
theorem own_set {w : World} {B : Nat} {e : TypeId} {s : Nat} {v : Value} {n : Nat} {xs : List Value} (h : w.ownsRow B e s v n xs) {p : Addr} (hp : p.block < B) (x : Value) : (w.setCell p x).ownsRow B e s v n xs := by
  refine ⟨h.1, ?_⟩
  rcases h.2 with hn | ⟨g, cap, cur, hv, hbg, hg, rest⟩
  · exact .inl hn
  · refine .inr ⟨g, cap, cur, hv, hbg, ?_, rest⟩
    rw [Below.heap_setCell _ _ _ _ (fun e => by omega)]; exact hg
theorem own_below {w w' : World} {B : Nat} {e : TypeId} {s : Nat} {v : Value} {n : Nat} {xs : List Value} (h : w.ownsRow B e s v n xs) (hb : Below w.heap.size w w') : w'.ownsRow B e s v n xs := by
  refine ⟨h.1, ?_⟩
  rcases h.2 with hn | ⟨g, cap, cur, hv, hbg, hg, rest⟩
  · exact .inl hn
  · exact .inr ⟨g, cap, cur, hv, hbg, (hb.block g (Array.getElem?_eq_some_iff.1 hg).1).trans hg, rest⟩
theorem own_mono {w : World} {B B' : Nat} {e : TypeId} {s : Nat} {v : Value} {n : Nat} {xs : List Value} (h : w.ownsRow B e s v n xs) (hB : B' ≤ B) : w.ownsRow B' e s v n xs := by
  refine ⟨h.1, ?_⟩
  rcases h.2 with hn | ⟨g, cap, cur, hv, hbg, rest⟩
  · exact .inl hn
  · exact .inr ⟨g, cap, cur, hv, by omega, rest⟩
theorem own_sl {w : World} {B : Nat} {e : TypeId} {s : Nat} {v : Value} {m : Nat} {xs : List Value} (h : w.ownsRow B e s v m xs) : ∃ o cap, v = .slice o m cap ∧ m ≤ cap := by
  obtain ⟨h1, ⟨h2, rfl⟩ | ⟨g', cap', cur, h2, _, _, h3, _⟩⟩ := h
  · exact ⟨none, 0, h2, by omega⟩
  · exact ⟨_, cap', h2, h3⟩
end Go.Proofs.YtddbndachoofoaaDoor
