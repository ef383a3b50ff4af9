/- A row of terms made of two parts of another. -/
import Derived.Test.YtpdoepjnkgffpaaDoorSortFacts
namespace Go.Proofs.YtpdoepjnkgffpaaDoor
open Go.ChangeShapes Go.WideShapes Go.ChangeAt Go.ChangeMaps Go.RowKit Go.Shelf
set_option linter.unusedSimpArgs false
set_option linter.unusedVariables false
set_option maxRecDepth 2000
theorem apn_run (w : World) (B g n0 c0 : Nat) (xs0 : List Value) (o : Option Addr) (c : Nat) (l : List Tm) (hO : w.ownsRow B 31 7 (.slice (some ⟨g, 0, none⟩) n0 c0) n0 xs0) (hB : B ≤ w.heap.size) (hn : n0 ≤ 1000) (hl : l.length ≤ 1000) (hT : TR (fun k => k < B) w l o) :
    ∃ v' w' ys, (Builtin.append_ #[22, 22] 22 #[.slice (some ⟨g, 0, none⟩) n0 c0, .slice o l.length c]).run Tryd.prog w = .ok v' w' ∧ w'.ownsRow B 31 7 v' (n0 + l.length) (xs0 ++ ys) ∧ RC (fun k => k < B) w l ys ∧ w.grownBy w' (some g) ∧ (v'.ownBlock = some g ∨ v'.ownBlock = some w.heap.size) := by
  obtain ⟨iT, hT1, hT2, hT3, hT4⟩ := info_parts infoT
  obtain ⟨ys, hRC, hLc⟩ := hT.rc
  cases o with
  | none =>
    have hl0 : l = [] := by
      cases l with
      | nil => rfl
      | cons t q => unfold TR at hT; obtain ⟨a, _, e, _⟩ := hT; simp at e
    subst hl0
    have hy : ys = [] := hRC
    subst hy
    refine ⟨.slice (some ⟨g, 0, none⟩) n0 c0, w, [], ?_, by simpa using hO, hRC, ⟨rfl, rfl, rfl, Nat.le_refl _, fun _ _ _ => rfl⟩, .inl rfl⟩
    have hc0 : n0 ≤ c0 := by
      obtain ⟨_, _, _, _, h⟩ := own_blk hO
      exact h
    simp [Builtin.append_, run_underlying Tryd.underlying22, sizeOf, typeInfo, hT1, Builtin.lenOf, Builtin.firstCells, storeCells, Result.andThen, hc0]
  | some a =>
    obtain ⟨v', w', hr, hown, hgrow, _, hat⟩ := run_append_own_at (P := Tryd.prog) w B 22 22 31 iT (.agg #[.int .i64 0, .bool false, .slice none 0 0, .string ⟨#[]⟩, .int .i64 0, .slice none 0 0, .slice none 0 0]) 7 112 Tryd.underlying22 hT1 hT2 hT3 hT4 rfl (by decide) (.slice (some ⟨g, 0, none⟩) n0 c0) n0 xs0 hO a l.length c ys (by rw [hRC.len]) (fun j u hj => by
      obtain ⟨a', ha, hc⟩ := hLc j u hj
      obtain rfl := Option.some.inj ha
      exact hc) hRC.one (by unfold maxLen; omega) (by omega) hB
    exact ⟨v', w', ys, hr, hown, hRC, hgrow, hat⟩
/-- two rows put into a new one, one behind the other -/
theorem ap_two (W : World) (o1 : Option Addr) (c1 : Nat) (l1 : List Tm) (o2 : Option Addr) (c2 : Nat) (l2 : List Tm) (h1 : TR (Low W) W l1 o1) (h2 : TR (Low W) W l2 o2) (hl1 : l1.length ≤ 20) (hl2 : l2.length ≤ 20) :
    ∃ va wa vb wb, (Builtin.append_ #[22, 22] 22 #[.slice (some ⟨W.heap.size, 0, none⟩) 0 0, .slice o1 l1.length c1]).run Tryd.prog (W.alloc (.cells #[] 31)) = .ok va wa ∧
      (Builtin.append_ #[22, 22] 22 #[va, .slice o2 l2.length c2]).run Tryd.prog wa = .ok vb wb ∧
      ∃ ob cb, vb = .slice ob (l1.length + l2.length) cb ∧ TR (Low wb) wb (l1 ++ l2) ob ∧ Below W.heap.size W wa ∧ Below W.heap.size W wb := by
  have b0 : Below W.heap.size W (W.alloc (.cells #[] 31)) := (Below.refl _ _).alloc (Nat.le_refl _) _
  have hO0 : (W.alloc (.cells #[] 31)).ownsRow W.heap.size 31 7 (.slice (some ⟨W.heap.size, 0, none⟩) 0 0) 0 [] :=
    ⟨rfl, .inr ⟨W.heap.size, 0, _, rfl, Nat.le_refl _, heap_alloc_new W _, Nat.le_refl _, by decide, rfl, rfl⟩⟩
  have hT1 : TR (fun k => k < W.heap.size) (W.alloc (.cells #[] 31)) l1 o1 := TR.zs (fun k hk => b0.block k hk) _ _ h1
  obtain ⟨va, wa, ya, hra, hOa, hRa, hga, hat⟩ := apn_run _ W.heap.size W.heap.size 0 0 [] o1 c1 l1 hO0 (by simp) (by omega) (by omega) hT1
  have ba : Below W.heap.size W wa := b0.trans ⟨hga.os, hga.tape, hga.output, hga.size, fun k hk => hga.block k (by simp; omega) (fun e => by simp only [Option.some.injEq] at e; omega)⟩
  have hva : ∃ g c, va = .slice (some ⟨g, 0, none⟩) (0 + l1.length) c ∧ W.heap.size ≤ g := by
    obtain ⟨_, ⟨e, _⟩ | ⟨g, cap, cur, e, hg, _⟩⟩ := hOa
    · rw [e] at hat; simp [Value.ownBlock] at hat
    · exact ⟨g, cap, e, hg⟩
  obtain ⟨g, c, rfl, hg⟩ := hva
  have hT2 : TR (fun k => k < W.heap.size) wa l2 o2 := TR.zs (fun k hk => ba.block k hk) _ _ h2
  obtain ⟨vb, wb, yb, hrb, hOb, hRb, hgb, hbt⟩ := apn_run wa W.heap.size g (0 + l1.length) c _ o2 c2 l2 hOa ba.size (by omega) (by omega) hT2
  have bb : Below W.heap.size W wb := ba.trans ⟨hgb.os, hgb.tape, hgb.output, hgb.size, fun k hk => hgb.block k (by have := ba.size; omega) (fun e => by simp only [Option.some.injEq] at e; omega)⟩
  have hvb : ∃ g2 c2, vb = .slice (some ⟨g2, 0, none⟩) (0 + l1.length + l2.length) c2 := by
    obtain ⟨_, ⟨e, _⟩ | ⟨g2, cap, cur, e, hg2, _⟩⟩ := hOb
    · rw [e] at hbt; simp [Value.ownBlock] at hbt
    · exact ⟨g2, cap, e⟩
  obtain ⟨g2, c2', rfl⟩ := hvb
  refine ⟨_, _, _, _, hra, hrb, some ⟨g2, 0, none⟩, c2', by rw [Nat.zero_add], ?_, ba, bb⟩
  have hz1 : Zs (fun k => k < W.heap.size) (W.alloc (.cells #[] 31)) wb := fun k hk => (bb.block k hk).trans (b0.block k hk).symm
  have hz2 : Zs (fun k => k < W.heap.size) wa wb := fun k hk => (bb.block k hk).trans (ba.block k hk).symm
  have hR : RC (Low wb) wb (l1 ++ l2) ([] ++ ya ++ yb) := RC.join ((hRa.zs hz1).monoS (fun k hk _ => hk)) ((hRb.zs hz2).monoS (fun k hk _ => hk))
  obtain ⟨cur, hgg, _⟩ := own_blk hOb
  refine hR.tr (fun _ => (Array.getElem?_eq_some_iff.1 hgg).1) (fun j u hj => ?_)
  have := (rowB_of hOb).cell j u hj
  rwa [addr_add, Nat.zero_add]
theorem tr_take {Z : Nat → Prop} {w : World} : ∀ {l : List Tm} {o : Option Addr}, TR Z w l o → ∀ k, TR Z w (l.take k) o
  | [], _, _, k => by rw [List.take_nil]; unfold TR; trivial
  | t :: l, _, _, 0 => by rw [List.take_zero]; unfold TR; trivial
  | t :: l, o, h, k + 1 => by
    rw [List.take_succ_cons]
    unfold TR at h ⊢
    obtain ⟨a, v, h1, h2, h3, h4, h5⟩ := h
    exact ⟨a, v, h1, h2, h3, h4, tr_take h5 k⟩
theorem tr_drop {Z : Nat → Prop} {w : World} : ∀ {l : List Tm} {a : Addr}, TR Z w l (some a) → ∀ k, TR Z w (l.drop k) (some (a.add (k * 7)))
  | [], _, _, k => by rw [List.drop_nil]; unfold TR; trivial
  | t :: l, a, h, 0 => by rw [List.drop_zero, Nat.zero_mul, add_zero]; exact h
  | t :: l, a, h, k + 1 => by
    rw [List.drop_succ_cons]
    unfold TR at h
    obtain ⟨a', v, h1, h2, h3, h4, h5⟩ := h
    obtain rfl := Option.some.inj h1
    have := tr_drop h5 k
    rw [add_add, show 7 + k * 7 = (k + 1) * 7 by omega] at this
    exact this
theorem cnt_le (p : Tm → Bool) : ∀ l : List Tm, cnt p l ≤ l.length
  | [] => Nat.le_refl _
  | x :: l => by
    have := cnt_le p l
    simp only [cnt, List.length_cons]
    cases p x <;> simp <;> omega
theorem cnt_next {p : Tm → Bool} {l : List Tm} {j : Nat} {t : Tm} (h : l[j]? = some t) : cnt p (l.take (j + 1)) = cnt p (l.take j) + (p t).toNat := by
  rw [List.take_add_one, h, cnt_append]
  simp [cnt]
/-- what l[k:] is -/
theorem slice_row {w : World} {l : List Tm} {o : Option Addr} {k c : Nat} (h : TR (Low w) w l o) (hk : k ≤ l.length) (hc : l.length ≤ c) :
    ∃ oK, (∀ pa, o = some pa → (if c = k then some pa else some (pa.add (k * 7))) = oK) ∧ TR (Low w) w (l.drop k) oK := by
  cases o with
  | none =>
    refine ⟨none, fun pa e => by simp at e, ?_⟩
    have hl0 : l = [] := by
      cases l with
      | nil => rfl
      | cons t q => unfold TR at h; obtain ⟨a, _, e, _⟩ := h; simp at e
    subst hl0
    rw [List.drop_nil]; unfold TR; trivial
  | some pa =>
    refine ⟨if c = k then some pa else some (pa.add (k * 7)), fun pa' e => by obtain rfl := Option.some.inj e; rfl, ?_⟩
    split
    · rename_i e
      rw [List.drop_eq_nil_of_le (by omega)]; unfold TR; trivial
    · exact tr_drop h k
end Go.Proofs.YtpdoepjnkgffpaaDoor
