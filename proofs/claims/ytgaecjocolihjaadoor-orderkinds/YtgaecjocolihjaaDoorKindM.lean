/- Tuples and lists of terms in order; a row lengthened by another. -/
import Derived.Test.YtgaecjocolihjaaDoorKindOrd
namespace Go.Proofs.YtgaecjocolihjaaDoor
open Go.ChangeShapes Go.WideShapes Go.ChangeAt Go.ChangeMaps Go.RowKit Go.Shelf
set_option linter.unusedSimpArgs false
set_option linter.unusedVariables false
theorem cmpB_self : ∀ a : List UInt8, Lib.compareBytes a a = 0
  | [] => rfl
  | x :: xs => by
    unfold Lib.compareBytes
    simp [UInt8.lt_irrefl, cmpB_self xs]
theorem less_self (a : List UInt8) : lessZ a a = 0 := by
  unfold lessZ; split
  · exact lexZ_self _
  · exact cmpB_self _
mutual
theorem cT_refl : ∀ a : Tm, cT a a = 0
  | .mk k neg d nm n l b => by
    rw [cT, cz_self, lx_zero]
    by_cases h0 : k = 0
    · rw [if_pos h0, cz_self]
    rw [if_neg h0]
    by_cases h1 : k = 1
    · rw [if_pos h1, less_self]
    rw [if_neg h1]
    by_cases h2 : k = 2 ∨ k = 3
    · rw [if_pos h2, cz_self]
    rw [if_neg h2]
    by_cases h7 : k = 7
    · rw [if_pos h7, lexZ_self]
    rw [if_neg h7]
    by_cases h4 : k = 4 ∨ k = 6
    · rw [if_pos h4, cz_self, lx_zero, cR_refl l]
    rw [if_neg h4]
theorem cR_refl : ∀ l : List Tm, cR l l = 0
  | [] => cR_nil _
  | t :: l => by rw [cR_cons, cT_refl t, lx_zero, cR_refl l]
end
theorem ok_list {l : List Tm} (h : ∀ p ∈ partsL l, p.ok1) : ∀ p ∈ parts (listT l), p.ok1 := fun p hp => by
  rcases mem_list_parts l p hp with h1 | ⟨a, b, rfl⟩ | rfl
  · exact h p h1
  · exact ⟨by simp, by simp [ByteArray.size], by simp, by simp, Lm.nil _⟩
  · exact ⟨by simp, by simp [ByteArray.size], by simp, by simp, Lm.nil _⟩
theorem ok_tup {l : List Tm} (hl : l.length ≤ 1000000) (h : ∀ p ∈ partsL l, p.ok1) : ∀ p ∈ parts (tupT l), p.ok1 := fun p hp => by
  rw [parts_tup] at hp
  rcases List.mem_cons.1 hp with rfl | hp
  · exact ⟨by simp, by simp [ByteArray.size], hl, by simp, Lm.nil _⟩
  · exact h p hp
theorem cT_tup (A U : Tm) (l : List Tm) : cT (tupT (A :: l)) (tupT (U :: l)) = cT A U := by
  unfold tupT
  rw [cT_4, cR_cons, cR_refl, lx_right]
  have : cmpZ ((A :: l).length : Int) ((U :: l).length : Int) = 0 := by simp [cz_self]
  rw [this, lx_zero]
theorem cT_list (A U : Tm) (l : List Tm) : cT (listT (A :: l)) (listT (U :: l)) = cT A U := by
  unfold listT consT
  rw [cT_6, cR_cons, cR_cons, cT_refl, lx_zero, cR_nil, lx_right]
  have : cmpZ (([A, listT l] : List Tm).length : Int) (([U, listT l] : List Tm).length : Int) = 0 := by simp [cz_self]
  rw [this, lx_zero]
theorem cT_more (A B C : Tm) (l : List Tm) : cT (tupT (A :: l)) (tupT (B :: C :: l)) = -1 := by
  unfold tupT
  have h : cmpZ ((A :: l).length : Int) ((B :: C :: l).length : Int) = -1 := by
    unfold cmpZ
    rw [if_pos (by simp only [List.length_cons]; omega)]
  rw [cT_4, h, lx_ne (by decide)]
theorem cT_tl (A B : Tm) (l l' : List Tm) : cT (tupT (A :: l)) (listT (B :: l')) = -1 := by
  unfold tupT listT consT
  rw [cT_kind (by decide)]
  decide
theorem wf_tupT {l : List Tm} (hl : l.length ≤ 1000000) (h : wfL l) : wfT (tupT l) := fun p hp => by
  rw [parts_tup] at hp
  rcases List.mem_cons.1 hp with rfl | hp
  · exact ⟨by omega, by omega, fun e => by omega, fun e => by omega, by simp, by simp [ByteArray.size], hl, by simp, Lm.nil _⟩
  · exact h p hp
theorem wf_listT {l : List Tm} (h : wfL l) : wfT (listT l) := fun p hp => by
  rcases mem_list_parts l p hp with h1 | ⟨a, b, rfl⟩ | rfl
  · exact h p h1
  · exact ⟨by omega, by omega, fun _ => rfl, fun e => by omega, by simp, by simp [ByteArray.size], by simp, by simp, Lm.nil _⟩
  · exact ⟨by omega, by omega, fun e => by omega, fun e => by omega, by simp, by simp [ByteArray.size], by simp, by simp, Lm.nil _⟩
theorem dep_tup (l : List Tm) : dep (tupT l) = depL l + 1 := by simp [tupT, dep]
theorem wfL_of {l : List Tm} (h : ∀ t ∈ l, wfT t) : wfL l := by
  induction l with
  | nil => exact wfL.nil
  | cons t l ih => exact wfL.cons (h t (by simp)) (ih (fun q hq => h q (by simp [hq])))
theorem RC.cat {Z : Nat → Prop} {w : World} : ∀ {l l' : List Tm} {xs ys : List Value}, RC Z w l xs → RC Z w l' ys → RC Z w (l ++ l') (xs ++ ys)
  | [], l', xs, ys, h, h' => by
    have : xs = [] := h
    subst this
    exact h'
  | t :: l, l', xs, ys, h, h' => by
    obtain ⟨k, neg, od, ld, cd, nm, n, ol, ll, cl, ob, lb, cb, zs, ht, rfl, hr⟩ := h
    exact ⟨k, neg, od, ld, cd, nm, n, ol, ll, cl, ob, lb, cb, zs ++ ys, ht, rfl, hr.cat h'⟩
/-- a row of one's own, lengthened by another row -/
theorem ap2_run (w : World) (B g n0 : Nat) (xs0 : List Value) (o : Option Addr) (c : Nat) (l : List Tm) (hO : w.ownsRow B 27 7 (.slice (some ⟨g, 0, none⟩) n0 n0) n0 xs0) (hB : B ≤ w.heap.size) (hn : n0 ≤ 2) (hl : l.length ≤ 1000) (hT : TR (fun k => k < B) w l o) :
    ∃ v' w' ys, (Builtin.append_ #[24, 24] 24 #[.slice (some ⟨g, 0, none⟩) n0 n0, .slice o l.length c]).run Tryd.prog w = .ok v' w' ∧ w'.ownsRow B 27 7 v' (n0 + l.length) (xs0 ++ ys) ∧ RC (fun k => k < B) w l ys ∧ w.grownBy w' (some g) ∧ (v'.ownBlock = some g ∨ v'.ownBlock = some w.heap.size) := by
  obtain ⟨iT, hT1, hT2, hT3, hT4⟩ := info_parts infoT
  obtain ⟨ys, hRC, hLc⟩ := hT.rc
  cases o with
  | none =>
    have hl0 : l = [] := by
      cases l with
      | nil => rfl
      | cons t q => unfold TR at hT; obtain ⟨a, _, e, _⟩ := hT; simp at e
    subst hl0
    have hy : ys = [] := hRC
    subst hy
    refine ⟨.slice (some ⟨g, 0, none⟩) n0 n0, w, [], ?_, by simpa using hO, hRC, ⟨rfl, rfl, rfl, Nat.le_refl _, fun _ _ _ => rfl⟩, .inl rfl⟩
    simp [Builtin.append_, run_underlying Tryd.underlying24, sizeOf, typeInfo, hT1, Builtin.lenOf, Builtin.firstCells, storeCells, Result.andThen]
  | some a =>
    obtain ⟨v', w', hr, hown, hgrow, _, hat⟩ := run_append_own_at (P := Tryd.prog) w B 24 24 27 iT (.agg #[.int .i64 0, .bool false, .slice none 0 0, .string ⟨#[]⟩, .int .i64 0, .slice none 0 0, .slice none 0 0]) 7 112 Tryd.underlying24 hT1 hT2 hT3 hT4 rfl (by decide) (.slice (some ⟨g, 0, none⟩) n0 n0) n0 xs0 hO a l.length c ys (by rw [hRC.len]) (fun j u hj => by
      obtain ⟨a', ha, hc⟩ := hLc j u hj
      injection ha with ha; subst ha
      exact hc) hRC.one (by unfold maxLen; omega) (by omega) hB
    exact ⟨v', w', ys, hr, hown, hRC, hgrow, hat⟩
theorem own_one {w : World} {B g : Nat} {a0 a1 a2 a3 a4 a5 a6 : Value} (hB : B ≤ g) (h : w.heap[g]? = some (.cells #[a0, a1, a2, a3, a4, a5, a6] 27 (0, 0))) : w.ownsRow B 27 7 (.slice (some ⟨g, 0, none⟩) 1 1) 1 [a0, a1, a2, a3, a4, a5, a6] :=
  ⟨rfl, .inr ⟨g, 1, _, rfl, hB, h, Nat.le_refl _, by unfold maxLen; omega, rfl, rfl⟩⟩
theorem own_two {w : World} {B g : Nat} {a0 a1 a2 a3 a4 a5 a6 b0 b1 b2 b3 b4 b5 b6 : Value} (hB : B ≤ g) (h : w.heap[g]? = some (.cells #[a0, a1, a2, a3, a4, a5, a6, b0, b1, b2, b3, b4, b5, b6] 27 (0, 0))) : w.ownsRow B 27 7 (.slice (some ⟨g, 0, none⟩) 2 2) 2 [a0, a1, a2, a3, a4, a5, a6, b0, b1, b2, b3, b4, b5, b6] :=
  ⟨rfl, .inr ⟨g, 2, _, rfl, hB, h, Nat.le_refl _, by unfold maxLen; omega, rfl, rfl⟩⟩
theorem tv_kind {Z : Nat → Prop} {w : World} {T : Tm} {k : Int} {neg : Bool} {D : Value} {nm : ByteArray} {n : Int} {L B : Value} (h : TV Z w T (tmV k neg D nm n L B)) : T.kind = k := by
  cases T with | mk tk tneg td tnm tn tl tb =>
  unfold TV at h
  obtain ⟨_, _, _, _, _, _, e, _⟩ := h
  simp only [tmV, Value.agg.injEq, Array.mk.injEq, List.cons.injEq, Value.int.injEq, true_and] at e
  exact e.1.symm
theorem cT_kinds {A U : Tm} (h : A.kind ≠ U.kind) : cT A U = cmpZ A.kind U.kind := by
  cases A with | mk k neg d nm n l b =>
  cases U with | mk k' neg' d' nm' n' l' b' =>
  exact cT_kind h
end Go.Proofs.YtgaecjocolihjaaDoor
