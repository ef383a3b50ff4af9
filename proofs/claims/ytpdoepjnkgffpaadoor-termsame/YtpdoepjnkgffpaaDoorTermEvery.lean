/- every of package term: a walk over all parts of a term. -/
import Derived.Test.YtpdoepjnkgffpaaDoorTermMem
import Derived.Shelf.Abstract
namespace Go.Proofs.YtpdoepjnkgffpaaDoor
open Go.ChangeShapes Go.WideShapes Go.ChangeAt Go.RowKit
set_option linter.unusedSimpArgs false
set_option linter.unusedVariables false
set_option maxRecDepth 2000
theorem infoR : (Tryd.prog.info? 22).map (fun i => (i.zero, i.size, i.bytes)) = some (some (.slice none 0 0), 1, 24) := by kernel_rfl
theorem fld5 (k : Int) (neg : Bool) (D : Value) (nm : ByteArray) (n : Int) (o : Option Addr) (a c : Nat) (B : Value) (w : World) : (Instr.field 31 (.agg #[.int .i64 k, .bool neg, D, .string nm, .int .i64 n, .slice o a c, B]) 5).run Tryd.prog w = .ok (.slice o a c) w := by kernel_rfl
structure Rw where
  o : Option Addr
  c : Nat
  l : List Tm
def Rw.val (r : Rw) : Value := .slice r.o r.l.length r.c
def flat : List Rw → List Tm
  | [] => []
  | r :: st => partsL r.l ++ flat st
def StOk (Z : Nat → Prop) (w : World) : Nat → List Rw → Prop
  | _, [] => True
  | e, r :: st => r.l ≠ [] ∧ r.l.length ≤ r.c ∧ TR Z w r.l r.o ∧ depL r.l ≤ e ∧ StOk Z w (e + 1) st
theorem StOk.zs {Z : Nat → Prop} {w w' : World} (hb : Zs Z w w') : ∀ (e : Nat) (st : List Rw), StOk Z w e st → StOk Z w' e st
  | _, [], _ => trivial
  | e, r :: st, h => ⟨h.1, h.2.1, TR.zs hb _ _ h.2.2.1, h.2.2.2.1, StOk.zs hb (e + 1) st h.2.2.2.2⟩
theorem own_take1 {w : World} {B : Nat} {e : TypeId} {g m cap : Nat} {xs : List Value} {x : Value} (h : w.ownsRow B e 1 (.slice (some ⟨g, 0, none⟩) (m + 1) cap) (m + 1) (xs ++ [x])) :
    w.ownsRow B e 1 (.slice (some ⟨g, 0, none⟩) m cap) m xs ∧ w.cell? ⟨g, m, none⟩ = some x ∧ B ≤ g ∧ g < w.heap.size ∧ m + 1 ≤ cap := by
  obtain ⟨h1, ⟨h2, _⟩ | ⟨g', cap', cur, h2, hB, hg, hn, hm, hs, ht⟩⟩ := h
  · simp at h2
  · simp only [Value.slice.injEq, Option.some.injEq, Addr.mk.injEq, and_true, true_and] at h2
    obtain ⟨rfl, rfl⟩ := h2
    have hl : xs.length = m := by simp at h1; omega
    have e1 : cur.toList.take (m * 1) = xs := by
      have := congrArg (List.take m) ht
      rw [List.take_take, Nat.min_eq_left (by omega)] at this
      rw [Nat.mul_one, this]
      simp [← hl]
    refine ⟨⟨by omega, .inr ⟨g, cap, cur, rfl, hB, hg, by omega, hm, hs, e1⟩⟩, ?_, hB, (Array.getElem?_eq_some_iff.1 hg).1, hn⟩
    have hc : w.cell? ⟨g, m, none⟩ = cur[m]? := by simp [World.cell?, hg]
    rw [hc, ← Array.getElem?_toList]
    have := congrArg (·[m]?) ht
    simp only [List.getElem?_take, Nat.mul_one] at this
    rw [if_pos (by omega)] at this
    rw [this, List.getElem?_append_right (by omega)]
    simp [hl]
theorem own_shape {w : World} {B : Nat} {e : TypeId} {v : Value} {m : Nat} {xs : List Value} (h : w.ownsRow B e 1 v m xs) : ∃ o cap, v = .slice o m cap ∧ (0 < m → ∃ g, o = some ⟨g, 0, none⟩) := by
  obtain ⟨h1, ⟨h2, rfl⟩ | ⟨g', cap', cur, h2, _⟩⟩ := h
  · exact ⟨none, 0, h2, fun h => by omega⟩
  · exact ⟨_, cap', h2, fun _ => ⟨g', rfl⟩⟩
theorem own_kept {w w' : World} {F : Nat → Prop} {B : Nat} {e : TypeId} {v : Value} {m : Nat} {xs : List Value} (h : w.ownsRow B e 1 v m xs) (hk : Kept F w w') (hF : ∀ k, F k → k < B) : w'.ownsRow B e 1 v m xs := by
  obtain ⟨h1, h2 | ⟨g', cap', cur, h2, hB, hg, rest⟩⟩ := h
  · exact ⟨h1, .inl h2⟩
  · exact ⟨h1, .inr ⟨g', cap', cur, h2, hB, (hk.block g' (Array.getElem?_eq_some_iff.1 hg).1 (fun hf => by have := hF _ hf; omega)).trans hg, rest⟩⟩
/-- a part without what its kind does not use: its row -/
theorem prV_row {Z : Nat → Prop} {w : World} {k : Int} {neg : Bool} {d : List Nat} {nm : ByteArray} {n : Int} {l : List Tm} {b : List Nat} {od ol ob : Option Addr} {cd cl cb : Nat} (hc : l.length ≤ cl) (hr : TR Z w l ol) :
    ∃ k' neg' od' ld' cd' nm' n' ok ck ob' lb' cb', prV k neg (.slice od d.length cd) nm n (.slice ol l.length cl) (.slice ob b.length cb) = tmV k' neg' (.slice od' ld' cd') nm' n' (.slice ok (Tm.mk k neg d nm n l b).kids.length ck) (.slice ob' lb' cb') ∧ (Tm.mk k neg d nm n l b).kids.length ≤ ck ∧ TR Z w (Tm.mk k neg d nm n l b).kids ok := by
  unfold prV Tm.kids
  by_cases h0 : k = 0
  · subst h0; exact ⟨_, _, _, _, _, _, _, none, 0, _, _, _, rfl, by simp, by simp [TR]⟩
  by_cases h1 : k = 1
  · subst h1; exact ⟨_, _, _, _, _, _, _, none, 0, _, _, _, rfl, by simp, by simp [TR]⟩
  by_cases h2 : k = 2
  · subst h2; exact ⟨_, _, _, _, _, _, _, none, 0, _, _, _, rfl, by simp, by simp [TR]⟩
  by_cases h3 : k = 3
  · subst h3; exact ⟨_, _, _, _, _, _, _, none, 0, _, _, _, rfl, by simp, by simp [TR]⟩
  by_cases h4 : k = 4
  · subst h4; exact ⟨_, _, _, _, _, _, _, ol, cl, _, _, _, rfl, by simpa using hc, by simpa using hr⟩
  by_cases h6 : k = 6
  · subst h6; exact ⟨_, _, _, _, _, _, _, ol, cl, _, _, _, rfl, by simpa using hc, by simpa using hr⟩
  by_cases h7 : k = 7
  · subst h7; exact ⟨_, _, _, _, _, _, _, none, 0, _, _, _, rfl, by simp, by simp [TR]⟩
  simp only [h0, h1, h2, h3, h4, h6, h7, if_false, or_self]
  exact ⟨_, _, _, _, _, _, _, none, 0, _, _, _, rfl, by simp, by simp [TR]⟩
end Go.Proofs.YtpdoepjnkgffpaaDoor
