/- every of package term. -/
import Derived.Test.YtgaecjocolihjaaDoorTermEvery
namespace Go.Proofs.YtgaecjocolihjaaDoor
open Go.ChangeShapes Go.WideShapes Go.ChangeAt Go.RowKit Go.Shelf
set_option linter.unusedSimpArgs false
set_option linter.unusedVariables false
theorem At7.tm {a : Addr} {k : Int} {neg : Bool} {D : Value} {nm : ByteArray} {n : Int} {L B : Value} {w : World} (h : At7 a (tmV k neg D nm n L B) w) : w.cell? a = some (.int .i64 k) ∧ w.cell? ⟨a.block, a.off + 1, none⟩ = some (.bool neg) ∧ w.cell? ⟨a.block, a.off + 2, none⟩ = some D ∧ w.cell? ⟨a.block, a.off + 3, none⟩ = some (.string nm) ∧ w.cell? ⟨a.block, a.off + 4, none⟩ = some (.int .i64 n) ∧ w.cell? ⟨a.block, a.off + 5, none⟩ = some L ∧ w.cell? ⟨a.block, a.off + 6, none⟩ = some B := by
  obtain ⟨a0, a1, a2, a3, a4, a5, a6, e, h⟩ := h
  simp only [Value.agg.injEq, Array.mk.injEq, List.cons.injEq, and_true] at e
  obtain ⟨rfl, rfl, rfl, rfl, rfl, rfl, rfl⟩ := e
  exact h
theorem heap_new (w : World) (o : Obj) : (w.alloc o).heap[w.heap.size]? = some o := heap_alloc_new w o
theorem hstart {w : World} {F : Nat → Prop} {k : Int} {neg : Bool} {d : List Nat} {nm : ByteArray} {n : Int} {l : List Tm} {b : List Nat} {od ol ob : Option Addr} {cd cl cb : Nat} {t : TypeId}
    (hT : TV (fun k => k < w.heap.size ∧ ¬ F k) w (.mk k neg d nm n l b) (tmV k neg (.slice od d.length cd) nm n (.slice ol l.length cl) (.slice ob b.length cb))) :
    ∀ W0, W0 = (((w.alloc (.cells #[.int .i64 k, .bool neg, .slice od d.length cd, .string nm, .int .i64 n, .slice ol l.length cl, .slice ob b.length cb] t)).alloc (.cells #[.int .i64 k, .bool neg, .slice od d.length cd, .string nm, .int .i64 n, .slice ol l.length cl, .slice ob b.length cb] t)).alloc (.cells #[.slice (some ⟨w.heap.size + 1, 0, none⟩) 1 1] 24)) →
    Below w.heap.size w W0 ∧ W0.heap.size = w.heap.size + 3 ∧ W0.ownsRow (w.heap.size + 2) 24 1 (.slice (some ⟨w.heap.size + 2, 0, none⟩) 1 1) 1 [.slice (some ⟨w.heap.size + 1, 0, none⟩) 1 1] ∧ TR (fun k => (k < w.heap.size ∧ ¬ F k) ∨ k = w.heap.size + 1) W0 [.mk k neg d nm n l b] (some ⟨w.heap.size + 1, 0, none⟩) := by
  rintro W0 rfl
  have hB : Below w.heap.size w (((w.alloc (.cells #[.int .i64 k, .bool neg, .slice od d.length cd, .string nm, .int .i64 n, .slice ol l.length cl, .slice ob b.length cb] t)).alloc (.cells #[.int .i64 k, .bool neg, .slice od d.length cd, .string nm, .int .i64 n, .slice ol l.length cl, .slice ob b.length cb] t)).alloc (.cells #[.slice (some ⟨w.heap.size + 1, 0, none⟩) 1 1] 24)) :=
    (((Below.refl _ w).alloc (Nat.le_refl _) _).alloc (by simp) _).alloc (by simp; omega) _
  refine ⟨hB, by simp, ?_, ?_⟩
  · have := World.ownsRow_lit (e := 24) (size := 1) (base := w.heap.size + 2) ((w.alloc (.cells #[.int .i64 k, .bool neg, .slice od d.length cd, .string nm, .int .i64 n, .slice ol l.length cl, .slice ob b.length cb] t)).alloc (.cells #[.int .i64 k, .bool neg, .slice od d.length cd, .string nm, .int .i64 n, .slice ol l.length cl, .slice ob b.length cb] t)) #[.slice (some ⟨w.heap.size + 1, 0, none⟩) 1 1] 1 (by simp) (by simp [maxLen]) (by simp)
    simpa using this
  · unfold TR
    refine ⟨_, tmV k neg (.slice od d.length cd) nm n (.slice ol l.length cl) (.slice ob b.length cb), rfl, .inr rfl, ?_, ?_, by unfold TR; trivial⟩
    · have hbx := (Bx.new (w.alloc (.cells #[.int .i64 k, .bool neg, .slice od d.length cd, .string nm, .int .i64 n, .slice ol l.length cl, .slice ob b.length cb] t)) (.int .i64 k) (.bool neg) (.slice od d.length cd) (.string nm) (.int .i64 n) (.slice ol l.length cl) (.slice ob b.length cb) t).below ((Below.refl _ _).alloc (Nat.le_refl _) (.cells #[.slice (some ⟨w.heap.size + 1, 0, none⟩) 1 1] 24))
      rw [World.size_alloc] at hbx
      exact ⟨_, _, _, _, _, _, _, rfl, hbx.c0, by simpa [addr_add] using hbx.c1, by simpa [addr_add] using hbx.c2, by simpa [addr_add] using hbx.c3, by simpa [addr_add] using hbx.c4, by simpa [addr_add] using hbx.c5, by simpa [addr_add] using hbx.c6⟩
    · refine TV.mono (fun k _ h => .inl h) _ _ (TV.zs (fun k hk => hB.block k hk.1) _ _ hT)
abbrev ZZ (F : Nat → Prop) (S : Nat) : Nat → Prop := fun k => (k < S ∧ ¬ F k) ∨ k = S + 1
theorem zz_kept {F : Nat → Prop} {S : Nat} {w w' : World} (h : Kept F w w') (hS : S + 3 ≤ w.heap.size) (hF : ∀ k, F k → k < S) : Zs (ZZ F S) w w' := fun k hk => by
  rcases hk with ⟨h1, h2⟩ | rfl
  · exact h.block k (by omega) h2
  · exact h.block _ (by omega) (fun hf => by have := hF _ hf; omega)
theorem zz_high {F : Nat → Prop} {S : Nat} {w w' : World} (h : Kept (fun k => S + 2 ≤ k) w w') (hS : S + 3 ≤ w.heap.size) : Zs (ZZ F S) w w' := fun k hk => by
  rcases hk with ⟨h1, h2⟩ | rfl
  · exact h.block k (by omega) (by omega)
  · exact h.block _ (by omega) (by omega)
theorem tv_zz {F : Nat → Prop} {S : Nat} {w : World} {t : Tm} {v : Value} (h : TV (ZZ F S) w t v) (hF : ∀ k, F k → k < S) : TV (fun k => k < w.heap.size ∧ ¬ F k) w t v := TV.mono (fun k hk hz => ⟨hk, by
  rcases hz with ⟨h1, h2⟩ | rfl
  · exact h2
  · exact fun hf => by have := hF _ hf; omega⟩) _ _ h
theorem drop_step {PT : List Tm} {k : Nat} {t : Tm} {r : List Tm} (h : PT.drop k = t :: r) : PT[k]? = some t ∧ PT.drop (k + 1) = r ∧ k + 1 ≤ PT.length := by
  have h1 : k < PT.length := by
    rcases Nat.lt_or_ge k PT.length with h1 | h1
    · exact h1
    · rw [List.drop_eq_nil_of_le h1] at h; simp at h
  have h2 := List.drop_eq_getElem_cons h1
  rw [h] at h2
  injection h2 with h3 h4
  exact ⟨by rw [h3]; simp [h1], h4.symm, h1⟩
end Go.Proofs.YtgaecjocolihjaaDoor
