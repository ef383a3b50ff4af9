/- List of package term. -/
import Derived.Test.YtgaecjocolihjaaDoorTermInt
namespace Go.Proofs.YtgaecjocolihjaaDoor
open Go.ChangeShapes Go.WideShapes Go.ChangeAt Go.RowKit Go.Shelf
set_option linter.unusedSimpArgs false
set_option linter.unusedVariables false
def nilT : Tm := .mk 5 false [] noS 0 [] []
def consT (a b : Tm) : Tm := .mk 6 false [] noS 0 [a, b] []
def listT : List Tm → Tm
  | [] => nilT
  | t :: l => consT t (listT l)
def ZL (S gt : Nat) (w : World) : Nat → Prop := fun k => Zw S w k ∧ k ≠ gt
/-- zones follow memory -/
theorem zl_mono {S gt : Nat} {w w' : World} (hb : ∀ k, S ≤ k → k < w.heap.size → k ≠ gt → w'.heap[k]? = w.heap[k]?) : ∀ k, k < w.heap.size → ZL S gt w k → ZL S gt w' k := fun k hk hz => ⟨⟨hz.1.1, fun j => (World.frozen?_of_block (a := ⟨k, j, none⟩) (hb k hz.1.1 hk hz.2)).trans (hz.1.2 j)⟩, hz.2⟩
theorem zl_tv {S gt : Nat} {w w' : World} {t : Tm} {v : Value} (h : TV (ZL S gt w) w t v) (hb : ∀ k, S ≤ k → k < w.heap.size → k ≠ gt → w'.heap[k]? = w.heap[k]?) : TV (ZL S gt w') w' t v := by
  have h1 : TV (fun k => ZL S gt w k ∧ k < w.heap.size) w t v := TV.mono (fun k hk hz => ⟨hz, hk⟩) _ _ h
  have h2 := TV.zs (w' := w') (fun k hk => hb k hk.1.1.1 hk.2 hk.1.2) _ _ h1
  exact TV.mono (fun k _ hz => zl_mono hb k hz.2 hz.1) _ _ h2
theorem zl_tr {S gt : Nat} {w w' : World} {l : List Tm} {o : Option Addr} (h : TR (ZL S gt w) w l o) (hb : ∀ k, S ≤ k → k < w.heap.size → k ≠ gt → w'.heap[k]? = w.heap[k]?) : TR (ZL S gt w') w' l o := by
  have h1 : TR (fun k => ZL S gt w k ∧ k < w.heap.size) w l o := TR.mono (fun k hk hz => ⟨hz, hk⟩) _ _ h
  have h2 := TR.zs (w' := w') (fun k hk => hb k hk.1.1.1 hk.2 hk.1.2) _ _ h1
  exact TR.mono (fun k _ hz => zl_mono hb k hz.2 hz.1) _ _ h2
/-- two terms in a row of two -/
theorem tr_two {Z : Nat → Prop} {w : World} {t t' : Tm} {k k' : Int} {neg neg' : Bool} {od od' : Option Addr} {ld cd ld' cd' : Nat} {nm nm' : ByteArray} {n n' : Int} {ol ol' : Option Addr} {ll cl ll' cl' : Nat} {ob ob' : Option Addr} {lb cb lb' cb' : Nat} {g : Nat}
    (h : TV Z w t (tmV k neg (.slice od ld cd) nm n (.slice ol ll cl) (.slice ob lb cb))) (h' : TV Z w t' (tmV k' neg' (.slice od' ld' cd') nm' n' (.slice ol' ll' cl') (.slice ob' lb' cb'))) {ty : TypeId}
    (hg : w.heap[g]? = some (.cells #[.int .i64 k, .bool neg, .slice od ld cd, .string nm, .int .i64 n, .slice ol ll cl, .slice ob lb cb, .int .i64 k', .bool neg', .slice od' ld' cd', .string nm', .int .i64 n', .slice ol' ll' cl', .slice ob' lb' cb'] ty (0, 0))) (hZ : Z g) :
    TR Z w [t, t'] (some ⟨g, 0, none⟩) := by
  have q : ∀ j, w.cell? ((⟨g, 0, none⟩ : Addr).add j) = (#[.int .i64 k, .bool neg, .slice od ld cd, .string nm, .int .i64 n, .slice ol ll cl, .slice ob lb cb, .int .i64 k', .bool neg', .slice od' ld' cd', .string nm', .int .i64 n', .slice ol' ll' cl', .slice ob' lb' cb'] : Array Value)[j]? := fun j => by
    rw [addr_add, Nat.zero_add]; simp [World.cell?, hg]
  have q7 : ∀ j, w.cell? (((⟨g, 0, none⟩ : Addr).add 7).add j) = (#[.int .i64 k, .bool neg, .slice od ld cd, .string nm, .int .i64 n, .slice ol ll cl, .slice ob lb cb, .int .i64 k', .bool neg', .slice od' ld' cd', .string nm', .int .i64 n', .slice ol' ll' cl', .slice ob' lb' cb'] : Array Value)[7 + j]? := fun j => by
    rw [add_add]; exact q _
  have q0 := q 0
  have q70 := q7 0
  rw [add_zero] at q0 q70
  unfold TR
  refine ⟨_, _, rfl, hZ, ⟨_, _, _, _, _, _, _, rfl, q0, q 1, q 2, q 3, q 4, q 5, q 6⟩, h, ?_⟩
  unfold TR
  exact ⟨_, _, rfl, by rw [block_add]; exact hZ, ⟨_, _, _, _, _, _, _, rfl, q70, q7 1, q7 2, q7 3, q7 4, q7 5, q7 6⟩, h', by unfold TR; trivial⟩
theorem drop_at {l : List Tm} {i : Nat} {t : Tm} (h : l[i]? = some t) : l.drop i = t :: l.drop (i + 1) := by
  obtain ⟨hi, he⟩ := List.getElem?_eq_some_iff.1 h
  rw [List.drop_eq_getElem_cons hi, he]
end Go.Proofs.YtgaecjocolihjaaDoor
