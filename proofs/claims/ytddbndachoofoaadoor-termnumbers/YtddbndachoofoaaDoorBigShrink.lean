/- shrink of package big. -/
import Derived.Test.YtddbndachoofoaaDoorBigOf
namespace Go.Proofs.YtddbndachoofoaaDoor
open Go.ChangeShapes Go.WideShapes Go.ChangeAt Go.RowKit
set_option linter.unusedSimpArgs false
set_option linter.unusedVariables false
/-- one block alone has changed -/
def Only (g : Nat) (w w' : World) : Prop := Below g w w' ∧ w'.heap.size = w.heap.size ∧ ∀ k, k ≠ g → w'.heap[k]? = w.heap[k]?
theorem Only.refl (g : Nat) (w : World) : Only g w w := ⟨Below.refl _ _, rfl, fun _ _ => rfl⟩
theorem Only.trans {g : Nat} {a b c : World} (h : Only g a b) (h' : Only g b c) : Only g a c := ⟨h.1.trans h'.1, h'.2.1.trans h.2.1, fun k hk => (h'.2.2 k hk).trans (h.2.2 k hk)⟩
theorem Only.setCell {g : Nat} {a b : World} (h : Only g a b) (j : Nat) (v : Value) : Only g a (b.setCell ⟨g, j, none⟩ v) :=
  ⟨h.1.setCell (Nat.le_refl _) v, by simpa using h.2.1, fun k hk => by rw [Below.heap_setCell _ _ _ _ (fun e => hk (by first | exact e | exact e.symm))]; exact h.2.2 k hk⟩
theorem Only.below {g B : Nat} {a b : World} (h : Only g a b) (hB : B ≤ g) : Below B a b := below_le h.1 hB
theorem Only.drewN {g : Nat} {a b : World} (h : Only g a b) (n : Nat) : Only g a (b.drewN n) := by
  induction n with
  | zero => exact h
  | succ n ih => exact ⟨ih.1.drew, ih.2.1, ih.2.2⟩
theorem Box.only {g k : Nat} {u v : Value} {w w' : World} (h : Box k u v w) (ho : Only g w w') (hk : k ≠ g) : Box k u v w' :=
  ⟨(World.cell?_of_block (a := ⟨k, 0, none⟩) (ho.2.2 k hk)).trans h.1, (World.cell?_of_block (a := ⟨k, 1, none⟩) (ho.2.2 k hk)).trans h.2.1, (World.frozen?_of_block (a := ⟨k, 0, none⟩) (ho.2.2 k hk)).trans h.2.2.1, (World.frozen?_of_block (a := ⟨k, 1, none⟩) (ho.2.2 k hk)).trans h.2.2.2⟩
theorem or32 {r x : Nat} (hr : r < 4294967296) (hx : x < 4294967296) : bits .or .u64 ((r * 4294967296 : Nat) : Int) (x : Int) = ((r * 4294967296 + x : Nat) : Int) := by
  rw [u64_or _ _ (by omega) (by omega) (by omega) (by omega)]
  simp only [Int.toNat_natCast]
  rw [nat_join 32 _ _ (by omega) (by omega)]
theorem shrink_step {d q r r' x G T : Nat} (hc : q * d + r' = r * 4294967296 + x) (h : G * d + r = T) : (q + 4294967296 * G) * d + r' = x + 4294967296 * T := by
  subst h
  rw [Nat.add_mul, Nat.mul_add, Nat.mul_assoc]
  omega
theorem gval_drop_at (b : Nat) {l : List Nat} {k x : Nat} (h : l[k]? = some x) : gval b (l.drop k) = x + b * gval b (l.drop (k + 1)) := by
  have hi : k < l.length := (List.getElem?_eq_some_iff.1 h).1
  have hx : l[k] = x := (List.getElem?_eq_some_iff.1 h).2
  rw [List.drop_eq_getElem_cons hi, hx]; rfl
theorem gval_drop_set (b : Nat) {l : List Nat} {k : Nat} (x : Nat) (h : k < l.length) : gval b ((l.set k x).drop k) = x + b * gval b (l.drop (k + 1)) := by
  rw [gval_drop_at b (x := x) (by simp [h]), List.drop_set_of_lt (by omega)]
end Go.Proofs.YtddbndachoofoaaDoor
