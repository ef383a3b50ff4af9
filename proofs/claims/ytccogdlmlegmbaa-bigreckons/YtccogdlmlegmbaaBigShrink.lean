/- shrink of package big. -/
import Derived.Test.YtccogdlmlegmbaaBigOf
namespace Go.Proofs.Ytccogdlmlegmbaa
open Go.ChangeShapes Go.WideShapes Go.ChangeAt Go.RowKit
set_option linter.unusedSimpArgs false
set_option linter.unusedVariables false
/-- one block alone has changed -/
def Only (g : Nat) (w w' : World) : Prop := Below g w w' ∧ w'.heap.size = w.heap.size ∧ ∀ k, k ≠ g → w'.heap[k]? = w.heap[k]?
theorem Only.refl (g : Nat) (w : World) : Only g w w := ⟨Below.refl _ _, rfl, fun _ _ => rfl⟩
theorem Only.trans {g : Nat} {a b c : World} (h : Only g a b) (h' : Only g b c) : Only g a c := ⟨h.1.trans h'.1, h'.2.1.trans h.2.1, fun k hk => (h'.2.2 k hk).trans (h.2.2 k hk)⟩
theorem Only.setCell {g : Nat} {a b : World} (h : Only g a b) (j : Nat) (v : Value) : Only g a (b.setCell ⟨g, j, none⟩ v) :=
  ⟨h.1.setCell (Nat.le_refl _) v, by simpa using h.2.1, fun k hk => by rw [Below.heap_setCell _ _ _ _ (fun e => hk (by first | exact e | exact e.symm))]; exact h.2.2 k hk⟩
theorem Only.below {g B : Nat} {a b : World} (h : Only g a b) (hB : B ≤ g) : Below B a b := below_le h.1 hB
theorem Only.drewN {g : Nat} {a b : World} (h : Only g a b) (n : Nat) : Only g a (b.drewN n) := by
  induction n with
  | zero => exact h
  | succ n ih => exact ⟨ih.1.drew, ih.2.1, ih.2.2⟩
theorem Box.only {g k : Nat} {u v : Value} {w w' : World} (h : Box k u v w) (ho : Only g w w') (hk : k ≠ g) : Box k u v w' :=
  ⟨(World.cell?_of_block (a := ⟨k, 0, none⟩) (ho.2.2 k hk)).trans h.1, (World.cell?_of_block (a := ⟨k, 1, none⟩) (ho.2.2 k hk)).trans h.2.1, (World.frozen?_of_block (a := ⟨k, 0, none⟩) (ho.2.2 k hk)).trans h.2.2.1, (World.frozen?_of_block (a := ⟨k, 1, none⟩) (ho.2.2 k hk)).trans h.2.2.2⟩
theorem or32 {r x : Nat} (hr : r < 4294967296) (hx : x < 4294967296) : bits .or .u64 ((r * 4294967296 : Nat) : Int) (x : Int) = ((r * 4294967296 + x : Nat) : Int) := by
  rw [u64_or _ _ (by omega) (by omega) (by omega) (by omega)]
  simp only [Int.toNat_natCast]
  rw [nat_join 32 _ _ (by omega) (by omega)]
theorem shrink_step {d q r r' x G T : Nat} (hc : q * d + r' = r * 4294967296 + x) (h : G * d + r = T) : (q + 4294967296 * G) * d + r' = x + 4294967296 * T := by
  subst h
  rw [Nat.add_mul, Nat.mul_add, Nat.mul_assoc]
  omega
theorem gval_drop_at (b : Nat) {l : List Nat} {k x : Nat} (h : l[k]? = some x) : gval b (l.drop k) = x + b * gval b (l.drop (k + 1)) := by
  have hi : k < l.length := (List.getElem?_eq_some_iff.1 h).1
  have hx : l[k] = x := (List.getElem?_eq_some_iff.1 h).2
  rw [List.drop_eq_getElem_cons hi, hx]; rfl
theorem gval_drop_set (b : Nat) {l : List Nat} {k : Nat} (x : Nat) (h : k < l.length) : gval b ((l.set k x).drop k) = x + b * gval b (l.drop (k + 1)) := by
  rw [gval_drop_at b (x := x) (by simp [h]), List.drop_set_of_lt (by omega)]
set_option maxHeartbeats 1000000 in
theorem shrink_w (g c d : Nat) (l : List Nat) (w : World) (hd0 : 0 < d) (hd : d < 4294967296) (hl : Lm 4294967296 l) (hlen : l.length ≤ 1000000) (hO : Own g l w) :
    Calls Try.prog 37 #[.slice (some ⟨g, 0, none⟩) l.length c, .int .u32 (d : Int)] w fun e w' => e = .returned (.int .u32 ((gval 4294967296 l % d : Nat) : Int)) ∧ ∃ L, Own g L w' ∧ Lm 4294967296 L ∧ gval 4294967296 L = gval 4294967296 l / d ∧ L.length = l.length ∧ Only g w w' := by
  obtain ⟨R, hR⟩ : ∃ R, gval 4294967296 l % d = R := ⟨_, rfl⟩
  rw [hR]
  have hR' := hid hR
  clear hR
  go_enter Try.func37, Try.ntmps37
  go_wp2
  go_loopw [5, 6] (fun rv i wr => ∃ (k r : Nat) (L : List Nat), rv = .int .u64 (r : Int) ∧ i = .int .i64 ((k : Int) - 1) ∧ k ≤ l.length ∧ r < d ∧ Own g L wr ∧ L.length = l.length ∧ Lm 4294967296 L ∧ Only g w wr ∧ Hid (gval 4294967296 (L.drop k) * d + r = gval 4294967296 (l.drop k)) ∧ Hid (L.take k = l.take k)) (fun _ i _ => (intOf i + 1).toNat)
  case atStart => exact ⟨l.length, 0, l, rfl, by go_num, Nat.le_refl _, hd0, hO, rfl, hl, Only.refl _ _, hid (by simp [gval]), hid rfl⟩
  case round =>
    obtain ⟨k, r, L, rfl, rfl, hk, hr, hL, hLl, hLm, hon, hH, hT⟩ := hrel
    by_cases h0 : k = 0
    · subst h0
      have hh := hH.out
      simp only [List.drop_zero] at hh
      have e1 : gval 4294967296 l / d = gval 4294967296 L := by
        rw [← hh, Nat.add_comm, Nat.add_mul_div_right _ _ hd0, Nat.div_eq_of_lt hr]; omega
      have e2 : R = r := by rw [← hR'.out, ← hh, Nat.add_comm, Nat.add_mul_mod_self_right, Nat.mod_eq_of_lt hr]
      have w3 : IntKind.u32.wrap (r : Int) = (r : Int) := by rw [IntKind.wrap_u32]; omega
      subst e2
      clear hh hH hT hR'
      go_wp2
      go_ret
      exact ⟨rfl, L, hL, hLm, e1.symm, hLl, hon⟩
    · obtain ⟨j, rfl⟩ : ∃ j, k = j + 1 := ⟨k - 1, by omega⟩
      obtain ⟨x, hx⟩ : ∃ x, l[j]? = some x := ⟨l[j]'(by omega), by simp⟩
      have hxL : L[j]? = some x := by
        have := congrArg (·[j]?) hT.out
        simp only [List.getElem?_take_of_lt (show j < j + 1 by omega)] at this
        rw [this, hx]
      have cx := hL.1 j x hxL
      have fx := hL.2 j
      have hxm := hl.at hx
      have e1 : (((j + 1 : Nat) : Int) - 1) = (j : Int) := by omega
      have hjl : (j : Int) < (l.length : Int) := by omega
      obtain ⟨cur, hcur⟩ : ∃ cur, r * 4294967296 + x = cur := ⟨_, rfl⟩
      obtain ⟨rb, hrb⟩ : ∃ rb, r * 4294967296 = rb := ⟨_, rfl⟩
      have w1 : IntKind.u64.wrap ((r : Int) * 4294967296) = (rb : Int) := by rw [IntKind.wrap_u64]; omega
      have w2 : bits .or .u64 (rb : Int) (x : Int) = (cur : Int) := by
        have := or32 (r := r) (x := x) (by omega) hxm
        rw [hrb] at this
        rw [this, ← hcur, hrb]
      have hq : cur / d < 4294967296 := by
        rw [Nat.div_lt_iff_lt_mul hd0, ← hcur]
        have : (r + 1) * 4294967296 ≤ d * 4294967296 := Nat.mul_le_mul_right _ hr
        rw [Nat.mul_comm d] at this
        omega
      have hdz : ((d : Int) == 0) = false := by simp; omega
      have hdn : ¬ (d : Int) = 0 := by omega
      obtain ⟨Q, hQ⟩ : ∃ Q, cur / d = Q := ⟨_, rfl⟩
      obtain ⟨r2, hr2⟩ : ∃ r2, cur % d = r2 := ⟨_, rfl⟩
      have hr2d : r2 < d := by rw [← hr2]; exact Nat.mod_lt _ hd0
      rw [hQ] at hq
      have w3 : IntKind.u64.wrap ((cur : Int) / (d : Int)) = (Q : Int) := by
        rw [show (cur : Int) / (d : Int) = (Q : Int) by rw [← hQ]; exact (Int.natCast_ediv cur d).symm, IntKind.wrap_u64]; omega
      have w4 : IntKind.u32.wrap (Q : Int) = (Q : Int) := by rw [IntKind.wrap_u32]; omega
      have w5 : (cur : Int) % (d : Int) = (r2 : Int) := by rw [← hr2]; exact (Int.natCast_emod cur d).symm
      have hdm : Hid (Q * d + r2 = r * 4294967296 + x) := hid (by rw [← hQ, ← hr2, hcur, Nat.mul_comm]; exact Nat.div_add_mod cur d)
      clear hQ hr2
      have hc1 := hid hcur
      have hc2 := hid hrb
      clear hcur hrb
      rw [e1]
      go_wp2
      go_roundw
      case rel =>
        refine ⟨j, r2, L.set j Q, by rw [w5], by go_num, by omega, hr2d, hL.set _ (by omega), by simp [hLl], hLm.set _ _ hq, hon.setCell _ _, hid ?_, hid ?_⟩
        · rw [gval_drop_set _ _ (by omega), gval_drop_at _ hx]
          exact shrink_step hdm.out hH.out
        · rw [List.take_set_of_le (Nat.le_refl _)]
          have := congrArg (List.take j) hT.out
          rwa [List.take_take, List.take_take, Nat.min_eq_left (by omega)] at this
      case measure => simp [intOf]; try omega
end Go.Proofs.Ytccogdlmlegmbaa
