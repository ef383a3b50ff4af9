/- One order of all terms. -/
import Derived.Test.YtpdoepjnkgffpaaDoorOrdLess
import Derived.Test.YtpdoepjnkgffpaaDoorTermMayC
namespace Go.Proofs.YtpdoepjnkgffpaaDoor
set_option linter.unusedSimpArgs false
/-- the first that is not nought -/
def lx (x y : Int) : Int := if x ≠ 0 then x else y
theorem lx_zero (y : Int) : lx 0 y = y := by simp [lx]
theorem lx_ne {x : Int} (h : x ≠ 0) (y : Int) : lx x y = x := by simp [lx, h]
theorem lx_right (x : Int) : lx x 0 = x := by unfold lx; split <;> omega
theorem lx_assoc (x y z : Int) : lx (lx x y) z = lx x (lx y z) := by
  unfold lx
  by_cases h : x = 0
  · simp [h]
  · simp [h]
theorem lx_neg (x y : Int) : lx (-x) (-y) = - lx x y := by
  unfold lx
  by_cases h : x = 0
  · simp [h]
  · have : -x ≠ 0 := by omega
    simp [h]
theorem cz_le (x y : Int) : cmpZ x y ≤ 0 ↔ x ≤ y := by
  unfold cmpZ
  by_cases h1 : x < y
  · simp [h1]; omega
  · by_cases h2 : y < x
    · simp [h1, h2]
    · simp [h1, h2]; omega
theorem cz_ge (x y : Int) : 0 ≤ cmpZ x y ↔ y ≤ x := by
  unfold cmpZ
  by_cases h1 : x < y
  · simp [h1]
  · by_cases h2 : y < x
    · simp [h1, h2]; omega
    · simp [h1, h2]; omega
theorem cz_zero (x y : Int) : cmpZ x y = 0 ↔ x = y := by
  have h1 := cz_le x y
  have h2 := cz_ge x y
  omega
theorem cz_self (x : Int) : cmpZ x x = 0 := (cz_zero x x).2 rfl
theorem cz_neg (x y : Int) : cmpZ y x = - cmpZ x y := by
  unfold cmpZ
  by_cases h1 : x < y
  · have : ¬ y < x := by omega
    simp [h1, this]
  · by_cases h2 : y < x
    · simp [h1, h2]
    · simp [h1, h2]
/-- what three comparisons of three say fits together -/
def Con (x y z : Int) : Prop := (x ≤ 0 → y ≤ 0 → z ≤ 0) ∧ (0 ≤ x → 0 ≤ y → 0 ≤ z) ∧ (y ≤ 0 → 0 ≤ z → 0 ≤ x) ∧ (0 ≤ y → z ≤ 0 → x ≤ 0) ∧ (0 ≤ z → x ≤ 0 → 0 ≤ y) ∧ (z ≤ 0 → 0 ≤ x → y ≤ 0)
theorem con_cz (x y z : Int) : Con (cmpZ x y) (cmpZ y z) (cmpZ x z) := by
  unfold Con
  simp only [cz_le, cz_ge]
  omega
theorem con_lx {x y z x' y' z' : Int} (h : Con x y z) (h' : x = 0 → y = 0 → z = 0 → Con x' y' z') : Con (lx x x') (lx y y') (lx z z') := by
  unfold Con at h h' ⊢
  unfold lx
  by_cases hx : x = 0
  · by_cases hy : y = 0
    · have hz : z = 0 := by omega
      simpa [hx, hy, hz] using h' hx hy hz
    · have hz : z ≠ 0 := by omega
      simp only [hx, hy, hz, ne_eq, not_true_eq_false, not_false_eq_true, if_true, if_false]
      omega
  · by_cases hy : y = 0
    · have hz : z ≠ 0 := by omega
      simp only [hx, hy, hz, ne_eq, not_true_eq_false, not_false_eq_true, if_true, if_false]
      omega
    · by_cases hz : z = 0
      · simp only [hx, hy, hz, ne_eq, not_true_eq_false, not_false_eq_true, if_true, if_false]
        omega
      · simp only [hx, hy, hz, ne_eq, not_true_eq_false, not_false_eq_true, if_true, if_false]
        omega
theorem con_zero : Con 0 0 0 := by unfold Con; omega
theorem lexZ_cons (x y : Nat) (xs ys : List Nat) : lexZ (x :: xs) (y :: ys) = lx (cmpZ (x : Int) (y : Int)) (lexZ xs ys) := by
  show (if x = y then lexZ xs ys else cmpZ (x : Int) (y : Int)) = _
  by_cases h : x = y
  · subst h; rw [if_pos rfl, cz_self, lx_zero]
  · rw [if_neg h, lx_ne]
    rw [Ne, cz_zero]; omega
theorem lexZ_neg : ∀ a b : List Nat, lexZ b a = - lexZ a b
  | [], [] => rfl
  | [], _ :: _ => rfl
  | _ :: _, [] => rfl
  | x :: xs, y :: ys => by rw [lexZ_cons, lexZ_cons, cz_neg, lexZ_neg xs ys, lx_neg]
theorem con_lex : ∀ a b c : List Nat, Con (lexZ a b) (lexZ b c) (lexZ a c)
  | [], [], [] => con_zero
  | [], [], _ :: _ => by show Con 0 (-1) (-1); unfold Con; omega
  | [], _ :: _, [] => by show Con (-1) 1 0; unfold Con; omega
  | _ :: _, [], [] => by show Con 1 0 1; unfold Con; omega
  | [], x :: xs, y :: ys => by show Con (-1) (lexZ (x :: xs) (y :: ys)) (-1); unfold Con; omega
  | x :: xs, [], y :: ys => by show Con 1 (-1) (lexZ (x :: xs) (y :: ys)); unfold Con; omega
  | x :: xs, y :: ys, [] => by show Con (lexZ (x :: xs) (y :: ys)) 1 1; unfold Con; omega
  | x :: xs, y :: ys, z :: zs => by
    rw [lexZ_cons, lexZ_cons, lexZ_cons]
    exact con_lx (con_cz _ _ _) (fun _ _ _ => con_lex xs ys zs)
theorem lexZ_self : ∀ a : List Nat, lexZ a a = 0
  | [] => rfl
  | x :: xs => by rw [lexZ_cons, cz_self, lx_zero, lexZ_self xs]
mutual
/-- one term against another -/
def cT : Tm → Tm → Int
  | .mk k neg d nm n l b, .mk k' neg' d' nm' n' l' b' => lx (cmpZ k k') (
    if k = 0 then cmpZ (sv neg (gval 4294967296 d)) (sv neg' (gval 4294967296 d'))
    else if k = 1 then lessZ nm.data.toList nm'.data.toList
    else if k = 2 ∨ k = 3 then cmpZ n n'
    else if k = 7 then lexZ b b'
    else if k = 4 ∨ k = 6 then lx (cmpZ (l.length : Int) (l'.length : Int)) (cR l l')
    else 0)
def cR : List Tm → List Tm → Int
  | [], _ => 0
  | _ :: _, [] => 0
  | t :: l, t' :: l' => lx (cT t t') (cR l l')
end
theorem cR_cons (t t' : Tm) (l l' : List Tm) : cR (t :: l) (t' :: l') = lx (cT t t') (cR l l') := by rw [cR]
theorem cR_nil (l : List Tm) : cR [] l = 0 := by rw [cR]
theorem cR_nil' (l : List Tm) : cR l [] = 0 := by cases l <;> rw [cR]
/-- a part that has its order -/
def okO : Tm → Prop | .mk k neg d nm n l b => 0 ≤ k ∧ k ≤ 7 ∧ (k = 6 → l.length = 2) ∧ (k = 1 → Lib.validD nm.data.toList = true) ∧ (Tm.mk k neg d nm n l b).ok1
def wfT (T : Tm) : Prop := ∀ t ∈ parts T, okO t
def wfL (l : List Tm) : Prop := ∀ t ∈ partsL l, okO t
theorem wfT.self {T : Tm} (h : wfT T) : okO T := h T (by rw [parts_eq]; simp)
theorem wfT.kids {T : Tm} (h : wfT T) : wfL T.kids := fun t ht => h t (by rw [parts_eq]; simp [ht])
theorem wfL.head {t : Tm} {l : List Tm} (h : wfL (t :: l)) : wfT t := fun s hs => h s (by simp [partsL, hs])
theorem wfL.tail {t : Tm} {l : List Tm} (h : wfL (t :: l)) : wfL l := fun s hs => h s (by simp [partsL, hs])
theorem wfL.cons {t : Tm} {l : List Tm} (h : wfT t) (hl : wfL l) : wfL (t :: l) := fun s hs => by
  simp only [partsL, List.mem_append] at hs
  exact hs.elim (h s) (hl s)
theorem wfL.nil : wfL [] := fun s hs => by simp [partsL] at hs
theorem wfT.l {k : Int} {neg : Bool} {d : List Nat} {nm : ByteArray} {n : Int} {l : List Tm} {b : List Nat} (h : wfT (.mk k neg d nm n l b)) (hk : k = 4 ∨ k = 6) : wfL l := by
  have := h.kids
  simpa [Tm.kids, hk] using this
theorem lessZ_valid {a b : List UInt8} (ha : Lib.validD a = true) (hb : Lib.validD b = true) : lessZ a b = lexZ (sg a) (sg b) := by simp [lessZ, ha, hb]
mutual
theorem cT_neg : ∀ (a b : Tm), wfT a → wfT b → cT b a = - cT a b
  | .mk k neg d nm n l b, .mk k' neg' d' nm' n' l' b', ha, hb => by
    rw [cT, cT]
    by_cases h : k = k'
    · subst h
      rw [cz_self, lx_zero, lx_zero]
      by_cases h0 : k = 0
      · rw [if_pos h0, if_pos h0, cz_neg]
      rw [if_neg h0, if_neg h0]
      by_cases h1 : k = 1
      · rw [if_pos h1, if_pos h1, lessZ_valid (hb.self.2.2.2.1 h1) (ha.self.2.2.2.1 h1), lessZ_valid (ha.self.2.2.2.1 h1) (hb.self.2.2.2.1 h1), lexZ_neg]
      rw [if_neg h1, if_neg h1]
      by_cases h2 : k = 2 ∨ k = 3
      · rw [if_pos h2, if_pos h2, cz_neg]
      rw [if_neg h2, if_neg h2]
      by_cases h7 : k = 7
      · rw [if_pos h7, if_pos h7, lexZ_neg]
      rw [if_neg h7, if_neg h7]
      by_cases h4 : k = 4 ∨ k = 6
      · rw [if_pos h4, if_pos h4, cz_neg, cR_neg l l' (ha.l h4) (hb.l h4), lx_neg]
      rw [if_neg h4, if_neg h4]; rfl
    · have h1 : cmpZ k k' ≠ 0 := by rw [Ne, cz_zero]; exact h
      have h2 : cmpZ k' k ≠ 0 := by rw [Ne, cz_zero]; exact fun e => h e.symm
      rw [lx_ne h1, lx_ne h2, cz_neg]
theorem cR_neg : ∀ (l l' : List Tm), wfL l → wfL l' → cR l' l = - cR l l'
  | [], l', _, _ => by rw [cR_nil, cR_nil']; rfl
  | t :: l, [], _, _ => by rw [cR_nil, cR_nil']; rfl
  | t :: l, t' :: l', h, h' => by rw [cR_cons, cR_cons, cT_neg t t' h.head h'.head, cR_neg l l' h.tail h'.tail, lx_neg]
end
mutual
theorem con_T : ∀ (a b c : Tm), wfT a → wfT b → wfT c → Con (cT a b) (cT b c) (cT a c)
  | .mk k neg d nm n l b, .mk k' neg' d' nm' n' l' b', .mk k'' neg'' d'' nm'' n'' l'' b'', ha, hb, hc => by
    rw [cT, cT, cT]
    refine con_lx (con_cz _ _ _) (fun e1 e2 _ => ?_)
    rw [cz_zero] at e1 e2
    subst e1; subst e2
    by_cases h0 : k = 0
    · rw [if_pos h0, if_pos h0, if_pos h0]; exact con_cz _ _ _
    rw [if_neg h0, if_neg h0, if_neg h0]
    by_cases h1 : k = 1
    · rw [if_pos h1, if_pos h1, if_pos h1, lessZ_valid (ha.self.2.2.2.1 h1) (hb.self.2.2.2.1 h1), lessZ_valid (hb.self.2.2.2.1 h1) (hc.self.2.2.2.1 h1), lessZ_valid (ha.self.2.2.2.1 h1) (hc.self.2.2.2.1 h1)]
      exact con_lex _ _ _
    rw [if_neg h1, if_neg h1, if_neg h1]
    by_cases h2 : k = 2 ∨ k = 3
    · rw [if_pos h2, if_pos h2, if_pos h2]; exact con_cz _ _ _
    rw [if_neg h2, if_neg h2, if_neg h2]
    by_cases h7 : k = 7
    · rw [if_pos h7, if_pos h7, if_pos h7]; exact con_lex _ _ _
    rw [if_neg h7, if_neg h7, if_neg h7]
    by_cases h4 : k = 4 ∨ k = 6
    · rw [if_pos h4, if_pos h4, if_pos h4]
      refine con_lx (con_cz _ _ _) (fun e1 e2 _ => ?_)
      rw [cz_zero] at e1 e2
      exact con_R l l' l'' (by omega) (by omega) (ha.l h4) (hb.l h4) (hc.l h4)
    rw [if_neg h4, if_neg h4, if_neg h4]; exact con_zero
theorem con_R : ∀ (l l' l'' : List Tm), l.length = l'.length → l'.length = l''.length → wfL l → wfL l' → wfL l'' → Con (cR l l') (cR l' l'') (cR l l'')
  | [], l', l'', e1, e2, _, _, _ => by
    have h1 : l' = [] := List.eq_nil_of_length_eq_zero (by simpa using e1.symm)
    subst h1
    have h2 : l'' = [] := List.eq_nil_of_length_eq_zero (by simpa using e2.symm)
    subst h2
    rw [cR_nil]; exact con_zero
  | t :: l, [], _, e1, _, _, _, _ => by simp at e1
  | t :: l, t' :: l', [], _, e2, _, _, _ => by simp at e2
  | t :: l, t' :: l', t'' :: l'', e1, e2, h, h', h'' => by
    rw [cR_cons, cR_cons, cR_cons]
    exact con_lx (con_T t t' t'' h.head h'.head h''.head) (fun _ _ _ => con_R l l' l'' (by simpa using e1) (by simpa using e2) h.tail h'.tail h''.tail)
end
theorem cT_self (a : Tm) (h : wfT a) : cT a a = 0 := by
  have := cT_neg a a h h
  omega
theorem cR_self (l : List Tm) (h : wfL l) : cR l l = 0 := by
  have := cR_neg l l h h
  omega
/-- what waits: rows of either -/
def cS : List (List Tm × List Tm) → Int
  | [] => 0
  | p :: st => lx (cR p.1 p.2) (cS st)
end Go.Proofs.YtpdoepjnkgffpaaDoor
