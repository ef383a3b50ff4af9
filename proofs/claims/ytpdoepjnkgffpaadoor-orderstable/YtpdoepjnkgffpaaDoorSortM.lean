/- Rows put in order, one item after the other. -/
import Derived.Test.YtpdoepjnkgffpaaDoorOrdMath
namespace Go.Proofs.YtpdoepjnkgffpaaDoor
set_option linter.unusedSimpArgs false
/-- an item put into a row that is read from its end -/
def insR (t : Tm) : List Tm → List Tm
  | [] => [t]
  | x :: xs => if 0 < cT x t then x :: insR t xs else t :: x :: xs
def isR (acc : List Tm) : List Tm → List Tm
  | [] => acc
  | t :: l => isR (insR t acc) l
/-- a row in order -/
def isort (l : List Tm) : List Tm := (isR [] l).reverse
theorem isR_append : ∀ (l l' acc : List Tm), isR acc (l ++ l') = isR (isR acc l) l'
  | [], _, _ => rfl
  | t :: l, l', acc => by show isR (insR t acc) (l ++ l') = _; rw [isR_append l l' _]; rfl
theorem isort_snoc (l : List Tm) (t : Tm) : isort (l ++ [t]) = (insR t (isort l).reverse).reverse := by
  unfold isort
  rw [isR_append, List.reverse_reverse]
  rfl
theorem isort_one (t : Tm) : isort [t] = [t] := rfl
theorem insR_len (t : Tm) : ∀ l : List Tm, (insR t l).length = l.length + 1
  | [] => rfl
  | x :: xs => by
    unfold insR
    split
    · simp [insR_len t xs]
    · rfl
theorem isort_len (l : List Tm) : (isort l).length = l.length := by
  unfold isort
  rw [List.length_reverse]
  suffices h : ∀ (l acc : List Tm), (isR acc l).length = acc.length + l.length by simpa using h l []
  intro l
  induction l with
  | nil => intro acc; rfl
  | cons t l ih => intro acc; show (isR (insR t acc) l).length = _; rw [ih, insR_len]; simp; omega
theorem insR_mem (t y : Tm) : ∀ l : List Tm, y ∈ insR t l ↔ y = t ∨ y ∈ l
  | [] => by simp [insR]
  | x :: xs => by
    unfold insR
    split
    · rw [List.mem_cons, insR_mem t y xs, List.mem_cons]
      constructor
      · rintro (h | h | h)
        · exact .inr (.inl h)
        · exact .inl h
        · exact .inr (.inr h)
      · rintro (h | h | h)
        · exact .inr (.inl h)
        · exact .inl h
        · exact .inr (.inr h)
    · rw [List.mem_cons]
theorem isort_mem (y : Tm) (l : List Tm) : y ∈ isort l ↔ y ∈ l := by
  unfold isort
  rw [List.mem_reverse]
  suffices h : ∀ (l acc : List Tm), y ∈ isR acc l ↔ y ∈ acc ∨ y ∈ l by simpa using h l []
  intro l
  induction l with
  | nil => intro acc; simp [isR]
  | cons t l ih =>
    intro acc
    show y ∈ isR (insR t acc) l ↔ _
    rw [ih, insR_mem, List.mem_cons]
    constructor
    · rintro ((h | h) | h)
      · exact .inr (.inl h)
      · exact .inl h
      · exact .inr (.inr h)
    · rintro (h | h | h)
      · exact .inl (.inr h)
      · exact .inl (.inl h)
      · exact .inr h
/-- how many items of a kind a row has -/
def cnt (p : Tm → Bool) : List Tm → Nat
  | [] => 0
  | x :: xs => (p x).toNat + cnt p xs
theorem cnt_append (p : Tm → Bool) : ∀ l l' : List Tm, cnt p (l ++ l') = cnt p l + cnt p l'
  | [], l' => by simp [cnt]
  | x :: l, l' => by simp only [List.cons_append, cnt]; rw [cnt_append p l l']; omega
theorem cnt_reverse (p : Tm → Bool) : ∀ l : List Tm, cnt p l.reverse = cnt p l
  | [] => rfl
  | x :: l => by rw [List.reverse_cons, cnt_append, cnt_reverse p l]; simp only [cnt]; omega
theorem insR_cnt (p : Tm → Bool) (t : Tm) : ∀ l : List Tm, cnt p (insR t l) = (p t).toNat + cnt p l
  | [] => rfl
  | x :: xs => by
    unfold insR
    split
    · simp only [cnt]; rw [insR_cnt p t xs]; omega
    · rfl
theorem isort_cnt (p : Tm → Bool) (l : List Tm) : cnt p (isort l) = cnt p l := by
  unfold isort
  rw [cnt_reverse]
  suffices h : ∀ (l acc : List Tm), cnt p (isR acc l) = cnt p acc + cnt p l by simpa [cnt] using h l []
  intro l
  induction l with
  | nil => intro acc; rfl
  | cons t l ih =>
    intro acc
    show cnt p (isR (insR t acc) l) = _
    rw [ih, insR_cnt]
    simp only [cnt]
    omega
abbrev wfA (l : List Tm) : Prop := ∀ t ∈ l, wfT t
/-- a row read from its end falls -/
def Falls : List Tm → Prop
  | [] => True
  | x :: xs => (∀ y ∈ xs, cT y x ≤ 0) ∧ Falls xs
theorem insR_falls (t : Tm) (ht : wfT t) : ∀ l : List Tm, wfA l → Falls l → Falls (insR t l)
  | [], _, _ => ⟨fun y hy => by simp at hy, trivial⟩
  | x :: xs, hw, ⟨h1, h2⟩ => by
    have hx : wfT x := hw x (by simp)
    have hxs : wfA xs := fun y hy => hw y (by simp [hy])
    unfold insR
    split
    · rename_i hp
      refine ⟨fun y hy => ?_, insR_falls t ht xs hxs h2⟩
      rcases (insR_mem t y xs).1 hy with rfl | hy
      · have := cT_neg x y hx ht
        omega
      · exact h1 y hy
    · rename_i hp
      refine ⟨fun y hy => ?_, h1, h2⟩
      rcases List.mem_cons.1 hy with rfl | hy
      · omega
      · exact (con_T y x t (hxs y hy) hx ht).1 (h1 y hy) (by omega)
theorem isR_falls : ∀ l acc : List Tm, wfA l → wfA acc → Falls acc → Falls (isR acc l)
  | [], _, _, _, h => h
  | t :: l, acc, hw, ha, h => by
    refine isR_falls l _ (fun y hy => hw y (by simp [hy])) ?_ (insR_falls t (hw t (by simp)) acc ha h)
    intro y hy
    rcases (insR_mem t y acc).1 hy with rfl | hy
    · exact hw y (by simp)
    · exact ha y hy
theorem isort_falls (l : List Tm) (h : wfA l) : Falls (isort l).reverse := by
  unfold isort
  rw [List.reverse_reverse]
  exact isR_falls l [] h (fun _ h => by simp at h) trivial
/-- a row in order: each is above none that stands behind it -/
def Rises (l : List Tm) : Prop := ∀ (i j : Nat) (x y : Tm), i < j → l[i]? = some x → l[j]? = some y → cT x y ≤ 0
theorem falls_at : ∀ (l : List Tm), Falls l → ∀ (i j : Nat) (x y : Tm), i < j → l[i]? = some x → l[j]? = some y → cT y x ≤ 0
  | [], _, i, j, x, y, _, h1, _ => by simp at h1
  | z :: l, ⟨h, hf⟩, 0, j + 1, x, y, _, h1, h2 => by
    simp at h1 h2
    subst h1
    exact h y (List.mem_of_getElem? h2)
  | z :: l, ⟨h, hf⟩, i + 1, j + 1, x, y, hij, h1, h2 => by
    simp at h1 h2
    exact falls_at l hf i j x y (by omega) h1 h2
theorem rises_of_falls (l : List Tm) (h : Falls l.reverse) : Rises l := by
  intro i j x y hij h1 h2
  have hi := (List.getElem?_eq_some_iff.1 h1).1
  have hj := (List.getElem?_eq_some_iff.1 h2).1
  refine falls_at l.reverse h (l.length - 1 - j) (l.length - 1 - i) y x (by omega) ?_ ?_
  · rw [List.getElem?_reverse (by omega)]
    rw [show l.length - 1 - (l.length - 1 - j) = j by omega]; exact h2
  · rw [List.getElem?_reverse (by omega)]
    rw [show l.length - 1 - (l.length - 1 - i) = i by omega]; exact h1
theorem isort_rises (l : List Tm) (h : wfA l) : Rises (isort l) := rises_of_falls _ (isort_falls l h)
theorem Rises.tail {x : Tm} {l : List Tm} (h : Rises (x :: l)) : Rises l := fun i j a b hij h1 h2 => h (i + 1) (j + 1) a b (by omega) (by simpa using h1) (by simpa using h2)
theorem Rises.head {x y : Tm} {l : List Tm} (h : Rises (x :: l)) (hy : y ∈ l) : cT x y ≤ 0 := by
  obtain ⟨j, hj⟩ := List.getElem?_of_mem hy
  exact h 0 (j + 1) x y (by omega) (by simp) (by simpa using hj)
/-- a row in order stays as it is -/
theorem isR_id : ∀ l acc : List Tm, (∀ x ∈ acc, ∀ y ∈ l, cT x y ≤ 0) → Rises l → isR acc l = l.reverse ++ acc
  | [], acc, _, _ => rfl
  | t :: l, acc, ha, hr => by
    have h1 : insR t acc = t :: acc := by
      cases acc with
      | nil => rfl
      | cons x xs =>
        have := ha x (by simp) t (by simp)
        unfold insR
        rw [if_neg (by omega)]
    show isR (insR t acc) l = _
    rw [h1, isR_id l (t :: acc) ?_ hr.tail]
    · simp
    · intro x hx y hy
      rcases List.mem_cons.1 hx with rfl | hx
      · exact hr.head hy
      · exact ha x hx y (by simp [hy])
theorem isort_id (l : List Tm) (h : Rises l) : isort l = l := by
  unfold isort
  rw [isR_id l [] (fun x hx => by simp at hx) h]
  simp
def sameA : List Tm → List Tm → Prop
  | [], [] => True
  | t :: l, t' :: l' => cT t t' = 0 ∧ sameA l l'
  | _, _ => False
theorem sameA_self : ∀ l : List Tm, wfA l → sameA l l
  | [], _ => trivial
  | t :: l, h => ⟨cT_self t (h t (by simp)), sameA_self l (fun y hy => h y (by simp [hy]))⟩
theorem cnt_pos {p : Tm → Bool} : ∀ {l : List Tm}, 0 < cnt p l → ∃ x ∈ l, p x = true
  | [], h => by simp [cnt] at h
  | x :: l, h => by
    by_cases hp : p x = true
    · exact ⟨x, by simp, hp⟩
    · have : p x = false := by simpa using hp
      simp only [cnt, this] at h
      obtain ⟨y, hy, hpy⟩ := cnt_pos (l := l) (by simpa using h)
      exact ⟨y, by simp [hy], hpy⟩
/-- two rows in order that have as many of each are alike -/
theorem sameA_of : ∀ (l l' : List Tm), wfA l → wfA l' → Rises l → Rises l' → l.length = l'.length → (∀ t, wfT t → cnt (fun x => decide (cT x t ≤ 0)) l = cnt (fun x => decide (cT x t ≤ 0)) l') → sameA l l'
  | [], [], _, _, _, _, _, _ => trivial
  | [], _ :: _, _, _, _, _, h, _ => by simp at h
  | _ :: _, [], _, _, _, _, h, _ => by simp at h
  | a :: l, b :: l', hw, hw', hr, hr', hl, hc => by
    have ha : wfT a := hw a (by simp)
    have hb : wfT b := hw' b (by simp)
    have key : ∀ (x y : Tm) (m m' : List Tm), wfT x → wfA (y :: m') → Rises (y :: m') → (0 < cnt (fun z => decide (cT z x ≤ 0)) (y :: m')) → cT y x ≤ 0 := by
      intro x y m m' hx hwy hry h
      obtain ⟨z, hz, hp⟩ := cnt_pos h
      have hp' : cT z x ≤ 0 := of_decide_eq_true hp
      rcases List.mem_cons.1 hz with rfl | hz
      · exact hp'
      · exact (con_T y z x (hwy y (by simp)) (hwy z (by simp [hz])) hx).1 (hry.head hz) hp'
    have h1 : cT b a ≤ 0 := by
      refine key a b l l' ha hw' hr' ?_
      rw [← hc a ha]
      simp only [cnt]
      rw [cT_self a ha]
      simp; omega
    have h2 : cT a b ≤ 0 := by
      refine key b a l' l hb hw hr ?_
      rw [hc b hb]
      simp only [cnt]
      rw [cT_self b hb]
      simp; omega
    have h3 := cT_neg a b ha hb
    have h0 : cT a b = 0 := by omega
    have h0' : cT b a = 0 := by omega
    refine ⟨h0, sameA_of l l' (fun y hy => hw y (by simp [hy])) (fun y hy => hw' y (by simp [hy])) hr.tail hr'.tail (by simpa using hl) (fun t ht => ?_)⟩
    have := hc t ht
    simp only [cnt] at this
    have e : decide (cT a t ≤ 0) = decide (cT b t ≤ 0) := by
      by_cases h : cT b t ≤ 0
      · have := (con_T a b t ha hb ht).1 (by omega) h
        simp [h, this]
      · have : ¬ cT a t ≤ 0 := fun h' => h ((con_T b a t hb ha ht).1 (by omega) h')
        simp [h, this]
    rw [e] at this
    omega
/-- the greatest of a row, of equal ones the first -/
def mx (g : Tm) : List Tm → Tm
  | [] => g
  | t :: l => mx (if 0 < cT t g then t else g) l
theorem mx_mem (g : Tm) : ∀ l : List Tm, mx g l = g ∨ mx g l ∈ l := by
  intro l
  induction l generalizing g with
  | nil => exact .inl rfl
  | cons t l ih =>
    show mx _ l = g ∨ mx _ l ∈ t :: l
    by_cases h : 0 < cT t g
    · rw [if_pos h]
      rcases ih t with e | e
      · exact .inr (by rw [e]; simp)
      · exact .inr (by simp [e])
    · rw [if_neg h]
      rcases ih g with e | e
      · exact .inl e
      · exact .inr (by simp [e])
theorem insR_head (t x : Tm) (acc : List Tm) : ∃ z zs, insR t (x :: acc) = z :: zs ∧ z = (if 0 < cT x t then x else t) := by
  unfold insR
  by_cases h : 0 < cT x t
  · rw [if_pos h, if_pos h]; exact ⟨_, _, rfl, rfl⟩
  · rw [if_neg h, if_neg h]; exact ⟨_, _, rfl, rfl⟩
theorem mx_last : ∀ (l acc : List Tm) (x g : Tm), wfA l → wfT x → wfT g → cT x g = 0 → ∃ z zs, isR (x :: acc) l = z :: zs ∧ cT (mx g l) z = 0
  | [], acc, x, g, _, hx, hg, h => ⟨x, acc, rfl, by show cT g x = 0; rw [cT_neg x g hx hg, h]; rfl⟩
  | t :: l, acc, x, g, hw, hx, hg, h => by
    have ht : wfT t := hw t (by simp)
    obtain ⟨z, zs, e, hz⟩ := insR_head t x acc
    show ∃ z zs, isR (insR t (x :: acc)) l = z :: zs ∧ cT (mx (if 0 < cT t g then t else g) l) z = 0
    rw [e]
    have hgx : cT g x = 0 := by rw [cT_neg x g hx hg, h]; rfl
    have c1 := con_T x g t hx hg ht
    have c2 := con_T g x t hg hx ht
    have n1 := cT_neg t g ht hg
    unfold Con at c1 c2
    refine mx_last l zs z _ (fun y hy => hw y (by simp [hy])) ?_ ?_ ?_
    · rw [hz]; split
      · exact hx
      · exact ht
    · split
      · exact ht
      · exact hg
    · rw [hz]
      by_cases k1 : 0 < cT x t
      · rw [if_pos k1]
        rw [if_neg (by omega)]
        exact h
      · rw [if_neg k1]
        by_cases k2 : 0 < cT t g
        · rw [if_pos k2]; exact cT_self t ht
        · rw [if_neg k2]; omega
theorem mx_isort (g : Tm) (l : List Tm) (hw : wfA (g :: l)) : ∃ z, (isort (g :: l))[l.length]? = some z ∧ cT (mx g l) z = 0 := by
  have hg : wfT g := hw g (by simp)
  obtain ⟨z, zs, e, hz⟩ := mx_last l [] g g (fun y hy => hw y (by simp [hy])) hg hg (cT_self g hg)
  refine ⟨z, ?_, hz⟩
  have hl := isort_len (g :: l)
  have e2 : isort (g :: l) = (z :: zs).reverse := by
    rw [← e]; rfl
  rw [e2] at hl ⊢
  simp at hl
  simp [hl]
end Go.Proofs.YtpdoepjnkgffpaaDoor
