/- Plain facts on numbers by digits of a base: their value, their canonical digits, order. No program is named here. -/
import Derived.WalkKit
import Derived.ProofKit
import Derived.OpenShut
import Derived.Laws.BitsAllLaws
namespace Go.Proofs.Ytccogdlmlegmbaa

/-- what digits of base b say, the lowest first -/
def gval (b : Nat) : List Nat → Nat
  | [] => 0
  | x :: t => x + b * gval b t
/-- the digits of base b of a number, the lowest first, the highest not 0 -/
def glim (b n : Nat) : List Nat :=
  if _h : b ≤ 1 ∨ n = 0 then [] else n % b :: glim b (n / b)
termination_by n
decreasing_by exact Nat.div_lt_self (by omega) (by omega)
/-- digits below the base -/
def Lm (b : Nat) (l : List Nat) : Prop := ∀ x ∈ l, x < b

theorem Lm.nil (b : Nat) : Lm b [] := fun _ h => by simp at h
theorem Lm.cons {b x : Nat} {l : List Nat} (hx : x < b) (h : Lm b l) : Lm b (x :: l) := fun y hy => by
  rcases List.mem_cons.1 hy with rfl | hy
  · exact hx
  · exact h y hy
theorem Lm.tail {b x : Nat} {l : List Nat} (h : Lm b (x :: l)) : Lm b l := fun y hy => h y (List.mem_cons_of_mem _ hy)
theorem Lm.head {b x : Nat} {l : List Nat} (h : Lm b (x :: l)) : x < b := h x (List.mem_cons_self ..)
theorem Lm.append {b : Nat} {l m : List Nat} (h : Lm b l) (h' : Lm b m) : Lm b (l ++ m) := fun y hy => by
  rcases List.mem_append.1 hy with hy | hy
  · exact h y hy
  · exact h' y hy
theorem Lm.left {b : Nat} {l m : List Nat} (h : Lm b (l ++ m)) : Lm b l := fun y hy => h y (List.mem_append_left _ hy)
theorem Lm.right {b : Nat} {l m : List Nat} (h : Lm b (l ++ m)) : Lm b m := fun y hy => h y (List.mem_append_right _ hy)
theorem Lm.take {b : Nat} {l : List Nat} (h : Lm b l) (k : Nat) : Lm b (l.take k) := fun y hy => h y (List.mem_of_mem_take hy)
theorem Lm.drop {b : Nat} {l : List Nat} (h : Lm b l) (k : Nat) : Lm b (l.drop k) := fun y hy => h y (List.mem_of_mem_drop hy)
theorem Lm.set {b : Nat} {l : List Nat} (h : Lm b l) (k x : Nat) (hx : x < b) : Lm b (l.set k x) := fun y hy => by
  rcases List.mem_or_eq_of_mem_set hy with hy | rfl
  · exact h y hy
  · exact hx
theorem Lm.at {b : Nat} {l : List Nat} (h : Lm b l) {k x : Nat} (hx : l[k]? = some x) : x < b := h x (List.mem_of_getElem? hx)
theorem Lm.replicate {b : Nat} (hb : 0 < b) (n : Nat) : Lm b (List.replicate n 0) := fun y hy => by
  rw [(List.mem_replicate.1 hy).2]; exact hb

theorem gval_append (b : Nat) : ∀ l m : List Nat, gval b (l ++ m) = gval b l + b ^ l.length * gval b m
  | [], m => by simp [gval]
  | x :: t, m => by
    simp only [List.cons_append, gval, List.length_cons]
    rw [gval_append b t m]
    grind
theorem gval_lt {b : Nat} : ∀ {l : List Nat}, Lm b l → gval b l < b ^ l.length
  | [], _ => by simp [gval]
  | x :: t, h => by
    have h1 := gval_lt h.tail
    have h2 := h.head
    simp only [gval, List.length_cons]
    have : b * (gval b t + 1) ≤ b * b ^ t.length := Nat.mul_le_mul_left _ h1
    rw [Nat.pow_succ, Nat.mul_comm (b ^ t.length) b]
    rw [Nat.mul_add] at this
    omega
theorem gval_zeros (b : Nat) : ∀ l : List Nat, (∀ x ∈ l, x = 0) → gval b l = 0
  | [], _ => rfl
  | x :: t, h => by
    rw [gval, gval_zeros b t (fun y hy => h y (List.mem_cons_of_mem _ hy)), h x (List.mem_cons_self ..)]
    simp
theorem gval_take_succ (b : Nat) {l : List Nat} {i x : Nat} (h : l[i]? = some x) : gval b (l.take (i + 1)) = gval b (l.take i) + b ^ i * x := by
  have hi : i < l.length := (List.getElem?_eq_some_iff.1 h).1
  have hx : l[i] = x := (List.getElem?_eq_some_iff.1 h).2
  rw [List.take_succ_eq_append_getElem hi, gval_append, hx]
  simp [gval, Nat.min_eq_left (Nat.le_of_lt hi)]
theorem gval_set_take (b : Nat) {l : List Nat} {i : Nat} (x : Nat) (h : i < l.length) : gval b ((l.set i x).take (i + 1)) = gval b (l.take i) + b ^ i * x := by
  rw [gval_take_succ b (x := x) (by simp [h])]
  rw [List.take_set_of_le (Nat.le_refl _)]
theorem gval_split (b k : Nat) (l : List Nat) (h : k ≤ l.length) : gval b l = gval b (l.take k) + b ^ k * gval b (l.drop k) := by
  have := gval_append b (l.take k) (l.drop k)
  rw [List.take_append_drop, List.length_take, Nat.min_eq_left h] at this
  exact this

theorem glim_zero (b : Nat) : glim b 0 = [] := by rw [glim]; simp
theorem glim_pos {b n : Nat} (hb : 1 < b) (hn : 0 < n) : glim b n = n % b :: glim b (n / b) := by
  rw [glim, dif_neg (by omega)]
theorem gval_glim {b : Nat} (hb : 1 < b) (n : Nat) : gval b (glim b n) = n := by
  induction n using Nat.strongRecOn with
  | ind n ih =>
    by_cases h : n = 0
    · subst h; rw [glim_zero]; rfl
    · rw [glim_pos hb (by omega), gval, ih _ (Nat.div_lt_self (by omega) hb)]
      exact Nat.mod_add_div n b
theorem lm_glim {b : Nat} (hb : 1 < b) (n : Nat) : Lm b (glim b n) := by
  induction n using Nat.strongRecOn with
  | ind n ih =>
    by_cases h : n = 0
    · subst h; rw [glim_zero]; exact Lm.nil _
    · rw [glim_pos hb (by omega)]
      exact Lm.cons (Nat.mod_lt _ (by omega)) (ih _ (Nat.div_lt_self (by omega) hb))
theorem glim_ne {b n : Nat} (hb : 1 < b) (hn : 0 < n) : glim b n ≠ [] := by rw [glim_pos hb hn]; simp
theorem glim_nil {b n : Nat} (hb : 1 < b) : glim b n = [] ↔ n = 0 := by
  constructor
  · intro h
    by_cases h0 : n = 0
    · exact h0
    · exact absurd h (glim_ne hb (by omega))
  · rintro rfl; exact glim_zero b
/-- canonical digits are those of their value -/
theorem glim_canon {b : Nat} (hb : 1 < b) : ∀ {l : List Nat}, Lm b l → (∀ x, l.getLast? = some x → x ≠ 0) → glim b (gval b l) = l
  | [], _, _ => glim_zero b
  | x :: t, h, hc => by
    have hx := h.head
    have hpos : 0 < gval b (x :: t) := by
      cases t with
      | nil =>
        have := hc x (by simp)
        simp [gval]; omega
      | cons y s =>
        have ih := glim_canon hb h.tail (fun z hz => hc z (by simpa using hz))
        have hv : 0 < gval b (y :: s) := by
          refine Nat.pos_of_ne_zero fun e => ?_
          rw [e, glim_zero] at ih; exact absurd ih (by simp)
        have : 0 < b * gval b (y :: s) := Nat.mul_pos (by omega) hv
        rw [gval]; omega
    have ih : glim b (gval b t) = t := by
      refine glim_canon hb h.tail fun z hz => hc z ?_
      cases t with
      | nil => simp at hz
      | cons y s => simpa using hz
    rw [glim_pos hb hpos]
    have e1 : gval b (x :: t) % b = x := by rw [gval, Nat.add_mul_mod_self_left]; exact Nat.mod_eq_of_lt hx
    have e2 : gval b (x :: t) / b = gval b t := by rw [gval, Nat.add_mul_div_left _ _ (by omega), Nat.div_eq_of_lt hx]; simp
    rw [e1, e2, ih]
/-- noughts at the end taken off -/
theorem glim_take {b : Nat} (hb : 1 < b) {l : List Nat} {k : Nat} (h : Lm b l) (hk : k ≤ l.length) (hz : ∀ j x, k ≤ j → l[j]? = some x → x = 0) (ht : k = 0 ∨ ∃ x, l[k - 1]? = some x ∧ x ≠ 0) : glim b (gval b l) = l.take k := by
  have hd : gval b (l.drop k) = 0 := by
    refine gval_zeros b _ fun x hx => ?_
    obtain ⟨j, hj⟩ := List.getElem?_of_mem hx
    rw [List.getElem?_drop] at hj
    exact hz _ x (by omega) hj
  have hv : gval b l = gval b (l.take k) := by rw [gval_split b k l hk, hd]; simp
  rw [hv]
  refine glim_canon hb (h.take k) fun x hx => ?_
  rcases ht with rfl | ⟨y, hy, hy0⟩
  · simp at hx
  · rw [List.getLast?_eq_getElem?, List.length_take, Nat.min_eq_left hk] at hx
    have hk0 : 0 < k := by
      rcases Nat.eq_zero_or_pos k with rfl | h
      · simp at hx
      · exact h
    rw [List.getElem?_take_of_lt (by omega), hy] at hx
    injection hx with hx; omega
/-- canonical digits are the first of any digits -/
theorem glim_is_take : ∀ {l : List Nat}, Lm 4294967296 l → ∃ k, k ≤ l.length ∧ glim 4294967296 (gval 4294967296 l) = l.take k := by
  intro l
  have key : ∀ n, n ≤ l.length → Lm 4294967296 l → (∀ j x, n ≤ j → l[j]? = some x → x = 0) → ∃ k, k ≤ l.length ∧ glim 4294967296 (gval 4294967296 l) = l.take k := by
    intro n
    induction n with
    | zero => intro _ h hz; exact ⟨0, by omega, glim_take (by omega) h (by omega) hz (.inl rfl)⟩
    | succ n ih =>
      intro hn h hz
      by_cases hx : l[n]'(by omega) = 0
      · refine ih (by omega) h fun j x hj hjx => ?_
        by_cases e : j = n
        · subst e; rw [List.getElem?_eq_getElem (by omega)] at hjx; injection hjx with hjx; omega
        · exact hz j x (by omega) hjx
      · exact ⟨n + 1, hn, glim_take (by omega) h hn hz (.inr ⟨l[n]'(by omega), by simp, hx⟩)⟩
  intro h
  exact key l.length (Nat.le_refl _) h fun j x hj hx => absurd (List.getElem?_eq_some_iff.1 hx).1 (by omega)
/-- canonical digits end in a digit that is not 0 -/
theorem glim_last {b : Nat} (hb : 1 < b) (n : Nat) (hn : 0 < n) : ∃ x, (glim b n)[(glim b n).length - 1]? = some x ∧ x ≠ 0 := by
  induction n using Nat.strongRecOn with
  | ind n ih =>
    by_cases h : n / b = 0
    · refine ⟨n % b, ?_, ?_⟩
      · rw [glim_pos hb hn, h, glim_zero]; rfl
      · rw [Nat.mod_eq_of_lt ((Nat.div_eq_zero_iff_lt (by omega)).1 h)]; omega
    · obtain ⟨x, hx, hx0⟩ := ih (n / b) (Nat.div_lt_self hn hb) (Nat.pos_of_ne_zero h)
      refine ⟨x, ?_, hx0⟩
      have hlen : 0 < (glim b (n / b)).length := List.length_pos_iff.2 (glim_ne hb (Nat.pos_of_ne_zero h))
      rw [glim_pos hb hn, List.length_cons]
      rw [show (glim b (n / b)).length + 1 - 1 = ((glim b (n / b)).length - 1) + 1 by omega, List.getElem?_cons_succ]
      exact hx
theorem glim_lt {b : Nat} (hb : 1 < b) (n : Nat) : n < b ^ (glim b n).length := by
  have := gval_lt (lm_glim hb n)
  rwa [gval_glim hb] at this
theorem glim_ge {b : Nat} (hb : 1 < b) {n : Nat} (hn : 0 < n) : b ^ ((glim b n).length - 1) ≤ n := by
  obtain ⟨x, hx, hx0⟩ := glim_last hb n hn
  have hlen : 0 < (glim b n).length := List.length_pos_iff.2 (glim_ne hb hn)
  have h := gval_take_succ b hx
  rw [show (glim b n).length - 1 + 1 = (glim b n).length by omega, List.take_length, gval_glim hb] at h
  have : b ^ ((glim b n).length - 1) * 1 ≤ b ^ ((glim b n).length - 1) * x := Nat.mul_le_mul_left _ (by omega)
  omega
theorem glim_len {b : Nat} (hb : 1 < b) (n k : Nat) : (glim b n).length ≤ k ↔ n < b ^ k := by
  constructor
  · intro h
    exact Nat.lt_of_lt_of_le (glim_lt hb n) (Nat.pow_le_pow_right (by omega) h)
  · intro h
    by_cases h0 : n = 0
    · subst h0; rw [glim_zero]; simp
    · have h1 := glim_ge hb (n := n) (by omega)
      have h2 : b ^ ((glim b n).length - 1) < b ^ k := Nat.lt_of_le_of_lt h1 h
      have := (Nat.pow_lt_pow_iff_right hb).1 h2
      omega
theorem glim_inj {b : Nat} (hb : 1 < b) {m n : Nat} (h : glim b m = glim b n) : m = n := by
  rw [← gval_glim hb m, h, gval_glim hb]
/-- the order of two rows of digits, by the highest place where they part -/
theorem gval_order {b : Nat} {l m : List Nat} {i x y : Nat} (hl : Lm b l) (hlen : l.length = m.length) (hd : l.drop (i + 1) = m.drop (i + 1)) (hx : l[i]? = some x) (hy : m[i]? = some y) (hxy : x < y) : gval b l < gval b m := by
  have hi : i < l.length := (List.getElem?_eq_some_iff.1 hx).1
  rw [gval_split b (i + 1) l (by omega), gval_split b (i + 1) m (by omega), hd, gval_take_succ b hx, gval_take_succ b hy]
  have h1 := gval_lt (hl.take i)
  rw [List.length_take, Nat.min_eq_left (by omega)] at h1
  have : b ^ i * (x + 1) ≤ b ^ i * y := Nat.mul_le_mul_left _ hxy
  rw [Nat.mul_add] at this
  omega
theorem glim_len_lt {b : Nat} (hb : 1 < b) {m n : Nat} (h : (glim b m).length < (glim b n).length) : m < n := by
  have hn : 0 < n := by
    refine Nat.pos_of_ne_zero fun e => ?_
    subst e; rw [glim_zero] at h; simp at h
  have h1 := glim_lt hb m
  have h2 := glim_ge hb hn
  have : b ^ (glim b m).length ≤ b ^ ((glim b n).length - 1) := Nat.pow_le_pow_right (by omega) (by omega)
  omega
end Go.Proofs.Ytccogdlmlegmbaa
