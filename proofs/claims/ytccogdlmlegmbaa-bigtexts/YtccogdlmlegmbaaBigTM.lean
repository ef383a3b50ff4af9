/- What was written is read, and what was read is written. -/
import Derived.Test.YtccogdlmlegmbaaBigParse
import Derived.Test.YtccogdlmlegmbaaBigRShort
namespace Go.Proofs.Ytccogdlmlegmbaa
open Go.ChangeShapes Go.WideShapes Go.ChangeAt Go.RowKit Go.Shelf
set_option linter.unusedSimpArgs false
set_option linter.unusedVariables false
/-- digits, the highest first, as signs -/
def dg (ds : List Nat) : List UInt8 := ds.map fun x => UInt8.ofNat (48 + x)
theorem dg_byte {x : Nat} (h : x < 10) : (UInt8.ofNat (48 + x)).toNat = 48 + x := by simp; omega
theorem dg_val : ∀ (l : List Nat), Lm 10 l → pval (dg l.reverse) = gval 10 l
  | [], _ => rfl
  | x :: t, h => by
    rw [List.reverse_cons]
    unfold dg
    rw [List.map_append]
    show pval (dg t.reverse ++ [UInt8.ofNat (48 + x)]) = x + 10 * gval 10 t
    rw [pval_snoc, dg_val t h.tail, dg_byte h.head]
    omega
theorem dg_digs {ds : List Nat} (h : Lm 10 ds) : isDigs (dg ds) = true := by
  unfold isDigs
  rw [List.all_eq_true]
  intro x hx
  obtain ⟨d, hd, rfl⟩ := List.mem_map.1 hx
  have h9 := h d hd
  rw [dg_byte h9]
  simp; omega
theorem dg_of : ∀ (d : List UInt8), isDigs d = true → ∃ ds, Lm 10 ds ∧ d = dg ds
  | [], _ => ⟨[], Lm.nil _, rfl⟩
  | x :: t, h => by
    unfold isDigs at h
    rw [List.all_cons, Bool.and_eq_true] at h
    obtain ⟨ds, h1, h2⟩ := dg_of t h.2
    have hx : 48 ≤ x.toNat ∧ x.toNat ≤ 57 := by simpa using h.1
    refine ⟨(x.toNat - 48) :: ds, Lm.cons (by omega) h1, ?_⟩
    show x :: t = UInt8.ofNat (48 + (x.toNat - 48)) :: dg ds
    rw [← h2, show 48 + (x.toNat - 48) = x.toNat by omega]
    simp
theorem Lm.reverse {b : Nat} {l : List Nat} (h : Lm b l) : Lm b l.reverse := fun x hx => h x (by simpa using hx)
theorem txt_dg {Z : Int} (h : Z ≠ 0) : txt Z = (if Z < 0 then [45] else []) ++ dg (glim 10 Z.natAbs).reverse := by
  unfold txt txtN
  rw [if_neg h, List.reverse_append, List.map_append]
  congr 1
  · split <;> rfl
  · unfold dg
    rw [← List.map_reverse, List.map_map]
    rfl
theorem dg_head {ds : List Nat} (h : Lm 10 ds) (hne : ds ≠ []) : (dg ds).head? = ds.head?.map fun x => UInt8.ofNat (48 + x) := by
  cases ds with
  | nil => exact absurd rfl hne
  | cons x t => rfl
theorem big_ten {n : Nat} (h : (glim 4294967296 n).length ≤ 64) : (glim 10 n).length ≤ 620 := by
  obtain ⟨k, hk⟩ : ∃ k, k = 10 := ⟨_, rfl⟩
  obtain ⟨m, hm⟩ : ∃ m, m = 64 := ⟨_, rfl⟩
  rw [← hm] at h
  rw [show 620 = 62 * k by omega]
  rw [glim_len (by omega)] at h ⊢
  have h1 : ((2 : Nat) ^ 205) ^ k ≤ (10 ^ 62) ^ k := Nat.pow_le_pow_left (by decide) k
  have h2 : (10 : Nat) ^ (62 * k) = (10 ^ 62) ^ k := Nat.pow_mul ..
  have h3 : (4294967296 : Nat) ^ m ≤ (2 ^ 205) ^ k := by
    rw [show (4294967296 : Nat) = 2 ^ 32 by decide, ← Nat.pow_mul, ← Nat.pow_mul]
    exact Nat.pow_le_pow_right (by decide) (by omega)
  rw [h2]
  exact Nat.lt_of_lt_of_le h (Nat.le_trans h3 h1)
theorem sv_decide (Z : Int) : sv (decide (Z < 0)) Z.natAbs = Z := by
  unfold sv
  by_cases hz : Z < 0
  · simp only [hz, decide_true, if_true]; omega
  · simp only [hz, decide_false, Bool.false_eq_true, if_false]; omega
theorem read_of {neg : Bool} {d : List UInt8} (hok : okNum d = true) (hz : ¬ (neg = true ∧ d = [48])) (hl : d.length ≤ 620) (hg : (glim 4294967296 (pval d)).length ≤ 64) (hfst : neg = false → Lib.hasPrefix d [45] = false) :
    pE ((if neg then [45] else []) ++ d) = 0 ∧ pZ ((if neg then [45] else []) ++ d) = sv neg (pval d) := by
  have h1 : pneg ((if neg then [45] else []) ++ d) = neg := by
    cases neg with
    | false => exact hfst rfl
    | true => simp [pneg, Lib.hasPrefix]
  have h2 : pdig ((if neg then [45] else []) ++ d) = d := by
    unfold pneg at h1
    unfold pdig Lib.trimPrefix
    rw [h1]
    cases neg <;> rfl
  have h3 : pok ((if neg then [45] else []) ++ d) = true := by
    unfold pok
    rw [h1, h2, hok]
    simp
    cases neg
    · simp
    · right; intro e; exact hz ⟨rfl, e⟩
  have h4 : pE ((if neg then [45] else []) ++ d) = 0 := by
    unfold pE
    rw [if_pos h3, h2, if_neg (by omega)]
  refine ⟨h4, ?_⟩
  unfold pZ
  rw [if_pos h4, h1, h2]
theorem read_txt {Z : Int} (h : (glim 4294967296 Z.natAbs).length ≤ 64) : pE (txt Z) = 0 ∧ pZ (txt Z) = Z := by
  by_cases hz : Z = 0
  · subst hz
    have e : txt 0 = [48] := rfl
    rw [e]
    exact read_of (neg := false) (d := [48]) (by decide) (by simp) (by decide) (by rw [show pval [48] = 0 by decide, glim_zero]; decide) (by decide)
  · have hn : 0 < Z.natAbs := by omega
    rw [txt_dg hz]
    have hL := lm_glim (b := 10) (by omega) Z.natAbs
    have hv : pval (dg (glim 10 Z.natAbs).reverse) = Z.natAbs := by rw [dg_val _ hL, gval_glim (by omega)]
    obtain ⟨x, hx, hx0⟩ := glim_last (b := 10) (by omega) Z.natAbs hn
    have hx9 : x < 10 := hL x (List.mem_of_getElem? hx)
    obtain ⟨t, ht⟩ : ∃ t, (glim 10 Z.natAbs).reverse = x :: t := by
      cases hr : (glim 10 Z.natAbs).reverse with
      | nil => exact absurd (List.reverse_eq_nil_iff.1 hr) (glim_ne (by omega) hn)
      | cons y t =>
        have h1 : (glim 10 Z.natAbs).getLast? = some y := by rw [← List.head?_reverse, hr]; rfl
        rw [List.getLast?_eq_getElem?, hx] at h1
        injection h1 with h1
        exact ⟨t, by rw [h1]⟩
    have hd : isDigs (dg (x :: t)) = true := by rw [← ht]; exact dg_digs hL.reverse
    have hne : (UInt8.ofNat (48 + x)) ≠ 48 := fun e => by
      have := congrArg UInt8.toNat e
      rw [dg_byte hx9] at this
      have h48 : (48 : UInt8).toNat = 48 := rfl
      omega
    have hne5 : (UInt8.ofNat (48 + x)) ≠ 45 := fun e => by
      have := congrArg UInt8.toNat e
      rw [dg_byte hx9] at this
      have h48 : (45 : UInt8).toNat = 45 := rfl
      omega
    have hok : okNum (dg (x :: t)) = true := by
      unfold okNum
      rw [hd]
      show (true && (_ || ((dg (x :: t)) != [] && ((dg (x :: t)).head? != some 48)))) = true
      have e1 : (dg (x :: t)) != [] := rfl
      have e2 : ((dg (x :: t)).head? != some 48) = true := by
        show (some (UInt8.ofNat (48 + x)) != some 48) = true
        simp only [bne_iff_ne, ne_eq, Option.some.injEq]
        exact hne
      rw [e1, e2]; simp
    rw [ht] at hv
    rw [ht]
    have hlen : (dg (x :: t)).length ≤ 620 := by
      unfold dg
      rw [List.length_map, ← ht, List.length_reverse]
      exact big_ten h
    have := read_of (neg := decide (Z < 0)) (d := dg (x :: t)) hok (fun ⟨_, e⟩ => hne (by injection e)) hlen (by rw [hv]; exact h) (fun _ => by
      have e45 : ((45 : UInt8) == UInt8.ofNat (48 + x)) = false := by rw [beq_eq_false_iff_ne]; exact fun e => hne5 e.symm
      show ([45] : List UInt8).isPrefixOf (UInt8.ofNat (48 + x) :: dg t) = false
      simp only [List.isPrefixOf, e45, Bool.false_and])
    rw [hv, sv_decide] at this
    simpa using this
theorem write_read {s : List UInt8} (h : pE s = 0) : txt (pZ s) = s := by
  have hpZ : pZ s = sv (pneg s) (pval (pdig s)) := by unfold pZ; rw [if_pos h]
  have hok : pok s = true := by
    unfold pE at h
    by_cases hk : pok s = true
    · exact hk
    · rw [if_neg hk] at h; omega
  have hs : s = (if pneg s then [45] else []) ++ pdig s := by
    unfold pdig Lib.trimPrefix pneg
    cases hp : Lib.hasPrefix s [45] with
    | false => rfl
    | true =>
      cases s with
      | nil => simp [Lib.hasPrefix] at hp
      | cons x t =>
        have : x = 45 := by simp [Lib.hasPrefix] at hp; first | exact hp | exact hp.symm
        subst this; rfl
  unfold pok at hok
  rw [Bool.and_eq_true] at hok
  obtain ⟨h1, h2⟩ := hok
  rw [hpZ]
  refine Eq.trans ?_ hs.symm
  generalize pneg s = neg at *
  generalize pdig s = d at *
  clear hs hpZ h
  unfold okNum at h1
  rw [Bool.and_eq_true] at h1
  obtain ⟨hd, hc⟩ := h1
  obtain ⟨ds, hL, rfl⟩ := dg_of d hd
  by_cases h48 : dg ds = [48]
  · rw [h48] at h2 ⊢
    have : neg = false := by cases neg <;> simp at h2 ⊢
    subst this
    rfl
  · have hc2 : (dg ds != [] && (dg ds).head? != some 48) = true := by
      rw [Bool.or_eq_true] at hc
      rcases hc with hc | hc
      · exact absurd (by simpa using hc) h48
      · exact hc
    rw [Bool.and_eq_true] at hc2
    cases ds with
    | nil => simp [dg] at hc2
    | cons x t =>
      have hx9 := hL.head
      have hx0 : x ≠ 0 := fun e => by subst e; simp [dg] at hc2
      have hcan : glim 10 (gval 10 (x :: t).reverse) = (x :: t).reverse := glim_canon (by omega) hL.reverse (fun y hy => by
        rw [List.getLast?_reverse] at hy
        simp at hy; omega)
      have hv : pval (dg (x :: t)) = gval 10 (x :: t).reverse := by
        have := dg_val (x :: t).reverse hL.reverse
        rwa [List.reverse_reverse] at this
      have hpos : 0 < pval (dg (x :: t)) := by
        rw [hv]
        rcases Nat.eq_zero_or_pos (gval 10 (x :: t).reverse) with e | e
        · rw [e, glim_zero] at hcan
          simp at hcan
        · exact e
      have hz : sv neg (pval (dg (x :: t))) ≠ 0 := by unfold sv; split <;> omega
      have ha : (sv neg (pval (dg (x :: t)))).natAbs = pval (dg (x :: t)) := by unfold sv; split <;> simp
      have hs : (sv neg (pval (dg (x :: t))) < 0) ↔ neg = true := by
        unfold sv
        cases neg
        · simp
        · simp; omega
      rw [txt_dg hz, ha, hv, hcan, List.reverse_reverse]
      rw [hv] at hs
      cases neg with
      | false => rw [if_neg (fun e => by have := hs.1 e; simp at this)]; rfl
      | true => rw [if_pos (hs.2 rfl)]; rfl
theorem txt_len2 {Z : Int} {k : Nat} (h : Z.natAbs < 4294967296 ^ k) : (txt Z).length ≤ 32 * k + 2 := by
  unfold txt txtN
  by_cases hz : Z = 0
  · rw [if_pos hz]; simp
  · rw [if_neg hz]
    have hl : (glim 10 Z.natAbs).length ≤ 32 * k + 1 := by
      have h1 := glim_ge (b := 10) (by omega) (n := Z.natAbs) (by omega)
      have := len_bound (s := (glim 10 Z.natAbs).length - 1) (N := 1) (M := Z.natAbs) (K := k) (by omega) (by omega) h
      omega
    split <;> simp <;> omega
theorem txt_len80 {v : Value} {Z : Int} {w : World} (h : IsN v Z 80 w) : (txt Z).length ≤ 1000000 := by
  obtain ⟨neg, o, l, c, rfl, hL, hc, hm, hs, hk⟩ := h
  have h1 := gval_lt hm
  have h2 : Z.natAbs = gval 4294967296 l := by subst hs; unfold sv; cases neg <;> simp
  have := txt_len2 (Z := Z) (k := l.length) (by rw [h2]; exact h1)
  omega
end Go.Proofs.Ytccogdlmlegmbaa
