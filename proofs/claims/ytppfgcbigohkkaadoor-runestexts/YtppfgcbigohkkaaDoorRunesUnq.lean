/- Reading a quoted name, as a function of its signs; a name that was quoted is read as it was. -/
import Derived.Test.YtppfgcbigohkkaaDoorRunesQuote
namespace Go.Proofs.YtppfgcbigohkkaaDoor
open Go.Lib
set_option linter.unusedSimpArgs false
set_option linter.unusedVariables false

def digV (r : Nat) : Nat := if 48 ≤ r ∧ r ≤ 57 then r - 48 else if 97 ≤ r ∧ r ≤ 102 then r - 87 else if 65 ≤ r ∧ r ≤ 70 then r - 55 else 16
def vR (n : Nat) : Bool := Lib.validRune (n : Int)
def addQ (L : Nat) (out : List Nat) (num dig r : Nat) : Nat × Nat × List Nat × Nat × Nat := if out.length = L then (3, 0, out, num, dig) else (0, 0, out ++ [r], num, dig)
def escQ (L : Nat) (out : List Nat) (num dig r : Nat) : Nat × Nat × List Nat × Nat × Nat :=
  if r = 39 ∨ r = 92 then addQ L out num dig r else if r = 110 then addQ L out num dig 10 else if r = 120 then (0, 2, out, 0, 0) else (4, 1, out, num, dig)
def numQ (L : Nat) (out : List Nat) (num dig r : Nat) : Nat × Nat × List Nat × Nat × Nat :=
  if r = 59 then (if dig = 0 ∨ vR num = false then (4, 2, out, num, dig) else addQ L out num dig num)
  else if digV r = 16 ∨ dig = 6 then (4, 2, out, num, dig) else (0, 2, out, num * 16 + digV r, dig + 1)
/-- One sign between the quotes: what is wrong (0: nothing), and the state behind it. -/
def takeQ (L part : Nat) (out : List Nat) (num dig r : Nat) : Nat × Nat × List Nat × Nat × Nat :=
  if part = 1 then escQ L out num dig r else if part = 2 then numQ L out num dig r
  else if hiddenB r then (4, 0, out, num, dig) else if r = 92 then (0, 1, out, num, dig) else addQ L out num dig r
def runQ (L : Nat) : Nat → List Nat → Nat → Nat → List Nat → Nat × List Nat × List Nat
  | _, _, _, _, [] => (2, [], [])
  | part, out, num, dig, r :: t =>
    if part = 0 ∧ r = 39 then (0, out, t)
    else if (takeQ L part out num dig r).1 = 0 then runQ L (takeQ L part out num dig r).2.1 (takeQ L part out num dig r).2.2.1 (takeQ L part out num dig r).2.2.2.1 (takeQ L part out num dig r).2.2.2.2 t
    else ((takeQ L part out num dig r).1, [], [])

theorem runQ_step (L part : Nat) (out : List Nat) (num dig r : Nat) (t : List Nat) (p' : Nat) (o' : List Nat) (n' d' : Nat) (h : ¬ (part = 0 ∧ r = 39)) (ht : takeQ L part out num dig r = (0, p', o', n', d')) :
    runQ L part out num dig (r :: t) = runQ L p' o' n' d' t := by
  rw [runQ, if_neg h, ht]; simp
theorem runQ_bad (L part : Nat) (out : List Nat) (num dig r : Nat) (t : List Nat) (h : ¬ (part = 0 ∧ r = 39)) (ht : (takeQ L part out num dig r).1 ≠ 0) :
    runQ L part out num dig (r :: t) = ((takeQ L part out num dig r).1, [], []) := by
  rw [runQ, if_neg h, if_neg ht]
theorem addQ_ok (L : Nat) (out : List Nat) (num dig r : Nat) (h : out.length < L) : addQ L out num dig r = (0, 0, out ++ [r], num, dig) := by
  unfold addQ; rw [if_neg (by omega)]
theorem digV_hexD (k : Nat) (h : k < 16) : digV (hexD k) = k := by
  unfold digV hexD
  by_cases h1 : k < 10
  · rw [if_pos h1, if_pos (by omega)]; omega
  · rw [if_neg h1, if_neg (by omega), if_pos (by omega)]; omega
theorem hexD_ne (k : Nat) (h : k < 16) : hexD k ≠ 59 ∧ hexD k ≠ 39 := by
  unfold hexD; split <;> omega
theorem vR_small (r : Nat) (h : r < 128) : vR r = true := by
  unfold vR Lib.validRune; simp; omega
/-- The digits of an escape, read. -/
theorem runQ_hex (L : Nat) (out : List Nat) (r : Nat) (t : List Nat) (hr : r < 128) (hl : out.length < L) : runQ L 2 out 0 0 (hex2 r ++ 59 :: t) = runQ L 0 (out ++ [r]) r (hex2 r).length t := by
  unfold hex2
  by_cases h : r < 16
  · rw [if_pos h]
    have hne := hexD_ne r h
    have hd := digV_hexD r h
    show runQ L 2 out 0 0 (hexD r :: 59 :: t) = _
    rw [runQ_step L 2 out 0 0 (hexD r) (59 :: t) 2 out r 1 (by omega) (by
      unfold takeQ numQ; rw [if_neg (by omega), if_pos rfl, if_neg hne.1, if_neg (by omega), hd]; simp)]
    rw [runQ_step L 2 out r 1 59 t 0 (out ++ [r]) r 1 (by omega) (by
      unfold takeQ numQ; rw [if_neg (by omega), if_pos rfl, if_pos rfl, if_neg (by rw [vR_small r hr]; simp), addQ_ok _ _ _ _ _ hl])]
    rfl
  · rw [if_neg h]
    have h1 : r / 16 < 16 := by omega
    have h2 : r % 16 < 16 := by omega
    have ha := hexD_ne _ h1
    have hb := hexD_ne _ h2
    have da := digV_hexD _ h1
    have db := digV_hexD _ h2
    show runQ L 2 out 0 0 (hexD (r / 16) :: hexD (r % 16) :: 59 :: t) = _
    rw [runQ_step L 2 out 0 0 (hexD (r / 16)) (hexD (r % 16) :: 59 :: t) 2 out (r / 16) 1 (by omega) (by
      unfold takeQ numQ; rw [if_neg (by omega), if_pos rfl, if_neg ha.1, if_neg (by omega), da]; simp)]
    rw [runQ_step L 2 out (r / 16) 1 (hexD (r % 16)) (59 :: t) 2 out r 2 (by omega) (by
      unfold takeQ numQ; rw [if_neg (by omega), if_pos rfl, if_neg hb.1, if_neg (by omega), db]; congr 4; omega)]
    rw [runQ_step L 2 out r 2 59 t 0 (out ++ [r]) r 2 (by omega) (by
      unfold takeQ numQ; rw [if_neg (by omega), if_pos rfl, if_pos rfl, if_neg (by rw [vR_small r hr]; simp), addQ_ok _ _ _ _ _ hl])]
    rfl
theorem runQ_esc (L : Nat) (out : List Nat) (num dig r : Nat) (t : List Nat) (hl : out.length < L) : ∃ n d, runQ L 0 out num dig (escR r ++ t) = runQ L 0 (out ++ [r]) n d t := by
  unfold escR
  have hback : ∀ u, runQ L 0 out num dig (92 :: u) = runQ L 1 out num dig u := fun u =>
    runQ_step L 0 out num dig 92 u 1 out num dig (by omega) (by unfold takeQ; rw [if_neg (by omega), if_neg (by omega), if_neg (by decide), if_pos rfl])
  by_cases h1 : r = 39 ∨ r = 92
  · rw [if_pos h1]
    refine ⟨num, dig, ?_⟩
    show runQ L 0 out num dig (92 :: r :: t) = _
    rw [hback, runQ_step L 1 out num dig r t 0 (out ++ [r]) num dig (by omega) (by
      unfold takeQ escQ; rw [if_pos rfl, if_pos h1, addQ_ok _ _ _ _ _ hl])]
  · rw [if_neg h1]
    by_cases h2 : r = 10
    · rw [if_pos h2]
      refine ⟨num, dig, ?_⟩
      show runQ L 0 out num dig (92 :: 110 :: t) = _
      rw [hback, runQ_step L 1 out num dig 110 t 0 (out ++ [10]) num dig (by omega) (by
        unfold takeQ escQ; rw [if_pos rfl, if_neg (by omega), if_pos rfl, addQ_ok _ _ _ _ _ hl]), h2]
    · rw [if_neg h2]
      cases hh : hiddenB r with
      | true =>
        refine ⟨r, (hex2 r).length, ?_⟩
        rw [if_pos rfl]
        show runQ L 0 out num dig (92 :: 120 :: ((hex2 r ++ [59]) ++ t)) = _
        rw [hback, runQ_step L 1 out num dig 120 _ 2 out 0 0 (by omega) (by
          unfold takeQ escQ; rw [if_pos rfl, if_neg (by omega), if_neg (by omega), if_pos rfl]), List.append_assoc]
        exact runQ_hex L out r t (hidden_lt hh) hl
      | false =>
        refine ⟨num, dig, ?_⟩
        rw [if_neg (by simp)]
        show runQ L 0 out num dig (r :: t) = _
        exact runQ_step L 0 out num dig r t 0 (out ++ [r]) num dig (by omega) (by
          unfold takeQ; rw [if_neg (by omega), if_neg (by omega), hh, if_neg (by simp), if_neg (by omega), addQ_ok _ _ _ _ _ hl])
/-- A name that was quoted is read as it was, whatever stands behind it. -/
theorem runQ_back (L : Nat) : ∀ (rs out : List Nat) (num dig : Nat) (t : List Nat), out.length + rs.length ≤ L → runQ L 0 out num dig (escs rs ++ 39 :: t) = (0, out ++ rs, t)
  | [], out, num, dig, t, _ => by
    show runQ L 0 out num dig (39 :: t) = _
    rw [runQ, if_pos ⟨rfl, rfl⟩]; simp
  | r :: rs, out, num, dig, t, h => by
    simp only [List.length_cons] at h
    show runQ L 0 out num dig ((escR r ++ escs rs) ++ 39 :: t) = _
    rw [List.append_assoc]
    obtain ⟨n, d, e⟩ := runQ_esc L out num dig r (escs rs ++ 39 :: t) (by omega)
    rw [e, runQ_back L rs (out ++ [r]) n d t (by simp; omega)]
    simp
theorem escs_inj {a b : List Nat} (h : escs a ++ [39] = escs b ++ [39]) : a = b := by
  have h1 := runQ_back (a.length + b.length) a [] 0 0 [] (by simp)
  have h2 := runQ_back (a.length + b.length) b [] 0 0 [] (by simp)
  rw [h, h2] at h1
  simpa using (congrArg (fun x => x.2.1) h1).symm
theorem quoteR_inj {a b : List Nat} (h : quoteR a = quoteR b) : a = b := by
  unfold quoteR at h
  exact escs_inj (List.cons.inj h).2

/-! ### a quoted name's own signs -/
theorem escR_seen (r : Nat) : ∀ x ∈ escR r, hiddenB x = false := by
  intro x hx
  have hd : ∀ k, k < 16 → hiddenB (hexD k) = false := fun k hk => by unfold hiddenB hexD; split <;> simp <;> omega
  unfold escR at hx
  split at hx
  · rename_i h1
    simp at hx
    rcases hx with rfl | rfl
    · decide
    · rcases h1 with rfl | rfl <;> decide
  · split at hx
    · simp at hx; rcases hx with rfl | rfl <;> decide
    · split at hx
      · rename_i hh
        have := hidden_lt hh
        simp at hx
        rcases hx with rfl | rfl | hx | rfl
        · decide
        · decide
        · unfold hex2 at hx
          split at hx
          · simp at hx; subst hx; exact hd _ (by omega)
          · simp at hx; rcases hx with rfl | rfl
            · exact hd _ (by omega)
            · exact hd _ (by omega)
        · decide
      · rename_i hh
        simp at hx; subst hx; simpa using hh
theorem escs_seen : ∀ (rs : List Nat), ∀ x ∈ escs rs, hiddenB x = false
  | [], x, hx => by simp [escs] at hx
  | r :: t, x, hx => by
    rcases List.mem_append.1 (show x ∈ escR r ++ escs t from hx) with h | h
    · exact escR_seen r x h
    · exact escs_seen t x h
theorem quoteR_seen (rs : List Nat) : ∀ x ∈ quoteR rs, hiddenB x = false := by
  intro x hx
  unfold quoteR at hx
  simp at hx
  rcases hx with rfl | hx | rfl
  · decide
  · exact escs_seen rs x hx
  · decide
theorem bare_seen (r : Nat) (f : Bool) (h : bareB r f = true) : hiddenB r = false ∧ r ≠ 39 ∧ r < 128 := by
  unfold bareB at h
  unfold hiddenB
  simp at h ⊢
  omega
theorem plainGo_all : ∀ (f : Bool) (rs : List Nat), plainGo f rs = true → ∀ x ∈ rs, hiddenB x = false ∧ x ≠ 39 ∧ x < 128
  | _, [], _, x, hx => by simp at hx
  | f, r :: t, h, x, hx => by
    simp only [plainGo, Bool.and_eq_true] at h
    rcases List.mem_cons.1 hx with rfl | hx
    · exact bare_seen _ f h.1
    · exact plainGo_all false t h.2 x hx
theorem e1_le_escR (r : Nat) : (e1 r).length ≤ (en (escR r)).length := by
  unfold escR
  split
  · show _ ≤ (e1 92 ++ (e1 r ++ [])).length; simp
  · split
    · rename_i h; subst h; decide
    · split
      · rename_i hh
        rw [e1_ascii r (hidden_lt hh)]
        show _ ≤ (e1 92 ++ en _).length
        have := (e1_length 92).1
        simp; omega
      · rw [en_one]; exact Nat.le_refl _
theorem en_le_escs : ∀ rs : List Nat, (en rs).length ≤ (en (escs rs)).length
  | [] => by simp [en, escs]
  | r :: t => by
    have h1 := e1_le_escR r
    have h2 := en_le_escs t
    show (e1 r ++ en t).length ≤ (en (escR r ++ escs t)).length
    rw [en_append, List.length_append, List.length_append]; omega
theorem quoteR_len (rs : List Nat) : (en rs).length + 2 ≤ (en (quoteR rs)).length := by
  have h := en_le_escs rs
  show _ ≤ (e1 39 ++ en (escs rs ++ [39])).length
  rw [en_append, en_one, e1_39]
  simp; omega
end Go.Proofs.YtppfgcbigohkkaaDoor
