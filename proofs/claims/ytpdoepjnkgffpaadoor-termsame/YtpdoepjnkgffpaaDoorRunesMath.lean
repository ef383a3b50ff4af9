/- Texts as rows of signs: what is read off well-formed bytes is what was written, and the answers of package runes as functions of the signs. -/
import Derived.Lib.ValidLaws
import Derived.Lib.MapLaws
import Derived.Lib.RuneBytes
namespace Go.Proofs.YtpdoepjnkgffpaaDoor
open Go.Lib
set_option linter.unusedSimpArgs false
set_option linter.unusedVariables false
set_option maxRecDepth 2000

/-! ### signs of bytes, bytes of signs -/
def sgGo : Nat → List UInt8 → List Nat
  | 0, _ => []
  | n + 1, l => if l = [] then [] else (decodeL l).1 :: sgGo n (l.drop (decodeL l).2)
def sg (l : List UInt8) : List Nat := sgGo l.length l
def okR (r : Nat) : Prop := r < 55296 ∨ (57344 ≤ r ∧ r ≤ 1114111)
def okRs (rs : List Nat) : Prop := ∀ r ∈ rs, okR r
def e1 (r : Nat) : List UInt8 := encodeRune (r : Int)
def en : List Nat → List UInt8
  | [] => []
  | r :: t => e1 r ++ en t

theorem sgGo_nil : ∀ n, sgGo n [] = []
  | 0 => rfl
  | _ + 1 => by simp [sgGo]
theorem sgGo_fuel : ∀ (n m : Nat) (l : List UInt8), l.length ≤ n → l.length ≤ m → sgGo n l = sgGo m l
  | 0, m, l, hn, _ => by
    have : l = [] := List.eq_nil_of_length_eq_zero (by omega)
    subst this; rw [sgGo_nil, sgGo_nil]
  | n + 1, 0, l, _, hm => by
    have : l = [] := List.eq_nil_of_length_eq_zero (by omega)
    subst this; rw [sgGo_nil, sgGo_nil]
  | n + 1, m + 1, l, hn, hm => by
    unfold sgGo
    by_cases hne : l = []
    · simp [hne]
    · have hw := decodeL_width l
      have hl : 0 < l.length := List.length_pos_iff.2 hne
      rw [if_neg hne, if_neg hne, sgGo_fuel n m (l.drop (decodeL l).2) (by rw [List.length_drop]; omega) (by rw [List.length_drop]; omega)]
theorem sg_nil : sg [] = [] := rfl
theorem sg_step (l : List UInt8) (hne : l ≠ []) : sg l = (decodeL l).1 :: sg (l.drop (decodeL l).2) := by
  have hl : 0 < l.length := List.length_pos_iff.2 hne
  have hw := decodeL_width l
  obtain ⟨n, hn⟩ : ∃ n, l.length = n + 1 := ⟨l.length - 1, by omega⟩
  unfold sg
  rw [hn]
  show (if l = [] then [] else _) = _
  rw [if_neg hne, sgGo_fuel n (l.drop (decodeL l).2).length _ (by rw [List.length_drop]; omega) (Nat.le_refl _)]
/-- The step of a range over a string. -/
theorem sg_at (s : ByteArray) (pos : Nat) (h : pos < s.size) : sg (s.data.toList.drop pos) = (Utf8.decode s pos).1 :: sg (s.data.toList.drop (pos + (Utf8.decode s pos).2)) := by
  have hs : s.data.toList.length = s.size := rfl
  rw [sg_step _ (by intro e; have := congrArg List.length e; simp [List.length_drop] at this; omega), decodeL_drop, List.drop_drop]
theorem sg_end (s : ByteArray) (pos : Nat) (h : ¬ pos < s.size) : sg (s.data.toList.drop pos) = [] := by
  have hs : s.data.toList.length = s.size := rfl
  rw [List.drop_eq_nil_of_le (by omega)]; rfl
theorem sg_le : ∀ l : List UInt8, (sg l).length ≤ l.length := by
  have h : ∀ (n : Nat) (l : List UInt8), (sgGo n l).length ≤ n := by
    intro n
    induction n with
    | zero => intro l; simp [sgGo]
    | succ n ih =>
      intro l; unfold sgGo; split
      · simp
      · have := ih (l.drop (decodeL l).2); simp; omega
  exact fun l => h _ l

theorem okR_decode (l : List UInt8) (hne : l ≠ []) : okR (decodeL l).1 := by
  have k0 := (l.getD 0 0).toNat_lt
  rw [decodeL_N]
  unfold okR
  rcases decodeN_shape l.length (l.getD 0 0).toNat (l.getD 1 0).toNat (l.getD 2 0).toNat (l.getD 3 0).toNat with ⟨c, e⟩ | ⟨c1, c2, c3, cv, e⟩ | ⟨c1, c2, c3, c4, cv, cs, e⟩ | ⟨c1, c2, c3, c4, c5, cv, cw, e⟩ | e
  all_goals (rw [e]; dsimp only; omega)
theorem okRs_sg (l : List UInt8) : okRs (sg l) := by
  have h : ∀ (n : Nat) (l : List UInt8), okRs (sgGo n l) := by
    intro n
    induction n with
    | zero => intro l r hr; simp [sgGo] at hr
    | succ n ih =>
      intro l r hr
      unfold sgGo at hr
      split at hr
      · simp at hr
      · rename_i hne
        rcases List.mem_cons.1 hr with rfl | hr
        · exact okR_decode l hne
        · exact ih _ r hr
  exact h _ l
theorem en_sg : ∀ (n : Nat) (l : List UInt8), l.length ≤ n → validD l = true → en (sg l) = l := by
  intro n
  induction n with
  | zero =>
    intro l hl _
    have : l = [] := List.eq_nil_of_length_eq_zero (by omega)
    subst this; rfl
  | succ n ih =>
    intro l hl hv
    by_cases hne : l = []
    · subst hne; rfl
    · have hw := decodeL_width l
      have hp : 0 < l.length := List.length_pos_iff.2 hne
      rw [validD_step l hne] at hv
      split at hv
      · cases hv
      · rename_i hb
        rw [sg_step l hne]
        show e1 _ ++ en _ = l
        rw [ih (l.drop (decodeL l).2) (by rw [List.length_drop]; omega) hv]
        unfold e1
        rw [encode_decode l hne hb]
        exact List.take_append_drop _ _
theorem en_of_valid {l : List UInt8} (h : validD l = true) : en (sg l) = l := en_sg _ l (Nat.le_refl _) h

theorem e1_length (r : Nat) : 1 ≤ (e1 r).length ∧ (e1 r).length ≤ 4 := by
  have := runeCells_le (r : Int)
  rw [runeCells_length] at this
  exact this
theorem e1_ascii (r : Nat) (h : r < 128) : e1 r = [r.toUInt8] := by
  unfold e1 encodeRune
  rw [encodeRuneZ_one (by omega) (by omega)]
  simp
theorem e1_ne (r : Nat) : e1 r ≠ [] := by
  intro e; have := (e1_length r).1; rw [e] at this; simp at this

theorem toU (n : Nat) (h : n < 256) : (n.toUInt8).toNat = n := by
  simp; omega
/-- What was encoded is decoded. -/
theorem decode_e1 (r : Nat) (h : okR r) (t : List UInt8) : decodeL (e1 r ++ t) = (r, (e1 r).length) := by
  rw [decodeL_N]
  unfold okR at h
  by_cases h1 : r < 128
  · rw [e1_ascii r h1]
    simp only [List.cons_append, List.nil_append, List.getD_cons_zero, List.length_cons, List.length_nil]
    rw [decodeN_ascii _ _ _ _ _ (by rw [toU r (by omega)]; exact h1), toU r (by omega)]
  by_cases h2 : r ≤ 2047
  · have e : e1 r = [(192 + r / 64).toUInt8, (128 + r % 64).toUInt8] := by
      unfold e1 encodeRune
      rw [encodeRuneZ_two (by omega) (by omega)]
      simp only [List.map_cons, List.map_nil]
      congr 1
    rw [e]
    simp only [List.cons_append, List.nil_append, List.getD_cons_zero, List.getD_cons_succ, List.length_cons, List.length_nil]
    rw [toU _ (by omega), toU _ (by omega)]
    unfold decodeN
    rw [if_neg (by omega), if_pos ⟨by omega, by omega, by omega⟩, if_pos (by omega)]
    congr 1
    omega
  by_cases h3 : r ≤ 65535
  · have e : e1 r = [(224 + r / 4096).toUInt8, (128 + r / 64 % 64).toUInt8, (128 + r % 64).toUInt8] := by
      unfold e1 encodeRune
      rw [encodeRuneZ_three (by omega)]
      simp only [List.map_cons, List.map_nil]
      congr 1
    rw [e]
    simp only [List.cons_append, List.nil_append, List.getD_cons_zero, List.getD_cons_succ, List.length_cons, List.length_nil]
    rw [toU _ (by omega), toU _ (by omega), toU _ (by omega)]
    have ev : (224 + r / 4096) % 16 * 4096 + (128 + r / 64 % 64) % 64 * 64 + (128 + r % 64) % 64 = r := by omega
    unfold decodeN
    rw [ev, if_neg (by omega), if_neg (by omega), if_pos ⟨by omega, ⟨by omega, by omega⟩, by omega, by omega⟩, if_pos ⟨by omega, by omega⟩]
  · have e : e1 r = [(240 + r / 262144).toUInt8, (128 + r / 4096 % 64).toUInt8, (128 + r / 64 % 64).toUInt8, (128 + r % 64).toUInt8] := by
      unfold e1 encodeRune
      rw [encodeRuneZ_four (by omega) (by omega)]
      simp only [List.map_cons, List.map_nil]
      congr 1
    rw [e]
    simp only [List.cons_append, List.nil_append, List.getD_cons_zero, List.getD_cons_succ, List.length_cons, List.length_nil]
    rw [toU _ (by omega), toU _ (by omega), toU _ (by omega), toU _ (by omega)]
    have ev : (240 + r / 262144) % 8 * 262144 + (128 + r / 4096 % 64) % 64 * 4096 + (128 + r / 64 % 64) % 64 * 64 + (128 + r % 64) % 64 = r := by omega
    unfold decodeN
    rw [ev, if_neg (by omega), if_neg (by omega), if_neg (by omega), if_pos ⟨by omega, ⟨by omega, by omega⟩, ⟨by omega, by omega⟩, by omega, by omega⟩, if_pos ⟨by omega, by omega⟩]

theorem okR_not_bad (r : Nat) (h : okR r) : ¬ (r = 65533 ∧ (e1 r).length = 1) := by
  rintro ⟨rfl, h1⟩
  revert h1
  unfold e1 encodeRune
  rw [encodeRuneZ_three (by omega)]
  simp
theorem sg_e1 (r : Nat) (h : okR r) (t : List UInt8) : sg (e1 r ++ t) = r :: sg t := by
  rw [sg_step _ (by simp [e1_ne]), decode_e1 r h t]
  simp
theorem valid_e1 (r : Nat) (h : okR r) (t : List UInt8) : validD (e1 r ++ t) = validD t := by
  rw [validD_step _ (by simp [e1_ne]), decode_e1 r h t]
  rw [if_neg (okR_not_bad r h)]
  simp
theorem okRs_cons {r : Nat} {t : List Nat} (h : okRs (r :: t)) : okR r ∧ okRs t := ⟨h r (by simp), fun x hx => h x (by simp [hx])⟩
theorem okRs_append {a b : List Nat} (ha : okRs a) (hb : okRs b) : okRs (a ++ b) := fun x hx => by
  rcases List.mem_append.1 hx with h | h
  · exact ha x h
  · exact hb x h
theorem okRs_nil : okRs [] := fun x hx => by simp at hx
theorem sg_en : ∀ (rs : List Nat), okRs rs → ∀ t, sg (en rs ++ t) = rs ++ sg t
  | [], _, t => rfl
  | r :: rs, h, t => by
    show sg ((e1 r ++ en rs) ++ t) = r :: (rs ++ sg t)
    rw [List.append_assoc, sg_e1 r (okRs_cons h).1, sg_en rs (okRs_cons h).2 t]
theorem valid_en : ∀ (rs : List Nat), okRs rs → ∀ t, validD (en rs ++ t) = validD t
  | [], _, t => rfl
  | r :: rs, h, t => by
    show validD ((e1 r ++ en rs) ++ t) = _
    rw [List.append_assoc, valid_e1 r (okRs_cons h).1, valid_en rs (okRs_cons h).2 t]
theorem sg_en0 (rs : List Nat) (h : okRs rs) : sg (en rs) = rs := by
  have := sg_en rs h []
  simpa [sg_nil] using this
theorem valid_en0 (rs : List Nat) (h : okRs rs) : validD (en rs) = true := by
  have := valid_en rs h []
  simpa [validD_nil] using this
theorem en_append : ∀ a b : List Nat, en (a ++ b) = en a ++ en b
  | [], b => rfl
  | r :: a, b => by
    show e1 r ++ en (a ++ b) = (e1 r ++ en a) ++ en b
    rw [en_append a b, List.append_assoc]
theorem en_one (r : Nat) : en [r] = e1 r := by simp [en]
theorem en_inj {a b : List Nat} (ha : okRs a) (hb : okRs b) (h : en a = en b) : a = b := by
  rw [← sg_en0 a ha, ← sg_en0 b hb, h]
theorem en_eq_nil {a : List Nat} : en a = [] ↔ a = [] := by
  cases a with
  | nil => simp [en]
  | cons r t => simp [en, e1_ne]
/-- Well-formed bytes are the bytes of signs. -/
theorem valid_iff (l : List UInt8) : validD l = true ↔ ∃ rs, okRs rs ∧ l = en rs :=
  ⟨fun h => ⟨sg l, okRs_sg l, (en_of_valid h).symm⟩, fun ⟨rs, ho, e⟩ => e ▸ valid_en0 rs ho⟩

/-! ### Count, Plain -/
def countZ (l : List UInt8) : Int := if validD l then ((sg l).length : Int) else -1
def bareB (r : Nat) (first : Bool) : Bool :=
  (decide (97 ≤ r) && decide (r ≤ 122)) || (!first && ((decide (65 ≤ r) && decide (r ≤ 90)) || (decide (48 ≤ r) && decide (r ≤ 57)) || decide (r = 95) || decide (r = 64)))
def plainGo (first : Bool) : List Nat → Bool
  | [] => true
  | r :: t => bareB r first && plainGo false t
def plainB (l : List UInt8) : Bool := plainGo true (sg l) && decide (l ≠ [])

end Go.Proofs.YtpdoepjnkgffpaaDoor
