/- Names in a row: where a name stands first; what a table answers to Put. -/
import Derived.Test.YtibgdncfahffpaaDoorRunesMath
namespace Go.Proofs.YtibgdncfahffpaaDoor

/-- where s stands first -/
def pos : List ByteArray → ByteArray → Option Nat
  | [], _ => none
  | x :: t, s => if x = s then some 0 else (pos t s).map (· + 1)
theorem pos_first : ∀ (l : List ByteArray) (s : ByteArray) (i : Nat), l[i]? = some s → (∀ j : Nat, j < i → l[j]? ≠ some s) → pos l s = some i
  | [], s, i, h, _ => by simp at h
  | x :: t, s, 0, h, _ => by simp at h; subst h; simp [pos]
  | x :: t, s, i + 1, h, hf => by
    have hx : x ≠ s := fun e => hf 0 (by omega) (by simp [e])
    have := pos_first t s i (by simpa using h) (fun j hj e => hf (j + 1) (by omega) (by simpa using e))
    simp [pos, hx, this]
theorem pos_none : ∀ (l : List ByteArray) (s : ByteArray), (∀ j : Nat, l[j]? ≠ some s) → pos l s = none
  | [], s, _ => rfl
  | x :: t, s, hf => by
    have hx : x ≠ s := fun e => hf 0 (by simp [e])
    have := pos_none t s (fun j e => hf (j + 1) (by simpa using e))
    simp [pos, hx, this]
theorem pos_get : ∀ (l : List ByteArray) (s : ByteArray) (i : Nat), pos l s = some i → l[i]? = some s
  | [], s, i, h => by simp [pos] at h
  | x :: t, s, i, h => by
    unfold pos at h
    split at h
    · rename_i e; injection h with h; subst h; simp [e]
    · cases ht : pos t s with
      | none => simp [ht] at h
      | some k => simp [ht] at h; subst h; simpa using pos_get t s k ht
theorem pos_lt {l : List ByteArray} {s : ByteArray} {i : Nat} (h : pos l s = some i) : i < l.length := (List.getElem?_eq_some_iff.1 (pos_get l s i h)).1
theorem pos_snoc : ∀ (l : List ByteArray) (x s : ByteArray), pos (l ++ [x]) s = match pos l s with | some i => some i | none => if x = s then some l.length else none
  | [], x, s => by simp [pos]
  | y :: t, x, s => by
    show (if y = s then some 0 else (pos (t ++ [x]) s).map (· + 1)) = _
    rw [pos_snoc t x s]
    by_cases hy : y = s
    · simp [pos, hy]
    · cases ht : pos t s with
      | some k => simp [pos, hy, ht]
      | none =>
        by_cases hx : x = s
        · simp [pos, hy, ht, hx]
        · simp [pos, hy, ht, hx]
/-- why a text may be no name -/
def faultZ (l : List UInt8) : Int := if Lib.validD l = true then (if 255 < countZ l then 3 else 0) else 4
/-- what Put answers, and what there is behind it -/
def putN (ns : List ByteArray) (s : ByteArray) : Int := if faultZ s.data.toList = 0 then (((pos ns s).getD ns.length : Nat) : Int) else 0
def putL (ns : List ByteArray) (s : ByteArray) : List ByteArray := if faultZ s.data.toList = 0 then (if (pos ns s).isSome then ns else ns ++ [s]) else ns
theorem fault_cases (l : List UInt8) : faultZ l = 0 ∨ faultZ l = 3 ∨ faultZ l = 4 := by unfold faultZ; split <;> (try split) <;> simp
theorem putL_length (ns : List ByteArray) (s : ByteArray) : (putL ns s).length ≤ ns.length + 1 := by unfold putL; split <;> (try split) <;> simp
end Go.Proofs.YtibgdncfahffpaaDoor
