/- Plain facts on the numbers of chapter 1: a word is a tag and a value, a header is its fields. No program is named here. -/
import Derived.WalkKit
import Derived.ProofKit
import Derived.OpenShut
import Derived.Laws.BitsAllLaws
namespace Go.Proofs.Ytdabigekdnibhaa
open Go.ChangeShapes Go.WideShapes Go.ChangeAt Go.RowKit
set_option linter.unusedSimpArgs false
set_option linter.unusedVariables false
set_option maxRecDepth 2000

/-- does a value fit 60 bits? -/
def fitsV (n : Int) : Bool := decide (-576460752303423488 ≤ n ∧ n < 576460752303423488)
/-- the word of a tag and a value that fits -/
def packV (t n : Int) : Int := (n * 16) % 18446744073709551616 + t
/-- the word of a tag and a value -/
def ofV (t n : Int) : Int := if (0 ≤ t ∧ t ≤ 7) ∧ fitsV n = true then packV t n else 4
/-- a word's tag -/
def tagV (x : Int) : Int := x % 16
/-- a word's value -/
def valV (x : Int) : Int := wrap64 x / 16

theorem bd64 {n : Int} (h : (Lit.int .i64 n).wf = true) : -9223372036854775808 ≤ n ∧ n < 9223372036854775808 := by
  have := bounds_i64 h; omega
theorem bdu64 {n : Int} (h : (Lit.int .u64 n).wf = true) : 0 ≤ n ∧ n < 18446744073709551616 := by
  have := bounds_u64 h; omega

theorem fits_iff (n : Int) : fitsV n = true ↔ -576460752303423488 ≤ n ∧ n < 576460752303423488 := by simp [fitsV]

theorem and15 {x : Int} (h : (Lit.int .u64 x).wf = true) : bits .and .u64 x 15 = x % 16 := by
  have := bdu64 h
  rw [u64_and x 15 (by omega) (by omega) (by omega) (by omega)]
  show ((x.toNat &&& 15 : Nat) : Int) = _
  rw [nat_mask4]; omega

theorem or_pack {t n : Int} (ht0 : 0 ≤ t) (ht : t < 16) :
    bits .or .u64 (IntKind.u64.wrap (IntKind.u64.wrap n * 16)) t = packV t n := by
  rw [IntKind.wrap_u64, IntKind.wrap_u64, u64_or _ _ (by omega) (by omega) (by omega) (by omega)]
  rw [nat_join 4 _ _ (by omega) (by omega)]
  unfold packV; omega

theorem of_range (t n : Int) : 0 ≤ ofV t n ∧ ofV t n < 18446744073709551616 := by
  unfold ofV packV; split <;> omega
theorem wf_u64 {x : Int} (h0 : 0 ≤ x) (h : x < 18446744073709551616) : (Lit.int .u64 x).wf = true := by
  simp [Lit.wf, IntKind.min, IntKind.max, IntKind.bits, IntKind.signed]; omega
theorem of_wf (t n : Int) : (Lit.int .u64 (ofV t n)).wf = true :=
  wf_u64 (of_range t n).1 (of_range t n).2
theorem tag_of {t n : Int} (h0 : 0 ≤ t) (h1 : t ≤ 7) (h : fitsV n = true) : tagV (ofV t n) = t := by
  unfold ofV tagV packV; rw [if_pos ⟨⟨h0, h1⟩, h⟩]; omega
theorem val_of {t n : Int} (h0 : 0 ≤ t) (h1 : t ≤ 7) (h : fitsV n = true) : valV (ofV t n) = n := by
  have := (fits_iff n).1 h
  unfold ofV valV packV wrap64; rw [if_pos ⟨⟨h0, h1⟩, h⟩]; omega
theorem val_fits (x : Int) : fitsV (valV x) = true := by
  rw [fits_iff]; unfold valV wrap64; omega

/-! ### bits of int64, not below 0 -/
theorem wrap_i64 (n : Int) : IntKind.i64.wrap n = wrap64 n := by
  simp [IntKind.wrap, IntKind.bits, IntKind.signed, wrap64]
  split <;> omega
theorem i64_or (a b : Int) (h1 : 0 ≤ a) (h2 : a < 9223372036854775808) (h3 : 0 ≤ b) (h4 : b < 9223372036854775808) :
    bits .or .i64 a b = ((a.toNat ||| b.toNat : Nat) : Int) := by
  obtain ⟨A, rfl⟩ := Int.eq_ofNat_of_zero_le h1
  obtain ⟨B, rfl⟩ := Int.eq_ofNat_of_zero_le h3
  have hx : A ||| B < 2 ^ 63 := Nat.or_lt_two_pow (by omega) (by omega)
  show IntKind.i64.wrap ((BitVec.ofInt 64 (A : Int) ||| BitVec.ofInt 64 (B : Int)).toNat : Int) = _
  rw [BitVec.toNat_or, ofInt_u64 A (by omega), ofInt_u64 B (by omega), wrap_i64]
  simp only [Int.toNat_natCast]
  unfold wrap64; omega
theorem i64_and (a b : Int) (h1 : 0 ≤ a) (h2 : a < 9223372036854775808) (h3 : 0 ≤ b) (h4 : b < 9223372036854775808) :
    bits .and .i64 a b = ((a.toNat &&& b.toNat : Nat) : Int) := by
  obtain ⟨A, rfl⟩ := Int.eq_ofNat_of_zero_le h1
  obtain ⟨B, rfl⟩ := Int.eq_ofNat_of_zero_le h3
  have hx : A &&& B < 2 ^ 63 := Nat.and_lt_two_pow _ (by omega)
  show IntKind.i64.wrap ((BitVec.ofInt 64 (A : Int) &&& BitVec.ofInt 64 (B : Int)).toNat : Int) = _
  rw [BitVec.toNat_and, ofInt_u64 A (by omega), ofInt_u64 B (by omega), wrap_i64]
  simp only [Int.toNat_natCast]
  unfold wrap64; omega

theorem mask_u64 {x : Int} (k : Nat) {m : Int} (h0 : 0 ≤ x) (h : x < 18446744073709551616) (hm : m = ((2 ^ k - 1 : Nat) : Int)) (hk : (2 ^ k - 1 : Nat) < 18446744073709551616) :
    bits .and .u64 x m = x % ((2 ^ k : Nat) : Int) := by
  subst hm
  rw [u64_and x _ h0 h (by omega) (by omega)]
  rw [Int.toNat_natCast, Nat.and_two_pow_sub_one_eq_mod]
  rw [Int.natCast_emod]
  congr 1
  omega
theorem mask_i64 {x : Int} (k : Nat) {m : Int} (h0 : 0 ≤ x) (h : x < 9223372036854775808) (hm : m = ((2 ^ k - 1 : Nat) : Int)) (hk : (2 ^ k - 1 : Nat) < 9223372036854775808) :
    bits .and .i64 x m = x % ((2 ^ k : Nat) : Int) := by
  subst hm
  rw [i64_and x _ h0 h (by omega) (by omega)]
  rw [Int.toNat_natCast, Nat.and_two_pow_sub_one_eq_mod]
  rw [Int.natCast_emod]
  congr 1
  omega
theorem bit2_i64 {x : Int} (h0 : 0 ≤ x) (h : x < 9223372036854775808) : bits .and .i64 x 4 = x / 4 % 2 * 4 := by
  rw [i64_and x 4 h0 h (by omega) (by omega)]
  show ((x.toNat &&& 2 ^ 2 : Nat) : Int) = _
  rw [nat_bit]
  omega

/-! ### headers -/
/-- may a header's fields be? -/
def mayV (k s t : Int) : Bool := decide ((0 ≤ k ∧ k ≤ 3) ∧ (0 ≤ s ∧ s < 1048576) ∧ (0 ≤ t ∧ t < 1048576))
/-- the value of a header -/
def headV (k s t : Int) (b : Bool) : Int := k + (if b = true then 4 else 0) + s * 8 + t * 8388608
/-- the word of a header -/
def makeV (k s t : Int) (b : Bool) : Int := if mayV k s t = true then headV k s t b * 16 + 6 else 4
/-- is a word a header? -/
def isV (x : Int) : Bool := decide (x % 16 = 6 ∧ x / 16 < 8796093022208)

theorem may_iff (k s t : Int) : mayV k s t = true ↔ ((0 ≤ k ∧ k ≤ 3) ∧ (0 ≤ s ∧ s < 1048576) ∧ (0 ≤ t ∧ t < 1048576)) := by simp [mayV]
theorem is_iff (x : Int) : isV x = true ↔ (x % 16 = 6 ∧ x / 16 < 8796093022208) := by simp [isV]
theorem or_head {k s t : Int} (h : mayV k s t = true) :
    bits .or .i64 (bits .or .i64 k (s * 8)) (t * 8388608) = k + s * 8 + t * 8388608 := by
  rw [may_iff] at h
  rw [i64_or k (s * 8) (by omega) (by omega) (by omega) (by omega), Nat.or_comm, nat_join 3 _ _ (by omega) (by omega)]
  rw [i64_or _ (t * 8388608) (by omega) (by omega) (by omega) (by omega), Nat.or_comm, nat_join 23 _ _ (by omega) (by omega)]
  omega
theorem head_at {n k s t : Int} (h : n = k + s * 8 + t * 8388608) (hm : mayV k s t = true) : bits .or .i64 n 4 = n + 4 := by
  rw [may_iff] at hm
  rw [i64_or n 4 (by omega) (by omega) (by omega) (by omega)]
  have e : n.toNat = 8 * (n.toNat / 8) + n.toNat % 8 := by omega
  have e3 : n.toNat % 8 < 4 := by omega
  have : n.toNat ||| 4 = n.toNat + 4 := by
    rw [e, ← nat_join 3 _ _ (by omega) (by omega), Nat.or_assoc, Nat.or_comm (n.toNat % 8) 4, nat_join 2 4 _ (by omega) (by omega), nat_join 3 _ _ (by omega) (by omega), nat_join 3 _ _ (by omega) (by omega)]
    omega
  show ((n.toNat ||| 4 : Nat) : Int) = _
  rw [this]; omega
theorem make_of {k s t : Int} {b : Bool} (h : mayV k s t = true) : makeV k s t b = packV 6 (headV k s t b) := by
  unfold makeV packV; rw [if_pos h]
  rw [may_iff] at h
  cases b <;> simp [headV] <;> omega
theorem make_not {k s t : Int} {b : Bool} (h : mayV k s t = false) : makeV k s t b = 4 := by
  unfold makeV; simp [h]
theorem make_range (k s t : Int) (b : Bool) : 0 ≤ makeV k s t b ∧ makeV k s t b < 18446744073709551616 := by
  unfold makeV; split
  · rename_i h; rw [may_iff] at h; cases b <;> simp [headV] <;> omega
  · omega
theorem make_wf (k s t : Int) (b : Bool) : (Lit.int .u64 (makeV k s t b)).wf = true := wf_u64 (make_range k s t b).1 (make_range k s t b).2

/-- the fields that a word says; noughts where it is no header -/
def rk (x : Int) : Int := if isV x = true then x / 16 % 4 else 0
def rs (x : Int) : Int := if isV x = true then x / 16 / 8 % 1048576 else 0
def rt (x : Int) : Int := if isV x = true then x / 16 / 8388608 % 1048576 else 0
def rb (x : Int) : Bool := if isV x = true then (x / 16 / 4 % 2 == 1) else false
/-- how many words an object's header is followed by -/
def fieldsV (k s : Int) : Int := if k = 0 then 2 else if k = 1 then s else 0

theorem is_make (k s t : Int) (b : Bool) : isV (makeV k s t b) = mayV k s t := by
  cases h : mayV k s t
  · rw [make_not h]; decide
  · rw [is_iff]; unfold makeV; rw [if_pos h]; rw [may_iff] at h
    cases b <;> simp [headV] <;> omega
theorem rk_make {k s t : Int} {b : Bool} (h : mayV k s t = true) : rk (makeV k s t b) = k := by
  unfold rk; rw [if_pos (by rw [is_make, h])]
  unfold makeV; rw [if_pos h]; rw [may_iff] at h
  cases b <;> simp [headV] <;> omega
theorem rs_make {k s t : Int} {b : Bool} (h : mayV k s t = true) : rs (makeV k s t b) = s := by
  unfold rs; rw [if_pos (by rw [is_make, h])]
  unfold makeV; rw [if_pos h]; rw [may_iff] at h
  cases b <;> simp [headV] <;> omega
theorem rt_make {k s t : Int} {b : Bool} (h : mayV k s t = true) : rt (makeV k s t b) = t := by
  unfold rt; rw [if_pos (by rw [is_make, h])]
  unfold makeV; rw [if_pos h]; rw [may_iff] at h
  cases b <;> simp [headV] <;> omega
theorem rb_make {k s t : Int} {b : Bool} (h : mayV k s t = true) : rb (makeV k s t b) = b := by
  unfold rb; rw [if_pos (by rw [is_make, h])]
  unfold makeV; rw [if_pos h]; rw [may_iff] at h
  cases b <;> simp [headV] <;> omega
theorem make_back {x : Int} (hx : (Lit.int .u64 x).wf = true) (h : isV x = true) : makeV (rk x) (rs x) (rt x) (rb x) = x := by
  have hb := bdu64 hx
  have hm : mayV (rk x) (rs x) (rt x) = true := by
    rw [may_iff]; unfold rk rs rt; simp only [h, if_true]; omega
  unfold makeV; rw [if_pos hm]
  have hi := (is_iff x).1 h
  unfold headV rk rs rt rb; simp only [h, if_true]
  by_cases e : x / 16 / 4 % 2 = 1
  · simp only [e]; simp; omega
  · have : (x / 16 / 4 % 2 == 1) = false := by simpa using e
    simp only [this]; simp; omega

theorem and7 (a : Int) : bits .and .i64 a 7 = a % 8 := by
  show IntKind.i64.wrap ((BitVec.ofInt 64 a &&& BitVec.ofInt 64 7).toNat : Int) = _
  rw [BitVec.toNat_and, BitVec.toNat_ofInt, BitVec.toNat_ofInt, wrap_i64]
  have e : ((7 : Int) % ((2 ^ 64 : Nat) : Int)).toNat = 7 := by decide
  rw [e, nat_mask3]
  unfold wrap64; omega
theorem of_eq_iff {s t n m : Int} (hs0 : 0 ≤ s) (hs : s ≤ 7) (ht0 : 0 ≤ t) (ht : t ≤ 7) (hn : fitsV n = true) (hm : fitsV m = true) :
    (ofV s n = ofV t m) ↔ (s = t ∧ n = m) := by
  constructor
  · intro h
    have h1 := congrArg tagV h
    have h2 := congrArg valV h
    rw [tag_of hs0 hs hn, tag_of ht0 ht hm] at h1
    rw [val_of hs0 hs hn, val_of ht0 ht hm] at h2
    exact ⟨h1, h2⟩
  · rintro ⟨rfl, rfl⟩; rfl
theorem tag_make_yes {k s t : Int} {b : Bool} (h : mayV k s t = true) : tagV (makeV k s t b) = 6 := by
  have := (is_iff _).1 ((is_make k s t b).trans h)
  exact this.1
theorem tag_make_no {k s t : Int} {b : Bool} (h : mayV k s t = false) : tagV (makeV k s t b) = 4 := by
  rw [make_not h]; rfl
theorem make_eq_iff {k s t k' s' t' : Int} {b b' : Bool} (h : mayV k s t = true) (h' : mayV k' s' t' = true) :
    (makeV k s t b = makeV k' s' t' b') ↔ (k = k' ∧ s = s' ∧ t = t' ∧ b = b') := by
  constructor
  · intro e
    have e0 := congrArg rk e
    have e1 := congrArg rs e
    have e2 := congrArg rt e
    have e3 := congrArg rb e
    rw [rk_make h, rk_make h'] at e0
    rw [rs_make h, rs_make h'] at e1
    rw [rt_make h, rt_make h'] at e2
    rw [rb_make h, rb_make h'] at e3
    exact ⟨e0, e1, e2, e3⟩
  · rintro ⟨rfl, rfl, rfl, rfl⟩; rfl
end Go.Proofs.Ytdabigekdnibhaa
