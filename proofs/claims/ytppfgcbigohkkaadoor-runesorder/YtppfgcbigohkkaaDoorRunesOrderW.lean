/- RunesOrder, walked: for any three texts it answers true. -/
import Derived.Test.YtppfgcbigohkkaaDoorRunesLaid
import Derived.Test.YtppfgcbigohkkaaDoorRunesRLess
import Derived.ChangeMaps5
namespace Go.Proofs.YtppfgcbigohkkaaDoor.runesOrder
open Go.ChangeShapes Go.WideShapes Go.ChangeAt Go.ChangeMaps Go.RowKit Go.Shelf
set_option linter.unusedSimpArgs false
set_option linter.unusedVariables false

theorem cmpZ_range (x y : Int) : cmpZ x y = -1 ∨ cmpZ x y = 0 ∨ cmpZ x y = 1 := by
  unfold cmpZ; split
  · simp
  · split <;> simp
theorem cmpZ_neg (x y : Int) : cmpZ y x = - cmpZ x y := by
  unfold cmpZ; split <;> split <;> first | omega | (split <;> omega) | skip
  all_goals (try split) <;> omega
theorem lex_range : ∀ a b : List Nat, lexZ a b = -1 ∨ lexZ a b = 0 ∨ lexZ a b = 1
  | [], [] => by simp [lexZ]
  | [], _ :: _ => by simp [lexZ]
  | _ :: _, [] => by simp [lexZ]
  | x :: xs, y :: ys => by
    rw [lexZ]; split
    · exact lex_range xs ys
    · exact cmpZ_range _ _
theorem lex_neg : ∀ a b : List Nat, lexZ b a = - lexZ a b
  | [], [] => by simp [lexZ]
  | [], _ :: _ => by simp [lexZ]
  | _ :: _, [] => by simp [lexZ]
  | x :: xs, y :: ys => by
    rw [lexZ, lexZ]
    by_cases h : x = y
    · rw [if_pos h, if_pos h.symm]; exact lex_neg xs ys
    · rw [if_neg h, if_neg (fun e => h e.symm)]; exact cmpZ_neg _ _
theorem lex_zero : ∀ a b : List Nat, lexZ a b = 0 → a = b
  | [], [], _ => rfl
  | [], _ :: _, h => by simp [lexZ] at h
  | _ :: _, [], h => by simp [lexZ] at h
  | x :: xs, y :: ys, h => by
    rw [lexZ] at h
    by_cases e : x = y
    · rw [if_pos e] at h; rw [e, lex_zero xs ys h]
    · rw [if_neg e] at h
      unfold cmpZ at h
      split at h
      · omega
      · split at h <;> omega
theorem lex_self : ∀ l : List Nat, lexZ l l = 0
  | [] => rfl
  | x :: t => by rw [lexZ, if_pos rfl]; exact lex_self t
theorem lex_trans : ∀ a b c : List Nat, lexZ a b ≤ 0 → lexZ b c ≤ 0 → lexZ a c ≤ 0
  | [], _, [], _, _ => by simp [lexZ]
  | [], _, _ :: _, _, _ => by simp [lexZ]
  | _ :: _, [], _, h, _ => by simp [lexZ] at h
  | _ :: _, _ :: _, [], _, h => by simp [lexZ] at h
  | x :: xs, y :: ys, z :: zs, h1, h2 => by
    rw [lexZ] at h1 h2 ⊢
    by_cases e1 : x = y
    · subst e1
      rw [if_pos rfl] at h1
      by_cases e2 : x = z
      · rw [if_pos e2] at h2 ⊢; exact lex_trans xs ys zs h1 h2
      · rw [if_neg e2] at h2 ⊢; exact h2
    · rw [if_neg e1] at h1
      unfold cmpZ at h1
      have hxy : x < y := by
        split at h1
        · omega
        · split at h1 <;> omega
      have hyz : y ≤ z := by
        by_cases e2 : y = z
        · omega
        · rw [if_neg e2] at h2
          unfold cmpZ at h2
          split at h2
          · omega
          · split at h2 <;> omega
      rw [if_neg (by omega)]
      unfold cmpZ
      rw [if_pos (by omega)]; omega
theorem cb_range : ∀ a b : List UInt8, Lib.compareBytes a b = -1 ∨ Lib.compareBytes a b = 0 ∨ Lib.compareBytes a b = 1
  | [], [] => by simp [Lib.compareBytes]
  | [], _ :: _ => by simp [Lib.compareBytes]
  | _ :: _, [] => by simp [Lib.compareBytes]
  | x :: xs, y :: ys => by
    by_cases h : x = y
    · subst h; rw [cmp_same]; exact cb_range xs ys
    · rw [cmp_step x y _ _ h]; exact cmpZ_range _ _
theorem cb_neg : ∀ a b : List UInt8, Lib.compareBytes b a = - Lib.compareBytes a b
  | [], [] => by simp [Lib.compareBytes]
  | [], _ :: _ => by simp [Lib.compareBytes]
  | _ :: _, [] => by simp [Lib.compareBytes]
  | x :: xs, y :: ys => by
    by_cases h : x = y
    · subst h; rw [cmp_same, cmp_same]; exact cb_neg xs ys
    · rw [cmp_step x y _ _ h, cmp_step y x _ _ (fun e => h e.symm)]; exact cmpZ_neg _ _
theorem cb_self : ∀ a : List UInt8, Lib.compareBytes a a = 0
  | [] => rfl
  | x :: t => by rw [cmp_same]; exact cb_self t
theorem cb_zero : ∀ a b : List UInt8, Lib.compareBytes a b = 0 → a = b
  | [], [], _ => rfl
  | [], _ :: _, h => by simp [Lib.compareBytes] at h
  | _ :: _, [], h => by simp [Lib.compareBytes] at h
  | x :: xs, y :: ys, h => by
    by_cases e : x = y
    · subst e; rw [cmp_same] at h; rw [cb_zero xs ys h]
    · rw [cmp_step x y _ _ e] at h
      unfold cmpZ at h
      have : x.toNat ≠ y.toNat := fun e' => e (UInt8.toNat_inj.1 e')
      split at h
      · omega
      · split at h <;> omega
theorem less_range (a b : List UInt8) : lessZ a b = -1 ∨ lessZ a b = 0 ∨ lessZ a b = 1 := by
  unfold lessZ; split
  · exact lex_range _ _
  · exact cb_range _ _
theorem less_neg (a b : List UInt8) : lessZ b a = - lessZ a b := by
  unfold lessZ; rw [Bool.and_comm]; split
  · exact lex_neg _ _
  · exact cb_neg _ _
theorem less_zero (a b : List UInt8) : lessZ a b = 0 ↔ a = b := by
  constructor
  · intro h
    unfold lessZ at h; split at h
    · rename_i hv
      simp only [Bool.and_eq_true] at hv
      have := lex_zero _ _ h
      rw [← en_of_valid hv.1, ← en_of_valid hv.2, this]
    · exact cb_zero _ _ h
  · rintro rfl
    unfold lessZ; split
    · exact lex_self _
    · exact cb_self _

set_option maxHeartbeats 4000000 in
theorem walk {H : Type} (enc : TypeId × Value → H) (base : Nat) (w : World) (v0 v1 v2 : Value) (d0 d1 d2 : DataW H) (p0 p1 p2 : List MemPlace)
    (o0 : Value.okWide Tryd.prog w .any base 9 v0) (h0 : DataW.Trod enc Tryd.prog w 0 (fun _ => true) true 9 v0 d0 p0)
    (o1 : Value.okWide Tryd.prog w .any base 9 v1) (h1 : DataW.Trod enc Tryd.prog w 0 (fun _ => true) true 9 v1 d1 p1)
    (o2 : Value.okWide Tryd.prog w .any base 9 v2) (h2 : DataW.Trod enc Tryd.prog w 0 (fun _ => true) true 9 v2 d2 p2)
    (hT : Tabs w) :
    Calls Tryd.prog 6 #[v0, v1, v2] w fun e w' => e = .returned (.bool true) ∧ Below w.heap.size w w' := by
  obtain ⟨a, rfl, rfl, rfl, wa⟩ := open_string Tryd.underlying9 o0 h0
  obtain ⟨b, rfl, rfl, rfl, wb⟩ := open_string Tryd.underlying9 o1 h1
  obtain ⟨c, rfl, rfl, rfl, wc⟩ := open_string Tryd.underlying9 o2 h2
  unfold maxLen at wa wb wc
  clear o0 h0 o1 h1 o2 h2
  go_enter Tryd.func6, Tryd.ntmps6
  go_wp2_with fail
  refine (awake_w w hT).mono ?_
  rintro e w1 ⟨rfl, b1⟩
  have hT1 := hT.below b1
  by_cases la : a.size ≤ 500
  · by_cases lb : b.size ≤ 500
    · by_cases lc : c.size ≤ 500
      · have laz : ¬ (500 : Int) < (a.size : Int) := by omega
        have lbz : ¬ (500 : Int) < (b.size : Int) := by omega
        have lcz : ¬ (500 : Int) < (c.size : Int) := by omega
        obtain ⟨x, hx⟩ : ∃ x, lessZ a.data.toList b.data.toList = x := ⟨_, rfl⟩
        obtain ⟨y, hy⟩ : ∃ y, lessZ b.data.toList c.data.toList = y := ⟨_, rfl⟩
        obtain ⟨z, hz⟩ : ∃ z, lessZ a.data.toList c.data.toList = z := ⟨_, rfl⟩
        have hxr := less_range a.data.toList b.data.toList
        rw [hx] at hxr
        have hxn := less_neg a.data.toList b.data.toList
        rw [hx] at hxn
        have hx0 := less_zero a.data.toList b.data.toList
        rw [hx] at hx0
        have c1 := less_w a b w1 (by omega) (by omega) hT1
        rw [hx] at c1
        go_wp2_with fail
        refine c1.mono ?_
        rintro e w2 ⟨rfl, b2⟩
        have hT2 := hT1.below b2
        have B2 : Below w.heap.size w w2 := b1.trans (below_le b2 b1.size)
        have c2 := less_w b c w2 (by omega) (by omega) hT2
        rw [hy] at c2
        go_wp2_with fail
        refine c2.mono ?_
        rintro e w3 ⟨rfl, b3⟩
        have hT3 := hT2.below b3
        have B3 : Below w.heap.size w w3 := B2.trans (below_le b3 B2.size)
        have c3 := less_w a c w3 (by omega) (by omega) hT3
        rw [hz] at c3
        go_wp2_with fail
        refine c3.mono ?_
        rintro e w4 ⟨rfl, b4⟩
        have hT4 := hT3.below b4
        have B4 : Below w.heap.size w w4 := B3.trans (below_le b4 B3.size)
        have c4 := rless_w a b w4 (by omega) (by omega) hT4
        rw [hx] at c4
        go_wp2_with fail
        refine c4.mono ?_
        rintro e w5 ⟨rfl, b5⟩
        have hT5 := hT4.below b5
        have B5 : Below w.heap.size w w5 := B4.trans (below_le b5 B4.size)
        have c5 := less_w b a w5 (by omega) (by omega) hT5
        rw [hxn] at c5
        go_wp2_with fail
        refine c5.mono ?_
        rintro e w6 ⟨rfl, b6⟩
        have hT6 := hT5.below b6
        have B6 : Below w.heap.size w w6 := B5.trans (below_le b6 B5.size)
        clear c1 c2 c3 c4 c5
        have hq : ((x == 0) == (a.toList == b.toList)) = true := by
          rw [ByteArray.toList_eq, ByteArray.toList_eq]
          by_cases hab : a.data.toList = b.data.toList
          · have : x = 0 := hx0.2 hab
            rw [this, hab]; simp
          · have h1 : (x == 0) = false := by simp only [beq_eq_false_iff_ne, ne_eq]; exact fun e => hab (hx0.1 e)
            have h2 : (a.data.toList == b.data.toList) = false := by simp only [beq_eq_false_iff_ne, ne_eq]; exact hab
            rw [h1, h2]; rfl
        have c6 := valid_w a w6 (by omega) hT6.1
        go_wp2_with fail
        refine c6.mono ?_
        rintro e w7 ⟨rfl, b7⟩
        have hT7 := hT6.below b7
        have B7 : Below w.heap.size w w7 := B6.trans (below_le b7 B6.size)
        clear c6 b1 b2 b3 b4 b5 b6 b7 hT1 hT2 hT3 hT4 hT5 hT6 B2 B3 B4 B5 B6
        cases va : Lib.validD a.data.toList with
        | false =>
          have c7 := valid_w a w7 (by omega) hT7.1
          rw [va] at c7
          go_wp2_with fail
          refine c7.mono ?_
          rintro e w8 ⟨rfl, b8⟩
          go_wp2
          go_ret
          exact ⟨rfl, B7.trans (below_le b8 B7.size)⟩
        | true =>
          obtain ⟨A, oA, eA⟩ := (valid_iff _).1 va
          have oR : okRs A.reverse := fun r hr => oA r (by simpa using hr)
          have eT : a.toList = en A := by rw [ByteArray.toList_eq, eA]
          have sA : sg a.data.toList = A := by rw [eA]; exact sg_en0 A oA
          have rA : reverseL a.data.toList = en A.reverse := by unfold reverseL; rw [va, sA]; rfl
          have vR : Lib.validD (en A.reverse) = true := valid_en0 _ oR
          have rR : reverseL (⟨(en A.reverse).toArray⟩ : ByteArray).data.toList = a.data.toList := by
            show reverseL (en A.reverse) = _
            unfold reverseL; rw [vR, sg_en0 _ oR, List.reverse_reverse, eA]; rfl
          have cA : countZ a.data.toList = (A.length : Int) := by unfold countZ; rw [va, sA]; rfl
          have cR : countZ (⟨(en A.reverse).toArray⟩ : ByteArray).data.toList = (A.length : Int) := by
            show countZ (en A.reverse) = _
            unfold countZ; rw [vR, sg_en0 _ oR]; simp
          have zR : (⟨(en A.reverse).toArray⟩ : ByteArray).size = a.size := by
            show (en A.reverse).length = a.size
            rw [en_reverse_length, ← eA]; rfl
          have c7 := valid_w b w7 (by omega) hT7.1
          go_wp2_with fail
          refine c7.mono ?_
          rintro e w8 ⟨rfl, b8⟩
          have hT8 := hT7.below b8
          have B8 : Below w.heap.size w w8 := B7.trans (below_le b8 B7.size)
          clear c7 b8
          cases vb : Lib.validD b.data.toList with
          | false =>
            (
            have d1 := valid_w a w8 (by omega) hT8.1
            rw [va] at d1
            go_wp2_with fail
            refine d1.mono ?_
            rintro e w10 ⟨rfl, b10⟩
            have hT10 := hT8.below b10
            have B10 : Below w.heap.size w w10 := B8.trans (below_le b10 B8.size)
            have d2 := reverse_w a w10 (by omega) hT10
            rw [rA] at d2
            go_wp2_with fail
            refine d2.mono ?_
            rintro e w11 ⟨rfl, b11⟩
            have hT11 := hT10.below b11
            have B11 : Below w.heap.size w w11 := B10.trans (below_le b11 B10.size)
            have d3 := reverse_w ⟨(en A.reverse).toArray⟩ w11 (by omega) hT11
            rw [rR] at d3
            go_wp2_with fail
            refine d3.mono ?_
            rintro e w12 ⟨rfl, b12⟩
            have hT12 := hT11.below b12
            have B12 : Below w.heap.size w w12 := B11.trans (below_le b12 B11.size)
            have d4 := reverse_w a w12 (by omega) hT12
            rw [rA] at d4
            go_wp2_with fail
            refine d4.mono ?_
            rintro e w13 ⟨rfl, b13⟩
            have hT13 := hT12.below b13
            have B13 : Below w.heap.size w w13 := B12.trans (below_le b13 B12.size)
            have d5 := count_w ⟨(en A.reverse).toArray⟩ w13 (by omega) hT13.1
            rw [cR] at d5
            go_wp2_with fail
            refine d5.mono ?_
            rintro e w14 ⟨rfl, b14⟩
            have hT14 := hT13.below b14
            have B14 : Below w.heap.size w w14 := B13.trans (below_le b14 B13.size)
            have d6 := count_w a w14 (by omega) hT14.1
            rw [cA] at d6
            go_wp2_with fail
            refine d6.mono ?_
            rintro e w15 ⟨rfl, b15⟩
            go_wp2
            go_ret
            exact ⟨rfl, B14.trans (below_le b15 B14.size)⟩)
          | true =>
            have c8 := valid_w c w8 (by omega) hT8.1
            go_wp2_with fail
            refine c8.mono ?_
            rintro e w9 ⟨rfl, b9⟩
            have hT9 := hT8.below b9
            have B9 : Below w.heap.size w w9 := B8.trans (below_le b9 B8.size)
            clear c8 b9
            cases vc : Lib.validD c.data.toList with
            | false =>
              (
            have d1 := valid_w a w9 (by omega) hT9.1
            rw [va] at d1
            go_wp2_with fail
            refine d1.mono ?_
            rintro e w10 ⟨rfl, b10⟩
            have hT10 := hT9.below b10
            have B10 : Below w.heap.size w w10 := B9.trans (below_le b10 B9.size)
            have d2 := reverse_w a w10 (by omega) hT10
            rw [rA] at d2
            go_wp2_with fail
            refine d2.mono ?_
            rintro e w11 ⟨rfl, b11⟩
            have hT11 := hT10.below b11
            have B11 : Below w.heap.size w w11 := B10.trans (below_le b11 B10.size)
            have d3 := reverse_w ⟨(en A.reverse).toArray⟩ w11 (by omega) hT11
            rw [rR] at d3
            go_wp2_with fail
            refine d3.mono ?_
            rintro e w12 ⟨rfl, b12⟩
            have hT12 := hT11.below b12
            have B12 : Below w.heap.size w w12 := B11.trans (below_le b12 B11.size)
            have d4 := reverse_w a w12 (by omega) hT12
            rw [rA] at d4
            go_wp2_with fail
            refine d4.mono ?_
            rintro e w13 ⟨rfl, b13⟩
            have hT13 := hT12.below b13
            have B13 : Below w.heap.size w w13 := B12.trans (below_le b13 B12.size)
            have d5 := count_w ⟨(en A.reverse).toArray⟩ w13 (by omega) hT13.1
            rw [cR] at d5
            go_wp2_with fail
            refine d5.mono ?_
            rintro e w14 ⟨rfl, b14⟩
            have hT14 := hT13.below b14
            have B14 : Below w.heap.size w w14 := B13.trans (below_le b14 B13.size)
            have d6 := count_w a w14 (by omega) hT14.1
            rw [cA] at d6
            go_wp2_with fail
            refine d6.mono ?_
            rintro e w15 ⟨rfl, b15⟩
            go_wp2
            go_ret
            exact ⟨rfl, B14.trans (below_le b15 B14.size)⟩)
            | true =>
              by_cases h1 : x ≤ 0
              · by_cases h2 : y ≤ 0
                · have h3 : ¬ 0 < z := by
                    have : z ≤ 0 := by
                      rw [← hz]; unfold lessZ; rw [va, vc]
                      refine lex_trans _ (sg b.data.toList) _ ?_ ?_
                      · rw [← hx] at h1; unfold lessZ at h1; rw [va, vb] at h1; exact h1
                      · rw [← hy] at h2; unfold lessZ at h2; rw [vb, vc] at h2; exact h2
                    omega
                  (
            have d1 := valid_w a w9 (by omega) hT9.1
            rw [va] at d1
            go_wp2_with fail
            refine d1.mono ?_
            rintro e w10 ⟨rfl, b10⟩
            have hT10 := hT9.below b10
            have B10 : Below w.heap.size w w10 := B9.trans (below_le b10 B9.size)
            have d2 := reverse_w a w10 (by omega) hT10
            rw [rA] at d2
            go_wp2_with fail
            refine d2.mono ?_
            rintro e w11 ⟨rfl, b11⟩
            have hT11 := hT10.below b11
            have B11 : Below w.heap.size w w11 := B10.trans (below_le b11 B10.size)
            have d3 := reverse_w ⟨(en A.reverse).toArray⟩ w11 (by omega) hT11
            rw [rR] at d3
            go_wp2_with fail
            refine d3.mono ?_
            rintro e w12 ⟨rfl, b12⟩
            have hT12 := hT11.below b12
            have B12 : Below w.heap.size w w12 := B11.trans (below_le b12 B11.size)
            have d4 := reverse_w a w12 (by omega) hT12
            rw [rA] at d4
            go_wp2_with fail
            refine d4.mono ?_
            rintro e w13 ⟨rfl, b13⟩
            have hT13 := hT12.below b13
            have B13 : Below w.heap.size w w13 := B12.trans (below_le b13 B12.size)
            have d5 := count_w ⟨(en A.reverse).toArray⟩ w13 (by omega) hT13.1
            rw [cR] at d5
            go_wp2_with fail
            refine d5.mono ?_
            rintro e w14 ⟨rfl, b14⟩
            have hT14 := hT13.below b14
            have B14 : Below w.heap.size w w14 := B13.trans (below_le b14 B13.size)
            have d6 := count_w a w14 (by omega) hT14.1
            rw [cA] at d6
            go_wp2_with fail
            refine d6.mono ?_
            rintro e w15 ⟨rfl, b15⟩
            go_wp2
            go_ret
            exact ⟨rfl, B14.trans (below_le b15 B14.size)⟩)
                · (
            have d1 := valid_w a w9 (by omega) hT9.1
            rw [va] at d1
            go_wp2_with fail
            refine d1.mono ?_
            rintro e w10 ⟨rfl, b10⟩
            have hT10 := hT9.below b10
            have B10 : Below w.heap.size w w10 := B9.trans (below_le b10 B9.size)
            have d2 := reverse_w a w10 (by omega) hT10
            rw [rA] at d2
            go_wp2_with fail
            refine d2.mono ?_
            rintro e w11 ⟨rfl, b11⟩
            have hT11 := hT10.below b11
            have B11 : Below w.heap.size w w11 := B10.trans (below_le b11 B10.size)
            have d3 := reverse_w ⟨(en A.reverse).toArray⟩ w11 (by omega) hT11
            rw [rR] at d3
            go_wp2_with fail
            refine d3.mono ?_
            rintro e w12 ⟨rfl, b12⟩
            have hT12 := hT11.below b12
            have B12 : Below w.heap.size w w12 := B11.trans (below_le b12 B11.size)
            have d4 := reverse_w a w12 (by omega) hT12
            rw [rA] at d4
            go_wp2_with fail
            refine d4.mono ?_
            rintro e w13 ⟨rfl, b13⟩
            have hT13 := hT12.below b13
            have B13 : Below w.heap.size w w13 := B12.trans (below_le b13 B12.size)
            have d5 := count_w ⟨(en A.reverse).toArray⟩ w13 (by omega) hT13.1
            rw [cR] at d5
            go_wp2_with fail
            refine d5.mono ?_
            rintro e w14 ⟨rfl, b14⟩
            have hT14 := hT13.below b14
            have B14 : Below w.heap.size w w14 := B13.trans (below_le b14 B13.size)
            have d6 := count_w a w14 (by omega) hT14.1
            rw [cA] at d6
            go_wp2_with fail
            refine d6.mono ?_
            rintro e w15 ⟨rfl, b15⟩
            go_wp2
            go_ret
            exact ⟨rfl, B14.trans (below_le b15 B14.size)⟩)
              · (
            have d1 := valid_w a w9 (by omega) hT9.1
            rw [va] at d1
            go_wp2_with fail
            refine d1.mono ?_
            rintro e w10 ⟨rfl, b10⟩
            have hT10 := hT9.below b10
            have B10 : Below w.heap.size w w10 := B9.trans (below_le b10 B9.size)
            have d2 := reverse_w a w10 (by omega) hT10
            rw [rA] at d2
            go_wp2_with fail
            refine d2.mono ?_
            rintro e w11 ⟨rfl, b11⟩
            have hT11 := hT10.below b11
            have B11 : Below w.heap.size w w11 := B10.trans (below_le b11 B10.size)
            have d3 := reverse_w ⟨(en A.reverse).toArray⟩ w11 (by omega) hT11
            rw [rR] at d3
            go_wp2_with fail
            refine d3.mono ?_
            rintro e w12 ⟨rfl, b12⟩
            have hT12 := hT11.below b12
            have B12 : Below w.heap.size w w12 := B11.trans (below_le b12 B11.size)
            have d4 := reverse_w a w12 (by omega) hT12
            rw [rA] at d4
            go_wp2_with fail
            refine d4.mono ?_
            rintro e w13 ⟨rfl, b13⟩
            have hT13 := hT12.below b13
            have B13 : Below w.heap.size w w13 := B12.trans (below_le b13 B12.size)
            have d5 := count_w ⟨(en A.reverse).toArray⟩ w13 (by omega) hT13.1
            rw [cR] at d5
            go_wp2_with fail
            refine d5.mono ?_
            rintro e w14 ⟨rfl, b14⟩
            have hT14 := hT13.below b14
            have B14 : Below w.heap.size w w14 := B13.trans (below_le b14 B13.size)
            have d6 := count_w a w14 (by omega) hT14.1
            rw [cA] at d6
            go_wp2_with fail
            refine d6.mono ?_
            rintro e w15 ⟨rfl, b15⟩
            go_wp2
            go_ret
            exact ⟨rfl, B14.trans (below_le b15 B14.size)⟩)
      · have lcz : (500 : Int) < (c.size : Int) := by omega
        have laz : ¬ (500 : Int) < (a.size : Int) := by omega
        have lbz : ¬ (500 : Int) < (b.size : Int) := by omega
        go_wp2
        go_ret
        exact ⟨rfl, b1⟩
    · have lbz : (500 : Int) < (b.size : Int) := by omega
      have laz : ¬ (500 : Int) < (a.size : Int) := by omega
      go_wp2
      go_ret
      exact ⟨rfl, b1⟩
  · have laz : (500 : Int) < (a.size : Int) := by omega
    go_wp2
    go_ret
    exact ⟨rfl, b1⟩
end Go.Proofs.YtppfgcbigohkkaaDoor.runesOrder
