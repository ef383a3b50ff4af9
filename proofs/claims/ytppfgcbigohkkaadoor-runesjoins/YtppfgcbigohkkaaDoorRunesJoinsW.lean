/- RunesJoins, walked: for any two texts it answers true: one behind the other they have the signs of both; turned round, those of the second one first; there is no condition. -/
import Derived.Test.YtppfgcbigohkkaaDoorRunesLaid
import Derived.ChangeMaps5
namespace Go.Proofs.YtppfgcbigohkkaaDoor.runesJoins
open Go.ChangeShapes Go.WideShapes Go.ChangeAt Go.ChangeMaps Go.RowKit Go.Shelf
set_option linter.unusedSimpArgs false
set_option linter.unusedVariables false

theorem app_list (a b : ByteArray) : (a ++ b).data.toList = a.data.toList ++ b.data.toList := by simp
theorem lex_self : ∀ l : List Nat, lexZ l l = 0
  | [] => rfl
  | x :: t => by rw [lexZ, if_pos rfl]; exact lex_self t
theorem lex_app : ∀ (l m : List Nat), m ≠ [] → lexZ l (l ++ m) = -1
  | [], [], h => absurd rfl h
  | [], _ :: _, _ => rfl
  | x :: t, m, h => by
    show lexZ (x :: t) (x :: (t ++ m)) = -1
    rw [lexZ, if_pos rfl]; exact lex_app t m h
set_option maxHeartbeats 2000000 in
theorem walk {H : Type} (enc : TypeId × Value → H) (base : Nat) (w : World) (v0 v1 : Value) (d0 d1 : DataW H) (p0 p1 : List MemPlace)
    (o0 : Value.okWide Tryd.prog w .any base 9 v0) (h0 : DataW.Trod enc Tryd.prog w 0 (fun _ => true) true 9 v0 d0 p0)
    (o1 : Value.okWide Tryd.prog w .any base 9 v1) (h1 : DataW.Trod enc Tryd.prog w 0 (fun _ => true) true 9 v1 d1 p1)
    (hT : Tabs w) :
    Calls Tryd.prog 7 #[v0, v1] w fun e w' => e = .returned (.bool true) ∧ Below w.heap.size w w' := by
  obtain ⟨a, rfl, rfl, rfl, wa⟩ := open_string Tryd.underlying9 o0 h0
  obtain ⟨b, rfl, rfl, rfl, wb⟩ := open_string Tryd.underlying9 o1 h1
  unfold maxLen at wa wb
  clear o0 h0 o1 h1
  go_enter Tryd.func7, Tryd.ntmps7
  go_wp2_with fail
  refine (awake_w w hT).mono ?_
  rintro e w1 ⟨rfl, b1⟩
  have hT1 := hT.below b1
  go_wp2_with fail
  refine (rvalid_w a w1 (by omega) hT1.1).mono ?_
  rintro e w2 ⟨rfl, b2⟩
  have hT2 := hT1.below b2
  have B2 : Below w.heap.size w w2 := b1.trans (below_le b2 b1.size)
  cases va : Lib.validD a.data.toList with
  | false =>
    go_wp2
    go_ret
    exact ⟨rfl, B2⟩
  | true =>
    go_wp2_with fail
    refine (rvalid_w b w2 (by omega) hT2.1).mono ?_
    rintro e w3 ⟨rfl, b3⟩
    have hT3 := hT2.below b3
    have B3 : Below w.heap.size w w3 := B2.trans (below_le b3 B2.size)
    cases vb : Lib.validD b.data.toList with
    | false =>
      go_wp2
      go_ret
      exact ⟨rfl, B3⟩
    | true =>
      by_cases la : a.size ≤ 1000
      · by_cases lb : b.size ≤ 1000
        · have lbz : ¬ (1000 : Int) < (b.size : Int) := by omega
          have laz : ¬ (1000 : Int) < (a.size : Int) := by omega
          obtain ⟨A, oA, eA⟩ := (valid_iff _).1 va
          obtain ⟨B, oB, eB⟩ := (valid_iff _).1 vb
          have oAB := okRs_append oA oB
          have eAB : (a ++ b).data.toList = en (A ++ B) := by rw [app_list, eA, eB, en_append]
          have szAB : (a ++ b).size = a.size + b.size := ByteArray.size_append
          have vAB : Lib.validD (a ++ b).data.toList = true := by rw [eAB]; exact valid_en0 _ oAB
          have sA : sg a.data.toList = A := by rw [eA]; exact sg_en0 A oA
          have sB : sg b.data.toList = B := by rw [eB]; exact sg_en0 B oB
          have sAB : sg (a ++ b).data.toList = A ++ B := by rw [eAB]; exact sg_en0 _ oAB
          have cA : countZ a.data.toList = (A.length : Int) := by unfold countZ; rw [va, sA]; rfl
          have cB : countZ b.data.toList = (B.length : Int) := by unfold countZ; rw [vb, sB]; rfl
          have cAB : countZ (a ++ b).data.toList = (A.length : Int) + (B.length : Int) := by unfold countZ; rw [vAB, sAB]; simp
          have rA : reverseL a.data.toList = en A.reverse := by unfold reverseL; rw [va, sA]; rfl
          have rB : reverseL b.data.toList = en B.reverse := by unfold reverseL; rw [vb, sB]; rfl
          have rAB : reverseL (a ++ b).data.toList = en B.reverse ++ en A.reverse := by unfold reverseL; rw [vAB, sAB, List.reverse_append, en_append]; rfl
          have l0 : lessZ (a ++ b).data.toList (a ++ b).data.toList = 0 := by unfold lessZ; rw [vAB, sAB]; exact lex_self _
          have lA : A.length ≤ 1000 := by have := sg_le a.data.toList; rw [sA] at this; exact Nat.le_trans this la
          have lB : B.length ≤ 1000 := by have := sg_le b.data.toList; rw [sB] at this; exact Nat.le_trans this lb
          have c1 := valid_w (a ++ b) w3 (by omega) hT3.1
          rw [vAB] at c1
          go_wp2_with fail
          refine c1.mono ?_
          rintro e w4 ⟨rfl, b4⟩
          have hT4 := hT3.below b4
          have B4 : Below w.heap.size w w4 := B3.trans (below_le b4 B3.size)
          have c2 := count_w (a ++ b) w4 (by omega) hT4.1
          rw [cAB] at c2
          go_wp2_with fail
          refine c2.mono ?_
          rintro e w5 ⟨rfl, b5⟩
          have hT5 := hT4.below b5
          have B5 : Below w.heap.size w w5 := B4.trans (below_le b5 B4.size)
          have c3 := count_w a w5 (by omega) hT5.1
          rw [cA] at c3
          go_wp2_with fail
          refine c3.mono ?_
          rintro e w6 ⟨rfl, b6⟩
          have hT6 := hT5.below b6
          have B6 : Below w.heap.size w w6 := B5.trans (below_le b6 B5.size)
          have c4 := count_w b w6 (by omega) hT6.1
          rw [cB] at c4
          go_wp2_with fail
          refine c4.mono ?_
          rintro e w7 ⟨rfl, b7⟩
          have hT7 := hT6.below b7
          have B7 : Below w.heap.size w w7 := B6.trans (below_le b7 B6.size)
          have c5 := reverse_w (a ++ b) w7 (by omega) hT7
          rw [rAB] at c5
          go_wp2_with fail
          refine c5.mono ?_
          rintro e w8 ⟨rfl, b8⟩
          have hT8 := hT7.below b8
          have B8 : Below w.heap.size w w8 := B7.trans (below_le b8 B7.size)
          have c6 := reverse_w b w8 (by omega) hT8
          rw [rB] at c6
          go_wp2_with fail
          refine c6.mono ?_
          rintro e w9 ⟨rfl, b9⟩
          have hT9 := hT8.below b9
          have B9 : Below w.heap.size w w9 := B8.trans (below_le b9 B8.size)
          have c7 := reverse_w a w9 (by omega) hT9
          rw [rA] at c7
          go_wp2_with fail
          refine c7.mono ?_
          rintro e w10 ⟨rfl, b10⟩
          have hT10 := hT9.below b10
          have B10 : Below w.heap.size w w10 := B9.trans (below_le b10 B9.size)
          have c8 := less_w (a ++ b) (a ++ b) w10 (by omega) (by omega) hT10
          rw [l0] at c8
          have hEq : ((⟨(en B.reverse).toArray⟩ : ByteArray) ++ ⟨(en A.reverse).toArray⟩).toList = en B.reverse ++ en A.reverse := by
            rw [ByteArray.toList_eq]; simp
          have hz1 : (en B.reverse).length = b.size := by rw [en_reverse_length, ← eB]; rfl
          have hz2 : (en A.reverse).length = a.size := by rw [en_reverse_length, ← eA]; rfl
          have hz3 : ¬ 9223372036854775807 < b.size + a.size := by omega
          have hz4 : ¬ 9223372036854775807 < a.size + b.size := by omega
          by_cases hB : B = []
          · have hbe : b.toList = [] := by rw [ByteArray.toList_eq, eB, hB]; rfl
            clear hB
            go_wp2_with fail
            refine c8.mono ?_
            rintro e w11 ⟨rfl, b11⟩
            go_wp2
            go_ret
            exact ⟨rfl, B10.trans (below_le b11 B10.size)⟩
          · have hbe : ¬ b.toList = [] := by rw [ByteArray.toList_eq, eB]; intro h; exact hB (en_eq_nil.1 h)
            have l1 : lessZ a.data.toList (a ++ b).data.toList = -1 := by unfold lessZ; rw [va, vAB, sA, sAB]; exact lex_app _ _ hB
            have c9 := less_w a (a ++ b) w10 (by omega) (by omega) hT10
            rw [l1] at c9
            go_wp2_with fail
            refine c9.mono ?_
            rintro e w11 ⟨rfl, b11⟩
            have c10 := less_w (a ++ b) (a ++ b) w11 (by omega) (by omega) (hT10.below b11)
            rw [l0] at c10
            have B11 : Below w.heap.size w w11 := B10.trans (below_le b11 B10.size)
            go_wp2_with fail
            refine c10.mono ?_
            rintro e w12 ⟨rfl, b12⟩
            go_wp2
            go_ret
            exact ⟨rfl, B11.trans (below_le b12 B11.size)⟩
        · have lbz : (1000 : Int) < (b.size : Int) := by omega
          have laz : ¬ (1000 : Int) < (a.size : Int) := by omega
          go_wp2
          go_ret
          exact ⟨rfl, B3⟩
      · have laz : (1000 : Int) < (a.size : Int) := by omega
        go_wp2
        go_ret
        exact ⟨rfl, B3⟩

end Go.Proofs.YtppfgcbigohkkaaDoor.runesJoins
