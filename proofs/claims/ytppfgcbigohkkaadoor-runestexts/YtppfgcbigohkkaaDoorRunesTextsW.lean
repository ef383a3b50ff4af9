/- RunesTexts, walked: for any text it answers true. -/
import Derived.Test.YtppfgcbigohkkaaDoorRunesLaid
import Derived.Test.YtppfgcbigohkkaaDoorRunesRUnq
import Derived.ChangeMaps5
namespace Go.Proofs.YtppfgcbigohkkaaDoor.runesTexts
open Go.ChangeShapes Go.WideShapes Go.ChangeAt Go.ChangeMaps Go.RowKit Go.Shelf
set_option linter.unusedSimpArgs false
set_option linter.unusedVariables false

set_option maxHeartbeats 4000000 in
set_option maxRecDepth 100000 in
theorem walk {H : Type} (enc : TypeId × Value → H) (base : Nat) (w : World) (v0 : Value) (d0 : DataW H) (p0 : List MemPlace)
    (o0 : Value.okWide Tryd.prog w .any base 9 v0) (h0 : DataW.Trod enc Tryd.prog w 0 (fun _ => true) true 9 v0 d0 p0)
    (hT : Tabs w) :
    Calls Tryd.prog 4 #[v0] w fun e w' => e = .returned (.bool true) ∧ Below w.heap.size w w' := by
  obtain ⟨a, rfl, rfl, rfl, wa⟩ := open_string Tryd.underlying9 o0 h0
  unfold maxLen at wa
  clear o0 h0
  go_enter Tryd.func4, Tryd.ntmps4
  go_wp2_with fail
  refine (awake_w w hT).mono ?_
  rintro e w1 ⟨rfl, b1⟩
  have hT1 := hT.below b1
  by_cases la : a.size ≤ 2000
  · have laz : ¬ (2000 : Int) < (a.size : Int) := by omega
    obtain ⟨q, hq⟩ : ∃ q, unqQ a.data.toList = q := ⟨_, rfl⟩
    obtain ⟨v, hv⟩ : ∃ v, Lib.validD a.data.toList = v := ⟨_, rfl⟩
    obtain ⟨n, hn⟩ : ∃ n, countZ a.data.toList = n := ⟨_, rfl⟩
    obtain ⟨p, hp⟩ : ∃ p, plainB a.data.toList = p := ⟨_, rfl⟩
    obtain ⟨X, hX⟩ : ∃ X : ByteArray, (⟨(quoteL a.data.toList).toArray⟩ : ByteArray) = X := ⟨_, rfl⟩
    obtain ⟨Y, hY⟩ : ∃ Y : ByteArray, (⟨(reverseL a.data.toList).toArray⟩ : ByteArray) = Y := ⟨_, rfl⟩
    have c1 := unquote_w a w1 (by omega) hT1
    rw [hq] at c1
    unfold val3 at c1
    go_wp2_with fail
    refine c1.mono ?_
    rintro e w2 ⟨rfl, b2⟩
    have hT2 := hT1.below b2
    have B2 : Below w.heap.size w w2 := b1.trans (below_le b2 b1.size)
    have c2 := runquote_w a w2 (by omega) hT2
    rw [hq] at c2
    unfold val3 at c2
    go_wp2_with fail
    refine c2.mono ?_
    rintro e w3 ⟨rfl, b3⟩
    have hT3 := hT2.below b3
    have B3 : Below w.heap.size w w3 := B2.trans (below_le b3 B2.size)
    have c3 := valid_w a w3 (by omega) hT3.1
    rw [hv] at c3
    go_wp2_with fail
    refine c3.mono ?_
    rintro e w4 ⟨rfl, b4⟩
    have hT4 := hT3.below b4
    have B4 : Below w.heap.size w w4 := B3.trans (below_le b4 B3.size)
    have c4 := rvalid_w a w4 (by omega) hT4.1
    rw [hv] at c4
    go_wp2_with fail
    refine c4.mono ?_
    rintro e w5 ⟨rfl, b5⟩
    have hT5 := hT4.below b5
    have B5 : Below w.heap.size w w5 := B4.trans (below_le b5 B4.size)
    have c5 := count_w a w5 (by omega) hT5.1
    rw [hn] at c5
    go_wp2_with fail
    refine c5.mono ?_
    rintro e w6 ⟨rfl, b6⟩
    have hT6 := hT5.below b6
    have B6 : Below w.heap.size w w6 := B5.trans (below_le b6 B5.size)
    have c6 := rcount_w a w6 (by omega) hT6.1
    rw [hn] at c6
    go_wp2_with fail
    refine c6.mono ?_
    rintro e w7 ⟨rfl, b7⟩
    have hT7 := hT6.below b7
    have B7 : Below w.heap.size w w7 := B6.trans (below_le b7 B6.size)
    have c7 := plain_w a w7
    rw [hp] at c7
    go_wp2_with fail
    refine c7.mono ?_
    rintro e w8 ⟨rfl, b8⟩
    have hT8 := hT7.below b8
    have B8 : Below w.heap.size w w8 := B7.trans (below_le b8 B7.size)
    have c8 := rPlain_w a w8
    rw [hp] at c8
    go_wp2_with fail
    refine c8.mono ?_
    rintro e w9 ⟨rfl, b9⟩
    have hT9 := hT8.below b9
    have B9 : Below w.heap.size w w9 := B8.trans (below_le b9 B8.size)
    have c9 := quote_w a w9 (by omega) hT9
    rw [hX] at c9
    go_wp2_with fail
    refine c9.mono ?_
    rintro e w10 ⟨rfl, b10⟩
    have hT10 := hT9.below b10
    have B10 : Below w.heap.size w w10 := B9.trans (below_le b10 B9.size)
    have c10 := rquote_w a w10 (by omega) hT10
    rw [hX] at c10
    go_wp2_with fail
    refine c10.mono ?_
    rintro e w11 ⟨rfl, b11⟩
    have hT11 := hT10.below b11
    have B11 : Below w.heap.size w w11 := B10.trans (below_le b11 B10.size)
    have c11 := reverse_w a w11 (by omega) hT11
    rw [hY] at c11
    go_wp2_with fail
    refine c11.mono ?_
    rintro e w12 ⟨rfl, b12⟩
    have hT12 := hT11.below b12
    have B12 : Below w.heap.size w w12 := B11.trans (below_le b12 B11.size)
    have c12 := rreverse_w a w12 (by omega) hT12
    rw [hY] at c12
    go_wp2_with fail
    refine c12.mono ?_
    rintro e w13 ⟨rfl, b13⟩
    go_wp2
    go_ret
    exact ⟨rfl, B12.trans (below_le b13 B12.size)⟩
  · have laz : (2000 : Int) < (a.size : Int) := by omega
    go_wp2
    go_ret
    exact ⟨rfl, b1⟩
end Go.Proofs.YtppfgcbigohkkaaDoor.runesTexts
