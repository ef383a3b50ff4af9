/- RunesQuotes, walked: for any two texts it answers true. -/
import Derived.Test.YtppfgcbigohkkaaDoorRunesLaid
import Derived.Test.YtppfgcbigohkkaaDoorRunesUnq
import Derived.ChangeMaps5
namespace Go.Proofs.YtppfgcbigohkkaaDoor.runesQuotes
open Go.ChangeShapes Go.WideShapes Go.ChangeAt Go.ChangeMaps Go.RowKit Go.Shelf
set_option linter.unusedSimpArgs false
set_option linter.unusedVariables false

theorem quote_seen (l : List UInt8) (hv : Lib.validD l = true) : ∀ r ∈ sg (quoteL l), hiddenB r = false := by
  unfold quoteL
  rw [if_pos hv]
  by_cases hp : plainB l = true
  · rw [if_pos hp]
    unfold plainB at hp
    simp only [Bool.and_eq_true] at hp
    exact fun r hr => (plainGo_all true _ hp.1 r hr).1
  · rw [if_neg hp, sg_en0 _ (okRs_quoteR _ (okRs_sg l))]
    exact quoteR_seen _
theorem quote_valid (l : List UInt8) (hv : Lib.validD l = true) : Lib.validD (quoteL l) = true := by
  unfold quoteL
  rw [if_pos hv]
  by_cases hp : plainB l = true
  · rw [if_pos hp]; exact hv
  · rw [if_neg hp]; exact valid_en0 _ (okRs_quoteR _ (okRs_sg l))
theorem quote_len (l : List UInt8) (hv : Lib.validD l = true) : l.length ≤ (quoteL l).length := by
  unfold quoteL
  rw [if_pos hv]
  by_cases hp : plainB l = true
  · rw [if_pos hp]; exact Nat.le_refl _
  · rw [if_neg hp]
    have := quoteR_len (sg l)
    rw [en_of_valid hv] at this
    omega
theorem quote_plain (l : List UInt8) (hv : Lib.validD l = true) : quoteL l = l ↔ plainB l = true := by
  unfold quoteL
  rw [if_pos hv]
  by_cases hp : plainB l = true
  · rw [if_pos hp]; simp [hp]
  · rw [if_neg hp]
    constructor
    · intro e
      have := quoteR_len (sg l)
      rw [en_of_valid hv, e] at this
      omega
    · intro h; exact absurd h hp
theorem no39 (l : List UInt8) (hp : plainB l = true) (m : List Nat) : l ≠ en (quoteR m) ∨ ¬ okRs m := by
  by_cases ho : okRs m
  · left
    intro e
    unfold plainB at hp
    simp only [Bool.and_eq_true] at hp
    have h1 := plainGo_all true _ hp.1 39
    rw [e, sg_en0 _ (okRs_quoteR m ho)] at h1
    exact (h1 (by simp [quoteR])).2.1 rfl
  · exact Or.inr ho
theorem quote_inj (l m : List UInt8) (hl : Lib.validD l = true) (hm : Lib.validD m = true) : quoteL l = quoteL m ↔ l = m := by
  constructor
  · intro h
    unfold quoteL at h
    rw [if_pos hl, if_pos hm] at h
    by_cases pl : plainB l = true
    · rw [if_pos pl] at h
      by_cases pm : plainB m = true
      · rw [if_pos pm] at h; exact h
      · rw [if_neg pm] at h
        rcases no39 l pl (sg m) with h' | h'
        · exact absurd h h'
        · exact absurd (okRs_sg m) h'
    · rw [if_neg pl] at h
      by_cases pm : plainB m = true
      · rw [if_pos pm] at h
        rcases no39 m pm (sg l) with h' | h'
        · exact absurd h.symm h'
        · exact absurd (okRs_sg l) h'
      · rw [if_neg pm] at h
        have := quoteR_inj (en_inj (okRs_quoteR _ (okRs_sg l)) (okRs_quoteR _ (okRs_sg m)) h)
        rw [← en_of_valid hl, ← en_of_valid hm, this]
  · rintro rfl; rfl
theorem beq_of {α β : Type} [BEq α] [LawfulBEq α] [BEq β] [LawfulBEq β] {a b : α} {c d : β} (h : a = b ↔ c = d) : ((a == b) == (c == d)) = true := by
  by_cases e : a = b
  · have := h.1 e; rw [e, this]; simp
  · have e2 : ¬ c = d := fun x => e (h.2 x)
    have h1 : (a == b) = false := by simp [e]
    have h2 : (c == d) = false := by simp [e2]
    rw [h1, h2]; rfl

set_option maxHeartbeats 4000000 in
theorem walk {H : Type} (enc : TypeId × Value → H) (base : Nat) (w : World) (v0 v1 : Value) (d0 d1 : DataW H) (p0 p1 : List MemPlace)
    (o0 : Value.okWide Tryd.prog w .any base 9 v0) (h0 : DataW.Trod enc Tryd.prog w 0 (fun _ => true) true 9 v0 d0 p0)
    (o1 : Value.okWide Tryd.prog w .any base 9 v1) (h1 : DataW.Trod enc Tryd.prog w 0 (fun _ => true) true 9 v1 d1 p1)
    (hT : Tabs w) :
    Calls Tryd.prog 8 #[v0, v1] w fun e w' => e = .returned (.bool true) ∧ Below w.heap.size w w' := by
  obtain ⟨a, rfl, rfl, rfl, wa⟩ := open_string Tryd.underlying9 o0 h0
  obtain ⟨b, rfl, rfl, rfl, wb⟩ := open_string Tryd.underlying9 o1 h1
  unfold maxLen at wa wb
  clear o0 h0 o1 h1
  go_enter Tryd.func8, Tryd.ntmps8
  go_wp2_with fail
  refine (awake_w w hT).mono ?_
  rintro e w1 ⟨rfl, b1⟩
  have hT1 := hT.below b1
  go_wp2_with fail
  refine (rvalid_w a w1 (by omega) hT1.1).mono ?_
  rintro e w2 ⟨rfl, b2⟩
  have hT2 := hT1.below b2
  have B2 : Below w.heap.size w w2 := b1.trans (below_le b2 b1.size)
  cases va : Lib.validD a.data.toList with
  | false =>
    go_wp2
    go_ret
    exact ⟨rfl, B2⟩
  | true =>
    go_wp2_with fail
    refine (rvalid_w b w2 (by omega) hT2.1).mono ?_
    rintro e w3 ⟨rfl, b3⟩
    have hT3 := hT2.below b3
    have B3 : Below w.heap.size w w3 := B2.trans (below_le b3 B2.size)
    cases vb : Lib.validD b.data.toList with
    | false =>
      go_wp2
      go_ret
      exact ⟨rfl, B3⟩
    | true =>
      by_cases la : a.size ≤ 1000
      · by_cases lb : b.size ≤ 1000
        · have lbz : ¬ (1000 : Int) < (b.size : Int) := by omega
          have laz : ¬ (1000 : Int) < (a.size : Int) := by omega
          obtain ⟨X, hX⟩ : ∃ X : ByteArray, (⟨(quoteL a.data.toList).toArray⟩ : ByteArray) = X := ⟨_, rfl⟩
          obtain ⟨Y, hY⟩ : ∃ Y : ByteArray, (⟨(quoteL b.data.toList).toArray⟩ : ByteArray) = Y := ⟨_, rfl⟩
          have xX : X.data.toList = quoteL a.data.toList := by rw [← hX]
          have xY : Y.data.toList = quoteL b.data.toList := by rw [← hY]
          have tX : X.toList = quoteL a.data.toList := by rw [ByteArray.toList_eq, xX]
          have tY : Y.toList = quoteL b.data.toList := by rw [ByteArray.toList_eq, xY]
          have q1 : ((X.toList == Y.toList) == (a.toList == b.toList)) = true := by
            rw [tX, tY, ByteArray.toList_eq, ByteArray.toList_eq]; exact beq_of (quote_inj _ _ va vb)
          have q2 : ((X.toList == a.toList) == plainB a.data.toList) = true := by
            rw [tX, ByteArray.toList_eq]
            have := quote_plain a.data.toList va
            by_cases hp : plainB a.data.toList = true
            · rw [this.2 hp, hp]; simp
            · have h1 : (quoteL a.data.toList == a.data.toList) = false := by simp only [beq_eq_false_iff_ne, ne_eq]; exact fun e => hp (this.1 e)
              rw [h1]; simpa using hp
          have q3 : a.size ≤ X.size := by
            have := quote_len a.data.toList va
            rw [← xX] at this; exact this
          have q3z : (a.size : Int) ≤ (X.size : Int) := by omega
          have q4 : Lib.validD X.data.toList = true := by rw [xX]; exact quote_valid _ va
          have q5 : Hid (∀ r ∈ sg X.data.toList, hiddenB r = false) := hid (by rw [xX]; exact quote_seen _ va)
          have q6 : X.size ≤ 1000000 := by
            have : X.data.toList.length ≤ 1000000 := by
              rw [xX]
              have h1 := sg_le a.data.toList
              have h2 := escs_len (sg a.data.toList)
              have h3 := en_length_le (quoteR (sg a.data.toList))
              have h4 : (quoteR (sg a.data.toList)).length = (escs (sg a.data.toList)).length + 2 := by simp [quoteR]
              have h5 : a.data.toList.length = a.size := rfl
              unfold quoteL
              rw [if_pos va]
              split <;> omega
            exact this
          have c1 := quote_w a w3 (by omega) hT3
          rw [hX] at c1
          go_wp2_with fail
          refine c1.mono ?_
          rintro e w4 ⟨rfl, b4⟩
          have hT4 := hT3.below b4
          have B4 : Below w.heap.size w w4 := B3.trans (below_le b4 B3.size)
          have c2 := quote_w b w4 (by omega) hT4
          rw [hY] at c2
          go_wp2_with fail
          refine c2.mono ?_
          rintro e w5 ⟨rfl, b5⟩
          have hT5 := hT4.below b5
          have B5 : Below w.heap.size w w5 := B4.trans (below_le b5 B4.size)
          clear c1 c2 xX xY hX hY tX tY
          go_wp2
          go_loopw [] (fun wr => ∃ (pos : Nat), wr.heap[w5.heap.size]? = some (.stringIter X pos) ∧ Below w5.heap.size w5 wr ∧ Hid (∀ r ∈ sg (X.data.toList.drop pos), hiddenB r = false)) (fun wr => X.size - wr.iterPos w5.heap.size)
          case atStart => exact ⟨0, World.iter_heap w5 X 0, (Below.refl _ w5).alloc (Nat.le_refl _) _, hid (by simpa using q5.out)⟩
          case round =>
            obtain ⟨pos, hit, hbw, hH⟩ := hrel
            by_cases hp : pos < X.size
            · have hnx : ∀ ty, (Instr.next (.pointer (some ⟨w5.heap.size, 0, none⟩)) true ty).run Tryd.prog wr = _ := fun ty => Lib.run_next_any_at wr w5.heap.size X pos ty hit hp
              have hwd := Lib.width_pos X pos
              have hit2 := Lib.iterAt_heap wr w5.heap.size X pos (pos + (Utf8.decode X pos).2) hit
              have hbw2 := Lib.below_iterAt hbw (k := w5.heap.size) (Nat.le_refl _) X (pos + (Utf8.decode X pos).2)
              have hst : Hid (sg (X.data.toList.drop pos) = _) := hid (sg_at X pos hp)
              obtain ⟨r, hr⟩ : ∃ r, (Utf8.decode X pos).1 = r := ⟨_, rfl⟩
              have hh : hiddenB r = false := by
                have := hH.out
                rw [hst.out] at this
                rw [← hr]; exact this _ (by simp)
              rw [hr] at hnx
              have g1 : ¬ ((r : Int) < 32) := by simp [hiddenB] at hh; omega
              have g2 : ((r : Int) == 127) = false := by simp [hiddenB] at hh; simp; omega
              go_wp2
              go_roundw
              case rel =>
                refine ⟨pos + (Utf8.decode X pos).2, hit2, hbw2, hid ?_⟩
                have := hH.out
                rw [hst.out] at this
                exact fun x hx => this x (by simp [hx])
              case measure =>
                simp only [World.iterPos, hit2, hit]
                omega
            · have hnx : ∀ ty, (Instr.next (.pointer (some ⟨w5.heap.size, 0, none⟩)) true ty).run Tryd.prog wr = _ := fun ty => Lib.run_next_end_at wr w5.heap.size X pos ty hit hp
              have c3 := valid_w X wr (by omega) (hT5.below hbw).1
              rw [q4] at c3
              have B6 : Below w.heap.size w wr := B5.trans (below_le hbw B5.size)
              go_wp2_with fail
              refine c3.mono ?_
              rintro e w7 ⟨rfl, b7⟩
              have B7 : Below w.heap.size w w7 := B6.trans (below_le b7 B6.size)
              have c4 := plain_w a w7
              go_wp2_with fail
              refine c4.mono ?_
              rintro e w8 ⟨rfl, b8⟩
              go_wp2
              go_ret
              exact ⟨rfl, B7.trans (below_le b8 B7.size)⟩
        · have lbz : (1000 : Int) < (b.size : Int) := by omega
          have laz : ¬ (1000 : Int) < (a.size : Int) := by omega
          go_wp2
          go_ret
          exact ⟨rfl, B3⟩
      · have laz : (1000 : Int) < (a.size : Int) := by omega
        go_wp2
        go_ret
        exact ⟨rfl, B3⟩
end Go.Proofs.YtppfgcbigohkkaaDoor.runesQuotes
