/- RunesBack, walked: for any two texts it answers true. -/
import Derived.Test.YtppfgcbigohkkaaDoorRunesLaid
import Derived.Test.YtppfgcbigohkkaaDoorRunesUnquote
import Derived.ChangeMaps5
namespace Go.Proofs.YtppfgcbigohkkaaDoor.runesBack
open Go.ChangeShapes Go.WideShapes Go.ChangeAt Go.ChangeMaps Go.RowKit Go.Shelf
set_option linter.unusedSimpArgs false
set_option linter.unusedVariables false

theorem bareLen_plain : ∀ (f : Bool) (rs t : List Nat), plainGo f rs = true → (∀ g, bareLen g t = 0) → bareLen f (rs ++ t) = rs.length
  | f, [], t, _, ht => by simpa using ht f
  | f, r :: rs, t, h, ht => by
    simp only [plainGo, Bool.and_eq_true] at h
    show bareLen f (r :: (rs ++ t)) = _
    rw [bareLen, if_pos h.1, bareLen_plain false rs t h.2 ht]
    simp; omega
theorem en_len_ascii : ∀ (rs : List Nat), (∀ x ∈ rs, x < 128) → (en rs).length = rs.length
  | [], _ => rfl
  | r :: t, h => by
    show (e1 r ++ en t).length = _
    rw [e1_ascii r (h r (by simp)), List.length_append, en_len_ascii t (fun x hx => h x (by simp [hx]))]
    simp; omega
/-- A name that was quoted is read as it was, whatever stands behind it. -/
theorem unq_back (l m : List UInt8) (hv : Lib.validD l = true) (hc : (sg l).length ≤ 255) (hm : Lib.validD m = true) : unqQ (quoteL l ++ 124 :: m) = (0, l, (quoteL l).length) := by
  have oS := okRs_sg l
  have eS := en_of_valid hv
  have e124 : (124 : UInt8) :: m = en (124 :: sg m) := by
    show _ = e1 124 ++ en (sg m)
    rw [en_of_valid hm]; rfl
  have o124 : okRs (124 :: sg m) := okRs_append (a := [124]) (okRs_one (okR_ascii (by decide))) (okRs_sg m)
  unfold quoteL
  rw [if_pos hv]
  by_cases hp : plainB l = true
  · rw [if_pos hp]
    unfold plainB at hp
    simp only [Bool.and_eq_true, decide_eq_true_eq] at hp
    have hall := plainGo_all true _ hp.1
    have htext : l ++ 124 :: m = en (sg l ++ 124 :: sg m) := by rw [en_append, eS, ← e124]
    have oT := okRs_append oS o124
    have hlen : l.length = (sg l).length := by
      have := en_len_ascii (sg l) (fun x hx => (hall x hx).2.2)
      rw [eS] at this; exact this
    have hsg : sg (l ++ 124 :: m) = sg l ++ 124 :: sg m := by rw [htext]; exact sg_en0 _ oT
    have hvt : Lib.validD (l ++ 124 :: m) = true := by rw [htext]; exact valid_en0 _ oT
    have hbl : bareLen true (sg (l ++ 124 :: m)) = l.length := by
      rw [hsg, bareLen_plain true (sg l) _ hp.1 (fun g => by rw [bareLen, if_neg (by cases g <;> decide)]), hlen]
    have hpre : Lib.hasPrefix (l ++ 124 :: m) [39] = false := by
      cases hl : l with
      | nil => exact absurd hl hp.2
      | cons x t =>
        have h39 : x ≠ 39 := by
          intro e
          have : sg l = 39 :: sg t := by
            rw [hl, e]
            have := sg_e1 39 (okR_ascii (by decide)) t
            rw [e1_39] at this; simpa using this
          exact (hall 39 (by rw [this]; simp)).2.1 rfl
        have h39' : ¬ (39 : UInt8) = x := fun e => h39 e.symm
        show ([39] : List UInt8).isPrefixOf (x :: (t ++ 124 :: m)) = false
        rw [List.isPrefixOf, show ((39 : UInt8) == x) = false by simp [h39']]
        rfl
    unfold unqQ bareQ
    rw [if_pos hvt, hpre, if_neg (by simp), hbl, if_neg (by omega), if_neg (by
      intro e; exact hp.2 (List.eq_nil_of_length_eq_zero e))]
    simp
  · rw [if_neg hp]
    have oQ := okRs_quoteR _ oS
    have htext : en (quoteR (sg l)) ++ 124 :: m = en (quoteR (sg l) ++ 124 :: sg m) := by rw [en_append, ← e124]
    have oT := okRs_append oQ o124
    have hvt : Lib.validD (en (quoteR (sg l)) ++ 124 :: m) = true := by rw [htext]; exact valid_en0 _ oT
    have hcons : en (quoteR (sg l)) ++ 124 :: m = 39 :: (en (escs (sg l) ++ 39 :: 124 :: sg m)) := by
      rw [htext]
      show en (39 :: ((escs (sg l) ++ [39]) ++ 124 :: sg m)) = _
      rw [List.append_assoc]
      show e1 39 ++ en _ = _
      rw [e1_39]; rfl
    have oR : okRs (escs (sg l) ++ 39 :: 124 :: sg m) := okRs_append (okRs_escs _ oS) (okRs_append (a := [39]) (okRs_one (okR_ascii (by decide))) o124)
    have hpre : Lib.hasPrefix (en (quoteR (sg l)) ++ 124 :: m) [39] = true := by rw [hcons]; simp [Lib.hasPrefix]
    have hsg : sg ((en (quoteR (sg l)) ++ 124 :: m).drop 1) = escs (sg l) ++ 39 :: 124 :: sg m := by
      rw [hcons]; show sg (en _) = _; exact sg_en0 _ oR
    have hrun := runQ_back 255 (sg l) [] 0 0 (124 :: sg m) (by simpa using hc)
    unfold unqQ quotQ
    rw [if_pos hvt, if_pos hpre, hsg, hrun]
    simp only [if_true, List.nil_append]
    rw [eS, ← e124, List.length_append]
    congr 2
    omega

set_option maxHeartbeats 4000000 in
theorem walk {H : Type} (enc : TypeId × Value → H) (base : Nat) (w : World) (v0 v1 : Value) (d0 d1 : DataW H) (p0 p1 : List MemPlace)
    (o0 : Value.okWide Tryd.prog w .any base 9 v0) (h0 : DataW.Trod enc Tryd.prog w 0 (fun _ => true) true 9 v0 d0 p0)
    (o1 : Value.okWide Tryd.prog w .any base 9 v1) (h1 : DataW.Trod enc Tryd.prog w 0 (fun _ => true) true 9 v1 d1 p1)
    (hT : Tabs w) :
    Calls Tryd.prog 5 #[v0, v1] w fun e w' => e = .returned (.bool true) ∧ Below w.heap.size w w' := by
  obtain ⟨a, rfl, rfl, rfl, wa⟩ := open_string Tryd.underlying9 o0 h0
  obtain ⟨b, rfl, rfl, rfl, wb⟩ := open_string Tryd.underlying9 o1 h1
  unfold maxLen at wa wb
  clear o0 h0 o1 h1
  go_enter Tryd.func5, Tryd.ntmps5
  go_wp2_with fail
  refine (awake_w w hT).mono ?_
  rintro e w1 ⟨rfl, b1⟩
  have hT1 := hT.below b1
  go_wp2_with fail
  refine (rvalid_w a w1 (by omega) hT1.1).mono ?_
  rintro e w2 ⟨rfl, b2⟩
  have hT2 := hT1.below b2
  have B2 : Below w.heap.size w w2 := b1.trans (below_le b2 b1.size)
  cases va : Lib.validD a.data.toList with
  | false =>
    go_wp2
    go_ret
    exact ⟨rfl, B2⟩
  | true =>
    have hcz : countZ a.data.toList = ((sg a.data.toList).length : Int) := by unfold countZ; rw [va]; rfl
    have cc := rcount_w a w2 (by omega) hT2.1
    rw [hcz] at cc
    go_wp2_with fail
    refine cc.mono ?_
    rintro e w3 ⟨rfl, b3⟩
    have hT3 := hT2.below b3
    have B3 : Below w.heap.size w w3 := B2.trans (below_le b3 B2.size)
    clear cc hcz
    by_cases lc : (sg a.data.toList).length ≤ 255
    · have lcz : ¬ (255 : Int) < ((sg a.data.toList).length : Int) := by omega
      by_cases la : a.size ≤ 2000
      · have laz : ¬ (2000 : Int) < (a.size : Int) := by omega
        by_cases lb : b.size ≤ 100
        · have lbz : ¬ (100 : Int) < (b.size : Int) := by omega
          go_wp2_with fail
          refine (rvalid_w b w3 (by omega) hT3.1).mono ?_
          rintro e w4 ⟨rfl, b4⟩
          have hT4 := hT3.below b4
          have B4 : Below w.heap.size w w4 := B3.trans (below_le b4 B3.size)
          cases vb : Lib.validD b.data.toList with
          | false =>
            go_wp2
            go_ret
            exact ⟨rfl, B4⟩
          | true =>
            obtain ⟨X, hX⟩ : ∃ X : ByteArray, (⟨(quoteL a.data.toList).toArray⟩ : ByteArray) = X := ⟨_, rfl⟩
            have xX : X.data.toList = quoteL a.data.toList := by rw [← hX]
            have q6 : X.size ≤ 100000 := by
              have : X.data.toList.length ≤ 100000 := by
                rw [xX]
                have h1 := sg_le a.data.toList
                have h2 := escs_len (sg a.data.toList)
                have h3 := en_length_le (quoteR (sg a.data.toList))
                have h4 : (quoteR (sg a.data.toList)).length = (escs (sg a.data.toList)).length + 2 := by simp [quoteR]
                have h5 : a.data.toList.length = a.size := rfl
                unfold quoteL
                rw [if_pos va]
                split <;> omega
              exact this
            obtain ⟨Y, hY⟩ : ∃ Y : ByteArray, X ++ (⟨#[124]⟩ : ByteArray) ++ b = Y := ⟨_, rfl⟩
            have zY : Y.size = X.size + 1 + b.size := by
              rw [← hY, ByteArray.size_append, ByteArray.size_append]; rfl
            have xY : Y.data.toList = quoteL a.data.toList ++ 124 :: b.data.toList := by
              rw [← hY, ← xX]; simp
            have hun : unqQ Y.data.toList = (0, a.data.toList, X.size) := by
              rw [xY, unq_back _ _ va lc vb, ← xX]; rfl
            have c1 := quote_w a w4 (by omega) hT4
            rw [hX] at c1
            have z1 : ¬ 9223372036854775807 < X.size + 1 := by omega
            have z2 : ¬ 9223372036854775807 < X.size + 1 + b.size := by omega
            clear xX xY hX
            go_wp2_with fail
            refine c1.mono ?_
            rintro e w5 ⟨rfl, b5⟩
            have hT5 := hT4.below b5
            have B5 : Below w.heap.size w w5 := B4.trans (below_le b5 B4.size)
            have c2 := unquote_w Y w5 (by omega) hT5
            rw [hun] at c2
            unfold val3 at c2
            simp only [] at c2
            rw [bytes_eq] at c2
            go_wp2_with fail
            refine c2.mono ?_
            rintro e w6 ⟨rfl, b6⟩
            go_wp2
            go_ret
            exact ⟨rfl, B5.trans (below_le b6 B5.size)⟩
        · have lbz : (100 : Int) < (b.size : Int) := by omega
          go_wp2
          go_ret
          exact ⟨rfl, B3⟩
      · have laz : (2000 : Int) < (a.size : Int) := by omega
        go_wp2
        go_ret
        exact ⟨rfl, B3⟩
    · have lcz : (255 : Int) < ((sg a.data.toList).length : Int) := by omega
      go_wp2
      go_ret
      exact ⟨rfl, B3⟩
end Go.Proofs.YtppfgcbigohkkaaDoor.runesBack
