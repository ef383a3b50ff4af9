/- TermParts, walked. -/
import Derived.Test.YtddbndachoofoaaDoorTermLaid
import Derived.Test.YtddbndachoofoaaDoorTermRooms
namespace Go.Proofs.YtddbndachoofoaaDoor
open Go.ChangeShapes Go.WideShapes Go.ChangeAt Go.ChangeMaps Go.RowKit Go.Shelf
set_option linter.unusedSimpArgs false
set_option linter.unusedVariables false
set_option maxHeartbeats 2000000 in
theorem List_nil (o : Option Addr) (c : Nat) (w : World) :
    Calls Tryd.prog 11 #[.slice o 0 c] w fun e w' => ∃ v', e = .returned v' ∧ TV (Zw w.heap.size w') w' (listT []) v' ∧ Below w.heap.size w w' := by
  obtain ⟨kX, hBX, hz0⟩ := bx1 w (.int .i64 0) (.bool false) nilS (.string noS) (.int .i64 0) nilS nilS 29
  go_enter Tryd.func11, Tryd.ntmps11
  go_wp2_with fail
  generalize (w.alloc (.cells #[.int .i64 0, .bool false, .slice none 0 0, .string { data := #[] }, .int .i64 0, .slice none 0 0, .slice none 0 0] 29)) = W0 at *
  refine (copies_nil _ _ _).mono ?_
  rintro e w1 ⟨o1, c1, rfl, b1⟩
  have hB1 := below_and hBX (Nat.le_refl _) b1
  have kX1 := kX.below b1
  have hz1 := b1.size
  go_wp2_with fail
  refine (Nil_w _).mono ?_
  rintro e w2 ⟨rfl, b2⟩
  have hB2 := below_and hB1 (Nat.le_refl _) b2
  have kX2 := kX1.below b2
  have hz2 := b2.size
  obtain ⟨kT, hBT, hzT⟩ := bx1 w2 (.int .i64 5) (.bool false) nilS (.string noS) (.int .i64 0) nilS nilS 29
  have hB3 := hB2.trans (below_le hBT (by omega))
  have kX3 := kX2.below hBT
  clear b1 b2 hBT hB1 hB2 kX1 kX2 kX hBX
  go_wp2_with fail
  generalize (w2.alloc (.cells #[.int .i64 5, .bool false, nilS, .string noS, .int .i64 0, nilS, nilS] 29)) = W3 at *
  go_loopg [5] 0 (fun t v5 wr => t = 0 ∧ v5 = .int .i64 (-1) ∧ wr = W3)
  case atStart => exact ⟨rfl, rfl, rfl⟩
  case round =>
    obtain ⟨rfl, rfl, rfl⟩ := hrel
    obtain ⟨y0, y1, y2, y3, y4, y5, y6⟩ := kT.res
    have hf9 := kX3.fr
    obtain ⟨x0, x1, x2, x3, x4, x5, x6⟩ := kX3.res
    have hput := kX3.put (b0 := .int .i64 5) (b1 := .bool false) (b2 := nilS) (b3 := .string noS) (b4 := .int .i64 0) (b5 := nilS) (b6 := nilS)
    have hon := only_put wr w.heap.size (.int .i64 5) (.bool false) nilS (.string noS) (.int .i64 0) nilS nilS
    obtain ⟨r0, r1, r2, r3, r4, r5, r6⟩ := hput.res
    have hBf := hB3.trans (hon.below (B := w.heap.size) (by omega))
    clear hput hB3 hon kX3
    go_wp2
    exact bodyPost_ret (v := tmV 5 false nilS noS 0 nilS nilS) (by simp [results, Tryd.results11, go_sem, r0, r1, r2, r3, r4, r5, r6]) rfl ⟨_, rfl, tv_flat 5 noS 0, hBf⟩
theorem List_any (ls : List Tm) (o : Option Addr) (c : Nat) (w : World) (hlen : (partsL ls).length ≤ 500000) (hl : ls.length ≤ 500000) (hok : ∀ p ∈ partsL ls, p.ok1) (hT : TR (Low w) w ls o) :
    Calls Tryd.prog 11 #[.slice o ls.length c] w fun e w' => ∃ v', e = .returned v' ∧ TV (Zw w.heap.size w') w' (listT (cpL ls)) v' ∧ Below w.heap.size w w' := by
  by_cases hne : ls = []
  · subst hne; exact List_nil o c w
  · exact List_w ls o c w hne hlen hl hok hT
/-- what Rooms says of the terms of a row -/
theorem rooms_facts {w : World} {l : List Tm} {o : Option Addr} (hT : TR (Low w) w l o) (h : l.all okRow = true) :
    (∀ p ∈ partsL l, p.ok1 ∧ fairB p = true) ∧ depL l ≤ 9 ∧ ∀ t ∈ l, (parts t).length ≤ 65536 := by
  rw [List.all_eq_true] at h
  have h1 : ∀ t ∈ l, (∀ p ∈ parts t, p.ok1 ∧ fairB p = true) ∧ dep t ≤ 9 ∧ (parts t).length ≤ 65536 := fun t ht => by
    have h2 := h t ht
    unfold okRow at h2
    rw [Bool.and_eq_true] at h2
    obtain ⟨v, hv⟩ := hT.mem ht
    obtain ⟨g1, g2⟩ := room_ok (by omega) t v 8 hv h2.1
    obtain ⟨g3, g4⟩ := may_parts h2.2
    exact ⟨fun p hp => ⟨g1 p hp, g4 p hp⟩, by omega, g3⟩
  clear h hT
  refine ⟨?_, ?_, fun t ht => (h1 t ht).2.2⟩
  · intro p hp
    induction l with
    | nil => simp [partsL] at hp
    | cons t l ih =>
      simp only [partsL, List.mem_append] at hp
      rcases hp with hp | hp
      · exact (h1 t (by simp)).1 p hp
      · exact ih (fun t ht => h1 t (by simp [ht])) hp
  · induction l with
    | nil => simp [depL]
    | cons t l ih =>
      simp only [depL]
      have := (h1 t (by simp)).2.1
      have := ih (fun t ht => h1 t (by simp [ht]))
      omega
end Go.Proofs.YtddbndachoofoaaDoor
namespace Go.Proofs.YtddbndachoofoaaDoor.termParts
open Go.ChangeShapes Go.WideShapes Go.ChangeAt Go.ChangeMaps Go.RowKit Go.Shelf
set_option linter.unusedSimpArgs false
set_option linter.unusedVariables false
set_option maxHeartbeats 4000000 in
set_option maxRecDepth 8000 in
theorem walk {H : Type} (enc : TypeId × Value → H) (base : Nat) (w : World) (v0 : Value) (d0 : DataW H) (p0 : List MemPlace)
    (o0 : Value.okWide Tryd.prog w .any base 23 v0) (h0 : DataW.Trod enc Tryd.prog w 0 (fun _ => true) true 23 v0 d0 p0)
    (hT : Tabs w) :
    Calls Tryd.prog 7 #[v0] w fun e w' => e = .returned (.bool true) ∧ Below w.heap.size w w' := by
  obtain ⟨o, l, c, rfl, hTR, hlc⟩ := open_terms o0 h0
  clear o0 h0
  go_enter Tryd.func7, Tryd.ntmps7
  go_wp2_with fail
  refine (awake_w _ hT).mono ?_
  rintro e w1 ⟨rfl, b1⟩
  go_wp2_with fail
  refine (Rooms_w 30 (by omega) l o c _ (tr_below hTR b1) (hT.below b1)).mono ?_
  rintro e w2 ⟨rfl, b2⟩
  have hB2 := below_and b1 (Nat.le_refl _) b2
  have hTR2 := tr_below hTR hB2
  clear b1 b2
  obtain ⟨bb, hbb⟩ : ∃ bb, (decide (l.length ≤ 30) && l.all okRow) = bb := ⟨_, rfl⟩
  rw [hbb]
  cases bb with
  | false =>
    clear hbb
    go_wp2
    go_ret
    exact ⟨rfl, hB2⟩
  | true =>
  rw [Bool.and_eq_true] at hbb
  have hl30 : l.length ≤ 30 := of_decide_eq_true hbb.1
  obtain ⟨hfair, hdep, hpl⟩ := rooms_facts hTR2 hbb.2
  clear hbb
  have hPl : (partsL l).length ≤ 30 * 65536 := by
    have : ∀ (q : List Tm), (∀ t ∈ q, (parts t).length ≤ 65536) → (partsL q).length ≤ q.length * 65536 := by
      intro q hq
      induction q with
      | nil => simp [partsL]
      | cons t q ih =>
        have h1 := hq t (by simp)
        have h2 := ih (fun t ht => hq t (by simp [ht]))
        simp only [partsL, List.length_append, List.length_cons]; omega
    exact Nat.le_trans (this l hpl) (Nat.mul_le_mul_right _ hl30)
  have hok : Hid (∀ p ∈ partsL l, p.ok1) := hid (fun p hp => (hfair p hp).1)
  have hHf := hid hfair
  have hHd := hid hdep
  have hHp := hid hpl
  have hHP := hid hPl
  clear hfair hdep hpl hPl hTR
  go_wp2_with fail
  go_loopg [3, 4, 5] l.length (fun t v3 v4 v5 wr => ∃ (i p s : Nat), t + i = l.length ∧ v3 = .int .i64 (p : Int) ∧ v4 = .int .i64 (s : Int) ∧ v5 = .int .i64 (i : Int) ∧ p ≤ 1966080 ∧ s ≤ 1966081966080 ∧ Hid (p = (partsL (l.take i)).length ∧ s = sumL (l.take i)) ∧ Below w.heap.size w wr ∧ Below w2.heap.size w2 wr)
  case atStart => exact ⟨0, 0, 0, by omega, rfl, rfl, rfl, by omega, by omega, hid (by simp [partsL, sumL]), hB2, Below.refl _ _⟩
  case round =>
    obtain ⟨i, p, s, hti, rfl, rfl, rfl, hp, hs, hH, hBr, hb2⟩ := hrel
    by_cases hil : i = l.length
    · subst hil
      have hH2 : p = (partsL l).length ∧ s = sumL l := by have := hH.out; rwa [List.take_length] at this
      by_cases hbig : 65536 < p + 2 * l.length + 1
      · have hbig' : (65536 : Int) < (p : Int) + 2 * (l.length : Int) + 1 := by omega
        clear hH hH2 hbig
        go_wp2
        go_ret
        exact ⟨rfl, hBr⟩
      · have hbig' : ¬ ((65536 : Int) < (p : Int) + 2 * (l.length : Int) + 1) := by omega
        have hcp : cpL l = l := cpL_id l (fun q hq => (hHf.out q hq).2)
        have hfm1 : Hid (∀ q ∈ parts (tupT l), q.ok1 ∧ fairB q = true) := hid (fun q hq => by
          rw [parts_tup] at hq
          rcases List.mem_cons.1 hq with rfl | hq
          · exact ⟨⟨by simp, by decide, by omega, by simp, Lm.nil _⟩, fair_tup (by omega)⟩
          · exact hHf.out q hq)
        have hfm2 : Hid (∀ q ∈ parts (listT l), q.ok1 ∧ fairB q = true) := hid (fun q hq => by
          rcases mem_list_parts l q hq with h | ⟨x, y, rfl⟩ | rfl
          · exact hHf.out q h
          · exact ⟨ok_cons _ _, fair_cons _ _⟩
          · exact ⟨ok_flat 5 0 (by decide), fair_nil⟩)
        have hpl1 : (parts (tupT l)).length = p + 1 := by rw [parts_tup, hH2.1]; simp
        have hpl2 : (parts (listT l)).length = p + l.length + 1 := by rw [list_parts, hH2.1]
        have hq1 : Hid (((treeN (tupT l) : Nat) : Int) = (p : Int) + 1) := hid (by rw [treeN_of (by omega), hpl1]; omega)
        have hq2 : Hid (((treeN (listT l) : Nat) : Int) = (p : Int) + (l.length : Int) + 1) := hid (by rw [treeN_of (by omega), hpl2]; omega)
        have hq3 : Hid (((wordsN (tupT l) : Nat) : Int) = (s : Int) + 1 + (l.length : Int)) := hid (by rw [tup_words, hH2.2]; omega)
        have hq4 : Hid (((wordsN (listT l) : Nat) : Int) = (s : Int) + 3 * (l.length : Int)) := hid (by rw [list_words, hH2.2]; omega)
        have hm1 : Hid (mayB (tupT l) = true) := hid (mayB_of (by omega) (fun q hq => (hfm1.out q hq).2))
        have hm2 : Hid (mayB (listT l) = true) := hid (mayB_of (by omega) (fun q hq => (hfm2.out q hq).2))
        have hd1 : Hid (dep (tupT l) ≤ 1000000) := hid (by have := hHd.out; simp [tupT, dep]; omega)
        have hd2 : Hid (dep (listT l) ≤ 1000000) := hid (by have := hHd.out; have := dep_list l; omega)
        have hn1 : Hid ((parts (tupT l)).length ≤ 1000000) := hid (by omega)
        have hn2 : Hid ((parts (listT l)).length ≤ 1000000) := hid (by omega)
        have hTRr := tr_below hTR2 hb2
        have hpp : (partsL l).length ≤ 499999 := by omega
        have hHpp := hid hpp
        have hHcp := hid hcp
        clear hH hbig hcp hpl1 hpl2 hH2 hpp
        go_wp2_with fail
        refine (Tuple_w l o c _ hlc hHpp.out (by omega) hok.out hTRr).mono ?_
        rintro e w3 ⟨v3, rfl, hV3, b3⟩
        rw [hHcp.out] at hV3
        have hB3 := below_and hBr (Nat.le_refl _) b3
        have hTR3 := tr_below hTRr b3
        go_wp2_with fail
        refine (List_any l o c _ (by have := hHpp.out; omega) (by omega) hok.out hTR3).mono ?_
        rintro e w4 ⟨v4, rfl, hV4, b4⟩
        rw [hHcp.out] at hV4
        have hB4 := below_and hB3 (Nat.le_refl _) b4
        have hVt := tv_below (tv_low hV3) b4
        have hVu := tv_low hV4
        obtain ⟨k, neg, od, ld, cd, nm, n, ol, ll, cl, ob, lb, cb, rfl⟩ := hVt.form
        obtain ⟨k', neg', od', ld', cd', nm', n', ol', ll', cl', ob', lb', cb', rfl⟩ := hVu.form
        obtain ⟨kT, kU, hb5, hz5⟩ := bx2 w4 (.int .i64 k) (.bool neg) (.slice od ld cd) (.string nm) (.int .i64 n) (.slice ol ll cl) (.slice ob lb cb) (.int .i64 k') (.bool neg') (.slice od' ld' cd') (.string nm') (.int .i64 n') (.slice ol' ll' cl') (.slice ob' lb' cb') 29 29
        unfold tmV
        clear hV3 hV4 b3 b4 hTRr hTR3 hB3 hb2 hBr
        go_upto_region 14 with fail
        generalize ((w4.alloc (.cells #[.int .i64 k, .bool neg, .slice od ld cd, .string nm, .int .i64 n, .slice ol ll cl, .slice ob lb cb] 29)).alloc (.cells #[.int .i64 k', .bool neg', .slice od' ld' cd', .string nm', .int .i64 n', .slice ol' ll' cl', .slice ob' lb' cb'] 29)) = W5 at *
        have hVt5 := tv_below hVt hb5
        have hVu5 := tv_below hVu hb5
        have hB5 := below_and hB4 (Nat.le_refl _) hb5
        clear hVt hVu hb5 hB4
        obtain ⟨x0, x1, x2, x3, x4, x5, x6⟩ := kT.res
        go_wp2_with fail
        refine (Tree_w (tupT l) _ _ hd1.out hVt5).mono ?_
        rintro e w6 ⟨rfl, b6⟩
        rw [hq1.out]
        have hB6 := below_and hB5 (Nat.le_refl _) b6
        have kT6 := kT.below b6
        have kU6 := kU.below b6
        have hVt6 := tv_below hVt5 b6
        have hVu6 := tv_below hVu5 b6
        clear x0 x1 x2 x3 x4 x5 x6 kT kU hVt5 hVu5 b6 hB5
        obtain ⟨x0, x1, x2, x3, x4, x5, x6⟩ := kT6.res
        go_wp2_with fail
        refine (Words_w (tupT l) _ _ hd1.out (fun q hq => (hfm1.out q hq).1) hn1.out hVt6).mono ?_
        rintro e w7 ⟨rfl, b7⟩
        rw [hq3.out]
        have hB7 := below_and hB6 (Nat.le_refl _) b7
        have kT7 := kT6.below b7
        have kU7 := kU6.below b7
        have hVt7 := tv_below hVt6 b7
        have hVu7 := tv_below hVu6 b7
        clear x0 x1 x2 x3 x4 x5 x6 kT6 kU6 hVt6 hVu6 b7 hB6
        obtain ⟨x0, x1, x2, x3, x4, x5, x6⟩ := kU7.res
        go_wp2_with fail
        refine (Tree_w (listT l) _ _ hd2.out hVu7).mono ?_
        rintro e w8 ⟨rfl, b8⟩
        rw [hq2.out]
        have hB8 := below_and hB7 (Nat.le_refl _) b8
        have kT8 := kT7.below b8
        have kU8 := kU7.below b8
        have hVt8 := tv_below hVt7 b8
        have hVu8 := tv_below hVu7 b8
        clear x0 x1 x2 x3 x4 x5 x6 kT7 kU7 hVt7 hVu7 b8 hB7
        obtain ⟨x0, x1, x2, x3, x4, x5, x6⟩ := kU8.res
        go_wp2_with fail
        refine (Words_w (listT l) _ _ hd2.out (fun q hq => (hfm2.out q hq).1) hn2.out hVu8).mono ?_
        rintro e w9 ⟨rfl, b9⟩
        rw [hq4.out]
        have hB9 := below_and hB8 (Nat.le_refl _) b9
        have kT9 := kT8.below b9
        have kU9 := kU8.below b9
        have hVt9 := tv_below hVt8 b9
        have hVu9 := tv_below hVu8 b9
        clear x0 x1 x2 x3 x4 x5 x6 kT8 kU8 hVt8 hVu8 b9 hB8
        obtain ⟨x0, x1, x2, x3, x4, x5, x6⟩ := kT9.res
        go_wp2_with fail
        refine (May_w (tupT l) _ _ hd1.out (fun q hq => (hfm1.out q hq).1) hVt9 (hT.below hB9)).mono ?_
        rintro e wA ⟨rfl, bA⟩
        rw [hm1.out]
        have hBA := below_and hB9 (Nat.le_refl _) bA
        have kUA := kU9.below bA
        have hVuA := tv_below hVu9 bA
        clear x0 x1 x2 x3 x4 x5 x6 kT9 kU9 hVt9 hVu9 bA hB9
        obtain ⟨x0, x1, x2, x3, x4, x5, x6⟩ := kUA.res
        go_wp2_with fail
        refine (May_w (listT l) _ _ hd2.out (fun q hq => (hfm2.out q hq).1) hVuA (hT.below hBA)).mono ?_
        rintro e wB ⟨rfl, bB⟩
        rw [hm2.out]
        have hBB := below_and hBA (Nat.le_refl _) bB
        go_wp2
        go_ret
        exact ⟨rfl, hBB⟩
    · have hil' : i < l.length := by omega
      have hii : ((i : Nat) : Int) < ((l.length : Nat) : Int) := by omega
      obtain ⟨t, ht⟩ : ∃ t, l[i]? = some t := ⟨l[i], by simp [hil']⟩
      obtain ⟨a, k', neg', od', ld', cd', nm', n', ol', ll', cl', ob', lb', cb', ea, hTv', y0, y1, y2, y3, y4, y5, y6⟩ := hTR2.get ht hb2
      have hokt : Hid (∀ q ∈ parts t, q.ok1 ∧ fairB q = true) := hid (fun q hq => hHf.out q (mem_partsL ht hq))
      have hlt := hid (hHp.out t (List.mem_of_getElem? ht))
      have hs1 := hid (partsL_take ht)
      have hs2 := hid (sumL_take ht)
      have hle1 := hid (partsL_take_le l (i + 1))
      have hle2 := hid (sumL_le l hok.out (i + 1))
      have hHt := hid ht
      subst ea
      clear ht
      go_wp2_with fail
      refine (rTree_w (tsz t) t _ _ (Nat.le_refl _) (fun q hq => (hokt.out q hq).1) hTv').mono ?_
      rintro e w3 ⟨rfl, b3⟩
      have hB3 := below_and hBr (Nat.le_refl _) b3
      have hb3 := below_and hb2 (Nat.le_refl _) b3
      clear y0 y1 y2 y3 y4 y5 y6 hTv' hBr hb2 b3
      obtain ⟨a3, k3, neg3, od3, ld3, cd3, nm3, n3, ol3, ll3, cl3, ob3, lb3, cb3, ea, hTv3, z0, z1, z2, z3, z4, z5, z6⟩ := hTR2.get hHt.out hb3
      injection ea with ea
      subst ea
      rw [treeN_of hlt.out]
      obtain ⟨q1, hq1⟩ : ∃ q1, (parts t).length = q1 := ⟨_, rfl⟩
      obtain ⟨q2, hq2⟩ : ∃ q2, wordsN t = q2 := ⟨_, rfl⟩
      rw [hq1]
      have hH1 := hid hq1
      have hH2 := hid hq2
      have hb1 : p + q1 ≤ 1966080 := by have := hH.out.1; have := hs1.out; have := hle1.out; have := hHP.out; omega
      have hb4 : s + q2 ≤ 1966081966080 := by
        have h1 := hH.out.2
        have h2 := hs2.out
        have h3 := hle2.out
        have h4 : (partsL l).length * 1000001 ≤ 30 * 65536 * 1000001 := Nat.mul_le_mul_right _ hHP.out
        omega
      clear hq1 hq2
      go_wp2_with fail
      refine (rWords_w (tsz t) t _ _ (Nat.le_refl _) hokt.out (by have := hlt.out; omega) hTv3).mono ?_
      rintro e w4 ⟨rfl, b4⟩
      rw [hH2.out]
      have hB4 := below_and hB3 (Nat.le_refl _) b4
      have hb5 := below_and hb3 (Nat.le_refl _) b4
      clear z0 z1 z2 z3 z4 z5 z6 hTv3 hB3 hb3 b4
      go_wp2
      go_roundg (l.length - (i + 1))
      case measure => omega
      case rel =>
        refine ⟨i + 1, p + q1, s + q2, by omega, by go_num, by go_num, by go_num, hb1, hb4, hid ?_, hB4, hb5⟩
        have h1 := hH.out
        have h2 := hs1.out
        have h3 := hs2.out
        have h4 := hH1.out
        have h5 := hH2.out
        omega
end Go.Proofs.YtddbndachoofoaaDoor.termParts
