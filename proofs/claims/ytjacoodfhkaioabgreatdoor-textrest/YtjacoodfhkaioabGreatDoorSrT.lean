/- Texts of mine, one behind the other: TextRestW. -/
import Derived.Test.YtjacoodfhkaioabGreatDoorSrS
namespace Go.Proofs.YtjacoodfhkaioabGreatDoor.textRest
open Go.ChangeShapes Go.WideShapes Go.ChangeAt Go.ChangeMaps Go.RowKit Go.Shelf
set_option linter.unusedSimpArgs false
set_option linter.unusedVariables false
set_option maxRecDepth 2000
abbrev Tabs (w : World) : Prop := TabX w
set_option maxHeartbeats 4000000 in
set_option maxRecDepth 8000 in
theorem walk {H : Type} (enc : TypeId × Value → H) (base : Nat) (w : World) (v0 v1 v2 : Value) (d0 d1 d2 : DataW H) (p0 p1 p2 : List MemPlace)
    (o0 : Value.okWide Tryz.prog w .any base 26 v0) (h0 : DataW.Trod enc Tryz.prog w 0 (fun _ => true) true 26 v0 d0 p0)
    (o1 : Value.okWide Tryz.prog w .any base 26 v1) (h1 : DataW.Trod enc Tryz.prog w 0 (fun _ => true) true 26 v1 d1 p1)
    (o2 : Value.okWide Tryz.prog w .any base 5 v2) (h2 : DataW.Trod enc Tryz.prog w 0 (fun _ => true) true 5 v2 d2 p2)
    (hT : Tabs w) :
    Calls Tryz.prog 3 #[v0, v1, v2] w fun e w' => e = .returned (.bool true) ∧ Below w.heap.size w w' := by
  obtain ⟨A, hA0⟩ := open_term o0 h0
  obtain ⟨U, hU0⟩ := open_term o1 h1
  obtain ⟨sn, rfl, _, _, hsn⟩ := open_int Tryz.underlying5 o2 h2
  have hsn : 0 ≤ sn ∧ sn < 256 := by
    simp [Lit.wf, IntKind.min, IntKind.max, IntKind.bits, IntKind.signed] at hsn
    omega
  clear o0 h0 o1 h1 o2 h2
  obtain ⟨sn, rfl⟩ := Int.eq_ofNat_of_zero_le hsn.1
  have h8 : Hid ((sn : Int) % 8 = 0 ∨ (sn : Int) % 8 = 1 ∨ (sn : Int) % 8 = 2 ∨ (sn : Int) % 8 = 3 ∨ (sn : Int) % 8 = 4 ∨ (sn : Int) % 8 = 5 ∨ (sn : Int) % 8 = 6 ∨ (sn : Int) % 8 = 7) := hid (by omega)
  clear hsn
  obtain ⟨k, neg, od, ld, cd, nm, n, ol, ll, cl, ob, lb, cb, rfl⟩ := hA0.form
  obtain ⟨k', neg', od', ld', cd', nm', n', ol', ll', cl', ob', lb', cb', rfl⟩ := hU0.form
  obtain ⟨kX, kY, hBX, hz0⟩ := bx2 w (.int .i64 k) (.bool neg) (.slice od ld cd) (.string nm) (.int .i64 n) (.slice ol ll cl) (.slice ob lb cb) (.int .i64 k') (.bool neg') (.slice od' ld' cd') (.string nm') (.int .i64 n') (.slice ol' ll' cl') (.slice ob' lb' cb') 26 26
  have hTH := hid hT
  have hAH := hid hA0
  have hUH := hid hU0
  go_enter Tryz.func3, Tryz.ntmps3
  go_wp2_with fail
  generalize ((w.alloc (.cells #[.int .i64 k, .bool neg, .slice od ld cd, .string nm, .int .i64 n, .slice ol ll cl, .slice ob lb cb] 26)).alloc (.cells #[.int .i64 k', .bool neg', .slice od' ld' cd', .string nm', .int .i64 n', .slice ol' ll' cl', .slice ob' lb' cb'] 26)) = W0 at *
  refine (awake_ok _ (hT.below hBX)).mono ?_
  rintro e w1 ⟨rfl, b1⟩
  have hB1 := below_and hBX (Nat.le_refl _) b1
  have kX1 := kX.below b1
  have kY1 := kY.below b1
  obtain ⟨x0, x1, x2, x3, x4, x5, x6⟩ := kX1.res
  obtain ⟨y0, y1, y2, y3, y4, y5, y6⟩ := kY1.res
  obtain ⟨W2, hW2⟩ : ∃ W2, W2 = w1.alloc (.cells #[.int .i64 k, .bool neg, .slice od ld cd, .string nm, .int .i64 n, .slice ol ll cl, .slice ob lb cb, .int .i64 k', .bool neg', .slice od' ld' cd', .string nm', .int .i64 n', .slice ol' ll' cl', .slice ob' lb' cb'] 26) := ⟨_, rfl⟩
  have b2 : Below w1.heap.size w1 W2 := by rw [hW2]; exact (Below.refl _ w1).alloc (Nat.le_refl _) _
  have hg2 : W2.heap[w1.heap.size]? = some (.cells #[.int .i64 k, .bool neg, .slice od ld cd, .string nm, .int .i64 n, .slice ol ll cl, .slice ob lb cb, .int .i64 k', .bool neg', .slice od' ld' cd', .string nm', .int .i64 n', .slice ol' ll' cl', .slice ob' lb' cb'] 26 (0, 0)) := by rw [hW2]; exact heap_alloc_new w1 _
  have hB2 := below_and hB1 (Nat.le_refl _) b2
  have hTR : TR (Low W2) W2 [A, U] (some ⟨w1.heap.size, 0, none⟩) := tr_two (tv_below hA0 hB2) (tv_below hU0 hB2) hg2 (Array.getElem?_eq_some_iff.1 hg2).1
  have c2 := Rooms_w 2 (by omega) [A, U] (some ⟨w1.heap.size, 0, none⟩) 2 W2 hTR (hT.below hB2).1.1
  rw [hW2] at c2
  have hW2H := hid hW2
  have hTRH := hid hTR
  have hB2H := hid hB2
  have kX2 := hid (kX1.below b2)
  have kY2 := hid (kY1.below b2)
  obtain ⟨bb, hbb⟩ : ∃ bb, (decide ([A, U].length ≤ 2) && [A, U].all okRow) = bb := ⟨_, rfl⟩
  rw [hbb] at c2
  clear hBX kX kY b1 hB1 kX1 kY1 hW2 b2 hg2 hB2 hTR hT hA0 hU0 hz0
  go_wp2_with fail
  refine c2.mono ?_
  rw [← hW2H.out]
  rintro e w3 ⟨rfl, b3⟩
  have hB3 := hid (below_and hB2H.out (Nat.le_refl _) b3)
  have kX3 := kX2.out.below b3
  have kY3 := kY2.out.below b3
  clear x0 x1 x2 x3 x4 x5 x6 y0 y1 y2 y3 y4 y5 y6 hW2H c2
  cases bb with
  | false =>
    clear hbb
    go_wp2
    go_ret
    exact ⟨rfl, hB3.out⟩
  | true =>
  rw [Bool.and_eq_true] at hbb
  have Hf := rooms_facts7 hTRH.out hbb.2
  have hokA : ∀ p ∈ parts A, p.ok1 ∧ fairB p = true := fun p hp => Hf.1 p (by simp [partsL, hp])
  have hokU : ∀ p ∈ parts U, p.ok1 ∧ fairB p = true := fun p hp => Hf.1 p (by simp [partsL, hp])
  have hmA : mayB A = true := by
    have h2 := hbb.2
    simp only [List.all_cons, List.all_nil, Bool.and_true, Bool.and_eq_true] at h2
    have := h2.1
    unfold okRow at this
    rw [Bool.and_eq_true] at this
    exact this.2
  have hmU : mayB U = true := by
    have h2 := hbb.2
    simp only [List.all_cons, List.all_nil, Bool.and_true, Bool.and_eq_true] at h2
    have := h2.2
    unfold okRow at this
    rw [Bool.and_eq_true] at this
    exact this.2
  have hdA : dep A ≤ 1000000 := by have := Hf.2.1; simp only [depL] at this; omega
  have hdU : dep U ≤ 1000000 := by have := Hf.2.1; simp only [depL] at this; omega
  have hT3 := hTH.out.below hB3.out
  have hT3H := hid hT3
  have c3 := print_w A _ w3 hdA (fun p hp => (hokA p hp).1) (tv_below hAH.out hB3.out) hT3.1.1 hT3.1 hT3.2
  have c4 := fun w' (hb : Below w3.heap.size w3 w') => print_w U _ w' hdU (fun p hp => (hokU p hp).1) (tv_below (tv_below hUH.out hB3.out) hb) (hT3.below hb).1.1 (hT3.below hb).1 (hT3.below hb).2
  have c5 := fun (v' : Value) w' (hb : Below w3.heap.size w3 w') (hv : TV (Low w') w' A v') => rSame_w A A v' _ w' (fun p hp => (hokA p hp).1) (fun p hp => (hokA p hp).1) hv (tv_below (tv_below hAH.out hB3.out) hb) (hT3.below hb).1.1
  rw [cT_me A] at c5
  have c5H := hid c5
  obtain ⟨x0, x1, x2, x3, x4, x5, x6⟩ := kX3.res
  obtain ⟨y0, y1, y2, y3, y4, y5, y6⟩ := kY3.res
  have kX3H := hid kX3
  have kY3H := hid kY3
  obtain ⟨EA, hEA⟩ : ∃ E, prE A = E := ⟨_, rfl⟩
  obtain ⟨EU, hEU⟩ : ∃ E, prE U = E := ⟨_, rfl⟩
  obtain ⟨SA, hSA⟩ : ∃ S : ByteArray, ⟨(prS A).toArray⟩ = S := ⟨_, rfl⟩
  obtain ⟨SU, hSU⟩ : ∃ S : ByteArray, ⟨(prS U).toArray⟩ = S := ⟨_, rfl⟩
  rw [hEA, hSA] at c3
  rw [hEU, hSU] at c4
  have hrest : Hid (EA = 0 → EU = 0 → SA.size + SU.size ≤ 60000 → ∀ q ∈ sgR, rdE (tx A ++ (q ++ tx U)) = 0 ∧ rdN (tx A ++ (q ++ tx U)) = SA.size ∧ rdT (tx A ++ (q ++ tx U)) = some A ∧ paE (tx A ++ (q ++ tx U)) = 10 ∧ paT (tx A ++ (q ++ tx U)) = none ∧ bs (tx A ++ (q ++ tx U)) = SA ++ ⟨q.toArray⟩ ++ SU ∧ (tx A ++ (q ++ tx U)).length ≤ 65536) := hid (fun e1 e2 hle q hq => by
    have p1 := (prE_zero (hEA.trans e1)).2.2
    have p2 := (prE_zero (hEU.trans e2)).2.2
    have s1 : SA = bs (tx A) := by rw [← hSA, p1]; rfl
    have s2 : SU = bs (tx U) := by rw [← hSU, p2]; rfl
    have z1 : SA.size = (tx A).length := by rw [s1]; exact bs_size _
    have z2 : SU.size = (tx U).length := by rw [s2]; exact bs_size _
    obtain ⟨r1, r2, r3, r4⟩ := rest_read (mg_of hokA hAH.out) (mg_of hokU hUH.out) hmA hq (by omega)
    have hq2 := (sgR_ok q hq).2.2
    refine ⟨r1, by rw [r2, z1], r3, r4, by unfold paT; rw [if_neg (by rw [r4]; decide)], ?_, by simp only [List.length_append]; omega⟩
    rw [← bs_cat, ← bs_cat, s1, s2, ByteArray.append_assoc]
    rfl)
  have hzA : Hid (EA = 0 → (SA.size : Int) ≤ 65536) := hid (fun e1 => by
    have p := prE_zero (hEA.trans e1)
    have z1 : SA.size = (tx A).length := by rw [← hSA, p.2.2]; exact bs_size _
    have := p.2.1
    omega)
  have hzU : Hid (EU = 0 → (SU.size : Int) ≤ 65536) := hid (fun e1 => by
    have p := prE_zero (hEU.trans e1)
    have z1 : SU.size = (tx U).length := by rw [← hSU, p.2.2]; exact bs_size _
    have := p.2.1
    omega)
  have hcA := hid (prE_cases A hmA)
  have hcU := hid (prE_cases U hmU)
  rw [hEA] at hcA
  rw [hEU] at hcU
  clear hT3 hEA hEU hSA hSU c5 hdA hdU hmA hmU hokA hokU Hf hbb kX3 kY3
  go_wp2_with fail
  refine c3.mono ?_
  rintro e w4 ⟨rfl, b4⟩
  have c4 := c4 w4 b4
  have kX4 := kX3H.out.below b4
  have kY4 := kY3H.out.below b4
  clear x0 x1 x2 x3 x4 x5 x6 y0 y1 y2 y3 y4 y5 y6
  obtain ⟨x0, x1, x2, x3, x4, x5, x6⟩ := kX4.res
  obtain ⟨y0, y1, y2, y3, y4, y5, y6⟩ := kY4.res
  clear kX4 kY4 c3
  go_wp2_with fail
  refine c4.mono ?_
  rintro e w5 ⟨rfl, b5⟩
  have b45 := below_and b4 (Nat.le_refl _) b5
  have kX5 := kX3H.out.below b45
  have kY5 := kY3H.out.below b45
  have hB5 := hid (below_and hB3.out (Nat.le_refl _) b45)
  clear x0 x1 x2 x3 x4 x5 x6 y0 y1 y2 y3 y4 y5 y6
  obtain ⟨x0, x1, x2, x3, x4, x5, x6⟩ := kX5.res
  obtain ⟨y0, y1, y2, y3, y4, y5, y6⟩ := kY5.res
  have b45' := b45
  clear kX5 kY5 c4 b4 b5 b45
  rcases hcA.out with rfl | rfl
  · rcases hcU.out with rfl | rfl
    · have hzA1 := hzA.out rfl
      have hzU1 := hzU.out rfl
      by_cases hle : SA.size + SU.size ≤ 60000
      · have hr := hid (hrest.out rfl rfl hle)
        have hleZ : ¬ (60000 : Int) < (SA.size : Int) + (SU.size : Int) := by omega
        have b35 := hid b45'
        have hleH := hid hle
        clear hrest hcA hcU hzA hzU hle b45'
        rcases h8.out with hk | hk | hk | hk | hk | hk | hk | hk
        · skip
          obtain ⟨r1, r2, r3, r4, r5, r6, r7⟩ := hr.out [44] (by simp)
          obtain ⟨WB, hWB⟩ : ∃ W, W = w5.alloc (.cells #[.string ⟨#[44]⟩, .string ⟨#[32]⟩, .string ⟨#[124]⟩, .string ⟨#[93]⟩, .string ⟨#[125]⟩, .string ⟨#[62]⟩, .string ⟨#[39]⟩, .string ⟨#[195, 169]⟩] 9) := ⟨_, rfl⟩
          have bB : Below w5.heap.size w5 WB := by rw [hWB]; exact (Below.refl _ w5).alloc (Nat.le_refl _) _
          have b3B := below_and b35.out (Nat.le_refl _) bB
          have c6 := Read_w (tx A ++ ([44] ++ tx U)) WB (hT3H.out.below b3B) (by omega)
          rw [r1, r2, r3, r6] at c6
          have c7 := fun w' (hb : Below w3.heap.size w3 w') => Parse_w (tx A ++ ([44] ++ tx U)) w' (hT3H.out.below hb) (by omega)
          rw [r4, r5, r6] at c7
          have hc1 : ¬ 9223372036854775807 < SA.size + (⟨#[44]⟩ : ByteArray).size := by
            have : (⟨#[44]⟩ : ByteArray).size ≤ 2 := by decide
            omega
          have hc2 : ¬ 9223372036854775807 < (SA ++ (⟨#[44]⟩ : ByteArray)).size + SU.size := by
            have : (⟨#[44]⟩ : ByteArray).size ≤ 2 := by decide
            rw [ByteArray.size_append]
            omega
          have hWBH := hid hWB
          have b3BH := hid b3B
          clear hr h8 r1 r2 r3 r4 r5 r6 r7 hWB bB b3B x0 x1 x2 x3 x4 x5 x6 y0 y1 y2 y3 y4 y5 y6
          go_upto_region 10 with fail
          rw [← hWBH.out]
          clear hWBH
          go_wp2_with fail
          refine c6.mono ?_
          rintro e w6 ⟨v6, rfl, hV6, b6⟩
          obtain ⟨qk, qneg, qod, qld, qcd, qnm, qn, qol, qll, qcl, qob, qlb, qcb, rfl⟩ := tmo_form hV6
          obtain ⟨W7, hW7⟩ : ∃ W7, W7 = w6.alloc (.cells #[.int .i64 qk, .bool qneg, .slice qod qld qcd, .string qnm, .int .i64 qn, .slice qol qll qcl, .slice qob qlb qcb] 26) := ⟨_, rfl⟩
          have b7 : Below w6.heap.size w6 W7 := by rw [hW7]; exact (Below.refl _ w6).alloc (Nat.le_refl _) _
          have hg7 := hid (show W7.heap[w6.heap.size]? = some (.cells #[.int .i64 qk, .bool qneg, .slice qod qld qcd, .string qnm, .int .i64 qn, .slice qol qll qcl, .slice qob qlb qcb] 26 (0, 0)) by rw [hW7]; exact heap_alloc_new w6 _)
          have bB7 : Below WB.heap.size WB W7 := b6.trans (below_le b7 b6.size)
          have b37 := hid (below_and b3BH.out (Nat.le_refl _) bB7)
          have hV7 := hid (tmo_bel hV6 b7 (Nat.le_refl _))
          have c7 := c7 W7 b37.out
          have hW7H := hid hW7
          clear c6 hV6 b6 b7 bB7 hW7
          go_upto_region 11 with fail
          rw [← hW7H.out]
          clear hW7H
          go_wp2_with fail
          refine c7.mono ?_
          rintro e w8 ⟨v8, rfl, hV8, b8⟩
          have hv8 : v8 = zV := hV8
          subst hv8
          obtain ⟨W9, hW9⟩ : ∃ W9, W9 = w8.alloc (.cells #[.int .i64 0, .bool false, .slice none 0 0, .string ⟨#[]⟩, .int .i64 0, .slice none 0 0, .slice none 0 0] 26) := ⟨_, rfl⟩
          have b9 : Below w8.heap.size w8 W9 := by rw [hW9]; exact (Below.refl _ w8).alloc (Nat.le_refl _) _
          have b79 : Below W7.heap.size W7 W9 := b8.trans (below_le b9 b8.size)
          have b39 := hid (below_and b37.out (Nat.le_refl _) b79)
          have hg79 := (b79.block _ (Array.getElem?_eq_some_iff.1 hg7.out).1).trans hg7.out
          have hV9 := tmo_bel hV7.out b79 (Nat.le_refl _)
          have hT9 : TV (Low W9) W9 A (tmV qk qneg (.slice qod qld qcd) qnm qn (.slice qol qll qcl) (.slice qob qlb qcb)) := TV.mono (fun _ _ h => h.2) _ _ hV9
          have c8 := c5H.out _ W9 b39.out hT9
          obtain ⟨y0, y1, y2, y3, y4, y5, y6⟩ := cell7 hg79
          obtain ⟨x0, x1, x2, x3, x4, x5, x6⟩ := (kX3H.out.below b39.out).res
          have hW9H := hid hW9
          clear c7 hV8 b8 b9 b79 hg79 hV9 hT9 hW9
          go_upto_region 12 with fail
          rw [← hW9H.out]
          clear hW9H
          go_wp2_with fail
          refine c8.mono ?_
          rintro e wz ⟨rfl, bz⟩
          have hBz := hid (below_and hB3.out (Nat.le_refl _) (below_and b39.out (Nat.le_refl _) bz))
          clear c8 bz x0 x1 x2 x3 x4 x5 x6 y0 y1 y2 y3 y4 y5 y6
          go_wp2
          go_ret
          exact ⟨by simp, hBz.out⟩
        · skip
          obtain ⟨r1, r2, r3, r4, r5, r6, r7⟩ := hr.out [32] (by simp)
          obtain ⟨WB, hWB⟩ : ∃ W, W = w5.alloc (.cells #[.string ⟨#[44]⟩, .string ⟨#[32]⟩, .string ⟨#[124]⟩, .string ⟨#[93]⟩, .string ⟨#[125]⟩, .string ⟨#[62]⟩, .string ⟨#[39]⟩, .string ⟨#[195, 169]⟩] 9) := ⟨_, rfl⟩
          have bB : Below w5.heap.size w5 WB := by rw [hWB]; exact (Below.refl _ w5).alloc (Nat.le_refl _) _
          have b3B := below_and b35.out (Nat.le_refl _) bB
          have c6 := Read_w (tx A ++ ([32] ++ tx U)) WB (hT3H.out.below b3B) (by omega)
          rw [r1, r2, r3, r6] at c6
          have c7 := fun w' (hb : Below w3.heap.size w3 w') => Parse_w (tx A ++ ([32] ++ tx U)) w' (hT3H.out.below hb) (by omega)
          rw [r4, r5, r6] at c7
          have hc1 : ¬ 9223372036854775807 < SA.size + (⟨#[32]⟩ : ByteArray).size := by
            have : (⟨#[32]⟩ : ByteArray).size ≤ 2 := by decide
            omega
          have hc2 : ¬ 9223372036854775807 < (SA ++ (⟨#[32]⟩ : ByteArray)).size + SU.size := by
            have : (⟨#[32]⟩ : ByteArray).size ≤ 2 := by decide
            rw [ByteArray.size_append]
            omega
          have hWBH := hid hWB
          have b3BH := hid b3B
          clear hr h8 r1 r2 r3 r4 r5 r6 r7 hWB bB b3B x0 x1 x2 x3 x4 x5 x6 y0 y1 y2 y3 y4 y5 y6
          go_upto_region 10 with fail
          rw [← hWBH.out]
          clear hWBH
          go_wp2_with fail
          refine c6.mono ?_
          rintro e w6 ⟨v6, rfl, hV6, b6⟩
          obtain ⟨qk, qneg, qod, qld, qcd, qnm, qn, qol, qll, qcl, qob, qlb, qcb, rfl⟩ := tmo_form hV6
          obtain ⟨W7, hW7⟩ : ∃ W7, W7 = w6.alloc (.cells #[.int .i64 qk, .bool qneg, .slice qod qld qcd, .string qnm, .int .i64 qn, .slice qol qll qcl, .slice qob qlb qcb] 26) := ⟨_, rfl⟩
          have b7 : Below w6.heap.size w6 W7 := by rw [hW7]; exact (Below.refl _ w6).alloc (Nat.le_refl _) _
          have hg7 := hid (show W7.heap[w6.heap.size]? = some (.cells #[.int .i64 qk, .bool qneg, .slice qod qld qcd, .string qnm, .int .i64 qn, .slice qol qll qcl, .slice qob qlb qcb] 26 (0, 0)) by rw [hW7]; exact heap_alloc_new w6 _)
          have bB7 : Below WB.heap.size WB W7 := b6.trans (below_le b7 b6.size)
          have b37 := hid (below_and b3BH.out (Nat.le_refl _) bB7)
          have hV7 := hid (tmo_bel hV6 b7 (Nat.le_refl _))
          have c7 := c7 W7 b37.out
          have hW7H := hid hW7
          clear c6 hV6 b6 b7 bB7 hW7
          go_upto_region 11 with fail
          rw [← hW7H.out]
          clear hW7H
          go_wp2_with fail
          refine c7.mono ?_
          rintro e w8 ⟨v8, rfl, hV8, b8⟩
          have hv8 : v8 = zV := hV8
          subst hv8
          obtain ⟨W9, hW9⟩ : ∃ W9, W9 = w8.alloc (.cells #[.int .i64 0, .bool false, .slice none 0 0, .string ⟨#[]⟩, .int .i64 0, .slice none 0 0, .slice none 0 0] 26) := ⟨_, rfl⟩
          have b9 : Below w8.heap.size w8 W9 := by rw [hW9]; exact (Below.refl _ w8).alloc (Nat.le_refl _) _
          have b79 : Below W7.heap.size W7 W9 := b8.trans (below_le b9 b8.size)
          have b39 := hid (below_and b37.out (Nat.le_refl _) b79)
          have hg79 := (b79.block _ (Array.getElem?_eq_some_iff.1 hg7.out).1).trans hg7.out
          have hV9 := tmo_bel hV7.out b79 (Nat.le_refl _)
          have hT9 : TV (Low W9) W9 A (tmV qk qneg (.slice qod qld qcd) qnm qn (.slice qol qll qcl) (.slice qob qlb qcb)) := TV.mono (fun _ _ h => h.2) _ _ hV9
          have c8 := c5H.out _ W9 b39.out hT9
          obtain ⟨y0, y1, y2, y3, y4, y5, y6⟩ := cell7 hg79
          obtain ⟨x0, x1, x2, x3, x4, x5, x6⟩ := (kX3H.out.below b39.out).res
          have hW9H := hid hW9
          clear c7 hV8 b8 b9 b79 hg79 hV9 hT9 hW9
          go_upto_region 12 with fail
          rw [← hW9H.out]
          clear hW9H
          go_wp2_with fail
          refine c8.mono ?_
          rintro e wz ⟨rfl, bz⟩
          have hBz := hid (below_and hB3.out (Nat.le_refl _) (below_and b39.out (Nat.le_refl _) bz))
          clear c8 bz x0 x1 x2 x3 x4 x5 x6 y0 y1 y2 y3 y4 y5 y6
          go_wp2
          go_ret
          exact ⟨by simp, hBz.out⟩
        · skip
          obtain ⟨r1, r2, r3, r4, r5, r6, r7⟩ := hr.out [124] (by simp)
          obtain ⟨WB, hWB⟩ : ∃ W, W = w5.alloc (.cells #[.string ⟨#[44]⟩, .string ⟨#[32]⟩, .string ⟨#[124]⟩, .string ⟨#[93]⟩, .string ⟨#[125]⟩, .string ⟨#[62]⟩, .string ⟨#[39]⟩, .string ⟨#[195, 169]⟩] 9) := ⟨_, rfl⟩
          have bB : Below w5.heap.size w5 WB := by rw [hWB]; exact (Below.refl _ w5).alloc (Nat.le_refl _) _
          have b3B := below_and b35.out (Nat.le_refl _) bB
          have c6 := Read_w (tx A ++ ([124] ++ tx U)) WB (hT3H.out.below b3B) (by omega)
          rw [r1, r2, r3, r6] at c6
          have c7 := fun w' (hb : Below w3.heap.size w3 w') => Parse_w (tx A ++ ([124] ++ tx U)) w' (hT3H.out.below hb) (by omega)
          rw [r4, r5, r6] at c7
          have hc1 : ¬ 9223372036854775807 < SA.size + (⟨#[124]⟩ : ByteArray).size := by
            have : (⟨#[124]⟩ : ByteArray).size ≤ 2 := by decide
            omega
          have hc2 : ¬ 9223372036854775807 < (SA ++ (⟨#[124]⟩ : ByteArray)).size + SU.size := by
            have : (⟨#[124]⟩ : ByteArray).size ≤ 2 := by decide
            rw [ByteArray.size_append]
            omega
          have hWBH := hid hWB
          have b3BH := hid b3B
          clear hr h8 r1 r2 r3 r4 r5 r6 r7 hWB bB b3B x0 x1 x2 x3 x4 x5 x6 y0 y1 y2 y3 y4 y5 y6
          go_upto_region 10 with fail
          rw [← hWBH.out]
          clear hWBH
          go_wp2_with fail
          refine c6.mono ?_
          rintro e w6 ⟨v6, rfl, hV6, b6⟩
          obtain ⟨qk, qneg, qod, qld, qcd, qnm, qn, qol, qll, qcl, qob, qlb, qcb, rfl⟩ := tmo_form hV6
          obtain ⟨W7, hW7⟩ : ∃ W7, W7 = w6.alloc (.cells #[.int .i64 qk, .bool qneg, .slice qod qld qcd, .string qnm, .int .i64 qn, .slice qol qll qcl, .slice qob qlb qcb] 26) := ⟨_, rfl⟩
          have b7 : Below w6.heap.size w6 W7 := by rw [hW7]; exact (Below.refl _ w6).alloc (Nat.le_refl _) _
          have hg7 := hid (show W7.heap[w6.heap.size]? = some (.cells #[.int .i64 qk, .bool qneg, .slice qod qld qcd, .string qnm, .int .i64 qn, .slice qol qll qcl, .slice qob qlb qcb] 26 (0, 0)) by rw [hW7]; exact heap_alloc_new w6 _)
          have bB7 : Below WB.heap.size WB W7 := b6.trans (below_le b7 b6.size)
          have b37 := hid (below_and b3BH.out (Nat.le_refl _) bB7)
          have hV7 := hid (tmo_bel hV6 b7 (Nat.le_refl _))
          have c7 := c7 W7 b37.out
          have hW7H := hid hW7
          clear c6 hV6 b6 b7 bB7 hW7
          go_upto_region 11 with fail
          rw [← hW7H.out]
          clear hW7H
          go_wp2_with fail
          refine c7.mono ?_
          rintro e w8 ⟨v8, rfl, hV8, b8⟩
          have hv8 : v8 = zV := hV8
          subst hv8
          obtain ⟨W9, hW9⟩ : ∃ W9, W9 = w8.alloc (.cells #[.int .i64 0, .bool false, .slice none 0 0, .string ⟨#[]⟩, .int .i64 0, .slice none 0 0, .slice none 0 0] 26) := ⟨_, rfl⟩
          have b9 : Below w8.heap.size w8 W9 := by rw [hW9]; exact (Below.refl _ w8).alloc (Nat.le_refl _) _
          have b79 : Below W7.heap.size W7 W9 := b8.trans (below_le b9 b8.size)
          have b39 := hid (below_and b37.out (Nat.le_refl _) b79)
          have hg79 := (b79.block _ (Array.getElem?_eq_some_iff.1 hg7.out).1).trans hg7.out
          have hV9 := tmo_bel hV7.out b79 (Nat.le_refl _)
          have hT9 : TV (Low W9) W9 A (tmV qk qneg (.slice qod qld qcd) qnm qn (.slice qol qll qcl) (.slice qob qlb qcb)) := TV.mono (fun _ _ h => h.2) _ _ hV9
          have c8 := c5H.out _ W9 b39.out hT9
          obtain ⟨y0, y1, y2, y3, y4, y5, y6⟩ := cell7 hg79
          obtain ⟨x0, x1, x2, x3, x4, x5, x6⟩ := (kX3H.out.below b39.out).res
          have hW9H := hid hW9
          clear c7 hV8 b8 b9 b79 hg79 hV9 hT9 hW9
          go_upto_region 12 with fail
          rw [← hW9H.out]
          clear hW9H
          go_wp2_with fail
          refine c8.mono ?_
          rintro e wz ⟨rfl, bz⟩
          have hBz := hid (below_and hB3.out (Nat.le_refl _) (below_and b39.out (Nat.le_refl _) bz))
          clear c8 bz x0 x1 x2 x3 x4 x5 x6 y0 y1 y2 y3 y4 y5 y6
          go_wp2
          go_ret
          exact ⟨by simp, hBz.out⟩
        · skip
          obtain ⟨r1, r2, r3, r4, r5, r6, r7⟩ := hr.out [93] (by simp)
          obtain ⟨WB, hWB⟩ : ∃ W, W = w5.alloc (.cells #[.string ⟨#[44]⟩, .string ⟨#[32]⟩, .string ⟨#[124]⟩, .string ⟨#[93]⟩, .string ⟨#[125]⟩, .string ⟨#[62]⟩, .string ⟨#[39]⟩, .string ⟨#[195, 169]⟩] 9) := ⟨_, rfl⟩
          have bB : Below w5.heap.size w5 WB := by rw [hWB]; exact (Below.refl _ w5).alloc (Nat.le_refl _) _
          have b3B := below_and b35.out (Nat.le_refl _) bB
          have c6 := Read_w (tx A ++ ([93] ++ tx U)) WB (hT3H.out.below b3B) (by omega)
          rw [r1, r2, r3, r6] at c6
          have c7 := fun w' (hb : Below w3.heap.size w3 w') => Parse_w (tx A ++ ([93] ++ tx U)) w' (hT3H.out.below hb) (by omega)
          rw [r4, r5, r6] at c7
          have hc1 : ¬ 9223372036854775807 < SA.size + (⟨#[93]⟩ : ByteArray).size := by
            have : (⟨#[93]⟩ : ByteArray).size ≤ 2 := by decide
            omega
          have hc2 : ¬ 9223372036854775807 < (SA ++ (⟨#[93]⟩ : ByteArray)).size + SU.size := by
            have : (⟨#[93]⟩ : ByteArray).size ≤ 2 := by decide
            rw [ByteArray.size_append]
            omega
          have hWBH := hid hWB
          have b3BH := hid b3B
          clear hr h8 r1 r2 r3 r4 r5 r6 r7 hWB bB b3B x0 x1 x2 x3 x4 x5 x6 y0 y1 y2 y3 y4 y5 y6
          go_upto_region 10 with fail
          rw [← hWBH.out]
          clear hWBH
          go_wp2_with fail
          refine c6.mono ?_
          rintro e w6 ⟨v6, rfl, hV6, b6⟩
          obtain ⟨qk, qneg, qod, qld, qcd, qnm, qn, qol, qll, qcl, qob, qlb, qcb, rfl⟩ := tmo_form hV6
          obtain ⟨W7, hW7⟩ : ∃ W7, W7 = w6.alloc (.cells #[.int .i64 qk, .bool qneg, .slice qod qld qcd, .string qnm, .int .i64 qn, .slice qol qll qcl, .slice qob qlb qcb] 26) := ⟨_, rfl⟩
          have b7 : Below w6.heap.size w6 W7 := by rw [hW7]; exact (Below.refl _ w6).alloc (Nat.le_refl _) _
          have hg7 := hid (show W7.heap[w6.heap.size]? = some (.cells #[.int .i64 qk, .bool qneg, .slice qod qld qcd, .string qnm, .int .i64 qn, .slice qol qll qcl, .slice qob qlb qcb] 26 (0, 0)) by rw [hW7]; exact heap_alloc_new w6 _)
          have bB7 : Below WB.heap.size WB W7 := b6.trans (below_le b7 b6.size)
          have b37 := hid (below_and b3BH.out (Nat.le_refl _) bB7)
          have hV7 := hid (tmo_bel hV6 b7 (Nat.le_refl _))
          have c7 := c7 W7 b37.out
          have hW7H := hid hW7
          clear c6 hV6 b6 b7 bB7 hW7
          go_upto_region 11 with fail
          rw [← hW7H.out]
          clear hW7H
          go_wp2_with fail
          refine c7.mono ?_
          rintro e w8 ⟨v8, rfl, hV8, b8⟩
          have hv8 : v8 = zV := hV8
          subst hv8
          obtain ⟨W9, hW9⟩ : ∃ W9, W9 = w8.alloc (.cells #[.int .i64 0, .bool false, .slice none 0 0, .string ⟨#[]⟩, .int .i64 0, .slice none 0 0, .slice none 0 0] 26) := ⟨_, rfl⟩
          have b9 : Below w8.heap.size w8 W9 := by rw [hW9]; exact (Below.refl _ w8).alloc (Nat.le_refl _) _
          have b79 : Below W7.heap.size W7 W9 := b8.trans (below_le b9 b8.size)
          have b39 := hid (below_and b37.out (Nat.le_refl _) b79)
          have hg79 := (b79.block _ (Array.getElem?_eq_some_iff.1 hg7.out).1).trans hg7.out
          have hV9 := tmo_bel hV7.out b79 (Nat.le_refl _)
          have hT9 : TV (Low W9) W9 A (tmV qk qneg (.slice qod qld qcd) qnm qn (.slice qol qll qcl) (.slice qob qlb qcb)) := TV.mono (fun _ _ h => h.2) _ _ hV9
          have c8 := c5H.out _ W9 b39.out hT9
          obtain ⟨y0, y1, y2, y3, y4, y5, y6⟩ := cell7 hg79
          obtain ⟨x0, x1, x2, x3, x4, x5, x6⟩ := (kX3H.out.below b39.out).res
          have hW9H := hid hW9
          clear c7 hV8 b8 b9 b79 hg79 hV9 hT9 hW9
          go_upto_region 12 with fail
          rw [← hW9H.out]
          clear hW9H
          go_wp2_with fail
          refine c8.mono ?_
          rintro e wz ⟨rfl, bz⟩
          have hBz := hid (below_and hB3.out (Nat.le_refl _) (below_and b39.out (Nat.le_refl _) bz))
          clear c8 bz x0 x1 x2 x3 x4 x5 x6 y0 y1 y2 y3 y4 y5 y6
          go_wp2
          go_ret
          exact ⟨by simp, hBz.out⟩
        · skip
          obtain ⟨r1, r2, r3, r4, r5, r6, r7⟩ := hr.out [125] (by simp)
          obtain ⟨WB, hWB⟩ : ∃ W, W = w5.alloc (.cells #[.string ⟨#[44]⟩, .string ⟨#[32]⟩, .string ⟨#[124]⟩, .string ⟨#[93]⟩, .string ⟨#[125]⟩, .string ⟨#[62]⟩, .string ⟨#[39]⟩, .string ⟨#[195, 169]⟩] 9) := ⟨_, rfl⟩
          have bB : Below w5.heap.size w5 WB := by rw [hWB]; exact (Below.refl _ w5).alloc (Nat.le_refl _) _
          have b3B := below_and b35.out (Nat.le_refl _) bB
          have c6 := Read_w (tx A ++ ([125] ++ tx U)) WB (hT3H.out.below b3B) (by omega)
          rw [r1, r2, r3, r6] at c6
          have c7 := fun w' (hb : Below w3.heap.size w3 w') => Parse_w (tx A ++ ([125] ++ tx U)) w' (hT3H.out.below hb) (by omega)
          rw [r4, r5, r6] at c7
          have hc1 : ¬ 9223372036854775807 < SA.size + (⟨#[125]⟩ : ByteArray).size := by
            have : (⟨#[125]⟩ : ByteArray).size ≤ 2 := by decide
            omega
          have hc2 : ¬ 9223372036854775807 < (SA ++ (⟨#[125]⟩ : ByteArray)).size + SU.size := by
            have : (⟨#[125]⟩ : ByteArray).size ≤ 2 := by decide
            rw [ByteArray.size_append]
            omega
          have hWBH := hid hWB
          have b3BH := hid b3B
          clear hr h8 r1 r2 r3 r4 r5 r6 r7 hWB bB b3B x0 x1 x2 x3 x4 x5 x6 y0 y1 y2 y3 y4 y5 y6
          go_upto_region 10 with fail
          rw [← hWBH.out]
          clear hWBH
          go_wp2_with fail
          refine c6.mono ?_
          rintro e w6 ⟨v6, rfl, hV6, b6⟩
          obtain ⟨qk, qneg, qod, qld, qcd, qnm, qn, qol, qll, qcl, qob, qlb, qcb, rfl⟩ := tmo_form hV6
          obtain ⟨W7, hW7⟩ : ∃ W7, W7 = w6.alloc (.cells #[.int .i64 qk, .bool qneg, .slice qod qld qcd, .string qnm, .int .i64 qn, .slice qol qll qcl, .slice qob qlb qcb] 26) := ⟨_, rfl⟩
          have b7 : Below w6.heap.size w6 W7 := by rw [hW7]; exact (Below.refl _ w6).alloc (Nat.le_refl _) _
          have hg7 := hid (show W7.heap[w6.heap.size]? = some (.cells #[.int .i64 qk, .bool qneg, .slice qod qld qcd, .string qnm, .int .i64 qn, .slice qol qll qcl, .slice qob qlb qcb] 26 (0, 0)) by rw [hW7]; exact heap_alloc_new w6 _)
          have bB7 : Below WB.heap.size WB W7 := b6.trans (below_le b7 b6.size)
          have b37 := hid (below_and b3BH.out (Nat.le_refl _) bB7)
          have hV7 := hid (tmo_bel hV6 b7 (Nat.le_refl _))
          have c7 := c7 W7 b37.out
          have hW7H := hid hW7
          clear c6 hV6 b6 b7 bB7 hW7
          go_upto_region 11 with fail
          rw [← hW7H.out]
          clear hW7H
          go_wp2_with fail
          refine c7.mono ?_
          rintro e w8 ⟨v8, rfl, hV8, b8⟩
          have hv8 : v8 = zV := hV8
          subst hv8
          obtain ⟨W9, hW9⟩ : ∃ W9, W9 = w8.alloc (.cells #[.int .i64 0, .bool false, .slice none 0 0, .string ⟨#[]⟩, .int .i64 0, .slice none 0 0, .slice none 0 0] 26) := ⟨_, rfl⟩
          have b9 : Below w8.heap.size w8 W9 := by rw [hW9]; exact (Below.refl _ w8).alloc (Nat.le_refl _) _
          have b79 : Below W7.heap.size W7 W9 := b8.trans (below_le b9 b8.size)
          have b39 := hid (below_and b37.out (Nat.le_refl _) b79)
          have hg79 := (b79.block _ (Array.getElem?_eq_some_iff.1 hg7.out).1).trans hg7.out
          have hV9 := tmo_bel hV7.out b79 (Nat.le_refl _)
          have hT9 : TV (Low W9) W9 A (tmV qk qneg (.slice qod qld qcd) qnm qn (.slice qol qll qcl) (.slice qob qlb qcb)) := TV.mono (fun _ _ h => h.2) _ _ hV9
          have c8 := c5H.out _ W9 b39.out hT9
          obtain ⟨y0, y1, y2, y3, y4, y5, y6⟩ := cell7 hg79
          obtain ⟨x0, x1, x2, x3, x4, x5, x6⟩ := (kX3H.out.below b39.out).res
          have hW9H := hid hW9
          clear c7 hV8 b8 b9 b79 hg79 hV9 hT9 hW9
          go_upto_region 12 with fail
          rw [← hW9H.out]
          clear hW9H
          go_wp2_with fail
          refine c8.mono ?_
          rintro e wz ⟨rfl, bz⟩
          have hBz := hid (below_and hB3.out (Nat.le_refl _) (below_and b39.out (Nat.le_refl _) bz))
          clear c8 bz x0 x1 x2 x3 x4 x5 x6 y0 y1 y2 y3 y4 y5 y6
          go_wp2
          go_ret
          exact ⟨by simp, hBz.out⟩
        · skip
          obtain ⟨r1, r2, r3, r4, r5, r6, r7⟩ := hr.out [62] (by simp)
          obtain ⟨WB, hWB⟩ : ∃ W, W = w5.alloc (.cells #[.string ⟨#[44]⟩, .string ⟨#[32]⟩, .string ⟨#[124]⟩, .string ⟨#[93]⟩, .string ⟨#[125]⟩, .string ⟨#[62]⟩, .string ⟨#[39]⟩, .string ⟨#[195, 169]⟩] 9) := ⟨_, rfl⟩
          have bB : Below w5.heap.size w5 WB := by rw [hWB]; exact (Below.refl _ w5).alloc (Nat.le_refl _) _
          have b3B := below_and b35.out (Nat.le_refl _) bB
          have c6 := Read_w (tx A ++ ([62] ++ tx U)) WB (hT3H.out.below b3B) (by omega)
          rw [r1, r2, r3, r6] at c6
          have c7 := fun w' (hb : Below w3.heap.size w3 w') => Parse_w (tx A ++ ([62] ++ tx U)) w' (hT3H.out.below hb) (by omega)
          rw [r4, r5, r6] at c7
          have hc1 : ¬ 9223372036854775807 < SA.size + (⟨#[62]⟩ : ByteArray).size := by
            have : (⟨#[62]⟩ : ByteArray).size ≤ 2 := by decide
            omega
          have hc2 : ¬ 9223372036854775807 < (SA ++ (⟨#[62]⟩ : ByteArray)).size + SU.size := by
            have : (⟨#[62]⟩ : ByteArray).size ≤ 2 := by decide
            rw [ByteArray.size_append]
            omega
          have hWBH := hid hWB
          have b3BH := hid b3B
          clear hr h8 r1 r2 r3 r4 r5 r6 r7 hWB bB b3B x0 x1 x2 x3 x4 x5 x6 y0 y1 y2 y3 y4 y5 y6
          go_upto_region 10 with fail
          rw [← hWBH.out]
          clear hWBH
          go_wp2_with fail
          refine c6.mono ?_
          rintro e w6 ⟨v6, rfl, hV6, b6⟩
          obtain ⟨qk, qneg, qod, qld, qcd, qnm, qn, qol, qll, qcl, qob, qlb, qcb, rfl⟩ := tmo_form hV6
          obtain ⟨W7, hW7⟩ : ∃ W7, W7 = w6.alloc (.cells #[.int .i64 qk, .bool qneg, .slice qod qld qcd, .string qnm, .int .i64 qn, .slice qol qll qcl, .slice qob qlb qcb] 26) := ⟨_, rfl⟩
          have b7 : Below w6.heap.size w6 W7 := by rw [hW7]; exact (Below.refl _ w6).alloc (Nat.le_refl _) _
          have hg7 := hid (show W7.heap[w6.heap.size]? = some (.cells #[.int .i64 qk, .bool qneg, .slice qod qld qcd, .string qnm, .int .i64 qn, .slice qol qll qcl, .slice qob qlb qcb] 26 (0, 0)) by rw [hW7]; exact heap_alloc_new w6 _)
          have bB7 : Below WB.heap.size WB W7 := b6.trans (below_le b7 b6.size)
          have b37 := hid (below_and b3BH.out (Nat.le_refl _) bB7)
          have hV7 := hid (tmo_bel hV6 b7 (Nat.le_refl _))
          have c7 := c7 W7 b37.out
          have hW7H := hid hW7
          clear c6 hV6 b6 b7 bB7 hW7
          go_upto_region 11 with fail
          rw [← hW7H.out]
          clear hW7H
          go_wp2_with fail
          refine c7.mono ?_
          rintro e w8 ⟨v8, rfl, hV8, b8⟩
          have hv8 : v8 = zV := hV8
          subst hv8
          obtain ⟨W9, hW9⟩ : ∃ W9, W9 = w8.alloc (.cells #[.int .i64 0, .bool false, .slice none 0 0, .string ⟨#[]⟩, .int .i64 0, .slice none 0 0, .slice none 0 0] 26) := ⟨_, rfl⟩
          have b9 : Below w8.heap.size w8 W9 := by rw [hW9]; exact (Below.refl _ w8).alloc (Nat.le_refl _) _
          have b79 : Below W7.heap.size W7 W9 := b8.trans (below_le b9 b8.size)
          have b39 := hid (below_and b37.out (Nat.le_refl _) b79)
          have hg79 := (b79.block _ (Array.getElem?_eq_some_iff.1 hg7.out).1).trans hg7.out
          have hV9 := tmo_bel hV7.out b79 (Nat.le_refl _)
          have hT9 : TV (Low W9) W9 A (tmV qk qneg (.slice qod qld qcd) qnm qn (.slice qol qll qcl) (.slice qob qlb qcb)) := TV.mono (fun _ _ h => h.2) _ _ hV9
          have c8 := c5H.out _ W9 b39.out hT9
          obtain ⟨y0, y1, y2, y3, y4, y5, y6⟩ := cell7 hg79
          obtain ⟨x0, x1, x2, x3, x4, x5, x6⟩ := (kX3H.out.below b39.out).res
          have hW9H := hid hW9
          clear c7 hV8 b8 b9 b79 hg79 hV9 hT9 hW9
          go_upto_region 12 with fail
          rw [← hW9H.out]
          clear hW9H
          go_wp2_with fail
          refine c8.mono ?_
          rintro e wz ⟨rfl, bz⟩
          have hBz := hid (below_and hB3.out (Nat.le_refl _) (below_and b39.out (Nat.le_refl _) bz))
          clear c8 bz x0 x1 x2 x3 x4 x5 x6 y0 y1 y2 y3 y4 y5 y6
          go_wp2
          go_ret
          exact ⟨by simp, hBz.out⟩
        · skip
          obtain ⟨r1, r2, r3, r4, r5, r6, r7⟩ := hr.out [39] (by simp)
          obtain ⟨WB, hWB⟩ : ∃ W, W = w5.alloc (.cells #[.string ⟨#[44]⟩, .string ⟨#[32]⟩, .string ⟨#[124]⟩, .string ⟨#[93]⟩, .string ⟨#[125]⟩, .string ⟨#[62]⟩, .string ⟨#[39]⟩, .string ⟨#[195, 169]⟩] 9) := ⟨_, rfl⟩
          have bB : Below w5.heap.size w5 WB := by rw [hWB]; exact (Below.refl _ w5).alloc (Nat.le_refl _) _
          have b3B := below_and b35.out (Nat.le_refl _) bB
          have c6 := Read_w (tx A ++ ([39] ++ tx U)) WB (hT3H.out.below b3B) (by omega)
          rw [r1, r2, r3, r6] at c6
          have c7 := fun w' (hb : Below w3.heap.size w3 w') => Parse_w (tx A ++ ([39] ++ tx U)) w' (hT3H.out.below hb) (by omega)
          rw [r4, r5, r6] at c7
          have hc1 : ¬ 9223372036854775807 < SA.size + (⟨#[39]⟩ : ByteArray).size := by
            have : (⟨#[39]⟩ : ByteArray).size ≤ 2 := by decide
            omega
          have hc2 : ¬ 9223372036854775807 < (SA ++ (⟨#[39]⟩ : ByteArray)).size + SU.size := by
            have : (⟨#[39]⟩ : ByteArray).size ≤ 2 := by decide
            rw [ByteArray.size_append]
            omega
          have hWBH := hid hWB
          have b3BH := hid b3B
          clear hr h8 r1 r2 r3 r4 r5 r6 r7 hWB bB b3B x0 x1 x2 x3 x4 x5 x6 y0 y1 y2 y3 y4 y5 y6
          go_upto_region 10 with fail
          rw [← hWBH.out]
          clear hWBH
          go_wp2_with fail
          refine c6.mono ?_
          rintro e w6 ⟨v6, rfl, hV6, b6⟩
          obtain ⟨qk, qneg, qod, qld, qcd, qnm, qn, qol, qll, qcl, qob, qlb, qcb, rfl⟩ := tmo_form hV6
          obtain ⟨W7, hW7⟩ : ∃ W7, W7 = w6.alloc (.cells #[.int .i64 qk, .bool qneg, .slice qod qld qcd, .string qnm, .int .i64 qn, .slice qol qll qcl, .slice qob qlb qcb] 26) := ⟨_, rfl⟩
          have b7 : Below w6.heap.size w6 W7 := by rw [hW7]; exact (Below.refl _ w6).alloc (Nat.le_refl _) _
          have hg7 := hid (show W7.heap[w6.heap.size]? = some (.cells #[.int .i64 qk, .bool qneg, .slice qod qld qcd, .string qnm, .int .i64 qn, .slice qol qll qcl, .slice qob qlb qcb] 26 (0, 0)) by rw [hW7]; exact heap_alloc_new w6 _)
          have bB7 : Below WB.heap.size WB W7 := b6.trans (below_le b7 b6.size)
          have b37 := hid (below_and b3BH.out (Nat.le_refl _) bB7)
          have hV7 := hid (tmo_bel hV6 b7 (Nat.le_refl _))
          have c7 := c7 W7 b37.out
          have hW7H := hid hW7
          clear c6 hV6 b6 b7 bB7 hW7
          go_upto_region 11 with fail
          rw [← hW7H.out]
          clear hW7H
          go_wp2_with fail
          refine c7.mono ?_
          rintro e w8 ⟨v8, rfl, hV8, b8⟩
          have hv8 : v8 = zV := hV8
          subst hv8
          obtain ⟨W9, hW9⟩ : ∃ W9, W9 = w8.alloc (.cells #[.int .i64 0, .bool false, .slice none 0 0, .string ⟨#[]⟩, .int .i64 0, .slice none 0 0, .slice none 0 0] 26) := ⟨_, rfl⟩
          have b9 : Below w8.heap.size w8 W9 := by rw [hW9]; exact (Below.refl _ w8).alloc (Nat.le_refl _) _
          have b79 : Below W7.heap.size W7 W9 := b8.trans (below_le b9 b8.size)
          have b39 := hid (below_and b37.out (Nat.le_refl _) b79)
          have hg79 := (b79.block _ (Array.getElem?_eq_some_iff.1 hg7.out).1).trans hg7.out
          have hV9 := tmo_bel hV7.out b79 (Nat.le_refl _)
          have hT9 : TV (Low W9) W9 A (tmV qk qneg (.slice qod qld qcd) qnm qn (.slice qol qll qcl) (.slice qob qlb qcb)) := TV.mono (fun _ _ h => h.2) _ _ hV9
          have c8 := c5H.out _ W9 b39.out hT9
          obtain ⟨y0, y1, y2, y3, y4, y5, y6⟩ := cell7 hg79
          obtain ⟨x0, x1, x2, x3, x4, x5, x6⟩ := (kX3H.out.below b39.out).res
          have hW9H := hid hW9
          clear c7 hV8 b8 b9 b79 hg79 hV9 hT9 hW9
          go_upto_region 12 with fail
          rw [← hW9H.out]
          clear hW9H
          go_wp2_with fail
          refine c8.mono ?_
          rintro e wz ⟨rfl, bz⟩
          have hBz := hid (below_and hB3.out (Nat.le_refl _) (below_and b39.out (Nat.le_refl _) bz))
          clear c8 bz x0 x1 x2 x3 x4 x5 x6 y0 y1 y2 y3 y4 y5 y6
          go_wp2
          go_ret
          exact ⟨by simp, hBz.out⟩
        · skip
          obtain ⟨r1, r2, r3, r4, r5, r6, r7⟩ := hr.out [195, 169] (by simp)
          obtain ⟨WB, hWB⟩ : ∃ W, W = w5.alloc (.cells #[.string ⟨#[44]⟩, .string ⟨#[32]⟩, .string ⟨#[124]⟩, .string ⟨#[93]⟩, .string ⟨#[125]⟩, .string ⟨#[62]⟩, .string ⟨#[39]⟩, .string ⟨#[195, 169]⟩] 9) := ⟨_, rfl⟩
          have bB : Below w5.heap.size w5 WB := by rw [hWB]; exact (Below.refl _ w5).alloc (Nat.le_refl _) _
          have b3B := below_and b35.out (Nat.le_refl _) bB
          have c6 := Read_w (tx A ++ ([195, 169] ++ tx U)) WB (hT3H.out.below b3B) (by omega)
          rw [r1, r2, r3, r6] at c6
          have c7 := fun w' (hb : Below w3.heap.size w3 w') => Parse_w (tx A ++ ([195, 169] ++ tx U)) w' (hT3H.out.below hb) (by omega)
          rw [r4, r5, r6] at c7
          have hc1 : ¬ 9223372036854775807 < SA.size + (⟨#[195, 169]⟩ : ByteArray).size := by
            have : (⟨#[195, 169]⟩ : ByteArray).size ≤ 2 := by decide
            omega
          have hc2 : ¬ 9223372036854775807 < (SA ++ (⟨#[195, 169]⟩ : ByteArray)).size + SU.size := by
            have : (⟨#[195, 169]⟩ : ByteArray).size ≤ 2 := by decide
            rw [ByteArray.size_append]
            omega
          have hWBH := hid hWB
          have b3BH := hid b3B
          clear hr h8 r1 r2 r3 r4 r5 r6 r7 hWB bB b3B x0 x1 x2 x3 x4 x5 x6 y0 y1 y2 y3 y4 y5 y6
          go_upto_region 10 with fail
          rw [← hWBH.out]
          clear hWBH
          go_wp2_with fail
          refine c6.mono ?_
          rintro e w6 ⟨v6, rfl, hV6, b6⟩
          obtain ⟨qk, qneg, qod, qld, qcd, qnm, qn, qol, qll, qcl, qob, qlb, qcb, rfl⟩ := tmo_form hV6
          obtain ⟨W7, hW7⟩ : ∃ W7, W7 = w6.alloc (.cells #[.int .i64 qk, .bool qneg, .slice qod qld qcd, .string qnm, .int .i64 qn, .slice qol qll qcl, .slice qob qlb qcb] 26) := ⟨_, rfl⟩
          have b7 : Below w6.heap.size w6 W7 := by rw [hW7]; exact (Below.refl _ w6).alloc (Nat.le_refl _) _
          have hg7 := hid (show W7.heap[w6.heap.size]? = some (.cells #[.int .i64 qk, .bool qneg, .slice qod qld qcd, .string qnm, .int .i64 qn, .slice qol qll qcl, .slice qob qlb qcb] 26 (0, 0)) by rw [hW7]; exact heap_alloc_new w6 _)
          have bB7 : Below WB.heap.size WB W7 := b6.trans (below_le b7 b6.size)
          have b37 := hid (below_and b3BH.out (Nat.le_refl _) bB7)
          have hV7 := hid (tmo_bel hV6 b7 (Nat.le_refl _))
          have c7 := c7 W7 b37.out
          have hW7H := hid hW7
          clear c6 hV6 b6 b7 bB7 hW7
          go_upto_region 11 with fail
          rw [← hW7H.out]
          clear hW7H
          go_wp2_with fail
          refine c7.mono ?_
          rintro e w8 ⟨v8, rfl, hV8, b8⟩
          have hv8 : v8 = zV := hV8
          subst hv8
          obtain ⟨W9, hW9⟩ : ∃ W9, W9 = w8.alloc (.cells #[.int .i64 0, .bool false, .slice none 0 0, .string ⟨#[]⟩, .int .i64 0, .slice none 0 0, .slice none 0 0] 26) := ⟨_, rfl⟩
          have b9 : Below w8.heap.size w8 W9 := by rw [hW9]; exact (Below.refl _ w8).alloc (Nat.le_refl _) _
          have b79 : Below W7.heap.size W7 W9 := b8.trans (below_le b9 b8.size)
          have b39 := hid (below_and b37.out (Nat.le_refl _) b79)
          have hg79 := (b79.block _ (Array.getElem?_eq_some_iff.1 hg7.out).1).trans hg7.out
          have hV9 := tmo_bel hV7.out b79 (Nat.le_refl _)
          have hT9 : TV (Low W9) W9 A (tmV qk qneg (.slice qod qld qcd) qnm qn (.slice qol qll qcl) (.slice qob qlb qcb)) := TV.mono (fun _ _ h => h.2) _ _ hV9
          have c8 := c5H.out _ W9 b39.out hT9
          obtain ⟨y0, y1, y2, y3, y4, y5, y6⟩ := cell7 hg79
          obtain ⟨x0, x1, x2, x3, x4, x5, x6⟩ := (kX3H.out.below b39.out).res
          have hW9H := hid hW9
          clear c7 hV8 b8 b9 b79 hg79 hV9 hT9 hW9
          go_upto_region 12 with fail
          rw [← hW9H.out]
          clear hW9H
          go_wp2_with fail
          refine c8.mono ?_
          rintro e wz ⟨rfl, bz⟩
          have hBz := hid (below_and hB3.out (Nat.le_refl _) (below_and b39.out (Nat.le_refl _) bz))
          clear c8 bz x0 x1 x2 x3 x4 x5 x6 y0 y1 y2 y3 y4 y5 y6
          go_wp2
          go_ret
          exact ⟨by simp, hBz.out⟩
      · have hleZ : (60000 : Int) < (SA.size : Int) + (SU.size : Int) := by omega
        clear hle hrest hcA hcU
        go_wp2
        go_ret
        exact ⟨rfl, hB5.out⟩
    · clear hrest hcA hcU
      go_wp2
      go_ret
      exact ⟨rfl, hB5.out⟩
  · clear hrest hcA hcU
    go_wp2
    go_ret
    exact ⟨rfl, hB5.out⟩
end Go.Proofs.YtjacoodfhkaioabGreatDoor.textRest
