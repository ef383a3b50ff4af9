/- Texts of mine, one behind the other: TextShow3, TextShow4, TextShow5. -/
import Derived.Test.YtjacoodfhkaioaaGreatDoorChU
import Derived.Test.YtjacoodfhkaioaaGreatDoorChL
import Derived.Test.YtjacoodfhkaioaaGreatDoorChK
namespace Go.Proofs.YtjacoodfhkaioaaGreatDoor
open Go.ChangeShapes Go.WideShapes Go.ChangeAt Go.RowKit Go.Shelf
set_option linter.unusedSimpArgs false
set_option linter.unusedVariables false
set_option maxRecDepth 2000

theorem partsL_tk (l : List Tm) (j : Nat) : (partsL (l.take j)).length ≤ (partsL l).length := by
  induction l generalizing j with
  | nil => simp
  | cons t l ih =>
    cases j with
    | zero => simp [partsL]
    | succ j =>
      have := ih j
      simp only [List.take_succ_cons, partsL, List.length_append]
      omega
theorem take_tm {l : List Tm} {j : Nat} {x : Tm} (h : l[j]? = some x) : l.take (j + 1) = l.take j ++ [x] := by
  rw [List.take_add_one, h]; rfl
set_option maxHeartbeats 4000000 in
theorem show4 (neg : Bool) (d : List Nat) (nm : ByteArray) (n : Int) (l : List Tm) (b : List Nat) (hok : okXs (.mk 4 neg d nm n l b)) (hlm : lmX (.mk 4 neg d nm n l b)) (hN : (parts (.mk 4 neg d nm n l b)).length ≤ 1000000) (ih : ∀ t ∈ l, Shows t) : Shows (.mk 4 neg d nm n l b) := by
  intro v w hT hQ
  rw [tx_tuple]
  obtain ⟨R, hR⟩ : ∃ R, bs (123 :: (joinC (l.map tx) ++ [125])) = R := ⟨_, rfl⟩
  rw [hR]
  have hRH := hid hR
  clear hR
  have hkids : (Tm.mk 4 neg d nm n l b).kids = l := by show (if (4 : Int) = 4 ∨ (4 : Int) = 6 then l else []) = l; rw [if_pos (.inl rfl)]
  have hpl := kids_mem hkids
  have hlens : ∀ t ∈ l, (tx t).length ≤ 30000010 * (parts t).length := fun t ht => by
    have hm : t ∈ (Tm.mk 4 neg d nm n l b).kids := by rw [hkids]; exact ht
    exact (tx_len _ t (Nat.le_refl _) (hok.kid hm) (hlm.kid hm)).1
  have hP : (partsL l).length ≤ 1000000 := by omega
  have hPk : ∀ t ∈ l, (parts t).length ≤ 1000000 := fun t ht => by
    have hm : t ∈ (Tm.mk 4 neg d nm n l b).kids := by rw [hkids]; exact ht
    have := parts_kid hm
    omega
  have hsum : ∀ j, (joinC ((l.take j).map tx)).length ≤ 30000010 * 1000000 + 255 := fun j => by
    have h1 := join_sum 30000010 (l.take j) (fun t ht => hlens t (List.mem_of_mem_take ht))
    have h2 := partsL_tk l j
    have h3 : l.length ≤ 255 := hok.self.2.2.2.2.2.1 rfl
    have h4 : (l.take j).length ≤ l.length := by rw [List.length_take]; omega
    have h5 := Nat.mul_le_mul_left 30000010 (Nat.le_trans h2 hP)
    omega
  have hl4 : l.length ≤ 255 := hok.self.2.2.2.2.2.1 rfl
  have hlz : (l.length : Int) ≤ 255 := by omega
  have hsumH := hid hsum
  have hlenH := hid hlens
  have hPkH := hid hPk
  clear hpl hP hsum hlens hPk hok hlm hN hkids
  obtain ⟨k, hk⟩ : ∃ k : Int, k = 4 := ⟨4, rfl⟩
  unfold TV at hT
  obtain ⟨od, cd, ol, cl, ob, cb, rfl, hLd, hcd, hLm, hLb, hcb, hcl, hTR⟩ := hT
  rw [← hk]
  unfold tmV
  obtain ⟨W, hW⟩ : ∃ W, W = w.alloc (.cells #[.int .i64 k, .bool neg, .slice od d.length cd, .string nm, .int .i64 n, .slice ol l.length cl, .slice ob b.length cb] 27) := ⟨_, rfl⟩
  have bW : Below w.heap.size w W := by rw [hW]; exact (Below.refl _ w).alloc (Nat.le_refl _) _
  have hgW : W.heap[w.heap.size]? = some (.cells #[.int .i64 k, .bool neg, .slice od d.length cd, .string nm, .int .i64 n, .slice ol l.length cl, .slice ob b.length cb] 27 (0, 0)) := by rw [hW]; exact heap_alloc_new w _
  have hszW : W.heap.size = w.heap.size + 1 := by rw [hW]; simp
  obtain ⟨y0, y1, y2, y3, y4, y5, y6⟩ := cell7 hgW
  subst hk
  go_enter Tryz.func27, Tryz.ntmps27
  go_upto_region 1 with fail
  rw [← hW]
  clear hW
  have hgWH := hid hgW
  have hTRH := hid hTR
  clear hTR hLd hLm hLb
  go_wp2_with fail
  go_loopw [5, 6] (fun s v wr => ∃ (j : Nat) (S : ByteArray), s = .string S ∧ v = .int .i64 (j : Int) ∧ j ≤ l.length ∧ Hid (S = bs ([123] ++ joinC ((l.take j).map tx))) ∧ Below W.heap.size W wr) (fun _ v _ => l.length - (intOf v).toNat)
  case atStart => exact ⟨0, ⟨#[123]⟩, rfl, rfl, Nat.zero_le _, hid rfl, Below.refl _ _⟩
  case round =>
    obtain ⟨j, S, rfl, rfl, hj, hS, bw⟩ := hrel
    have hgr : wr.heap[w.heap.size]? = some (.cells #[.int .i64 4, .bool neg, .slice od d.length cd, .string nm, .int .i64 n, .slice ol l.length cl, .slice ob b.length cb] 27 (0, 0)) := (bw.block _ (by omega)).trans hgWH.out
    obtain ⟨z0, z1, z2, z3, z4, z5, z6⟩ := cell7 hgr
    clear hgr
    have hjl := hsumH.out j
    have hSl : S.size ≤ 30000010000300 := by rw [hS.out, bs_size, List.length_append]; simp only [List.length_cons, List.length_nil]; omega
    clear hjl
    by_cases hjb : j < l.length
    · have hjz : (j : Int) < (l.length : Int) := by omega
      obtain ⟨x, hx⟩ : ∃ x, l[j]? = some x := ⟨l[j], by simp⟩
      have hxm : x ∈ l := List.mem_of_getElem? hx
      have hbr : Below w.heap.size w wr := bW.trans (below_le bw bW.size)
      obtain ⟨a, kk, neg1, od1, ld1, cd1, nm1, n1, oo1, ll1, cc1, ob1, lb1, cb1, rfl, hTV, u0, u1, u2, u3, u4, u5, u6⟩ := hTRH.out.get2 hx hbr
      have hts : Hid ((l.take (j + 1)).map tx = (l.take j).map tx ++ [tx x]) := hid (by rw [take_tm hx, List.map_append]; rfl)
      have c2 := fun w' (hb' : Below w.heap.size w w') => ih x hxm _ w' (tv_below hTV hb') (hQ.below hb')
      unfold tmV at c2
      obtain ⟨D, hD⟩ : ∃ D, bs (tx x) = D := ⟨_, rfl⟩
      have hDl : D.size ≤ 30000010000300 := by
        have h1 := hlenH.out x hxm
        have h2 := hPkH.out x hxm
        have h3 := Nat.mul_le_mul_left 30000010 h2
        rw [← hD, bs_size]; omega
      rw [hD] at c2
      have hDH := hid hD
      clear hD hx hTV
      by_cases h0 : j = 0
      · subst h0
        rw [Nat.zero_mul, add_zero] at u0 u1 u2 u3 u4 u5 u6
        obtain ⟨S2, hS2⟩ : ∃ S2, S ++ D = S2 := ⟨_, rfl⟩
        have hsz : ¬ 9223372036854775807 < S.size + D.size := by omega
        go_wp2_with fail
        refine (c2 _ hbr).mono ?_
        rintro e w1 ⟨rfl, b1⟩
        go_wp2
        refine ⟨⟨1, S2, rfl, by go_num, by omega, hid ?_, bw.trans (below_le b1 bw.size)⟩, by simp [intOf]; omega⟩
        have e := hts.out
        simp only [Nat.zero_add, List.take_zero, List.map_nil, List.nil_append] at e
        rw [e, ← hS2, hS.out, ← hDH.out, bs_cat]
        simp [joinC]
      · have hk0 : (0 : Int) < (j : Int) := by omega
        obtain ⟨S1, hS1⟩ : ∃ S1, S ++ (⟨#[44]⟩ : ByteArray) = S1 := ⟨_, rfl⟩
        obtain ⟨S2, hS2⟩ : ∃ S2, S1 ++ D = S2 := ⟨_, rfl⟩
        have hS1l : S1.size ≤ 30000010000301 := by rw [← hS1, ByteArray.size_append]; show S.size + 1 ≤ _; omega
        have hsz1 : ¬ 9223372036854775807 < S.size + 1 := by omega
        have hsz : ¬ 9223372036854775807 < S1.size + D.size := by omega
        have h0H := hid h0
        clear h0
        go_wp2_with fail
        refine (c2 _ hbr).mono ?_
        rintro e w1 ⟨rfl, b1⟩
        go_wp2
        refine ⟨⟨j + 1, S2, rfl, by go_num, by omega, hid ?_, bw.trans (below_le b1 bw.size)⟩, by simp [intOf]; omega⟩
        have e := hts.out
        have hne : (l.take j).map tx ≠ [] := by
          intro e2
          have := congrArg List.length e2
          have h0 := h0H.out
          rw [List.length_map, List.length_take] at this
          simp only [List.length_nil] at this
          omega
        rw [e, joinC_snoc, if_neg hne, ← hS2, ← hS1, hS.out, ← hDH.out, bs_lit [44] #[44] rfl, bs_cat, bs_cat]
        simp
    · have hjz : ¬ (j : Int) < (l.length : Int) := by omega
      have e1 : S ++ (⟨#[125]⟩ : ByteArray) = R := by
        rw [← hRH.out, hS.out, List.take_of_length_le (by omega), bs_lit [125] #[125] rfl, bs_cat]
        simp
      have hsz : ¬ 9223372036854775807 < S.size + 1 := by omega
      clear hS
      go_wp2
      go_ret
      exact ⟨rfl, bW.trans (below_le bw bW.size)⟩
end Go.Proofs.YtjacoodfhkaioaaGreatDoor
namespace Go.Proofs.YtjacoodfhkaioaaGreatDoor
open Go.ChangeShapes Go.WideShapes Go.ChangeAt Go.RowKit Go.Shelf
set_option linter.unusedSimpArgs false
set_option linter.unusedVariables false
set_option maxRecDepth 2000

def szOf : Value → Nat
  | .string s => s.size
  | _ => 0
theorem TV.agg {Z : Nat → Prop} {w : World} {k : Int} {neg : Bool} {d : List Nat} {nm : ByteArray} {n : Int} {l : List Tm} {b : List Nat} {a0 a1 a2 a3 a4 a5 a6 : Value} (h : TV Z w (.mk k neg d nm n l b) (.agg #[a0, a1, a2, a3, a4, a5, a6])) :
    ∃ od cd ol cl ob cb, a0 = .int .i64 k ∧ a1 = .bool neg ∧ a2 = .slice od d.length cd ∧ a3 = .string nm ∧ a4 = .int .i64 n ∧ a5 = .slice ol l.length cl ∧ a6 = .slice ob b.length cb ∧ TR Z w l ol ∧ l.length ≤ cl := by
  unfold TV at h
  obtain ⟨od, cd, ol, cl, ob, cb, hv, h1, h2, h3, h4, h5, h6, h7⟩ := h
  simp [tmV] at hv
  obtain ⟨e0, e1, e2, e3, e4, e5, e6⟩ := hv
  exact ⟨od, cd, ol, cl, ob, cb, e0, e1, e2, e3, e4, e5, e6, h7, h6⟩
theorem parts_pair {neg : Bool} {d : List Nat} {nm : ByteArray} {n : Int} {H T : Tm} {b : List Nat} {p : Tm} (h : p ∈ parts H ∨ p ∈ parts T) : p ∈ parts (.mk 6 neg d nm n [H, T] b) := by
  rw [parts_eq]
  refine List.mem_cons_of_mem _ ?_
  show p ∈ partsL (if (6 : Int) = 4 ∨ (6 : Int) = 6 then [H, T] else [])
  rw [if_pos (.inr rfl)]
  simp only [partsL, List.append_nil, List.mem_append]
  exact h
theorem self_parts (T : Tm) : T ∈ parts T := by rw [parts_eq]; simp
set_option maxHeartbeats 4000000 in
theorem show6 (neg : Bool) (d : List Nat) (nm : ByteArray) (n : Int) (H T : Tm) (b : List Nat) (hall : ∀ p, p ∈ parts H ∨ p ∈ parts T → Shows p ∧ okX p) (hlen : (tx (.mk 6 neg d nm n [H, T] b)).length ≤ 40000000000000) : Shows (.mk 6 neg d nm n [H, T] b) := by
  intro v w hT hQ
  rw [tx_cons] at hlen ⊢
  obtain ⟨R, hR⟩ : ∃ R, bs (91 :: (tx H ++ tb T)) = R := ⟨_, rfl⟩
  have hRz : R.size ≤ 40000000000000 := by rw [← hR, bs_size]; exact hlen
  rw [hR]
  have hRH := hid hR
  clear hR hlen
  obtain ⟨k, hk⟩ : ∃ k : Int, k = 6 := ⟨6, rfl⟩
  unfold TV at hT
  obtain ⟨od, cd, ol, cl, ob, cb, rfl, hLd, hcd, hLm, hLb, hcb, hcl, hTR⟩ := hT
  have hallH := hid hall
  rw [← hk]
  unfold tmV
  obtain ⟨W, hW⟩ : ∃ W, W = w.alloc (.cells #[.int .i64 k, .bool neg, .slice od d.length cd, .string nm, .int .i64 n, .slice ol [H, T].length cl, .slice ob b.length cb] 27) := ⟨_, rfl⟩
  have bW : Below w.heap.size w W := by rw [hW]; exact (Below.refl _ w).alloc (Nat.le_refl _) _
  have hBW : Bx w.heap.size (.int .i64 k) (.bool neg) (.slice od d.length cd) (.string nm) (.int .i64 n) (.slice ol [H, T].length cl) (.slice ob b.length cb) W := by rw [hW]; exact Bx.new w _ _ _ _ _ _ _ _
  have hszW : W.heap.size = w.heap.size + 1 := by rw [hW]; simp
  simp only [List.length_cons, List.length_nil, Nat.zero_add, Nat.reduceAdd] at hBW hW hcl ⊢
  obtain ⟨y0, y1, y2, y3, y4, y5, y6⟩ := hBW.res
  subst hk
  obtain ⟨a, k0, neg0, od0, ld0, cd0, nm0, n0, ol0, ll0, cl0, ob0, lb0, cb0, ea, hT0, x0, x1, x2, x3, x4, x5, x6⟩ := hTR.get2 (i := 0) (t := H) rfl bW
  subst ea
  rw [Nat.zero_mul, add_zero] at x0 x1 x2 x3 x4 x5 x6
  have c1 := (hall H (.inl (self_parts H))).1 _ W (tv_below hT0 bW) (hQ.below bW)
  obtain ⟨D, hD⟩ : ∃ D, bs (tx H) = D := ⟨_, rfl⟩
  obtain ⟨S0, hS0⟩ : ∃ S0, (⟨#[91]⟩ : ByteArray) ++ D = S0 := ⟨_, rfl⟩
  have hS0R : S0 ++ bs (tb T) = R := by rw [← hRH.out, ← hS0, ← hD, bs_lit [91] #[91] rfl, bs_cat, bs_cat]; simp
  have hDz : D.size ≤ R.size := by rw [← hS0R, ← hS0, ByteArray.size_append, ByteArray.size_append]; omega
  have hsz : ¬ 9223372036854775807 < 1 + D.size := by omega
  rw [hD] at c1
  unfold tmV at c1
  have hBWH := hid hBW
  have hS0H := hid hS0R
  have hTRH := hid hTR
  clear hLd hLm hLb hall hBW hS0R hDz hD hTR hT0
  go_enter Tryz.func27, Tryz.ntmps27
  go_upto_region 1 with fail
  rw [← hW]
  clear hW
  go_wp2_with fail
  refine c1.mono ?_
  rintro e w1 ⟨rfl, b1⟩
  have hB1 := hBWH.out.below b1
  have bw1 := bW.trans (below_le b1 bW.size)
  obtain ⟨a', k1, neg1, od1, ld1, cd1, nm1, n1, ol1, ll1, cl1, ob1, lb1, cb1, ea, hT1, u0, u1, u2, u3, u4, u5, u6⟩ := hTRH.out.get2 (i := 1) (t := T) rfl bw1
  injection ea with ea
  subst ea
  rw [Nat.one_mul, add7] at u0 u1 u2 u3 u4 u5 u6
  clear c1 x0 x1 x2 x3 x4 x5 x6 y0 y1 y2 y3 y4 y5 y6 hBWH
  obtain ⟨y0, y1, y2, y3, y4, y5, y6⟩ := hB1.res
  have hfr := hB1.fr
  have hT1H := hid hT1
  have hB1H := hid hB1
  clear hT1 hB1
  go_wp2_with fail
  go_loopw [7] (fun s wr => ∃ (T' : Tm) (a0 a1 a2 a3 a4 a5 a6 : Value) (S : ByteArray), s = .string S ∧ Hid (S ++ bs (tb T') = R) ∧ Bx w.heap.size a0 a1 a2 a3 a4 a5 a6 wr ∧ Hid (TV (Low w) w T' (.agg #[a0, a1, a2, a3, a4, a5, a6])) ∧ Below w.heap.size w wr ∧ Hid (∀ p ∈ parts T', Shows p ∧ okX p)) (fun s _ => R.size - szOf s)
  case atStart => exact ⟨T, _, _, _, _, _, _, _, S0, rfl, hS0H, hB1H.out.put, hT1H, bw1.trans ((only_put _ _ _ _ _ _ _ _ _).below (Nat.le_refl _)), hid fun p hp => hallH.out p (.inr hp)⟩
  case round =>
    obtain ⟨T', a0, a1, a2, a3, a4, a5, a6, S, rfl, hS, hB, hTV, hbr, hP⟩ := hrel
    cases T' with | mk k' neg' d' nm' n' l' b' =>
    obtain ⟨od', cd', ol', cl', ob', cb', rfl, rfl, rfl, rfl, rfl, rfl, rfl, hTR', hcl'⟩ := hTV.out.agg
    obtain ⟨k0', k7', _, _, _, _, q6, _⟩ := (hP.out _ (self_parts _)).2
    have hself := (hP.out _ (self_parts _)).1
    clear u0 u1 u2 u3 u4 u5 u6 y0 y1 y2 y3 y4 y5 y6 hfr
    obtain ⟨z0, z1, z2, z3, z4, z5, z6⟩ := hB.res
    have hfr := hB.fr
    have hSz : S.size + (bs (tb (.mk k' neg' d' nm' n' l' b'))).size = R.size := by rw [← hS.out, ByteArray.size_append]
    by_cases h6 : k' = 6
    · subst h6
      obtain ⟨H', T', rfl⟩ := pair_of (q6 rfl)
      simp only [List.length_cons, List.length_nil, Nat.zero_add, Nat.reduceAdd] at z5 hcl' hB hTV hself
      rw [tb_cons] at hS hSz
      obtain ⟨a', k1, neg1, od1, ld1, cd1, nm1, n1, ol1, ll1, cl1, ob1, lb1, cb1, rfl, hT0, x0, x1, x2, x3, x4, x5, x6⟩ := hTR'.get2 (i := 0) (t := H') rfl hbr
      rw [Nat.zero_mul, add_zero] at x0 x1 x2 x3 x4 x5 x6
      have c1 := (hP.out H' (parts_pair (.inl (self_parts H')))).1 _ wr (tv_below hT0 hbr) (hQ.below hbr)
      obtain ⟨D, hD⟩ : ∃ D, bs (tx H') = D := ⟨_, rfl⟩
      obtain ⟨S1, hS1⟩ : ∃ S1, S ++ (⟨#[44]⟩ : ByteArray) = S1 := ⟨_, rfl⟩
      obtain ⟨S2, hS2⟩ : ∃ S2, S1 ++ D = S2 := ⟨_, rfl⟩
      have hS2R : S2 ++ bs (tb T') = R := by
        rw [← hS.out, ← hS2, ← hS1, ← hD, bs_lit [44] #[44] rfl]
        apply ByteArray.ext
        simp [bs]
      have hz1 : S1.size = S.size + 1 := by rw [← hS1, ByteArray.size_append]; rfl
      have hz2 : S2.size = S1.size + D.size := by rw [← hS2, ByteArray.size_append]
      have hz3 : S2.size + (bs (tb T')).size = R.size := by rw [← hS2R, ByteArray.size_append]
      have hsz1 : ¬ 9223372036854775807 < S.size + 1 := by omega
      have hsz2 : ¬ 9223372036854775807 < S1.size + D.size := by omega
      have hm : R.size - S2.size < R.size - S.size := by omega
      have hmH := hid hm
      have hS2H := hid hS2R
      have hTRH' := hid hTR'
      have hBH := hid hB
      have hPH := hid (fun p (hp : p ∈ parts T') => hP.out p (parts_pair (.inr hp)))
      rw [hD] at c1
      unfold tmV at c1
      clear hSz hz1 hz2 hz3 hm hS2R hS hTV hD hself hP hTR' hT0 hB
      go_wp2_with fail
      refine c1.mono ?_
      rintro e w2 ⟨rfl, b2⟩
      have hB2 := hBH.out.below b2
      have bw2 := hbr.trans (below_le b2 hbr.size)
      obtain ⟨a'', k3, neg3, od3, ld3, cd3, nm3, n3, ol3, ll3, cl3, ob3, lb3, cb3, ea, hT3, u0, u1, u2, u3, u4, u5, u6⟩ := hTRH'.out.get2 (i := 1) (t := T') rfl bw2
      injection ea with ea
      subst ea
      rw [Nat.one_mul, add7] at u0 u1 u2 u3 u4 u5 u6
      clear c1 x0 x1 x2 x3 x4 x5 x6 z0 z1 z2 z3 z4 z5 z6 hBH hfr
      obtain ⟨z0, z1, z2, z3, z4, z5, z6⟩ := hB2.res
      have hfr := hB2.fr
      have hT3H := hid hT3
      have hB2H := hid hB2
      clear hT3 hB2
      go_wp2
      exact ⟨⟨T', _, _, _, _, _, _, _, S2, rfl, hS2H, hB2H.out.put, hT3H, bw2.trans ((only_put _ _ _ _ _ _ _ _ _).below (Nat.le_refl _)), hPH⟩, hmH.out⟩
    · have hn6 : (k' == 6) = false := by simp [h6]
      by_cases h5 : k' = 5
      · subst h5
        rw [tb_nil] at hS hSz
        have e1 : S ++ (⟨#[93]⟩ : ByteArray) = R := by rw [← hS.out, bs_lit [93] #[93] rfl]
        have hsz : ¬ 9223372036854775807 < S.size + 1 := by omega
        clear hS hSz hTV hself hP hTR' hB
        go_wp2
        go_ret
        exact ⟨rfl, hbr⟩
      · have hn5 : (k' != 5) = true := by simp [h5]
        rw [tb_other (T := .mk k' neg' d' nm' n' l' b') h5 h6] at hS hSz
        have c1 := hself _ wr (tv_below hTV.out hbr) (hQ.below hbr)
        obtain ⟨D, hD⟩ : ∃ D, bs (tx (.mk k' neg' d' nm' n' l' b')) = D := ⟨_, rfl⟩
        obtain ⟨S1, hS1⟩ : ∃ S1, S ++ (⟨#[124]⟩ : ByteArray) = S1 := ⟨_, rfl⟩
        obtain ⟨S2, hS2⟩ : ∃ S2, S1 ++ D = S2 := ⟨_, rfl⟩
        have e1 : S2 ++ (⟨#[93]⟩ : ByteArray) = R := by
          rw [← hS.out, ← hS2, ← hS1, ← hD, bs_lit [124] #[124] rfl, bs_lit [93] #[93] rfl]
          apply ByteArray.ext
          simp [bs]
        have hz1 : S1.size = S.size + 1 := by rw [← hS1, ByteArray.size_append]; rfl
        have hz2 : S2.size = S1.size + D.size := by rw [← hS2, ByteArray.size_append]
        have hz3 : S2.size + 1 = R.size := by rw [← e1, ByteArray.size_append]; rfl
        have hsz1 : ¬ 9223372036854775807 < S.size + 1 := by omega
        have hsz2 : ¬ 9223372036854775807 < S1.size + D.size := by omega
        have hsz3 : ¬ 9223372036854775807 < S2.size + 1 := by omega
        rw [hD] at c1
        clear hSz hz1 hz2 hz3 hS hTV hD hself hP hTR' hB h5 h6
        go_wp2_with fail
        refine c1.mono ?_
        rintro e w2 ⟨rfl, b2⟩
        have bw2 := hbr.trans (below_le b2 hbr.size)
        go_wp2
        go_ret
        exact ⟨rfl, bw2⟩
end Go.Proofs.YtjacoodfhkaioaaGreatDoor
namespace Go.Proofs.YtjacoodfhkaioaaGreatDoor
open Go.ChangeShapes Go.WideShapes Go.ChangeAt Go.RowKit Go.Shelf
set_option linter.unusedSimpArgs false
set_option linter.unusedVariables false
set_option maxRecDepth 2000

theorem mem_pL {q : Tm} : ∀ {l : List Tm}, q ∈ partsL l → ∃ t, t ∈ l ∧ q ∈ parts t
  | [], h => by simp [partsL] at h
  | t :: l, h => by
    simp only [partsL, List.mem_append] at h
    rcases h with h | h
    · exact ⟨t, by simp, h⟩
    · obtain ⟨u, hu, hq⟩ := mem_pL h
      exact ⟨u, List.mem_cons_of_mem _ hu, hq⟩
theorem parts_sub : ∀ (N : Nat) (T : Tm), (parts T).length ≤ N → ∀ q ∈ parts T, (parts q).length ≤ (parts T).length ∧ ∀ p ∈ parts q, p ∈ parts T := by
  intro N
  induction N with
  | zero => intro T h; have := parts_pos T; omega
  | succ N ih =>
    intro T hN q hq
    rw [parts_eq] at hq
    rcases List.mem_cons.1 hq with rfl | hq
    · exact ⟨Nat.le_refl _, fun p hp => hp⟩
    · obtain ⟨t, ht, hqt⟩ := mem_pL hq
      have h1 := parts_kid ht
      obtain ⟨h2, h3⟩ := ih t (by omega) q hqt
      refine ⟨by omega, fun p hp => ?_⟩
      rw [parts_eq]
      exact List.mem_cons_of_mem _ (mem_parts_of (h3 p hp) ht)
theorem show_w : ∀ (N : Nat) (T : Tm), (parts T).length ≤ N → okXs T → lmX T → (parts T).length ≤ 1000000 → Shows T := by
  intro N
  induction N with
  | zero => intro T h; have := parts_pos T; omega
  | succ N ih =>
    intro T hN hok hlm hM
    have hlen := (tx_len _ T (Nat.le_refl _) hok hlm).1
    cases T with | mk k neg d nm n l b =>
    have hX := hok.self
    obtain ⟨k0, k7, _, _, _, _, x6, _⟩ := id hX
    by_cases h4 : k = 4
    · subst h4
      refine show4 neg d nm n l b hok hlm hM (fun t ht => ?_)
      have hkids : (Tm.mk 4 neg d nm n l b).kids = l := by show (if (4 : Int) = 4 ∨ (4 : Int) = 6 then l else []) = l; rw [if_pos (.inl rfl)]
      have hm : t ∈ (Tm.mk 4 neg d nm n l b).kids := by rw [hkids]; exact ht
      have := parts_kid hm
      exact ih t (by omega) (hok.kid hm) (hlm.kid hm) (by omega)
    · by_cases h6 : k = 6
      · subst h6
        obtain ⟨H, T, rfl⟩ := pair_of (x6 rfl)
        refine show6 neg d nm n H T b (fun p hp => ?_) (by have := Nat.mul_le_mul_left 30000010 hM; omega)
        have hkids : (Tm.mk 6 neg d nm n [H, T] b).kids = [H, T] := by show (if (6 : Int) = 4 ∨ (6 : Int) = 6 then [H, T] else []) = [H, T]; rw [if_pos (.inr rfl)]
        have hpm : p ∈ parts (.mk 6 neg d nm n [H, T] b) := parts_pair hp
        have hsub := (parts_sub _ _ (Nat.le_refl _) p hpm).2
        have hlt : (parts p).length < (parts (.mk 6 neg d nm n [H, T] b)).length := by
          rcases hp with hp | hp
          · have h1 := parts_kid (T := .mk 6 neg d nm n [H, T] b) (t := H) (by rw [hkids]; simp)
            have h2 := (parts_sub _ H (Nat.le_refl _) p hp).1
            omega
          · have h1 := parts_kid (T := .mk 6 neg d nm n [H, T] b) (t := T) (by rw [hkids]; simp)
            have h2 := (parts_sub _ T (Nat.le_refl _) p hp).1
            omega
        exact ⟨ih p (by omega) (fun q hq => hok q (hsub q hq)) (fun q hq => hlm q (hsub q hq)) (by omega), hok p hpm⟩
      · by_cases h7 : k = 7
        · subst h7; exact show7 neg d nm n l b hX
        · exact show0 k neg d nm n l b hX (by omega)
set_option maxHeartbeats 4000000 in
theorem rprint_w (T : Tm) (v : Value) (w : World) (hok : ∀ p ∈ parts T, p.ok1) (hT : TV (Low w) w T v) (hTa : Tabs w) (hQ : TabsQ w) :
    Calls Tryz.prog 14 #[v] w fun e w' => e = .returned (.tuple #[.string ⟨(prS T).toArray⟩, .int .i64 (prE T)]) ∧ Below w.heap.size w w' := by
  obtain ⟨k, neg, od, ld, cd, nm, n, ol, ll, cl, ob, lb, cb, rfl⟩ := hT.form
  obtain ⟨W, hW⟩ : ∃ W, W = w.alloc (.cells #[.int .i64 k, .bool neg, .slice od ld cd, .string nm, .int .i64 n, .slice ol ll cl, .slice ob lb cb] 27) := ⟨_, rfl⟩
  have bW : Below w.heap.size w W := by rw [hW]; exact (Below.refl _ w).alloc (Nat.le_refl _) _
  have hgW : W.heap[w.heap.size]? = some (.cells #[.int .i64 k, .bool neg, .slice od ld cd, .string nm, .int .i64 n, .slice ol ll cl, .slice ob lb cb] 27 (0, 0)) := by rw [hW]; exact heap_alloc_new w _
  have hszW : W.heap.size = w.heap.size + 1 := by rw [hW]; simp
  obtain ⟨y0, y1, y2, y3, y4, y5, y6⟩ := cell7 hgW
  have c1 := rMay_w T _ W hok (tv_below hT bW) (hTa.below bW)
  obtain ⟨E, hE⟩ : ∃ E, prE T = E := ⟨_, rfl⟩
  obtain ⟨S, hS⟩ : ∃ S, prS T = S := ⟨_, rfl⟩
  rw [hE, hS]
  have hEH := hid hE
  have hSH := hid hS
  have hgWH := hid hgW
  have hTH := hid hT
  have hszH := hid hszW
  clear hE hS hgW hT hszW
  unfold tmV at c1 ⊢
  go_enter Tryz.func14, Tryz.ntmps14
  go_upto_region 1 with fail
  rw [← hW]
  clear hW
  cases hm : mayB T with
  | false =>
    have q1 : E = 1 := by rw [← hEH.out]; unfold prE; rw [hm]; rfl
    have q2 : S = [] := by rw [← hSH.out]; unfold prS; rw [hm]; rfl
    subst q1 q2
    rw [hm] at c1
    clear hm
    go_wp2_with fail
    refine c1.mono ?_
    rintro e w1 ⟨rfl, b1⟩
    go_wp2
    go_ret2
    exact ⟨rfl, bW.trans (below_le b1 bW.size)⟩
  | true =>
    obtain ⟨hX, hP⟩ := may_ok hok hm
    rw [hm] at c1
    have q1 : E = if (tx T).length ≤ 65536 then 0 else 3 := by rw [← hEH.out]; unfold prE; rw [hm]; rfl
    have q2 : S = if (tx T).length ≤ 65536 then tx T else [] := by rw [← hSH.out]; unfold prS; rw [hm]; rfl
    have q1H := hid q1
    have q2H := hid q2
    clear hm q1 q2
    go_wp2_with fail
    refine c1.mono ?_
    rintro e w1 ⟨rfl, b1⟩
    have bw1 := bW.trans (below_le b1 bW.size)
    have hg1 := (b1.block _ (by rw [hszH.out]; omega)).trans hgWH.out
    clear y0 y1 y2 y3 y4 y5 y6 c1
    obtain ⟨y0, y1, y2, y3, y4, y5, y6⟩ := cell7 hg1
    have c2 := show_w _ T (Nat.le_refl _) hX (TV.lm T _ hTH.out) (by omega) _ w1 (tv_below hTH.out bw1) (hQ.below bw1)
    obtain ⟨D, hD⟩ : ∃ D, bs (tx T) = D := ⟨_, rfl⟩
    have hDz : D.size = (tx T).length := by rw [← hD, bs_size]
    rw [hD] at c2
    unfold tmV at c2
    clear hg1
    by_cases h6 : (tx T).length ≤ 65536
    · have hz : ¬ (65536 : Int) < (D.size : Int) := by omega
      have q1 : E = 0 := by rw [q1H.out, if_pos h6]
      have q2 : (⟨S.toArray⟩ : ByteArray) = D := by rw [q2H.out, if_pos h6, ← hD]; rfl
      have q2K := hid q2
      subst q1
      clear hDz h6 q2 hD
      go_wp2_with fail
      refine c2.mono ?_
      rintro e w2 ⟨rfl, b2⟩
      go_wp2
      go_ret2
      exact ⟨by rw [q2K.out]; rfl, bw1.trans (below_le b2 bw1.size)⟩
    · have hz : (65536 : Int) < (D.size : Int) := by omega
      have q1 : E = 3 := by rw [q1H.out, if_neg h6]
      have q2 : S = [] := by rw [q2H.out, if_neg h6]
      subst q1 q2
      clear hDz h6 hD
      go_wp2_with fail
      refine c2.mono ?_
      rintro e w2 ⟨rfl, b2⟩
      go_wp2
      go_ret2
      exact ⟨rfl, bw1.trans (below_le b2 bw1.size)⟩
end Go.Proofs.YtjacoodfhkaioaaGreatDoor
