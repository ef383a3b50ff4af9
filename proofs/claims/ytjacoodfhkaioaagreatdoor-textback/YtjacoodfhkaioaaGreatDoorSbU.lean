/- Texts of mine, one behind the other: TextAw, TextShow, TextShow2, TextShow3, TextShow4, TextShow5, TextPrintsW, TextListsM, TextListsN, TextListsW. -/
import Derived.Test.YtjacoodfhkaioaaGreatDoorSbT
import Derived.Test.YtjacoodfhkaioaaGreatDoorSbK
import Derived.Test.YtjacoodfhkaioaaGreatDoorSbI
import Derived.Test.YtjacoodfhkaioaaGreatDoorSbS
import Derived.Test.YtjacoodfhkaioaaGreatDoorSbH
namespace Go.Proofs.YtjacoodfhkaioaaGreatDoor
open Go.ChangeShapes Go.WideShapes Go.ChangeAt Go.RowKit Go.Shelf
set_option linter.unusedSimpArgs false
set_option linter.unusedVariables false
set_option maxRecDepth 2000
abbrev akO : ByteArray := ⟨#[111, 107]⟩
abbrev akT : Tm := tupT [atomT akO, numT 3 3]
abbrev akL : List UInt8 := [123, 111, 107, 44, 60, 51, 62, 125]
theorem ak4 : paE akL = 0 := by kernel_rfl
theorem ak5 : paT akL = some akT := by kernel_rfl
theorem ak6 : prE akT = 0 := by kernel_rfl
theorem ak7 : prS akT = akL := by kernel_rfl
theorem ak8 : ∀ p ∈ partsL [atomT akO, numT 3 3], p.ok1 ∧ fairB p = true := by
  intro p hp
  simp only [partsL, parts_atom, List.mem_append, List.mem_cons, List.not_mem_nil, or_false] at hp
  rcases hp with rfl | hp
  · exact ⟨gd_atom (nm := akO) (by decide) _ (by rw [parts_atom]; simp), by kernel_rfl⟩
  · have hp : p = numT 3 3 := by simpa [numT, parts, partsL] using hp
    subst hp
    exact ⟨gd_num 3 3 _ (by simp [numT, parts]), by kernel_rfl⟩
theorem akAtom_w (nm : ByteArray) (w : World) : Calls Tryz.prog 21 #[.string nm] w fun e w' => e = .returned (tmV 1 false nilS nm 0 nilS nilS) ∧ Below w.heap.size w w' := by
  go_enter Tryz.func21, Tryz.ntmps21
  go_wp2
  exact bodyPost_ret (v := tmV 1 false nilS nm 0 nilS nilS) (by simp [results, Tryz.results21, go_sem]) rfl ⟨rfl, (Below.refl _ w).alloc (Nat.le_refl _) _⟩
def AwakeOk : Prop := ∀ w : World, TabX w → Calls Tryz.prog 9 #[] w fun e w' => e = .returned (.bool true) ∧ Below w.heap.size w w'
set_option maxHeartbeats 4000000 in
theorem awake_ok : AwakeOk := by
  intro w hT
  have c1 := akAtom_w akO w
  go_enter Tryz.func9, Tryz.ntmps9
  go_wp2_with fail
  refine c1.mono ?_
  rintro e w1 ⟨rfl, b1⟩
  obtain ⟨W2, hW2⟩ : ∃ W2, W2 = w1.alloc (.cells #[.int .i64 1, .bool false, nilS, .string akO, .int .i64 0, nilS, nilS, .int .i64 3, .bool false, nilS, .string noS, .int .i64 3, nilS, nilS] 27) := ⟨_, rfl⟩
  have b2 : Below w1.heap.size w1 W2 := by rw [hW2]; exact (Below.refl _ w1).alloc (Nat.le_refl _) _
  have hg2 : W2.heap[w1.heap.size]? = some (.cells #[.int .i64 1, .bool false, nilS, .string akO, .int .i64 0, nilS, nilS, .int .i64 3, .bool false, nilS, .string noS, .int .i64 3, nilS, nilS] 27 (0, 0)) := by rw [hW2]; exact heap_alloc_new w1 _
  have hTR : TR (Low W2) W2 [atomT akO, numT 3 3] (some ⟨w1.heap.size, 0, none⟩) := tr_two (tv_flat 1 akO 0) (tv_flat 3 noS 3) hg2 (Array.getElem?_eq_some_iff.1 hg2).1
  have c2 := rTuple_w [atomT akO, numT 3 3] (some ⟨w1.heap.size, 0, none⟩) 2 W2 (by simp) ak8 hTR
  have bw2 := below_and b1 (Nat.le_refl _) b2
  rw [hW2] at c2
  have hW2H := hid hW2
  have bw2H := hid bw2
  have hTH := hid hT
  clear c1 b1 b2 hg2 hTR hW2 bw2 hT
  go_wp2_with fail
  refine c2.mono ?_
  rw [← hW2H.out]
  rintro e w3 ⟨v3, rfl, hV3, b3⟩
  have bw3 := below_and bw2H.out (Nat.le_refl _) b3
  have hTX := hTH.out.below bw3
  have c3 := print_w akT v3 w3 (by decide) (fun p hp => by
    rw [parts_tup] at hp
    rcases List.mem_cons.1 hp with rfl | hp
    · exact ⟨by simp, by decide, by simp, by simp, Lm.nil _⟩
    · exact (ak8 p hp).1) (TV.mono (fun k hk hz => hk) _ _ hV3) hTX.1.1 hTX.1 hTX.2
  rw [ak6, ak7, show (⟨akL.toArray⟩ : ByteArray) = ⟨#[123, 111, 107, 44, 60, 51, 62, 125]⟩ from rfl] at c3
  have bw3H := hid bw3
  clear c2 hV3 b3 bw3 hTX
  go_wp2_with fail
  refine c3.mono ?_
  rintro e w4 ⟨rfl, b4⟩
  have bw4 := below_and bw3H.out (Nat.le_refl _) b4
  have c4 := Parse_w akL w4 (hTH.out.below bw4) (by decide)
  rw [ak4, ak5, show bs akL = ⟨#[123, 111, 107, 44, 60, 51, 62, 125]⟩ from rfl] at c4
  have bw4H := hid bw4
  clear c3 b4 bw4
  go_wp2_with fail
  refine c4.mono ?_
  rintro e w5 ⟨v5, rfl, hV5, b5⟩
  have hV5' : TV (ZnS w4.heap.size w5) w5 akT v5 := hV5
  have bw5 := hid (below_and bw4H.out (Nat.le_refl _) b5)
  unfold tupT TV at hV5'
  obtain ⟨od, cd, ol, cl, ob, cb, rfl, _, _, _, _, _, hcl, hTR⟩ := hV5'
  obtain ⟨pa, pk, pneg, pod, pld, pcd, pnm, pn, pol, pll, pcl, pob, plb, pcb, rfl, hTp, y0, y1, y2, y3, y4, y5, y6⟩ := hTR.get3 (i := 1) (t := numT 3 3) rfl
  have hpn : pn = 3 := by
    unfold numT TV at hTp
    obtain ⟨_, _, _, _, _, _, e, _⟩ := hTp
    simp only [tmV, Value.agg.injEq, Array.mk.injEq, List.cons.injEq, Value.int.injEq, true_and] at e
    exact e.2.2.2.2.1
  subst hpn
  rw [Nat.one_mul, add7] at y0 y1 y2 y3 y4 y5 y6
  simp only [List.length_cons, List.length_nil, Nat.zero_add, Nat.reduceAdd]
  obtain ⟨W6, hW6⟩ : ∃ W6, W6 = w5.alloc (.cells #[.int .i64 4, .bool false, .slice od 0 cd, .string noS, .int .i64 0, .slice (some pa) 2 cl, .slice ob 0 cb] 27) := ⟨_, rfl⟩
  have b6 : Below w5.heap.size w5 W6 := by rw [hW6]; exact (Below.refl _ w5).alloc (Nat.le_refl _) _
  have hg6 : W6.heap[w5.heap.size]? = some (.cells #[.int .i64 4, .bool false, .slice od 0 cd, .string noS, .int .i64 0, .slice (some pa) 2 cl, .slice ob 0 cb] 27 (0, 0)) := by rw [hW6]; exact heap_alloc_new w5 _
  obtain ⟨x0, x1, x2, x3, x4, x5, x6⟩ := cell7 hg6
  have y4' := (b6.cell (World.block_lt_of_cell? _ _ y4)).trans y4
  have bw6 := hid (below_and bw5.out (Nat.le_refl _) b6)
  have hW6H := hid hW6
  clear hTR hTp y0 y1 y2 y3 y4 y5 y6 hV5 c4 b5 b6 hg6 hW6 hcl
  go_upto_region 3 with fail
  rw [← hW6H.out]
  go_wp2
  go_ret
  exact ⟨rfl, bw6.out⟩
end Go.Proofs.YtjacoodfhkaioaaGreatDoor
namespace Go.Proofs.YtjacoodfhkaioaaGreatDoor
open Go.ChangeShapes Go.WideShapes Go.ChangeAt Go.RowKit Go.Shelf
set_option linter.unusedSimpArgs false
set_option linter.unusedVariables false
set_option maxRecDepth 2000

/-- what is known of the limbs and the bytes of a part -/
def lmP : Tm → Prop | .mk _ _ d _ _ _ b => Lm 4294967296 d ∧ Lm 256 b
mutual
theorem TV.lm {Z : Nat → Prop} {w : World} : ∀ (t : Tm) (v : Value), TV Z w t v → ∀ p ∈ parts t, lmP p
  | .mk k neg d nm n l b, v, h, p, hp => by
    unfold TV at h
    obtain ⟨od, cd, ol, cl, ob, cb, hv, h1, h2, h3, h4, h5, h6, h7⟩ := h
    unfold parts at hp
    rcases List.mem_cons.1 hp with rfl | hp
    · exact ⟨h3, h4.2⟩
    · split at hp
      · exact TR.lm l ol h7 p hp
      · simp at hp
theorem TR.lm {Z : Nat → Prop} {w : World} : ∀ (l : List Tm) (o : Option Addr), TR Z w l o → ∀ p ∈ partsL l, lmP p
  | [], _, _, p, hp => by simp [partsL] at hp
  | t :: l, o, h, p, hp => by
    unfold TR at h
    obtain ⟨a, v, ho, hB, h1, h2, h3⟩ := h
    unfold partsL at hp
    rcases List.mem_append.1 hp with hp | hp
    · exact TV.lm t v h2 p hp
    · exact TR.lm l _ h3 p hp
end
def lmX (T : Tm) : Prop := ∀ p ∈ parts T, lmP p
theorem mem_parts_of {t p : Tm} (hp : p ∈ parts t) : ∀ {l : List Tm}, t ∈ l → p ∈ partsL l
  | [], h => by simp at h
  | u :: l, h => by
    simp only [partsL, List.mem_append]
    rcases List.mem_cons.1 h with rfl | h
    · exact .inl hp
    · exact .inr (mem_parts_of hp h)
theorem lmX.kid {T t : Tm} (h : lmX T) (ht : t ∈ T.kids) : lmX t := fun p hp => h p (by
  rw [parts_eq]
  exact List.mem_cons_of_mem _ (mem_parts_of hp ht))
theorem parts_kid {T t : Tm} (ht : t ∈ T.kids) : (parts t).length < (parts T).length := by
  rw [parts_eq T, List.length_cons]
  have h : ∀ {l : List Tm}, t ∈ l → (parts t).length ≤ (partsL l).length := by
    intro l
    induction l with
    | nil => intro h; simp at h
    | cons u l ih =>
      intro h
      simp only [partsL, List.length_append]
      rcases List.mem_cons.1 h with rfl | h
      · omega
      · have := ih h; omega
  have := h ht
  omega
theorem tx_len : ∀ (N : Nat) (T : Tm), (parts T).length ≤ N → okXs T → lmX T → (tx T).length ≤ 30000010 * (parts T).length ∧ (tb T).length ≤ 30000010 * (parts T).length + 2 := by
  intro N
  induction N with
  | zero => intro T hN; have := parts_pos T; omega
  | succ N ih =>
    intro T hN hok hlm
    cases T with | mk k neg d nm n l b =>
    have hX := hok.self
    have hL : lmP (.mk k neg d nm n l b) := hlm _ (by rw [parts_eq]; simp)
    have hp := parts_pos (.mk k neg d nm n l b)
    obtain ⟨_, _, _, _, _, x4, x6, _⟩ := id hX
    by_cases h46 : k = 4 ∨ k = 6
    · have hkids : (Tm.mk k neg d nm n l b).kids = l := by show (if k = 4 ∨ k = 6 then l else []) = l; rw [if_pos h46]
      have hpl := kids_mem hkids
      have hk : ∀ t ∈ l, (tx t).length ≤ 30000010 * (parts t).length ∧ (tb t).length ≤ 30000010 * (parts t).length + 2 := fun t ht => by
        have hm : t ∈ (Tm.mk k neg d nm n l b).kids := by rw [hkids]; exact ht
        have := parts_kid hm
        exact ih t (by omega) (hok.kid hm) (hlm.kid hm)
      rcases h46 with rfl | rfl
      · have h1 := join_sum 30000010 l (fun t ht => (hk t ht).1)
        have h2 := x4 rfl
        have e : (tx (.mk 4 neg d nm n l b)).length ≤ 30000010 * (parts (.mk 4 neg d nm n l b)).length - 10 := by
          rw [tx_tuple, hpl, Nat.mul_add]
          simp only [List.length_cons, List.length_append, List.length_nil]
          omega
        refine ⟨by omega, ?_⟩
        rw [tb_other (T := .mk 4 neg d nm n l b) (by show (4 : Int) ≠ 5; decide) (by show (4 : Int) ≠ 6; decide)]
        simp only [List.length_cons, List.length_append, List.length_nil]
        omega
      · obtain ⟨H, T, rfl⟩ := pair_of (x6 rfl)
        have h1 := (hk H (by simp)).1
        have h2 := (hk T (by simp)).2
        have e : (partsL [H, T]).length = (parts H).length + (parts T).length := by simp [partsL]
        rw [hpl, tx_cons, tb_cons, e]
        simp only [List.length_cons, List.length_append]
        omega
    · have h1 : (tx (.mk k neg d nm n l b)).length ≤ 30000000 := by rw [tx_leaf (by omega) (by omega)]; exact leaf_len hX hL.1 hL.2
      refine ⟨by omega, ?_⟩
      by_cases h5 : k = 5
      · subst h5; rw [tb_nil]; simp
      · rw [tb_other (T := .mk k neg d nm n l b) h5 (by show k ≠ 6; omega)]
        simp only [List.length_cons, List.length_append, List.length_nil]
        omega
/-- what show answers -/
def Shows (T : Tm) : Prop := ∀ (v : Value) (w : World), TV (Low w) w T v → TabsQ w → Calls Tryz.prog 27 #[v] w fun e w' => e = .returned (.string (bs (tx T))) ∧ Below w.heap.size w w'
theorem bs_lit (x : List UInt8) (a : Array UInt8) (h : a = x.toArray) : (⟨a⟩ : ByteArray) = bs x := by subst h; rfl
set_option maxHeartbeats 2000000 in
theorem show0 (k : Int) (neg : Bool) (d : List Nat) (nm : ByteArray) (n : Int) (l : List Tm) (b : List Nat) (hok : okX (.mk k neg d nm n l b)) (hk : k = 0 ∨ k = 1 ∨ k = 2 ∨ k = 3 ∨ k = 5) : Shows (.mk k neg d nm n l b) := by
  intro v w hT hQ
  rw [tx_leaf (by omega) (by omega)]
  obtain ⟨R, hR⟩ : ∃ R, bs (leafX k neg d nm n b) = R := ⟨_, rfl⟩
  rw [hR]
  have hRH := hid hR
  clear hR
  unfold TV at hT
  obtain ⟨od, cd, ol, cl, ob, cb, rfl, hLd, hcd, hLm, hLb, hcb, hcl, hTR⟩ := hT
  obtain ⟨k0, k7, x0, xn, x23, x4, x6, x7⟩ := hok
  unfold tmV
  obtain ⟨W, hW⟩ : ∃ W, W = w.alloc (.cells #[.int .i64 k, .bool neg, .slice od d.length cd, .string nm, .int .i64 n, .slice ol l.length cl, .slice ob b.length cb] 27) := ⟨_, rfl⟩
  have bW : Below w.heap.size w W := by rw [hW]; exact (Below.refl _ w).alloc (Nat.le_refl _) _
  have hgW : W.heap[w.heap.size]? = some (.cells #[.int .i64 k, .bool neg, .slice od d.length cd, .string nm, .int .i64 n, .slice ol l.length cl, .slice ob b.length cb] 27 (0, 0)) := by rw [hW]; exact heap_alloc_new w _
  obtain ⟨y0, y1, y2, y3, y4, y5, y6⟩ := cell7 hgW
  rcases hk with rfl | rfl | rfl | rfl | rfl
  · have c1 := numText_w _ _ 64 W (by omega) (nums_at (neg := neg) hLd hcd hLm (x0 rfl) bW)
    have e : R = ⟨(txt (sv neg (gval 4294967296 d))).toArray⟩ := by rw [← hRH.out]; unfold leafX; rw [if_pos rfl]; rfl
    clear x0 x23 x4 x6 x7
    go_enter Tryz.func27, Tryz.ntmps27
    go_upto_region 1 with fail
    rw [← hW]
    clear hW
    go_wp2_with fail
    refine c1.mono ?_
    rintro e' w1 ⟨rfl, b1⟩
    subst e
    go_wp2
    all_goals go_ret
    all_goals exact ⟨rfl, bW.trans (below_le b1 bW.size)⟩
  · have c1 := rquote_w nm W xn (hQ.below bW)
    have e : R = ⟨(quoteL nm.data.toList).toArray⟩ := by rw [← hRH.out]; unfold leafX; rw [if_neg (by decide), if_pos rfl]; rfl
    clear x0 x23 x4 x6 x7
    go_enter Tryz.func27, Tryz.ntmps27
    go_upto_region 1 with fail
    rw [← hW]
    clear hW
    go_wp2_with fail
    refine c1.mono ?_
    rintro e' w1 ⟨rfl, b1⟩
    subst e
    go_wp2
    all_goals go_ret
    all_goals exact ⟨rfl, bW.trans (below_le b1 bW.size)⟩
  · obtain ⟨n0, n1⟩ := x23 (.inl rfl)
    obtain ⟨m, rfl⟩ := Int.eq_ofNat_of_zero_le n0
    have c1 := digitsAll_w m (by omega) W
    have hl := Lib.itoa_length_le (m : Int) (by omega) (by omega)
    have e : (⟨#[35]⟩ : ByteArray) ++ bs (Lib.itoa (m : Int)) = R := by rw [← hRH.out, bs_lit [35] #[35] rfl, bs_cat]; unfold leafX; rw [if_neg (by decide), if_neg (by decide), if_pos rfl]; rfl
    have hsz : ¬ 9223372036854775807 < 1 + (bs (Lib.itoa (m : Int))).size := by rw [bs_size]; omega
    have hmz : (m : Int) ≤ 1073741824 := n1
    obtain ⟨D, hD⟩ : ∃ D, bs (Lib.itoa (m : Int)) = D := ⟨_, rfl⟩
    rw [hD] at c1 e hsz
    have hw : IntKind.u64.wrap (m : Int) = (m : Int) := by rw [IntKind.wrap_u64]; omega
    clear x0 x23 x4 x6 x7 n0 n1 hl hD
    go_enter Tryz.func27, Tryz.ntmps27
    go_upto_region 1 with fail
    rw [← hW]
    clear hW
    go_wp2_with fail
    refine c1.mono ?_
    rintro e' w1 ⟨rfl, b1⟩
    go_wp2
    all_goals go_ret
    all_goals exact ⟨rfl, bW.trans (below_le b1 bW.size)⟩
  · obtain ⟨n0, n1⟩ := x23 (.inr rfl)
    obtain ⟨m, rfl⟩ := Int.eq_ofNat_of_zero_le n0
    have c1 := digitsAll_w m (by omega) W
    have hl := Lib.itoa_length_le (m : Int) (by omega) (by omega)
    have e1 : (⟨#[60]⟩ : ByteArray) ++ bs (Lib.itoa (m : Int)) = bs (60 :: Lib.itoa (m : Int)) := by rw [bs_lit [60] #[60] rfl, bs_cat]; rfl
    have e2 : bs (60 :: Lib.itoa (m : Int)) ++ (⟨#[62]⟩ : ByteArray) = R := by rw [← hRH.out, bs_lit [62] #[62] rfl, bs_cat]; unfold leafX; rw [if_neg (by decide), if_neg (by decide), if_neg (by decide), if_pos rfl]; rfl
    have hsz : ¬ 9223372036854775807 < 1 + (bs (Lib.itoa (m : Int))).size := by rw [bs_size]; omega
    have hsz2 : ¬ 9223372036854775807 < (bs (60 :: Lib.itoa (m : Int))).size + 1 := by rw [bs_size, List.length_cons]; omega
    have hmz : (m : Int) ≤ 1073741824 := n1
    obtain ⟨D, hD⟩ : ∃ D, bs (Lib.itoa (m : Int)) = D := ⟨_, rfl⟩
    obtain ⟨D2, hD2⟩ : ∃ D2, bs (60 :: Lib.itoa (m : Int)) = D2 := ⟨_, rfl⟩
    rw [hD] at c1 e1 hsz
    rw [hD2] at e1 e2 hsz2
    have hw : IntKind.u64.wrap (m : Int) = (m : Int) := by rw [IntKind.wrap_u64]; omega
    clear x0 x23 x4 x6 x7 n0 n1 hl hD hD2
    go_enter Tryz.func27, Tryz.ntmps27
    go_upto_region 1 with fail
    rw [← hW]
    clear hW
    go_wp2_with fail
    refine c1.mono ?_
    rintro e' w1 ⟨rfl, b1⟩
    go_wp2
    all_goals go_ret
    all_goals exact ⟨rfl, bW.trans (below_le b1 bW.size)⟩
  · have e : R = ⟨#[91, 93]⟩ := by rw [← hRH.out]; unfold leafX; rw [if_neg (by decide), if_neg (by decide), if_neg (by decide), if_neg (by decide), if_neg (by decide)]; rfl
    clear x0 x23 x4 x6 x7
    go_enter Tryz.func27, Tryz.ntmps27
    go_upto_region 1 with fail
    rw [← hW]
    clear hW
    subst e
    go_wp2
    all_goals go_ret
    all_goals exact ⟨rfl, bW⟩
end Go.Proofs.YtjacoodfhkaioaaGreatDoor
namespace Go.Proofs.YtjacoodfhkaioaaGreatDoor
open Go.ChangeShapes Go.WideShapes Go.ChangeAt Go.RowKit Go.Shelf
set_option linter.unusedSimpArgs false
set_option linter.unusedVariables false
set_option maxRecDepth 2000

set_option maxHeartbeats 4000000 in
theorem show7 (neg : Bool) (d : List Nat) (nm : ByteArray) (n : Int) (l : List Tm) (b : List Nat) (hok : okX (.mk 7 neg d nm n l b)) : Shows (.mk 7 neg d nm n l b) := by
  intro v w hT hQ
  rw [tx_leaf (by omega) (by omega)]
  obtain ⟨R, hR⟩ : ∃ R, bs (leafX 7 neg d nm n b) = R := ⟨_, rfl⟩
  rw [hR]
  have hRH := hid hR
  clear hR
  obtain ⟨k, hk⟩ : ∃ k : Int, k = 7 := ⟨7, rfl⟩
  unfold TV at hT
  obtain ⟨od, cd, ol, cl, ob, cb, rfl, hLd, hcd, hLm, hLb, hcb, hcl, hTR⟩ := hT
  obtain ⟨k0, k7, x0, xn, x23, x4, x6, x7⟩ := hok
  have hb4 := x7 rfl
  clear x0 x23 x4 x6 x7 k0 k7
  rw [← hk]
  unfold tmV
  obtain ⟨W, hW⟩ : ∃ W, W = w.alloc (.cells #[.int .i64 k, .bool neg, .slice od d.length cd, .string nm, .int .i64 n, .slice ol l.length cl, .slice ob b.length cb] 27) := ⟨_, rfl⟩
  have bW : Below w.heap.size w W := by rw [hW]; exact (Below.refl _ w).alloc (Nat.le_refl _) _
  have hgW : W.heap[w.heap.size]? = some (.cells #[.int .i64 k, .bool neg, .slice od d.length cd, .string nm, .int .i64 n, .slice ol l.length cl, .slice ob b.length cb] 27 (0, 0)) := by rw [hW]; exact heap_alloc_new w _
  have hszW : W.heap.size = w.heap.size + 1 := by rw [hW]; simp
  obtain ⟨y0, y1, y2, y3, y4, y5, y6⟩ := cell7 hgW
  subst hk
  go_enter Tryz.func27, Tryz.ntmps27
  go_upto_region 1 with fail
  rw [← hW]
  clear hW
  have hbz : (b.length : Int) ≤ 4096 := by omega
  have hgWH := hid hgW
  go_wp2_with fail
  go_loopw [3, 4] (fun s v wr => ∃ (j : Nat) (S : ByteArray), s = .string S ∧ v = .int .i64 (j : Int) ∧ j ≤ b.length ∧ Hid (S = bs ([60, 60] ++ joinC ((b.take j).map byT))) ∧ Below W.heap.size W wr) (fun _ v _ => b.length - (intOf v).toNat)
  case atStart => exact ⟨0, ⟨#[60, 60]⟩, rfl, rfl, Nat.zero_le _, hid rfl, Below.refl _ _⟩
  case round =>
    obtain ⟨j, S, rfl, rfl, hj, hS, bw⟩ := hrel
    have hgr : wr.heap[w.heap.size]? = some (.cells #[.int .i64 7, .bool neg, .slice od d.length cd, .string nm, .int .i64 n, .slice ol l.length cl, .slice ob b.length cb] 27 (0, 0)) := (bw.block _ (by omega)).trans hgWH.out
    obtain ⟨z0, z1, z2, z3, z4, z5, z6⟩ := cell7 hgr
    clear hgr
    have hjl := joinC_len (b.take j) (fun x hx => hLb.2 x (List.mem_of_mem_take hx))
    rw [List.length_take] at hjl
    have hSl : S.size ≤ 200000 := by rw [hS.out, bs_size, List.length_append]; simp only [List.length_cons, List.length_nil]; omega
    clear hjl
    by_cases hjb : j < b.length
    · have hjz : (j : Int) < (b.length : Int) := by omega
      obtain ⟨x, hx⟩ : ∃ x, b[j]? = some x := ⟨b[j], by simp⟩
      obtain ⟨a, rfl, hZ, hc⟩ := hLb.1 j (.int .u8 (x : Int)) (by simp [bts, hx])
      have hx8 : x < 256 := hLb.2 x (List.mem_of_getElem? hx)
      have hbr : Below w.heap.size w wr := bW.trans (below_le bw bW.size)
      have hcr : wr.cell? (a.add j) = some (.int .u8 (x : Int)) := (hbr.cell (World.block_lt_of_cell? _ _ hc)).trans hc
      have hts : Hid ((b.take (j + 1)).map byT = (b.take j).map byT ++ [byT x]) := hid (by rw [take_snoc hx, List.map_append]; rfl)
      have c1 := fun w' => digitsAll_w x (by omega) w'
      have hdl := byT_len x hx8
      unfold byT at hdl
      have hw : IntKind.u64.wrap (x : Int) = (x : Int) := by rw [IntKind.wrap_u64]; omega
      obtain ⟨D, hD⟩ : ∃ D, bs (Lib.itoa (x : Int)) = D := ⟨_, rfl⟩
      have hDl : D.size ≤ 21 := by rw [← hD, bs_size]; exact hdl
      rw [hD] at c1
      have hDH := hid hD
      clear hc hx hZ hdl hD
      by_cases h0 : j = 0
      · subst h0
        rw [add_zero] at hcr
        obtain ⟨S2, hS2⟩ : ∃ S2, S ++ D = S2 := ⟨_, rfl⟩
        have hsz : ¬ 9223372036854775807 < S.size + D.size := by omega
        go_wp2_with fail
        refine (c1 _).mono ?_
        rintro e w1 ⟨rfl, b1⟩
        go_wp2
        refine ⟨⟨1, S2, rfl, by go_num, by omega, hid ?_, bw.trans (below_le b1 bw.size)⟩, by simp [intOf]; omega⟩
        have e := hts.out
        simp only [Nat.zero_add, List.take_zero, List.map_nil, List.nil_append] at e
        rw [e, ← hS2, hS.out, ← hDH.out, bs_cat]
        simp [joinC, byT]
      · have hk0 : (0 : Int) < (j : Int) := by omega
        obtain ⟨S1, hS1⟩ : ∃ S1, S ++ (⟨#[44]⟩ : ByteArray) = S1 := ⟨_, rfl⟩
        obtain ⟨S2, hS2⟩ : ∃ S2, S1 ++ D = S2 := ⟨_, rfl⟩
        have hS1l : S1.size ≤ 200001 := by rw [← hS1, ByteArray.size_append]; show S.size + 1 ≤ _; omega
        have hsz1 : ¬ 9223372036854775807 < S.size + 1 := by omega
        have hsz : ¬ 9223372036854775807 < S1.size + D.size := by omega
        have h0H := hid h0
        clear h0
        go_wp2_with fail
        refine (c1 _).mono ?_
        rintro e w1 ⟨rfl, b1⟩
        go_wp2
        refine ⟨⟨j + 1, S2, rfl, by go_num, by omega, hid ?_, bw.trans (below_le b1 bw.size)⟩, by simp [intOf]; omega⟩
        have e := hts.out
        have hne : (b.take j).map byT ≠ [] := by
          intro e2
          have := congrArg List.length e2
          have h0 := h0H.out
          rw [List.length_map, List.length_take] at this
          simp only [List.length_nil] at this
          omega
        rw [e, joinC_snoc, if_neg hne, ← hS2, ← hS1, hS.out, ← hDH.out, bs_lit [44] #[44] rfl, bs_cat, bs_cat]
        simp [byT]
    · have hjz : ¬ (j : Int) < (b.length : Int) := by omega
      have e1 : S ++ (⟨#[62, 62]⟩ : ByteArray) = R := by
        rw [← hRH.out, hS.out, List.take_of_length_le (by omega), bs_lit [62, 62] #[62, 62] rfl, bs_cat]
        unfold leafX
        rw [if_neg (by decide), if_neg (by decide), if_neg (by decide), if_neg (by decide), if_pos rfl]
        simp
      have hsz : ¬ 9223372036854775807 < S.size + 2 := by omega
      clear hS
      go_wp2
      go_ret
      exact ⟨rfl, bW.trans (below_le bw bW.size)⟩
end Go.Proofs.YtjacoodfhkaioaaGreatDoor
namespace Go.Proofs.YtjacoodfhkaioaaGreatDoor
open Go.ChangeShapes Go.WideShapes Go.ChangeAt Go.RowKit Go.Shelf
set_option linter.unusedSimpArgs false
set_option linter.unusedVariables false
set_option maxRecDepth 2000

theorem partsL_tk (l : List Tm) (j : Nat) : (partsL (l.take j)).length ≤ (partsL l).length := by
  induction l generalizing j with
  | nil => simp
  | cons t l ih =>
    cases j with
    | zero => simp [partsL]
    | succ j =>
      have := ih j
      simp only [List.take_succ_cons, partsL, List.length_append]
      omega
theorem take_tm {l : List Tm} {j : Nat} {x : Tm} (h : l[j]? = some x) : l.take (j + 1) = l.take j ++ [x] := by
  rw [List.take_add_one, h]; rfl
set_option maxHeartbeats 4000000 in
theorem show4 (neg : Bool) (d : List Nat) (nm : ByteArray) (n : Int) (l : List Tm) (b : List Nat) (hok : okXs (.mk 4 neg d nm n l b)) (hlm : lmX (.mk 4 neg d nm n l b)) (hN : (parts (.mk 4 neg d nm n l b)).length ≤ 1000000) (ih : ∀ t ∈ l, Shows t) : Shows (.mk 4 neg d nm n l b) := by
  intro v w hT hQ
  rw [tx_tuple]
  obtain ⟨R, hR⟩ : ∃ R, bs (123 :: (joinC (l.map tx) ++ [125])) = R := ⟨_, rfl⟩
  rw [hR]
  have hRH := hid hR
  clear hR
  have hkids : (Tm.mk 4 neg d nm n l b).kids = l := by show (if (4 : Int) = 4 ∨ (4 : Int) = 6 then l else []) = l; rw [if_pos (.inl rfl)]
  have hpl := kids_mem hkids
  have hlens : ∀ t ∈ l, (tx t).length ≤ 30000010 * (parts t).length := fun t ht => by
    have hm : t ∈ (Tm.mk 4 neg d nm n l b).kids := by rw [hkids]; exact ht
    exact (tx_len _ t (Nat.le_refl _) (hok.kid hm) (hlm.kid hm)).1
  have hP : (partsL l).length ≤ 1000000 := by omega
  have hPk : ∀ t ∈ l, (parts t).length ≤ 1000000 := fun t ht => by
    have hm : t ∈ (Tm.mk 4 neg d nm n l b).kids := by rw [hkids]; exact ht
    have := parts_kid hm
    omega
  have hsum : ∀ j, (joinC ((l.take j).map tx)).length ≤ 30000010 * 1000000 + 255 := fun j => by
    have h1 := join_sum 30000010 (l.take j) (fun t ht => hlens t (List.mem_of_mem_take ht))
    have h2 := partsL_tk l j
    have h3 : l.length ≤ 255 := hok.self.2.2.2.2.2.1 rfl
    have h4 : (l.take j).length ≤ l.length := by rw [List.length_take]; omega
    have h5 := Nat.mul_le_mul_left 30000010 (Nat.le_trans h2 hP)
    omega
  have hl4 : l.length ≤ 255 := hok.self.2.2.2.2.2.1 rfl
  have hlz : (l.length : Int) ≤ 255 := by omega
  have hsumH := hid hsum
  have hlenH := hid hlens
  have hPkH := hid hPk
  clear hpl hP hsum hlens hPk hok hlm hN hkids
  obtain ⟨k, hk⟩ : ∃ k : Int, k = 4 := ⟨4, rfl⟩
  unfold TV at hT
  obtain ⟨od, cd, ol, cl, ob, cb, rfl, hLd, hcd, hLm, hLb, hcb, hcl, hTR⟩ := hT
  rw [← hk]
  unfold tmV
  obtain ⟨W, hW⟩ : ∃ W, W = w.alloc (.cells #[.int .i64 k, .bool neg, .slice od d.length cd, .string nm, .int .i64 n, .slice ol l.length cl, .slice ob b.length cb] 27) := ⟨_, rfl⟩
  have bW : Below w.heap.size w W := by rw [hW]; exact (Below.refl _ w).alloc (Nat.le_refl _) _
  have hgW : W.heap[w.heap.size]? = some (.cells #[.int .i64 k, .bool neg, .slice od d.length cd, .string nm, .int .i64 n, .slice ol l.length cl, .slice ob b.length cb] 27 (0, 0)) := by rw [hW]; exact heap_alloc_new w _
  have hszW : W.heap.size = w.heap.size + 1 := by rw [hW]; simp
  obtain ⟨y0, y1, y2, y3, y4, y5, y6⟩ := cell7 hgW
  subst hk
  go_enter Tryz.func27, Tryz.ntmps27
  go_upto_region 1 with fail
  rw [← hW]
  clear hW
  have hgWH := hid hgW
  have hTRH := hid hTR
  clear hTR hLd hLm hLb
  go_wp2_with fail
  go_loopw [5, 6] (fun s v wr => ∃ (j : Nat) (S : ByteArray), s = .string S ∧ v = .int .i64 (j : Int) ∧ j ≤ l.length ∧ Hid (S = bs ([123] ++ joinC ((l.take j).map tx))) ∧ Below W.heap.size W wr) (fun _ v _ => l.length - (intOf v).toNat)
  case atStart => exact ⟨0, ⟨#[123]⟩, rfl, rfl, Nat.zero_le _, hid rfl, Below.refl _ _⟩
  case round =>
    obtain ⟨j, S, rfl, rfl, hj, hS, bw⟩ := hrel
    have hgr : wr.heap[w.heap.size]? = some (.cells #[.int .i64 4, .bool neg, .slice od d.length cd, .string nm, .int .i64 n, .slice ol l.length cl, .slice ob b.length cb] 27 (0, 0)) := (bw.block _ (by omega)).trans hgWH.out
    obtain ⟨z0, z1, z2, z3, z4, z5, z6⟩ := cell7 hgr
    clear hgr
    have hjl := hsumH.out j
    have hSl : S.size ≤ 30000010000300 := by rw [hS.out, bs_size, List.length_append]; simp only [List.length_cons, List.length_nil]; omega
    clear hjl
    by_cases hjb : j < l.length
    · have hjz : (j : Int) < (l.length : Int) := by omega
      obtain ⟨x, hx⟩ : ∃ x, l[j]? = some x := ⟨l[j], by simp⟩
      have hxm : x ∈ l := List.mem_of_getElem? hx
      have hbr : Below w.heap.size w wr := bW.trans (below_le bw bW.size)
      obtain ⟨a, kk, neg1, od1, ld1, cd1, nm1, n1, oo1, ll1, cc1, ob1, lb1, cb1, rfl, hTV, u0, u1, u2, u3, u4, u5, u6⟩ := hTRH.out.get2 hx hbr
      have hts : Hid ((l.take (j + 1)).map tx = (l.take j).map tx ++ [tx x]) := hid (by rw [take_tm hx, List.map_append]; rfl)
      have c2 := fun w' (hb' : Below w.heap.size w w') => ih x hxm _ w' (tv_below hTV hb') (hQ.below hb')
      unfold tmV at c2
      obtain ⟨D, hD⟩ : ∃ D, bs (tx x) = D := ⟨_, rfl⟩
      have hDl : D.size ≤ 30000010000300 := by
        have h1 := hlenH.out x hxm
        have h2 := hPkH.out x hxm
        have h3 := Nat.mul_le_mul_left 30000010 h2
        rw [← hD, bs_size]; omega
      rw [hD] at c2
      have hDH := hid hD
      clear hD hx hTV
      by_cases h0 : j = 0
      · subst h0
        rw [Nat.zero_mul, add_zero] at u0 u1 u2 u3 u4 u5 u6
        obtain ⟨S2, hS2⟩ : ∃ S2, S ++ D = S2 := ⟨_, rfl⟩
        have hsz : ¬ 9223372036854775807 < S.size + D.size := by omega
        go_wp2_with fail
        refine (c2 _ hbr).mono ?_
        rintro e w1 ⟨rfl, b1⟩
        go_wp2
        refine ⟨⟨1, S2, rfl, by go_num, by omega, hid ?_, bw.trans (below_le b1 bw.size)⟩, by simp [intOf]; omega⟩
        have e := hts.out
        simp only [Nat.zero_add, List.take_zero, List.map_nil, List.nil_append] at e
        rw [e, ← hS2, hS.out, ← hDH.out, bs_cat]
        simp [joinC]
      · have hk0 : (0 : Int) < (j : Int) := by omega
        obtain ⟨S1, hS1⟩ : ∃ S1, S ++ (⟨#[44]⟩ : ByteArray) = S1 := ⟨_, rfl⟩
        obtain ⟨S2, hS2⟩ : ∃ S2, S1 ++ D = S2 := ⟨_, rfl⟩
        have hS1l : S1.size ≤ 30000010000301 := by rw [← hS1, ByteArray.size_append]; show S.size + 1 ≤ _; omega
        have hsz1 : ¬ 9223372036854775807 < S.size + 1 := by omega
        have hsz : ¬ 9223372036854775807 < S1.size + D.size := by omega
        have h0H := hid h0
        clear h0
        go_wp2_with fail
        refine (c2 _ hbr).mono ?_
        rintro e w1 ⟨rfl, b1⟩
        go_wp2
        refine ⟨⟨j + 1, S2, rfl, by go_num, by omega, hid ?_, bw.trans (below_le b1 bw.size)⟩, by simp [intOf]; omega⟩
        have e := hts.out
        have hne : (l.take j).map tx ≠ [] := by
          intro e2
          have := congrArg List.length e2
          have h0 := h0H.out
          rw [List.length_map, List.length_take] at this
          simp only [List.length_nil] at this
          omega
        rw [e, joinC_snoc, if_neg hne, ← hS2, ← hS1, hS.out, ← hDH.out, bs_lit [44] #[44] rfl, bs_cat, bs_cat]
        simp
    · have hjz : ¬ (j : Int) < (l.length : Int) := by omega
      have e1 : S ++ (⟨#[125]⟩ : ByteArray) = R := by
        rw [← hRH.out, hS.out, List.take_of_length_le (by omega), bs_lit [125] #[125] rfl, bs_cat]
        simp
      have hsz : ¬ 9223372036854775807 < S.size + 1 := by omega
      clear hS
      go_wp2
      go_ret
      exact ⟨rfl, bW.trans (below_le bw bW.size)⟩
end Go.Proofs.YtjacoodfhkaioaaGreatDoor
namespace Go.Proofs.YtjacoodfhkaioaaGreatDoor
open Go.ChangeShapes Go.WideShapes Go.ChangeAt Go.RowKit Go.Shelf
set_option linter.unusedSimpArgs false
set_option linter.unusedVariables false
set_option maxRecDepth 2000

def szOf : Value → Nat
  | .string s => s.size
  | _ => 0
theorem TV.agg {Z : Nat → Prop} {w : World} {k : Int} {neg : Bool} {d : List Nat} {nm : ByteArray} {n : Int} {l : List Tm} {b : List Nat} {a0 a1 a2 a3 a4 a5 a6 : Value} (h : TV Z w (.mk k neg d nm n l b) (.agg #[a0, a1, a2, a3, a4, a5, a6])) :
    ∃ od cd ol cl ob cb, a0 = .int .i64 k ∧ a1 = .bool neg ∧ a2 = .slice od d.length cd ∧ a3 = .string nm ∧ a4 = .int .i64 n ∧ a5 = .slice ol l.length cl ∧ a6 = .slice ob b.length cb ∧ TR Z w l ol ∧ l.length ≤ cl := by
  unfold TV at h
  obtain ⟨od, cd, ol, cl, ob, cb, hv, h1, h2, h3, h4, h5, h6, h7⟩ := h
  simp [tmV] at hv
  obtain ⟨e0, e1, e2, e3, e4, e5, e6⟩ := hv
  exact ⟨od, cd, ol, cl, ob, cb, e0, e1, e2, e3, e4, e5, e6, h7, h6⟩
theorem parts_pair {neg : Bool} {d : List Nat} {nm : ByteArray} {n : Int} {H T : Tm} {b : List Nat} {p : Tm} (h : p ∈ parts H ∨ p ∈ parts T) : p ∈ parts (.mk 6 neg d nm n [H, T] b) := by
  rw [parts_eq]
  refine List.mem_cons_of_mem _ ?_
  show p ∈ partsL (if (6 : Int) = 4 ∨ (6 : Int) = 6 then [H, T] else [])
  rw [if_pos (.inr rfl)]
  simp only [partsL, List.append_nil, List.mem_append]
  exact h
theorem self_parts (T : Tm) : T ∈ parts T := by rw [parts_eq]; simp
set_option maxHeartbeats 4000000 in
theorem show6 (neg : Bool) (d : List Nat) (nm : ByteArray) (n : Int) (H T : Tm) (b : List Nat) (hall : ∀ p, p ∈ parts H ∨ p ∈ parts T → Shows p ∧ okX p) (hlen : (tx (.mk 6 neg d nm n [H, T] b)).length ≤ 40000000000000) : Shows (.mk 6 neg d nm n [H, T] b) := by
  intro v w hT hQ
  rw [tx_cons] at hlen ⊢
  obtain ⟨R, hR⟩ : ∃ R, bs (91 :: (tx H ++ tb T)) = R := ⟨_, rfl⟩
  have hRz : R.size ≤ 40000000000000 := by rw [← hR, bs_size]; exact hlen
  rw [hR]
  have hRH := hid hR
  clear hR hlen
  obtain ⟨k, hk⟩ : ∃ k : Int, k = 6 := ⟨6, rfl⟩
  unfold TV at hT
  obtain ⟨od, cd, ol, cl, ob, cb, rfl, hLd, hcd, hLm, hLb, hcb, hcl, hTR⟩ := hT
  have hallH := hid hall
  rw [← hk]
  unfold tmV
  obtain ⟨W, hW⟩ : ∃ W, W = w.alloc (.cells #[.int .i64 k, .bool neg, .slice od d.length cd, .string nm, .int .i64 n, .slice ol [H, T].length cl, .slice ob b.length cb] 27) := ⟨_, rfl⟩
  have bW : Below w.heap.size w W := by rw [hW]; exact (Below.refl _ w).alloc (Nat.le_refl _) _
  have hBW : Bx w.heap.size (.int .i64 k) (.bool neg) (.slice od d.length cd) (.string nm) (.int .i64 n) (.slice ol [H, T].length cl) (.slice ob b.length cb) W := by rw [hW]; exact Bx.new w _ _ _ _ _ _ _ _
  have hszW : W.heap.size = w.heap.size + 1 := by rw [hW]; simp
  simp only [List.length_cons, List.length_nil, Nat.zero_add, Nat.reduceAdd] at hBW hW hcl ⊢
  obtain ⟨y0, y1, y2, y3, y4, y5, y6⟩ := hBW.res
  subst hk
  obtain ⟨a, k0, neg0, od0, ld0, cd0, nm0, n0, ol0, ll0, cl0, ob0, lb0, cb0, ea, hT0, x0, x1, x2, x3, x4, x5, x6⟩ := hTR.get2 (i := 0) (t := H) rfl bW
  subst ea
  rw [Nat.zero_mul, add_zero] at x0 x1 x2 x3 x4 x5 x6
  have c1 := (hall H (.inl (self_parts H))).1 _ W (tv_below hT0 bW) (hQ.below bW)
  obtain ⟨D, hD⟩ : ∃ D, bs (tx H) = D := ⟨_, rfl⟩
  obtain ⟨S0, hS0⟩ : ∃ S0, (⟨#[91]⟩ : ByteArray) ++ D = S0 := ⟨_, rfl⟩
  have hS0R : S0 ++ bs (tb T) = R := by rw [← hRH.out, ← hS0, ← hD, bs_lit [91] #[91] rfl, bs_cat, bs_cat]; simp
  have hDz : D.size ≤ R.size := by rw [← hS0R, ← hS0, ByteArray.size_append, ByteArray.size_append]; omega
  have hsz : ¬ 9223372036854775807 < 1 + D.size := by omega
  rw [hD] at c1
  unfold tmV at c1
  have hBWH := hid hBW
  have hS0H := hid hS0R
  have hTRH := hid hTR
  clear hLd hLm hLb hall hBW hS0R hDz hD hTR hT0
  go_enter Tryz.func27, Tryz.ntmps27
  go_upto_region 1 with fail
  rw [← hW]
  clear hW
  go_wp2_with fail
  refine c1.mono ?_
  rintro e w1 ⟨rfl, b1⟩
  have hB1 := hBWH.out.below b1
  have bw1 := bW.trans (below_le b1 bW.size)
  obtain ⟨a', k1, neg1, od1, ld1, cd1, nm1, n1, ol1, ll1, cl1, ob1, lb1, cb1, ea, hT1, u0, u1, u2, u3, u4, u5, u6⟩ := hTRH.out.get2 (i := 1) (t := T) rfl bw1
  injection ea with ea
  subst ea
  rw [Nat.one_mul, add7] at u0 u1 u2 u3 u4 u5 u6
  clear c1 x0 x1 x2 x3 x4 x5 x6 y0 y1 y2 y3 y4 y5 y6 hBWH
  obtain ⟨y0, y1, y2, y3, y4, y5, y6⟩ := hB1.res
  have hfr := hB1.fr
  have hT1H := hid hT1
  have hB1H := hid hB1
  clear hT1 hB1
  go_wp2_with fail
  go_loopw [7] (fun s wr => ∃ (T' : Tm) (a0 a1 a2 a3 a4 a5 a6 : Value) (S : ByteArray), s = .string S ∧ Hid (S ++ bs (tb T') = R) ∧ Bx w.heap.size a0 a1 a2 a3 a4 a5 a6 wr ∧ Hid (TV (Low w) w T' (.agg #[a0, a1, a2, a3, a4, a5, a6])) ∧ Below w.heap.size w wr ∧ Hid (∀ p ∈ parts T', Shows p ∧ okX p)) (fun s _ => R.size - szOf s)
  case atStart => exact ⟨T, _, _, _, _, _, _, _, S0, rfl, hS0H, hB1H.out.put, hT1H, bw1.trans ((only_put _ _ _ _ _ _ _ _ _).below (Nat.le_refl _)), hid fun p hp => hallH.out p (.inr hp)⟩
  case round =>
    obtain ⟨T', a0, a1, a2, a3, a4, a5, a6, S, rfl, hS, hB, hTV, hbr, hP⟩ := hrel
    cases T' with | mk k' neg' d' nm' n' l' b' =>
    obtain ⟨od', cd', ol', cl', ob', cb', rfl, rfl, rfl, rfl, rfl, rfl, rfl, hTR', hcl'⟩ := hTV.out.agg
    obtain ⟨k0', k7', _, _, _, _, q6, _⟩ := (hP.out _ (self_parts _)).2
    have hself := (hP.out _ (self_parts _)).1
    clear u0 u1 u2 u3 u4 u5 u6 y0 y1 y2 y3 y4 y5 y6 hfr
    obtain ⟨z0, z1, z2, z3, z4, z5, z6⟩ := hB.res
    have hfr := hB.fr
    have hSz : S.size + (bs (tb (.mk k' neg' d' nm' n' l' b'))).size = R.size := by rw [← hS.out, ByteArray.size_append]
    by_cases h6 : k' = 6
    · subst h6
      obtain ⟨H', T', rfl⟩ := pair_of (q6 rfl)
      simp only [List.length_cons, List.length_nil, Nat.zero_add, Nat.reduceAdd] at z5 hcl' hB hTV hself
      rw [tb_cons] at hS hSz
      obtain ⟨a', k1, neg1, od1, ld1, cd1, nm1, n1, ol1, ll1, cl1, ob1, lb1, cb1, rfl, hT0, x0, x1, x2, x3, x4, x5, x6⟩ := hTR'.get2 (i := 0) (t := H') rfl hbr
      rw [Nat.zero_mul, add_zero] at x0 x1 x2 x3 x4 x5 x6
      have c1 := (hP.out H' (parts_pair (.inl (self_parts H')))).1 _ wr (tv_below hT0 hbr) (hQ.below hbr)
      obtain ⟨D, hD⟩ : ∃ D, bs (tx H') = D := ⟨_, rfl⟩
      obtain ⟨S1, hS1⟩ : ∃ S1, S ++ (⟨#[44]⟩ : ByteArray) = S1 := ⟨_, rfl⟩
      obtain ⟨S2, hS2⟩ : ∃ S2, S1 ++ D = S2 := ⟨_, rfl⟩
      have hS2R : S2 ++ bs (tb T') = R := by
        rw [← hS.out, ← hS2, ← hS1, ← hD, bs_lit [44] #[44] rfl]
        apply ByteArray.ext
        simp [bs]
      have hz1 : S1.size = S.size + 1 := by rw [← hS1, ByteArray.size_append]; rfl
      have hz2 : S2.size = S1.size + D.size := by rw [← hS2, ByteArray.size_append]
      have hz3 : S2.size + (bs (tb T')).size = R.size := by rw [← hS2R, ByteArray.size_append]
      have hsz1 : ¬ 9223372036854775807 < S.size + 1 := by omega
      have hsz2 : ¬ 9223372036854775807 < S1.size + D.size := by omega
      have hm : R.size - S2.size < R.size - S.size := by omega
      have hmH := hid hm
      have hS2H := hid hS2R
      have hTRH' := hid hTR'
      have hBH := hid hB
      have hPH := hid (fun p (hp : p ∈ parts T') => hP.out p (parts_pair (.inr hp)))
      rw [hD] at c1
      unfold tmV at c1
      clear hSz hz1 hz2 hz3 hm hS2R hS hTV hD hself hP hTR' hT0 hB
      go_wp2_with fail
      refine c1.mono ?_
      rintro e w2 ⟨rfl, b2⟩
      have hB2 := hBH.out.below b2
      have bw2 := hbr.trans (below_le b2 hbr.size)
      obtain ⟨a'', k3, neg3, od3, ld3, cd3, nm3, n3, ol3, ll3, cl3, ob3, lb3, cb3, ea, hT3, u0, u1, u2, u3, u4, u5, u6⟩ := hTRH'.out.get2 (i := 1) (t := T') rfl bw2
      injection ea with ea
      subst ea
      rw [Nat.one_mul, add7] at u0 u1 u2 u3 u4 u5 u6
      clear c1 x0 x1 x2 x3 x4 x5 x6 z0 z1 z2 z3 z4 z5 z6 hBH hfr
      obtain ⟨z0, z1, z2, z3, z4, z5, z6⟩ := hB2.res
      have hfr := hB2.fr
      have hT3H := hid hT3
      have hB2H := hid hB2
      clear hT3 hB2
      go_wp2
      exact ⟨⟨T', _, _, _, _, _, _, _, S2, rfl, hS2H, hB2H.out.put, hT3H, bw2.trans ((only_put _ _ _ _ _ _ _ _ _).below (Nat.le_refl _)), hPH⟩, hmH.out⟩
    · have hn6 : (k' == 6) = false := by simp [h6]
      by_cases h5 : k' = 5
      · subst h5
        rw [tb_nil] at hS hSz
        have e1 : S ++ (⟨#[93]⟩ : ByteArray) = R := by rw [← hS.out, bs_lit [93] #[93] rfl]
        have hsz : ¬ 9223372036854775807 < S.size + 1 := by omega
        clear hS hSz hTV hself hP hTR' hB
        go_wp2
        go_ret
        exact ⟨rfl, hbr⟩
      · have hn5 : (k' != 5) = true := by simp [h5]
        rw [tb_other (T := .mk k' neg' d' nm' n' l' b') h5 h6] at hS hSz
        have c1 := hself _ wr (tv_below hTV.out hbr) (hQ.below hbr)
        obtain ⟨D, hD⟩ : ∃ D, bs (tx (.mk k' neg' d' nm' n' l' b')) = D := ⟨_, rfl⟩
        obtain ⟨S1, hS1⟩ : ∃ S1, S ++ (⟨#[124]⟩ : ByteArray) = S1 := ⟨_, rfl⟩
        obtain ⟨S2, hS2⟩ : ∃ S2, S1 ++ D = S2 := ⟨_, rfl⟩
        have e1 : S2 ++ (⟨#[93]⟩ : ByteArray) = R := by
          rw [← hS.out, ← hS2, ← hS1, ← hD, bs_lit [124] #[124] rfl, bs_lit [93] #[93] rfl]
          apply ByteArray.ext
          simp [bs]
        have hz1 : S1.size = S.size + 1 := by rw [← hS1, ByteArray.size_append]; rfl
        have hz2 : S2.size = S1.size + D.size := by rw [← hS2, ByteArray.size_append]
        have hz3 : S2.size + 1 = R.size := by rw [← e1, ByteArray.size_append]; rfl
        have hsz1 : ¬ 9223372036854775807 < S.size + 1 := by omega
        have hsz2 : ¬ 9223372036854775807 < S1.size + D.size := by omega
        have hsz3 : ¬ 9223372036854775807 < S2.size + 1 := by omega
        rw [hD] at c1
        clear hSz hz1 hz2 hz3 hS hTV hD hself hP hTR' hB h5 h6
        go_wp2_with fail
        refine c1.mono ?_
        rintro e w2 ⟨rfl, b2⟩
        have bw2 := hbr.trans (below_le b2 hbr.size)
        go_wp2
        go_ret
        exact ⟨rfl, bw2⟩
end Go.Proofs.YtjacoodfhkaioaaGreatDoor
namespace Go.Proofs.YtjacoodfhkaioaaGreatDoor
open Go.ChangeShapes Go.WideShapes Go.ChangeAt Go.RowKit Go.Shelf
set_option linter.unusedSimpArgs false
set_option linter.unusedVariables false
set_option maxRecDepth 2000

theorem mem_pL {q : Tm} : ∀ {l : List Tm}, q ∈ partsL l → ∃ t, t ∈ l ∧ q ∈ parts t
  | [], h => by simp [partsL] at h
  | t :: l, h => by
    simp only [partsL, List.mem_append] at h
    rcases h with h | h
    · exact ⟨t, by simp, h⟩
    · obtain ⟨u, hu, hq⟩ := mem_pL h
      exact ⟨u, List.mem_cons_of_mem _ hu, hq⟩
theorem parts_sub : ∀ (N : Nat) (T : Tm), (parts T).length ≤ N → ∀ q ∈ parts T, (parts q).length ≤ (parts T).length ∧ ∀ p ∈ parts q, p ∈ parts T := by
  intro N
  induction N with
  | zero => intro T h; have := parts_pos T; omega
  | succ N ih =>
    intro T hN q hq
    rw [parts_eq] at hq
    rcases List.mem_cons.1 hq with rfl | hq
    · exact ⟨Nat.le_refl _, fun p hp => hp⟩
    · obtain ⟨t, ht, hqt⟩ := mem_pL hq
      have h1 := parts_kid ht
      obtain ⟨h2, h3⟩ := ih t (by omega) q hqt
      refine ⟨by omega, fun p hp => ?_⟩
      rw [parts_eq]
      exact List.mem_cons_of_mem _ (mem_parts_of (h3 p hp) ht)
theorem show_w : ∀ (N : Nat) (T : Tm), (parts T).length ≤ N → okXs T → lmX T → (parts T).length ≤ 1000000 → Shows T := by
  intro N
  induction N with
  | zero => intro T h; have := parts_pos T; omega
  | succ N ih =>
    intro T hN hok hlm hM
    have hlen := (tx_len _ T (Nat.le_refl _) hok hlm).1
    cases T with | mk k neg d nm n l b =>
    have hX := hok.self
    obtain ⟨k0, k7, _, _, _, _, x6, _⟩ := id hX
    by_cases h4 : k = 4
    · subst h4
      refine show4 neg d nm n l b hok hlm hM (fun t ht => ?_)
      have hkids : (Tm.mk 4 neg d nm n l b).kids = l := by show (if (4 : Int) = 4 ∨ (4 : Int) = 6 then l else []) = l; rw [if_pos (.inl rfl)]
      have hm : t ∈ (Tm.mk 4 neg d nm n l b).kids := by rw [hkids]; exact ht
      have := parts_kid hm
      exact ih t (by omega) (hok.kid hm) (hlm.kid hm) (by omega)
    · by_cases h6 : k = 6
      · subst h6
        obtain ⟨H, T, rfl⟩ := pair_of (x6 rfl)
        refine show6 neg d nm n H T b (fun p hp => ?_) (by have := Nat.mul_le_mul_left 30000010 hM; omega)
        have hkids : (Tm.mk 6 neg d nm n [H, T] b).kids = [H, T] := by show (if (6 : Int) = 4 ∨ (6 : Int) = 6 then [H, T] else []) = [H, T]; rw [if_pos (.inr rfl)]
        have hpm : p ∈ parts (.mk 6 neg d nm n [H, T] b) := parts_pair hp
        have hsub := (parts_sub _ _ (Nat.le_refl _) p hpm).2
        have hlt : (parts p).length < (parts (.mk 6 neg d nm n [H, T] b)).length := by
          rcases hp with hp | hp
          · have h1 := parts_kid (T := .mk 6 neg d nm n [H, T] b) (t := H) (by rw [hkids]; simp)
            have h2 := (parts_sub _ H (Nat.le_refl _) p hp).1
            omega
          · have h1 := parts_kid (T := .mk 6 neg d nm n [H, T] b) (t := T) (by rw [hkids]; simp)
            have h2 := (parts_sub _ T (Nat.le_refl _) p hp).1
            omega
        exact ⟨ih p (by omega) (fun q hq => hok q (hsub q hq)) (fun q hq => hlm q (hsub q hq)) (by omega), hok p hpm⟩
      · by_cases h7 : k = 7
        · subst h7; exact show7 neg d nm n l b hX
        · exact show0 k neg d nm n l b hX (by omega)
set_option maxHeartbeats 4000000 in
theorem rprint_w (T : Tm) (v : Value) (w : World) (hok : ∀ p ∈ parts T, p.ok1) (hT : TV (Low w) w T v) (hTa : Tabs w) (hQ : TabsQ w) :
    Calls Tryz.prog 14 #[v] w fun e w' => e = .returned (.tuple #[.string ⟨(prS T).toArray⟩, .int .i64 (prE T)]) ∧ Below w.heap.size w w' := by
  obtain ⟨k, neg, od, ld, cd, nm, n, ol, ll, cl, ob, lb, cb, rfl⟩ := hT.form
  obtain ⟨W, hW⟩ : ∃ W, W = w.alloc (.cells #[.int .i64 k, .bool neg, .slice od ld cd, .string nm, .int .i64 n, .slice ol ll cl, .slice ob lb cb] 27) := ⟨_, rfl⟩
  have bW : Below w.heap.size w W := by rw [hW]; exact (Below.refl _ w).alloc (Nat.le_refl _) _
  have hgW : W.heap[w.heap.size]? = some (.cells #[.int .i64 k, .bool neg, .slice od ld cd, .string nm, .int .i64 n, .slice ol ll cl, .slice ob lb cb] 27 (0, 0)) := by rw [hW]; exact heap_alloc_new w _
  have hszW : W.heap.size = w.heap.size + 1 := by rw [hW]; simp
  obtain ⟨y0, y1, y2, y3, y4, y5, y6⟩ := cell7 hgW
  have c1 := rMay_w T _ W hok (tv_below hT bW) (hTa.below bW)
  obtain ⟨E, hE⟩ : ∃ E, prE T = E := ⟨_, rfl⟩
  obtain ⟨S, hS⟩ : ∃ S, prS T = S := ⟨_, rfl⟩
  rw [hE, hS]
  have hEH := hid hE
  have hSH := hid hS
  have hgWH := hid hgW
  have hTH := hid hT
  have hszH := hid hszW
  clear hE hS hgW hT hszW
  unfold tmV at c1 ⊢
  go_enter Tryz.func14, Tryz.ntmps14
  go_upto_region 1 with fail
  rw [← hW]
  clear hW
  cases hm : mayB T with
  | false =>
    have q1 : E = 1 := by rw [← hEH.out]; unfold prE; rw [hm]; rfl
    have q2 : S = [] := by rw [← hSH.out]; unfold prS; rw [hm]; rfl
    subst q1 q2
    rw [hm] at c1
    clear hm
    go_wp2_with fail
    refine c1.mono ?_
    rintro e w1 ⟨rfl, b1⟩
    go_wp2
    go_ret2
    exact ⟨rfl, bW.trans (below_le b1 bW.size)⟩
  | true =>
    obtain ⟨hX, hP⟩ := may_ok hok hm
    rw [hm] at c1
    have q1 : E = if (tx T).length ≤ 65536 then 0 else 3 := by rw [← hEH.out]; unfold prE; rw [hm]; rfl
    have q2 : S = if (tx T).length ≤ 65536 then tx T else [] := by rw [← hSH.out]; unfold prS; rw [hm]; rfl
    have q1H := hid q1
    have q2H := hid q2
    clear hm q1 q2
    go_wp2_with fail
    refine c1.mono ?_
    rintro e w1 ⟨rfl, b1⟩
    have bw1 := bW.trans (below_le b1 bW.size)
    have hg1 := (b1.block _ (by rw [hszH.out]; omega)).trans hgWH.out
    clear y0 y1 y2 y3 y4 y5 y6 c1
    obtain ⟨y0, y1, y2, y3, y4, y5, y6⟩ := cell7 hg1
    have c2 := show_w _ T (Nat.le_refl _) hX (TV.lm T _ hTH.out) (by omega) _ w1 (tv_below hTH.out bw1) (hQ.below bw1)
    obtain ⟨D, hD⟩ : ∃ D, bs (tx T) = D := ⟨_, rfl⟩
    have hDz : D.size = (tx T).length := by rw [← hD, bs_size]
    rw [hD] at c2
    unfold tmV at c2
    clear hg1
    by_cases h6 : (tx T).length ≤ 65536
    · have hz : ¬ (65536 : Int) < (D.size : Int) := by omega
      have q1 : E = 0 := by rw [q1H.out, if_pos h6]
      have q2 : (⟨S.toArray⟩ : ByteArray) = D := by rw [q2H.out, if_pos h6, ← hD]; rfl
      have q2K := hid q2
      subst q1
      clear hDz h6 q2 hD
      go_wp2_with fail
      refine c2.mono ?_
      rintro e w2 ⟨rfl, b2⟩
      go_wp2
      go_ret2
      exact ⟨by rw [q2K.out]; rfl, bw1.trans (below_le b2 bw1.size)⟩
    · have hz : (65536 : Int) < (D.size : Int) := by omega
      have q1 : E = 3 := by rw [q1H.out, if_neg h6]
      have q2 : S = [] := by rw [q2H.out, if_neg h6]
      subst q1 q2
      clear hDz h6 hD
      go_wp2_with fail
      refine c2.mono ?_
      rintro e w2 ⟨rfl, b2⟩
      go_wp2
      go_ret2
      exact ⟨rfl, bw1.trans (below_le b2 bw1.size)⟩
end Go.Proofs.YtjacoodfhkaioaaGreatDoor
namespace Go.Proofs.YtjacoodfhkaioaaGreatDoor.textPrints
open Go.ChangeShapes Go.WideShapes Go.ChangeAt Go.ChangeMaps Go.RowKit Go.Shelf
set_option linter.unusedSimpArgs false
set_option linter.unusedVariables false
set_option maxRecDepth 2000
abbrev Tabs (w : World) : Prop := TabX w
set_option maxHeartbeats 4000000 in
set_option maxRecDepth 4000 in
theorem walk {H : Type} (enc : TypeId × Value → H) (base : Nat) (w : World) (v0 : Value) (d0 : DataW H) (p0 : List MemPlace)
    (o0 : Value.okWide Tryz.prog w .any base 27 v0) (h0 : DataW.Trod enc Tryz.prog w 0 (fun _ => true) true 27 v0 d0 p0)
    (hT : Tabs w) :
    Calls Tryz.prog 4 #[v0] w fun e w' => e = .returned (.bool true) ∧ Below w.heap.size w w' := by
  obtain ⟨T, hT0⟩ := open_term o0 h0
  clear o0 h0
  obtain ⟨k, neg, od, ld, cd, nm, n, ol, ll, cl, ob, lb, cb, rfl⟩ := hT0.form
  obtain ⟨kX, hBX, hz0⟩ := bx1 w (.int .i64 k) (.bool neg) (.slice od ld cd) (.string nm) (.int .i64 n) (.slice ol ll cl) (.slice ob lb cb) 27
  go_enter Tryz.func4, Tryz.ntmps4
  go_wp2_with fail
  generalize (w.alloc (.cells #[.int .i64 k, .bool neg, .slice od ld cd, .string nm, .int .i64 n, .slice ol ll cl, .slice ob lb cb] 27)) = W0 at *
  refine (awake_ok _ (hT.below hBX)).mono ?_
  rintro e w1 ⟨rfl, b1⟩
  have hB1 := below_and hBX (Nat.le_refl _) b1
  obtain ⟨x0, x1, x2, x3, x4, x5, x6⟩ := (kX.below b1).res
  have kX1 := kX.below b1
  clear hBX kX b1
  go_wp2_with fail
  refine (Room_w 60 (by omega) (tsz T) T _ 10 _ (Nat.le_refl _) (by omega) (by omega) (tv_below hT0 hB1)).mono ?_
  rintro e W8 ⟨rfl, b2⟩
  have hB2 := below_and hB1 (Nat.le_refl _) b2
  have kX2 := kX1.below b2
  have hTV2 := tv_below hT0 hB2
  clear x0 x1 x2 x3 x4 x5 x6 kX1 hB1 b2
  obtain ⟨bb, hbb⟩ : ∃ bb, roomB 60 10 T = bb := ⟨_, rfl⟩
  rw [hbb]
  cases bb with
  | false =>
    clear hbb
    go_wp2
    go_ret
    exact ⟨rfl, hB2⟩
  | true =>
  obtain ⟨hok, hdep⟩ := room_ok (by omega) T _ 10 hT0 hbb
  have hTX := hT.below hB2
  have c1 := print_w T _ W8 (by omega) hok hTV2 hTX.1.1 hTX.1 hTX.2
  have c2 := fun w' (hb : Below W8.heap.size W8 w') => rprint_w T _ w' hok (tv_below hTV2 hb) (hTX.below hb).1.1 (hTX.below hb).1
  obtain ⟨E, hE⟩ : ∃ E, prE T = E := ⟨_, rfl⟩
  obtain ⟨S, hS⟩ : ∃ S : ByteArray, ⟨(prS T).toArray⟩ = S := ⟨_, rfl⟩
  rw [hE, hS] at c1 c2
  obtain ⟨x0, x1, x2, x3, x4, x5, x6⟩ := kX2.res
  have kXH := hid kX2
  have hB2H := hid hB2
  clear hE hS hbb hok hdep hTX hT hT0 hTV2 hz0 kX2 hB2
  go_wp2_with fail
  refine c1.mono ?_
  rintro e w3 ⟨rfl, b3⟩
  have k3 := kXH.out.below b3
  clear x0 x1 x2 x3 x4 x5 x6
  obtain ⟨x0, x1, x2, x3, x4, x5, x6⟩ := k3.res
  clear k3
  go_wp2_with fail
  refine (c2 w3 b3).mono ?_
  rintro e w4 ⟨rfl, b4⟩
  have hbw := hid (below_and hB2H.out (Nat.le_refl _) (below_and b3 (Nat.le_refl _) b4))
  clear c1 c2
  go_wp2
  all_goals go_ret
  all_goals exact ⟨rfl, hbw.out⟩
end Go.Proofs.YtjacoodfhkaioaaGreatDoor.textPrints
namespace Go.Proofs.YtjacoodfhkaioaaGreatDoor
open Go.ChangeShapes Go.WideShapes Go.ChangeAt Go.RowKit Go.Shelf
set_option linter.unusedSimpArgs false
set_option linter.unusedVariables false
set_option maxRecDepth 2000

theorem txt_ge1 (Z : Int) : 1 ≤ (txt Z).length := by
  unfold txt txtN
  rw [List.length_map]
  split
  · simp
  · rename_i hz
    have : (glim 10 Z.natAbs).length ≠ 0 := by
      intro h
      have h1 := gval_glim (b := 10) (by omega) Z.natAbs
      rw [List.eq_nil_of_length_eq_zero h] at h1
      simp [gval] at h1
      omega
    simp only [List.length_reverse, List.length_append, List.length_map]
    omega
theorem quote_pos {l : List UInt8} (h : Lib.validD l = true) : 1 ≤ (quoteL l).length := by
  unfold quoteL
  rw [if_pos h]
  split
  · rename_i hp
    unfold plainB at hp
    rw [Bool.and_eq_true] at hp
    have := of_decide_eq_true hp.2
    cases l with
    | nil => exact absurd rfl this
    | cons x t => simp
  · have e : en (quoteR (sg l)) = e1 39 ++ en (escs (sg l) ++ [39]) := by
      unfold quoteR
      rw [← en_one 39, ← en_append]; rfl
    have h1 := e1_length 39
    rw [e, List.length_append]
    omega
theorem leaf_pos {k : Int} {neg : Bool} {d : List Nat} {nm : ByteArray} {n : Int} {l : List Tm} {b : List Nat} (h : fairB (.mk k neg d nm n l b) = true) : 1 ≤ (leafX k neg d nm n b).length := by
  unfold fairB at h
  rw [Bool.and_eq_true] at h
  have h2 := h.2
  unfold leafX
  by_cases h0 : k = 0
  · rw [if_pos h0]; exact txt_ge1 _
  · rw [if_neg h0]
    by_cases h1 : k = 1
    · rw [if_pos h1]
      subst h1
      refine quote_pos ?_
      unfold withinB at h2
      simp only [] at h2
      rw [if_neg h0, if_pos trivial, Bool.and_eq_true] at h2
      have h3 := of_decide_eq_true h2.1
      unfold countZ at h3
      split at h3
      · assumption
      · omega
    · rw [if_neg h1]
      repeat' split
      all_goals simp
theorem join_ge : ∀ (l : List Tm), (∀ t ∈ l, (parts t).length ≤ (tx t).length) → (partsL l).length ≤ (joinC (l.map tx)).length
  | [], _ => by simp [partsL]
  | [t], h => by
    have := h t (by simp)
    simp [joinC, partsL]; omega
  | t :: u :: l, h => by
    have ih := join_ge (u :: l) (fun x hx => h x (List.mem_cons_of_mem _ hx))
    have := h t (by simp)
    have e : (partsL (t :: u :: l)).length = (parts t).length + (partsL (u :: l)).length := by simp [partsL]
    simp only [List.map_cons, joinC, List.length_append, List.length_cons] at ih ⊢
    rw [e]
    omega
theorem parts_le : ∀ (N : Nat) (T : Tm), (parts T).length ≤ N → (∀ p ∈ parts T, fairB p = true) → okXs T → (parts T).length ≤ (tx T).length ∧ (parts T).length ≤ (tb T).length := by
  intro N
  induction N with
  | zero => intro T h; have := parts_pos T; omega
  | succ N ih =>
    intro T hN hf hok
    have hX := hok.self
    have hfs := hf T (self_parts T)
    cases T with | mk k neg d nm n l b =>
    obtain ⟨k0, k7, _, _, _, x4, x6, _⟩ := id hX
    by_cases h4 : k = 4
    · subst h4
      have hkids : (Tm.mk 4 neg d nm n l b).kids = l := by show (if (4 : Int) = 4 ∨ (4 : Int) = 6 then l else []) = l; rw [if_pos (.inl rfl)]
      have hpl := kids_mem hkids
      have h1 := join_ge l (fun t ht => by
        have hm : t ∈ (Tm.mk 4 neg d nm n l b).kids := by rw [hkids]; exact ht
        have := parts_kid hm
        exact (ih t (by omega) (fun p hp => hf p (by rw [parts_eq]; exact List.mem_cons_of_mem _ (mem_parts_of hp hm))) (hok.kid hm)).1)
      have e : (parts (.mk 4 neg d nm n l b)).length ≤ (tx (.mk 4 neg d nm n l b)).length := by
        rw [tx_tuple, hpl]
        simp only [List.length_cons, List.length_append, List.length_nil]
        omega
      refine ⟨e, ?_⟩
      rw [tb_other (T := .mk 4 neg d nm n l b) (by show (4 : Int) ≠ 5; decide) (by show (4 : Int) ≠ 6; decide)]
      simp only [List.length_cons, List.length_append, List.length_nil]
      omega
    · by_cases h6 : k = 6
      · subst h6
        obtain ⟨H, T, rfl⟩ := pair_of (x6 rfl)
        have hkids : (Tm.mk 6 neg d nm n [H, T] b).kids = [H, T] := by show (if (6 : Int) = 4 ∨ (6 : Int) = 6 then [H, T] else []) = [H, T]; rw [if_pos (.inr rfl)]
        have hpl := kids_mem hkids
        have e : (partsL [H, T]).length = (parts H).length + (parts T).length := by simp [partsL]
        have hH : H ∈ (Tm.mk 6 neg d nm n [H, T] b).kids := by rw [hkids]; simp
        have hT : T ∈ (Tm.mk 6 neg d nm n [H, T] b).kids := by rw [hkids]; simp
        have h1 := (ih H (by have := parts_kid hH; omega) (fun p hp => hf p (by rw [parts_eq]; exact List.mem_cons_of_mem _ (mem_parts_of hp hH))) (hok.kid hH)).1
        have h2 := (ih T (by have := parts_kid hT; omega) (fun p hp => hf p (by rw [parts_eq]; exact List.mem_cons_of_mem _ (mem_parts_of hp hT))) (hok.kid hT)).2
        rw [hpl, e, tx_cons, tb_cons]
        simp only [List.length_cons, List.length_append]
        omega
      · have hp1 : (parts (.mk k neg d nm n l b)).length = 1 := by
          rw [kids_mem (T := .mk k neg d nm n l b) (l := []) (by show (if k = 4 ∨ k = 6 then l else []) = []; rw [if_neg (by omega)])]
          simp [partsL]
        rw [hp1, tx_leaf h4 h6]
        refine ⟨leaf_pos hfs, ?_⟩
        by_cases h5 : k = 5
        · subst h5; rw [tb_nil]; simp
        · rw [tb_other (T := .mk k neg d nm n l b) h5 h6]
          simp
end Go.Proofs.YtjacoodfhkaioaaGreatDoor
namespace Go.Proofs.YtjacoodfhkaioaaGreatDoor
open Go.ChangeShapes Go.WideShapes Go.ChangeAt Go.RowKit Go.Shelf
set_option linter.unusedSimpArgs false
set_option linter.unusedVariables false
set_option maxRecDepth 2000

theorem fair_tupT (l : List Tm) (h : l.length ≤ 255) : fairB (tupT l) = true := by
  unfold fairB
  rw [leanB_of (by simp [tupT, prT]), Bool.true_and]
  unfold tupT withinB
  simp
  omega
theorem fair_consT (a b : Tm) : fairB (consT a b) = true := by
  unfold fairB
  rw [leanB_of (by simp [consT, prT]), Bool.true_and]
  unfold consT withinB
  simp
theorem fair_nilT : fairB nilT = true := by
  unfold fairB
  rw [leanB_of (by simp [nilT, prT]), Bool.true_and]
  unfold nilT withinB
  simp
theorem mem_partsL_all {l : List Tm} (h : ∀ t ∈ l, ∀ p ∈ parts t, fairB p = true) : ∀ p ∈ partsL l, fairB p = true := fun p hp => by
  obtain ⟨t, ht, hpt⟩ := mem_pL hp
  exact h t ht p hpt
theorem may_fair {t : Tm} (h : mayB t = true) : ∀ p ∈ parts t, fairB p = true := by
  unfold mayB at h
  rw [Bool.and_eq_true] at h
  exact List.all_eq_true.1 h.2
theorem parts_tupT (l : List Tm) : parts (tupT l) = tupT l :: partsL l := by simp [tupT, parts]
theorem parts_consT (a b : Tm) : parts (consT a b) = consT a b :: (parts a ++ parts b) := by simp [consT, parts, partsL]
theorem may_tupT {l : List Tm} (hl : l.length ≤ 255) (h : ∀ t ∈ l, mayB t = true) (hn : (partsL l).length + 1 ≤ 65536) : mayB (tupT l) = true := by
  unfold mayB
  rw [Bool.and_eq_true]
  constructor
  · refine decide_eq_true ?_
    unfold treeN
    rw [parts_tupT, List.length_cons]
    omega
  · refine List.all_eq_true.2 (fun p hp => ?_)
    rw [parts_tupT] at hp
    rcases List.mem_cons.1 hp with rfl | hp
    · exact fair_tupT l hl
    · exact mem_partsL_all (fun t ht => may_fair (h t ht)) p hp
theorem parts_listT : ∀ l : List Tm, (parts (listT l)).length = (partsL l).length + l.length + 1
  | [] => by simp [listT, nilT, parts, partsL]
  | t :: l => by
    have := parts_listT l
    show (parts (consT t (listT l))).length = _
    rw [parts_consT, List.length_cons, List.length_append, this]
    simp only [partsL, List.length_append, List.length_cons]
    omega
theorem fair_listT : ∀ l : List Tm, (∀ t ∈ l, mayB t = true) → ∀ p ∈ parts (listT l), fairB p = true
  | [], _, p, hp => by
    have : p = nilT := by simpa [listT, nilT, parts, partsL] using hp
    rw [this]; exact fair_nilT
  | t :: l, h, p, hp => by
    have hp : p ∈ parts (consT t (listT l)) := hp
    rw [parts_consT] at hp
    rcases List.mem_cons.1 hp with rfl | hp
    · exact fair_consT _ _
    · rcases List.mem_append.1 hp with hp | hp
      · exact may_fair (h t (by simp)) p hp
      · exact fair_listT l (fun u hu => h u (List.mem_cons_of_mem _ hu)) p hp
theorem may_listT {l : List Tm} (h : ∀ t ∈ l, mayB t = true) (hn : (partsL l).length + l.length + 1 ≤ 65536) : mayB (listT l) = true := by
  unfold mayB
  rw [Bool.and_eq_true]
  constructor
  · refine decide_eq_true ?_
    unfold treeN
    rw [parts_listT]
    omega
  · exact List.all_eq_true.2 (fair_listT l h)
theorem tx_tupT0 (l : List Tm) : tx (tupT l) = 123 :: (joinC (l.map tx) ++ [125]) := tx_tuple
theorem tb_listT : ∀ l : List Tm, tb (listT l) = (if l = [] then [] else 44 :: joinC (l.map tx)) ++ [93]
  | [] => tb_nil
  | t :: l => by
    have ih := tb_listT l
    show tb (consT t (listT l)) = _
    unfold consT
    rw [tb_cons, ih]
    cases l with
    | nil => simp [joinC]
    | cons u l => simp [joinC]
theorem tx_listT (l : List Tm) : tx (listT l) = 91 :: (joinC (l.map tx) ++ [93]) := by
  cases l with
  | nil =>
    show tx nilT = _
    unfold nilT
    rw [tx_leaf (by decide) (by decide)]
    simp [leafX, joinC]
  | cons t l =>
    have ih := tb_listT l
    show tx (consT t (listT l)) = _
    unfold consT
    rw [tx_cons, ih]
    cases l with
    | nil => simp [joinC]
    | cons u l => simp [joinC]
/-- what Print answers of a list, of a tuple, of few terms that may be and are not long -/
theorem lists_print {l : List Tm} (hl : l.length ≤ 20) (h : ∀ t ∈ l, mayB t = true) (hok : ∀ t ∈ l, ∀ p ∈ parts t, p.ok1) (hs : (joinC (l.map tx)).length ≤ 60000) :
    prE (listT l) = 0 ∧ prE (tupT l) = 0 ∧ prS (listT l) = 91 :: (joinC (l.map tx) ++ [93]) ∧ prS (tupT l) = 123 :: (joinC (l.map tx) ++ [125]) := by
  have hp := join_ge l (fun t ht => (parts_le _ t (Nat.le_refl _) (may_fair (h t ht)) (fun p hp => okX_fair p (hok t ht p hp) (may_fair (h t ht) p hp))).1)
  have m1 := may_listT h (by omega)
  have m2 := may_tupT (by omega) h (by omega)
  have l1 : (tx (listT l)).length ≤ 65536 := by rw [tx_listT]; simp; omega
  have l2 : (tx (tupT l)).length ≤ 65536 := by rw [tx_tupT0]; simp; omega
  unfold prE prS
  rw [m1, m2]
  simp only [if_true, if_pos l1, if_pos l2]
  exact ⟨trivial, trivial, tx_listT l, tx_tupT0 l⟩
end Go.Proofs.YtjacoodfhkaioaaGreatDoor
namespace Go.Proofs.YtjacoodfhkaioaaGreatDoor
open Go.ChangeShapes Go.WideShapes Go.ChangeAt Go.ChangeMaps Go.RowKit Go.Shelf
set_option linter.unusedSimpArgs false
set_option linter.unusedVariables false
set_option maxRecDepth 2000
/-- what Rooms says of the terms of a row -/
theorem rooms_facts7 {w : World} {l : List Tm} {o : Option Addr} (hT : TR (Low w) w l o) (h : l.all okRow = true) :
    (∀ p ∈ partsL l, p.ok1 ∧ fairB p = true) ∧ depL l ≤ 9 ∧ ∀ t ∈ l, (parts t).length ≤ 65536 := by
  rw [List.all_eq_true] at h
  have h1 : ∀ t ∈ l, (∀ p ∈ parts t, p.ok1 ∧ fairB p = true) ∧ dep t ≤ 9 ∧ (parts t).length ≤ 65536 := fun t ht => by
    have h2 := h t ht
    unfold okRow at h2
    rw [Bool.and_eq_true] at h2
    obtain ⟨v, hv⟩ := hT.mem ht
    obtain ⟨g1, g2⟩ := room_ok (by omega) t v 8 hv h2.1
    obtain ⟨g3, g4⟩ := may_parts h2.2
    exact ⟨fun p hp => ⟨g1 p hp, g4 p hp⟩, by omega, g3⟩
  clear h hT
  refine ⟨?_, ?_, fun t ht => (h1 t ht).2.2⟩
  · intro p hp
    induction l with
    | nil => simp [partsL] at hp
    | cons t l ih =>
      simp only [partsL, List.mem_append] at hp
      rcases hp with hp | hp
      · exact (h1 t (by simp)).1 p hp
      · exact ih (fun t ht => h1 t (by simp [ht])) hp
  · induction l with
    | nil => simp [depL]
    | cons t l ih =>
      simp only [depL]
      have := (h1 t (by simp)).2.1
      have := ih (fun t ht => h1 t (by simp [ht]))
      omega
theorem dep_mem {t : Tm} : ∀ {l : List Tm}, t ∈ l → dep t ≤ depL l
  | [], h => by simp at h
  | u :: l, h => by
    simp only [depL]
    rcases List.mem_cons.1 h with rfl | h
    · omega
    · have := dep_mem h; omega
theorem ok_listT : ∀ l : List Tm, (∀ p ∈ partsL l, p.ok1) → ∀ p ∈ parts (listT l), p.ok1
  | [], _, p, hp => by
    have : p = nilT := by simpa [listT, nilT, parts, partsL] using hp
    rw [this]; exact ok_flat 5 0 (by decide)
  | t :: l, h, p, hp => by
    have hp : p ∈ parts (consT t (listT l)) := hp
    rw [parts_consT] at hp
    rcases List.mem_cons.1 hp with rfl | hp
    · show (Tm.mk 6 false [] noS 0 [t, listT l] []).ok1
      exact ⟨by simp, by decide, by simp, by simp, Lm.nil _⟩
    · rcases List.mem_append.1 hp with hp | hp
      · exact h p (by simp [partsL, hp])
      · exact ok_listT l (fun q hq => h q (by simp [partsL, hq])) p hp
theorem ok_tupT (l : List Tm) (hl : l.length ≤ 255) (h : ∀ p ∈ partsL l, p.ok1) : ∀ p ∈ parts (tupT l), p.ok1 := fun p hp => by
  rw [parts_tupT] at hp
  rcases List.mem_cons.1 hp with rfl | hp
  · show (Tm.mk 4 false [] noS 0 l []).ok1
    exact ⟨by simp, by decide, by omega, by simp, Lm.nil _⟩
  · exact h p hp
theorem prE_zero {T : Tm} (h : prE T = 0) : mayB T = true ∧ (tx T).length ≤ 65536 ∧ prS T = tx T := by
  unfold prE at h
  unfold prS
  split at h
  · rename_i hm
    split at h
    · rename_i hl
      rw [if_pos hm, if_pos hl]
      exact ⟨hm, hl, rfl⟩
    · simp at h
  · simp at h
end Go.Proofs.YtjacoodfhkaioaaGreatDoor
namespace Go.Proofs.YtjacoodfhkaioaaGreatDoor.textLists
open Go.ChangeShapes Go.WideShapes Go.ChangeAt Go.ChangeMaps Go.RowKit Go.Shelf
set_option linter.unusedSimpArgs false
set_option linter.unusedVariables false
set_option maxRecDepth 2000
abbrev Tabs (w : World) : Prop := TabX w
set_option maxHeartbeats 4000000 in
set_option maxRecDepth 8000 in
theorem walk {H : Type} (enc : TypeId × Value → H) (base : Nat) (w : World) (v0 : Value) (d0 : DataW H) (p0 : List MemPlace)
    (o0 : Value.okWide Tryz.prog w .any base 24 v0) (h0 : DataW.Trod enc Tryz.prog w 0 (fun _ => true) true 24 v0 d0 p0)
    (hT : Tabs w) :
    Calls Tryz.prog 8 #[v0] w fun e w' => e = .returned (.bool true) ∧ Below w.heap.size w w' := by
  obtain ⟨o, l, c, rfl, hR0, hlc⟩ := open_terms o0 h0
  clear o0 h0
  go_enter Tryz.func8, Tryz.ntmps8
  go_wp2_with fail
  refine (awake_ok _ hT).mono ?_
  rintro e w1 ⟨rfl, B1⟩
  have hR1 := tr_below hR0 B1
  go_wp2_with fail
  refine (Rooms_w 20 (by omega) l o c _ hR1 (hT.below B1).1.1).mono ?_
  rintro e w2 ⟨rfl, b2⟩
  have B2 := below_and B1 (Nat.le_refl _) b2
  have hR2 := tr_below hR1 b2
  obtain ⟨bb, hbb⟩ : ∃ bb, (decide (l.length ≤ 20) && l.all okRow) = bb := ⟨_, rfl⟩
  rw [hbb]
  cases bb with
  | false =>
    clear hbb
    go_wp2
    go_ret
    exact ⟨rfl, B2⟩
  | true =>
  rw [Bool.and_eq_true] at hbb
  have hl20 : l.length ≤ 20 := of_decide_eq_true hbb.1
  have Hf := hid (rooms_facts7 hR2 hbb.2)
  have HT := hid (fun w' (hk : Below w.heap.size w w') => hT.below hk)
  have HB2 := hid B2
  have HR0 := hid hR0
  have hlz : (l.length : Int) ≤ 20 := by omega
  clear hbb hR0 hR1 B1 b2 hT B2 hR2
  go_wp2_with fail
  go_loopw [3, 4] (fun s v wr => ∃ (j : Nat) (S : ByteArray), s = .string S ∧ v = .int .i64 (j : Int) ∧ j ≤ l.length ∧ Hid (S = bs (joinC ((l.take j).map tx))) ∧ Hid (∀ t ∈ l.take j, mayB t = true) ∧ S.size ≤ 40001 ∧ Hid (Below w.heap.size w wr)) (fun _ v _ => l.length - (intOf v).toNat)
  case atStart => exact ⟨0, ⟨#[]⟩, rfl, rfl, Nat.zero_le _, hid rfl, hid (by simp), by decide, HB2⟩
  case round =>
    obtain ⟨j, S, rfl, rfl, hj, hS, hM, hSz, hB⟩ := hrel
    by_cases hjb : j < l.length
    · have hjz : (j : Int) < (l.length : Int) := by omega
      obtain ⟨x, hx⟩ : ∃ x, l[j]? = some x := ⟨l[j], by simp⟩
      have hxm : x ∈ l := List.mem_of_getElem? hx
      obtain ⟨a, kk, neg1, od1, ld1, cd1, nm1, n1, oo1, ll1, cc1, ob1, lb1, cb1, rfl, hTV, u0, u1, u2, u3, u4, u5, u6⟩ := HR0.out.get2 hx hB.out
      have c1 := print_w x _ wr (by have := dep_mem hxm; have := Hf.out.2.1; omega) (fun p hp => (Hf.out.1 p (mem_parts_of hp hxm)).1) (tv_below hTV hB.out) (HT.out _ hB.out).1.1 (HT.out _ hB.out).1 (HT.out _ hB.out).2
      unfold tmV at c1
      obtain ⟨E, hE⟩ : ∃ E, prE x = E := ⟨_, rfl⟩
      obtain ⟨D, hD⟩ : ∃ D : ByteArray, ⟨(prS x).toArray⟩ = D := ⟨_, rfl⟩
      rw [hE, hD] at c1
      have hEH := hid hE
      have hDH := hid hD
      have hts : Hid ((l.take (j + 1)).map tx = (l.take j).map tx ++ [tx x]) := hid (by rw [take_tm hx, List.map_append]; rfl)
      have htk : Hid (l.take (j + 1) = l.take j ++ [x]) := hid (take_tm hx)
      have hSb := hid hSz
      clear hE hD hx hTV
      go_wp2_with fail
      refine c1.mono ?_
      rintro e w3 ⟨rfl, b3⟩
      have hB3 := hid (below_and hB.out (Nat.le_refl _) b3)
      clear c1
      by_cases hE0 : E = 0
      · subst hE0
        obtain ⟨hm, _, hp⟩ := prE_zero hEH.out
        have hDe : Hid (D = bs (tx x)) := hid (by rw [← hDH.out, hp]; rfl)
        have hM' : Hid (∀ t ∈ l.take (j + 1), mayB t = true) := hid (by
          rw [htk.out]
          intro t ht
          rcases List.mem_append.1 ht with ht | ht
          · exact hM.out t ht
          · simp at ht; rw [ht]; exact hm)
        clear hp hm
        by_cases hs2 : (20000 : Int) < (S.size : Int)
        · go_wp2
          go_ret
          exact ⟨rfl, hB3.out⟩
        · by_cases hd2 : (20000 : Int) < (D.size : Int)
          · go_wp2
            go_ret
            exact ⟨rfl, hB3.out⟩
          · by_cases h0 : j = 0
            · subst h0
              obtain ⟨S2, hS2⟩ : ∃ S2, S ++ D = S2 := ⟨_, rfl⟩
              have hsz : ¬ 9223372036854775807 < S.size + D.size := by omega
              have hz2 : S2.size ≤ 40001 := by rw [← hS2, ByteArray.size_append]; omega
              have hz2H := hid hz2
              have hS2H : Hid (S2 = bs (joinC ((l.take 1).map tx))) := hid (by
                have e := hts.out
                simp only [Nat.zero_add, List.take_zero, List.map_nil, List.nil_append] at e
                rw [e, ← hS2, hS.out, hDe.out, bs_cat]
                simp [joinC])
              clear hz2
              go_wp2
              exact ⟨⟨1, S2, rfl, by go_num, by omega, hS2H, hM', hz2H.out, hB3⟩, by simp [intOf]; omega⟩
            · have hk0 : (0 : Int) < (j : Int) := by omega
              obtain ⟨S1, hS1⟩ : ∃ S1, S ++ (⟨#[44]⟩ : ByteArray) = S1 := ⟨_, rfl⟩
              obtain ⟨S2, hS2⟩ : ∃ S2, S1 ++ D = S2 := ⟨_, rfl⟩
              have hz1 : S1.size = S.size + 1 := by rw [← hS1, ByteArray.size_append]; rfl
              have hz2 : S2.size ≤ 40001 := by rw [← hS2, ByteArray.size_append]; omega
              have hsz1 : ¬ 9223372036854775807 < S.size + 1 := by omega
              have hsz : ¬ 9223372036854775807 < S1.size + D.size := by omega
              have hz2H := hid hz2
              have hS2H : Hid (S2 = bs (joinC ((l.take (j + 1)).map tx))) := hid (by
                have e := hts.out
                have hne : (l.take j).map tx ≠ [] := by
                  intro e2
                  have := congrArg List.length e2
                  rw [List.length_map, List.length_take] at this
                  simp only [List.length_nil] at this
                  omega
                rw [e, joinC_snoc, if_neg hne, ← hS2, ← hS1, hS.out, hDe.out, bs_lit [44] #[44] rfl, bs_cat, bs_cat]
                simp)
              clear hz1 hz2 h0
              go_wp2
              exact ⟨⟨j + 1, S2, rfl, by go_num, by omega, hS2H, hM', hz2H.out, hB3⟩, by simp [intOf]; omega⟩
      · have hne : (E != 0) = true := by simp [hE0]
        go_wp2
        go_ret
        exact ⟨rfl, hB3.out⟩
    · have hjz : ¬ (j : Int) < (l.length : Int) := by omega
      have hall : l.take j = l := List.take_of_length_le (by omega)
      have hM2 := hM.out
      have hS2 := hS.out
      rw [hall] at hM2 hS2
      have hJ : (joinC (l.map tx)).length ≤ 60000 := by rw [hS2, bs_size] at hSz; omega
      obtain ⟨p1, p2, p3, p4⟩ := lists_print hl20 hM2 (fun t ht p hp => (Hf.out.1 p (mem_parts_of hp ht)).1) hJ
      obtain ⟨Y1, hY1⟩ : ∃ Y1, (⟨#[91]⟩ : ByteArray) ++ S = Y1 := ⟨_, rfl⟩
      obtain ⟨Y2, hY2⟩ : ∃ Y2, (⟨#[123]⟩ : ByteArray) ++ S = Y2 := ⟨_, rfl⟩
      obtain ⟨X1, hX1⟩ : ∃ X1 : ByteArray, ⟨(91 :: (joinC (l.map tx) ++ [93])).toArray⟩ = X1 := ⟨_, rfl⟩
      obtain ⟨X2, hX2⟩ : ∃ X2 : ByteArray, ⟨(123 :: (joinC (l.map tx) ++ [125])).toArray⟩ = X2 := ⟨_, rfl⟩
      have e1 : Y1 ++ (⟨#[93]⟩ : ByteArray) = X1 := by
        rw [← hY1, ← hX1, hS2, bs_lit [91] #[91] rfl, bs_lit [93] #[93] rfl, bs_cat, bs_cat]
        simp [bs]
      have e2 : Y2 ++ (⟨#[125]⟩ : ByteArray) = X2 := by
        rw [← hY2, ← hX2, hS2, bs_lit [123] #[123] rfl, bs_lit [125] #[125] rfl, bs_cat, bs_cat]
        simp [bs]
      have hz1 : Y1.size = 1 + S.size := by rw [← hY1, ByteArray.size_append]; rfl
      have hz2 : Y2.size = 1 + S.size := by rw [← hY2, ByteArray.size_append]; rfl
      have hq1 : ¬ 9223372036854775807 < 1 + S.size := by omega
      have hq2 : ¬ 9223372036854775807 < Y1.size + 1 := by omega
      have hq3 : ¬ 9223372036854775807 < Y2.size + 1 := by omega
      have hdep := dep_list l
      have hdep2 : dep (tupT l) = depL l + 1 := by simp [tupT, dep]
      have hd9 := Hf.out.2.1
      have hok := fun p hp => (Hf.out.1 p hp).1
      have c1 := rList_w l o c wr (by omega) Hf.out.1 (tr_below HR0.out hB.out)
      have c2 := fun w' v' (hb : Below w.heap.size w w') hv => print_w (listT l) v' w' (by omega) (ok_listT l hok) hv (HT.out _ hb).1.1 (HT.out _ hb).1 (HT.out _ hb).2
      have c3 := fun w' (hb : Below w.heap.size w w') => rTuple_w l o c w' (by omega) Hf.out.1 (tr_below HR0.out hb)
      have c4 := fun w' v' (hb : Below w.heap.size w w') hv => print_w (tupT l) v' w' (by omega) (ok_tupT l (by omega) hok) hv (HT.out _ hb).1.1 (HT.out _ hb).1 (HT.out _ hb).2
      rw [p1, p3, hX1] at c2
      rw [p2, p4, hX2] at c4
      clear hall hM2 hS2 hJ p1 p2 p3 p4 hX1 hX2 hz1 hz2 hdep hdep2 hd9 hok hS hM
      go_wp2_with fail
      refine c1.mono ?_
      rintro e w3 ⟨v3, rfl, hT3, b3⟩
      have B3 := below_and hB.out (Nat.le_refl _) b3
      go_wp2_with fail
      refine (c2 w3 v3 B3 (tv_low hT3)).mono ?_
      rintro e w4 ⟨rfl, b4⟩
      have B4 := below_and B3 (Nat.le_refl _) b4
      clear hT3 b3 b4 c1 c2
      go_wp2_with fail
      refine (c3 w4 B4).mono ?_
      rintro e w5 ⟨v5, rfl, hT5, b5⟩
      have B5 := below_and B4 (Nat.le_refl _) b5
      go_wp2_with fail
      refine (c4 w5 v5 B5 (tv_low hT5)).mono ?_
      rintro e w6 ⟨rfl, b6⟩
      have B6 := hid (below_and B5 (Nat.le_refl _) b6)
      clear hT5 b5 b6 c3 c4 B3 B4 B5
      go_wp2
      all_goals go_ret
      all_goals exact ⟨rfl, B6.out⟩
end Go.Proofs.YtjacoodfhkaioaaGreatDoor.textLists
