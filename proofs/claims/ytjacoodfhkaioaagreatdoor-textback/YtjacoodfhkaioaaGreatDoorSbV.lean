/- Texts of mine, one behind the other: RSame, TextUnlikeW, TextBk8, TextBackW. -/
import Derived.Test.YtjacoodfhkaioaaGreatDoorSbO
import Derived.Test.YtjacoodfhkaioaaGreatDoorSbU
import Derived.Test.YtjacoodfhkaioaaGreatDoorSbR
import Derived.Test.YtjacoodfhkaioaaGreatDoorSbT
namespace Go.Proofs.YtjacoodfhkaioaaGreatDoor
open Go.ChangeShapes Go.WideShapes Go.ChangeAt Go.ChangeMaps Go.RowKit Go.Shelf
set_option linter.unusedSimpArgs false
set_option linter.unusedVariables false
set_option maxRecDepth 2000
set_option maxHeartbeats 2000000 in
theorem rSame_w (A U : Tm) (va vb : Value) (w : World) (hoA : ∀ p ∈ parts A, p.ok1) (hoU : ∀ p ∈ parts U, p.ok1) (hA : TV (Low w) w A va) (hU : TV (Low w) w U vb) (hT : Tabs w) :
    Calls Tryz.prog 17 #[va, vb] w fun e w' => e = .returned (.bool (cT A U == 0)) ∧ Below w.heap.size w w' := by
  have HA := hid hA
  have HU := hid hU
  obtain ⟨pk, pneg, pod, pld, pcd, pnm, pn, pol, pll, pcl, pob, plb, pcb, rfl⟩ := hA.form
  obtain ⟨qk, qneg, qod, qld, qcd, qnm, qn, qol, qll, qcl, qob, qlb, qcb, rfl⟩ := hU.form
  clear hA hU
  obtain ⟨kA, kB, hB0, hz0⟩ := bx2 w (.int .i64 pk) (.bool pneg) (.slice pod pld pcd) (.string pnm) (.int .i64 pn) (.slice pol pll pcl) (.slice pob plb pcb) (.int .i64 qk) (.bool qneg) (.slice qod qld qcd) (.string qnm) (.int .i64 qn) (.slice qol qll qcl) (.slice qob qlb qcb) 27 27
  have hTA := tv_below HA.out hB0
  have hTU := tv_below HU.out hB0
  have hT0 := hT.below hB0
  go_enter Tryz.func17, Tryz.ntmps17
  go_wp2_with fail
  generalize ((w.alloc (.cells #[.int .i64 pk, .bool pneg, .slice pod pld pcd, .string pnm, .int .i64 pn, .slice pol pll pcl, .slice pob plb pcb] 27)).alloc (.cells #[.int .i64 qk, .bool qneg, .slice qod qld qcd, .string qnm, .int .i64 qn, .slice qol qll qcl, .slice qob qlb qcb] 27)) = W0 at *
  refine (rCompare_w (tsz A) A U _ _ _ (Nat.le_refl _) hoA hoU hTA hTU hT0).mono ?_
  rintro e w1 ⟨rfl, b1⟩
  go_wp2
  go_ret
  exact ⟨rfl, below_and hB0 (Nat.le_refl _) b1⟩
end Go.Proofs.YtjacoodfhkaioaaGreatDoor
namespace Go.Proofs.YtjacoodfhkaioaaGreatDoor
open Go.ChangeShapes Go.WideShapes Go.ChangeAt Go.RowKit Go.Shelf
set_option linter.unusedSimpArgs false
set_option linter.unusedVariables false
set_option maxRecDepth 2000
mutual
theorem tv_okB {Z : Nat → Prop} {w : World} : ∀ (T : Tm) (v : Value), TV Z w T v → ∀ p ∈ parts T, okB p
  | .mk k neg d nm n l b, v, h, p, hp => by
    unfold TV at h
    obtain ⟨od, cd, ol, cl, ob, cb, _, _, _, _, hB, _, _, hR⟩ := h
    simp only [parts, List.mem_cons] at hp
    rcases hp with rfl | hp
    · exact hB.2
    · split at hp
      · exact tr_okB l _ hR p hp
      · simp at hp
theorem tr_okB {Z : Nat → Prop} {w : World} : ∀ (l : List Tm) (o : Option Addr), TR Z w l o → ∀ p ∈ partsL l, okB p
  | [], _, _, p, hp => by simp [partsL] at hp
  | t :: l, o, h, p, hp => by
    unfold TR at h
    obtain ⟨a, v, _, _, _, h2, h3⟩ := h
    simp only [partsL, List.mem_append] at hp
    rcases hp with hp | hp
    · exact tv_okB t v h2 p hp
    · exact tr_okB l _ h3 p hp
end
theorem mg_of {T : Tm} {w : World} {v : Value} (h1 : ∀ p ∈ parts T, p.ok1 ∧ fairB p = true) (hT : TV (Low w) w T v) : Mg T := fun p hp => ⟨(h1 p hp).2, (h1 p hp).1, tv_okB T v hT p hp⟩
theorem prE_cases (T : Tm) (h : mayB T = true) : prE T = 0 ∨ prE T = 3 := by
  unfold prE
  rw [if_pos h]
  split
  · exact .inl rfl
  · exact .inr rfl
theorem tx_same {A B : List UInt8} : ((⟨A.toArray⟩ : ByteArray) = ⟨B.toArray⟩) ↔ A = B := by
  constructor
  · intro e
    have := congrArg (fun b : ByteArray => b.data.toList) e
    simpa using this
  · intro e; rw [e]
end Go.Proofs.YtjacoodfhkaioaaGreatDoor
namespace Go.Proofs.YtjacoodfhkaioaaGreatDoor.textUnlike
open Go.ChangeShapes Go.WideShapes Go.ChangeAt Go.ChangeMaps Go.RowKit Go.Shelf
set_option linter.unusedSimpArgs false
set_option linter.unusedVariables false
set_option maxRecDepth 2000
abbrev Tabs (w : World) : Prop := TabX w
set_option maxHeartbeats 4000000 in
set_option maxRecDepth 8000 in
theorem walk {H : Type} (enc : TypeId × Value → H) (base : Nat) (w : World) (v0 v1 : Value) (d0 d1 : DataW H) (p0 p1 : List MemPlace)
    (o0 : Value.okWide Tryz.prog w .any base 27 v0) (h0 : DataW.Trod enc Tryz.prog w 0 (fun _ => true) true 27 v0 d0 p0)
    (o1 : Value.okWide Tryz.prog w .any base 27 v1) (h1 : DataW.Trod enc Tryz.prog w 0 (fun _ => true) true 27 v1 d1 p1)
    (hT : Tabs w) :
    Calls Tryz.prog 7 #[v0, v1] w fun e w' => e = .returned (.bool true) ∧ Below w.heap.size w w' := by
  obtain ⟨A, hA0⟩ := open_term o0 h0
  obtain ⟨U, hU0⟩ := open_term o1 h1
  clear o0 h0 o1 h1
  obtain ⟨k, neg, od, ld, cd, nm, n, ol, ll, cl, ob, lb, cb, rfl⟩ := hA0.form
  obtain ⟨k', neg', od', ld', cd', nm', n', ol', ll', cl', ob', lb', cb', rfl⟩ := hU0.form
  obtain ⟨kX, kY, hBX, hz0⟩ := bx2 w (.int .i64 k) (.bool neg) (.slice od ld cd) (.string nm) (.int .i64 n) (.slice ol ll cl) (.slice ob lb cb) (.int .i64 k') (.bool neg') (.slice od' ld' cd') (.string nm') (.int .i64 n') (.slice ol' ll' cl') (.slice ob' lb' cb') 27 27
  have hTH := hid hT
  have hAH := hid hA0
  have hUH := hid hU0
  go_enter Tryz.func7, Tryz.ntmps7
  go_wp2_with fail
  generalize ((w.alloc (.cells #[.int .i64 k, .bool neg, .slice od ld cd, .string nm, .int .i64 n, .slice ol ll cl, .slice ob lb cb] 27)).alloc (.cells #[.int .i64 k', .bool neg', .slice od' ld' cd', .string nm', .int .i64 n', .slice ol' ll' cl', .slice ob' lb' cb'] 27)) = W0 at *
  refine (awake_ok _ (hT.below hBX)).mono ?_
  rintro e w1 ⟨rfl, b1⟩
  have hB1 := below_and hBX (Nat.le_refl _) b1
  have kX1 := kX.below b1
  have kY1 := kY.below b1
  obtain ⟨x0, x1, x2, x3, x4, x5, x6⟩ := kX1.res
  obtain ⟨y0, y1, y2, y3, y4, y5, y6⟩ := kY1.res
  obtain ⟨W2, hW2⟩ : ∃ W2, W2 = w1.alloc (.cells #[.int .i64 k, .bool neg, .slice od ld cd, .string nm, .int .i64 n, .slice ol ll cl, .slice ob lb cb, .int .i64 k', .bool neg', .slice od' ld' cd', .string nm', .int .i64 n', .slice ol' ll' cl', .slice ob' lb' cb'] 27) := ⟨_, rfl⟩
  have b2 : Below w1.heap.size w1 W2 := by rw [hW2]; exact (Below.refl _ w1).alloc (Nat.le_refl _) _
  have hg2 : W2.heap[w1.heap.size]? = some (.cells #[.int .i64 k, .bool neg, .slice od ld cd, .string nm, .int .i64 n, .slice ol ll cl, .slice ob lb cb, .int .i64 k', .bool neg', .slice od' ld' cd', .string nm', .int .i64 n', .slice ol' ll' cl', .slice ob' lb' cb'] 27 (0, 0)) := by rw [hW2]; exact heap_alloc_new w1 _
  have hB2 := below_and hB1 (Nat.le_refl _) b2
  have hTR : TR (Low W2) W2 [A, U] (some ⟨w1.heap.size, 0, none⟩) := tr_two (tv_below hA0 hB2) (tv_below hU0 hB2) hg2 (Array.getElem?_eq_some_iff.1 hg2).1
  have c2 := Rooms_w 2 (by omega) [A, U] (some ⟨w1.heap.size, 0, none⟩) 2 W2 hTR (hT.below hB2).1.1
  rw [hW2] at c2
  have hW2H := hid hW2
  have hTRH := hid hTR
  have hB2H := hid hB2
  have kX2 := hid (kX1.below b2)
  have kY2 := hid (kY1.below b2)
  obtain ⟨bb, hbb⟩ : ∃ bb, (decide ([A, U].length ≤ 2) && [A, U].all okRow) = bb := ⟨_, rfl⟩
  rw [hbb] at c2
  clear hBX kX kY b1 hB1 kX1 kY1 hW2 b2 hg2 hB2 hTR hT hA0 hU0 hz0
  go_wp2_with fail
  refine c2.mono ?_
  rw [← hW2H.out]
  rintro e w3 ⟨rfl, b3⟩
  have hB3 := hid (below_and hB2H.out (Nat.le_refl _) b3)
  have kX3 := kX2.out.below b3
  have kY3 := kY2.out.below b3
  clear x0 x1 x2 x3 x4 x5 x6 y0 y1 y2 y3 y4 y5 y6 hW2H c2
  cases bb with
  | false =>
    clear hbb
    go_wp2
    go_ret
    exact ⟨rfl, hB3.out⟩
  | true =>
  rw [Bool.and_eq_true] at hbb
  have Hf := rooms_facts7 hTRH.out hbb.2
  have hokA : ∀ p ∈ parts A, p.ok1 ∧ fairB p = true := fun p hp => Hf.1 p (by simp [partsL, hp])
  have hokU : ∀ p ∈ parts U, p.ok1 ∧ fairB p = true := fun p hp => Hf.1 p (by simp [partsL, hp])
  have hmA : mayB A = true := by
    have h2 := hbb.2
    simp only [List.all_cons, List.all_nil, Bool.and_true, Bool.and_eq_true] at h2
    have := h2.1
    unfold okRow at this
    rw [Bool.and_eq_true] at this
    exact this.2
  have hmU : mayB U = true := by
    have h2 := hbb.2
    simp only [List.all_cons, List.all_nil, Bool.and_true, Bool.and_eq_true] at h2
    have := h2.2
    unfold okRow at this
    rw [Bool.and_eq_true] at this
    exact this.2
  have hdA : dep A ≤ 1000000 := by have := Hf.2.1; simp only [depL] at this; omega
  have hdU : dep U ≤ 1000000 := by have := Hf.2.1; simp only [depL] at this; omega
  have hun := tx_unlike (mg_of hokA hAH.out) (mg_of hokU hUH.out)
  have hT3 := hTH.out.below hB3.out
  have c3 := print_w A _ w3 hdA (fun p hp => (hokA p hp).1) (tv_below hAH.out hB3.out) hT3.1.1 hT3.1 hT3.2
  have c4 := fun w' (hb : Below w3.heap.size w3 w') => print_w U _ w' hdU (fun p hp => (hokU p hp).1) (tv_below (tv_below hUH.out hB3.out) hb) (hT3.below hb).1.1 (hT3.below hb).1 (hT3.below hb).2
  have c5 := fun w' (hb : Below w3.heap.size w3 w') => rSame_w A U _ _ w' (fun p hp => (hokA p hp).1) (fun p hp => (hokU p hp).1) (tv_below (tv_below hAH.out hB3.out) hb) (tv_below (tv_below hUH.out hB3.out) hb) (hT3.below hb).1.1
  obtain ⟨x0, x1, x2, x3, x4, x5, x6⟩ := kX3.res
  obtain ⟨y0, y1, y2, y3, y4, y5, y6⟩ := kY3.res
  have kX3H := hid kX3
  have kY3H := hid kY3
  obtain ⟨EA, hEA⟩ : ∃ E, prE A = E := ⟨_, rfl⟩
  obtain ⟨EU, hEU⟩ : ∃ E, prE U = E := ⟨_, rfl⟩
  obtain ⟨SA, hSA⟩ : ∃ S : ByteArray, ⟨(prS A).toArray⟩ = S := ⟨_, rfl⟩
  obtain ⟨SU, hSU⟩ : ∃ S : ByteArray, ⟨(prS U).toArray⟩ = S := ⟨_, rfl⟩
  obtain ⟨sm, hsm⟩ : ∃ s, (cT A U == 0) = s := ⟨_, rfl⟩
  rw [hEA, hSA] at c3
  rw [hEU, hSU] at c4
  rw [hsm] at c5
  have hfin : Hid (EA = 0 → EU = 0 → ((SA.toList == SU.toList) = sm)) := hid (fun e1 e2 => by
    have p1 := (prE_zero (hEA.trans e1)).2.2
    have p2 := (prE_zero (hEU.trans e2)).2.2
    rw [← hsm, ← hSA, ← hSU, p1, p2]
    by_cases hx : tx A = tx U
    · rw [hx, hun.1 hx]; simp
    · have h1 : (⟨(tx A).toArray⟩ : ByteArray) ≠ ⟨(tx U).toArray⟩ := fun e => hx (tx_same.1 e)
      rw [tl_ne h1]
      have : ¬ cT A U = 0 := fun e => hx (hun.2 e)
      exact (beq_eq_false_iff_ne.2 this).symm)
  have hcA := hid (prE_cases A hmA)
  have hcU := hid (prE_cases U hmU)
  rw [hEA] at hcA
  rw [hEU] at hcU
  clear hEA hEU hSA hSU hsm hun hdA hdU hmA hmU hokA hokU Hf hbb hT3 kX3 kY3
  go_wp2_with fail
  refine c3.mono ?_
  rintro e w4 ⟨rfl, b4⟩
  have c4 := c4 w4 b4
  have kX4 := kX3H.out.below b4
  have kY4 := kY3H.out.below b4
  clear x0 x1 x2 x3 x4 x5 x6 y0 y1 y2 y3 y4 y5 y6
  obtain ⟨x0, x1, x2, x3, x4, x5, x6⟩ := kX4.res
  obtain ⟨y0, y1, y2, y3, y4, y5, y6⟩ := kY4.res
  clear kX4 kY4 c3
  go_wp2_with fail
  refine c4.mono ?_
  rintro e w5 ⟨rfl, b5⟩
  have b45 := below_and b4 (Nat.le_refl _) b5
  have c5 := c5 w5 b45
  have kX5 := kX3H.out.below b45
  have kY5 := kY3H.out.below b45
  have hB5 := hid (below_and hB3.out (Nat.le_refl _) b45)
  clear x0 x1 x2 x3 x4 x5 x6 y0 y1 y2 y3 y4 y5 y6
  obtain ⟨x0, x1, x2, x3, x4, x5, x6⟩ := kX5.res
  obtain ⟨y0, y1, y2, y3, y4, y5, y6⟩ := kY5.res
  clear kX5 kY5 c4 b4 b5 b45
  rcases hcA.out with rfl | rfl
  · rcases hcU.out with rfl | rfl
    · have hfq := hfin.out rfl rfl
      go_wp2_with fail
      refine c5.mono ?_
      rintro e w6 ⟨rfl, b6⟩
      have hB6 := hid (below_and hB5.out (Nat.le_refl _) b6)
      clear c5 b6 hfin
      go_wp2
      go_ret
      exact ⟨by simp, hB6.out⟩
    · clear c5 hfin
      go_wp2
      go_ret
      exact ⟨rfl, hB5.out⟩
  · clear c5 hfin
    go_wp2
    go_ret
    exact ⟨rfl, hB5.out⟩
end Go.Proofs.YtjacoodfhkaioaaGreatDoor.textUnlike
namespace Go.Proofs.YtjacoodfhkaioaaGreatDoor
open Go.ChangeShapes Go.WideShapes Go.ChangeAt Go.RowKit Go.Shelf
set_option linter.unusedSimpArgs false
set_option linter.unusedVariables false
set_option maxRecDepth 2000

theorem back1 {T : Tm} (hM : Mg T) (hm : mayB T = true) (hl : (tx T).length ≤ 65536) : paE (tx T) = 0 ∧ paT (tx T) = some T := by
  have h1 := read_back (q := []) hM rfl fol_nil
  rw [List.append_nil] at h1
  have hv : Lib.validD (tx T) = true := by have := (vd_tx _).1 T (Nat.le_refl _) hM []; rw [List.append_nil] at this; rw [this]; rfl
  have hE : rdE (tx T) = 0 := by unfold rdE; rw [if_neg (by omega), if_neg (by rw [hv]; simp), h1]; simp [hm]
  have hN : rdN (tx T) = (tx T).length := by unfold rdN; rw [if_pos hE, h1]; simp
  have hT : rdT (tx T) = some T := by unfold rdT; rw [if_pos hE, h1]
  have hP : paE (tx T) = 0 := by unfold paE; rw [if_pos hE, hN, if_neg (by omega)]
  exact ⟨hP, by unfold paT; rw [if_pos hP, hT]⟩
theorem back2 {T : Tm} {q : List UInt8} (hM : Mg T) (hm : mayB T = true) (hv : Lib.validD q = true) (hf : Fol q) (hl : (tx T ++ q).length ≤ 65536) : rdE (tx T ++ q) = 0 ∧ rdN (tx T ++ q) = (tx T).length ∧ rdT (tx T ++ q) = some T := by
  have h1 := read_back (q := q) hM hv hf
  have hv2 : Lib.validD (tx T ++ q) = true := by rw [(vd_tx _).1 T (Nat.le_refl _) hM q]; exact hv
  have hE : rdE (tx T ++ q) = 0 := by unfold rdE; rw [if_neg (by omega), if_neg (by rw [hv2]; simp), h1]; simp [hm]
  refine ⟨hE, ?_, ?_⟩
  · unfold rdN; rw [if_pos hE, h1, List.length_append]; simp
  · unfold rdT; rw [if_pos hE, h1]
/-- what Parse takes is printed as it stood -/
theorem back3 {s : List UInt8} (h : paE s = 0) : ∃ U, paT s = some U ∧ Gd U ∧ dep U ≤ 1000000 ∧ prE U = 0 ∧ prS U = s := by
  have hE : rdE s = 0 := by
    unfold paE at h
    by_cases h0 : rdE s = 0
    · exact h0
    · rw [if_neg h0] at h; exact absurd h h0
  have hN : ¬ rdN s < s.length := by
    intro hlt
    unfold paE at h
    rw [if_pos hE, if_pos hlt] at h
    cases h
  have hls : s.length ≤ 65536 := by
    unfold rdE at hE
    split at hE
    · cases hE
    · omega
  obtain ⟨U, hU⟩ := rd_some hE
  have hR : (readL s).1 = some U := by unfold rdT at hU; rw [if_pos hE] at hU; exact hU
  have hm : mayB U = true := by
    unfold rdE at hE
    rw [if_neg (by omega)] at hE
    split at hE
    · cases hE
    · rw [hR] at hE
      simp only at hE
      split at hE
      · assumption
      · cases hE
  have ht := read_tx hR
  have hr0 : (readL s).2 = [] := by
    unfold rdN at hN
    rw [if_pos hE] at hN
    have h1 := readL_le s
    have h2 : 1 ≤ (tx U).length := by
      cases hx : tx U with
      | nil =>
        have h9 := read_tx hR
        rw [hx, List.nil_append] at h9
        have h8 := beginL_shr s (fun e => by unfold readL at hR; rw [e] at hR; simp [runL] at hR)
        have h7 := runL_le (s.length + 2) (beginL s).2 [] (bgH (beginL s).1)
        have h6 : (readL s).2.length = s.length := by rw [h9]
        have h5 : (readL s).2.length ≤ (beginL s).2.length := h7
        omega
      | cons b t => simp
    have h3 := congrArg List.length ht
    rw [List.length_append] at h3
    exact List.eq_nil_of_length_eq_zero (by omega)
  rw [hr0, List.append_nil] at ht
  obtain ⟨g1, g2⟩ := readL_gd (r := s) (by omega) hR
  refine ⟨U, by unfold paT; rw [if_pos h, hU], g1, g2, ?_, ?_⟩
  · unfold prE; rw [if_pos hm, ht, if_pos hls]
  · unfold prS; rw [if_pos hm, ht, if_pos hls]
end Go.Proofs.YtjacoodfhkaioaaGreatDoor
namespace Go.Proofs.YtjacoodfhkaioaaGreatDoor.textBack
open Go.ChangeShapes Go.WideShapes Go.ChangeAt Go.ChangeMaps Go.RowKit Go.Shelf
set_option linter.unusedSimpArgs false
set_option linter.unusedVariables false
set_option maxRecDepth 2000
abbrev Tabs (w : World) : Prop := TabX w
theorem zT_ok : ∀ p ∈ parts (Tm.mk 0 false [] noS 0 [] []), p.ok1 := by
  intro p hp
  simp [parts, partsL] at hp
  subst hp
  exact ⟨by simp, by decide, by simp, by simp, Lm.nil _⟩
set_option maxHeartbeats 8000000 in
set_option maxRecDepth 8000 in
theorem walk {H : Type} (enc : TypeId × Value → H) (base : Nat) (w : World) (v0 v1 : Value) (d0 d1 : DataW H) (p0 p1 : List MemPlace)
    (o0 : Value.okWide Tryz.prog w .any base 27 v0) (h0 : DataW.Trod enc Tryz.prog w 0 (fun _ => true) true 27 v0 d0 p0)
    (o1 : Value.okWide Tryz.prog w .any base 9 v1) (h1 : DataW.Trod enc Tryz.prog w 0 (fun _ => true) true 9 v1 d1 p1)
    (hT : Tabs w) :
    Calls Tryz.prog 6 #[v0, v1] w fun e w' => e = .returned (.bool true) ∧ Below w.heap.size w w' := by
  obtain ⟨T, hT0⟩ := open_term o0 h0
  obtain ⟨S, rfl, rfl, rfl, wa⟩ := open_string Tryz.underlying9 o1 h1
  clear o0 h0 o1 h1 wa
  obtain ⟨k, neg, od, ld, cd, nm, n, ol, ll, cl, ob, lb, cb, rfl⟩ := hT0.form
  obtain ⟨kX, hBX, hz0⟩ := bx1 w (.int .i64 k) (.bool neg) (.slice od ld cd) (.string nm) (.int .i64 n) (.slice ol ll cl) (.slice ob lb cb) 27
  have hTH := hid hT
  have hTT := hid hT0
  go_enter Tryz.func6, Tryz.ntmps6
  go_wp2_with fail
  generalize (w.alloc (.cells #[.int .i64 k, .bool neg, .slice od ld cd, .string nm, .int .i64 n, .slice ol ll cl, .slice ob lb cb] 27)) = W0 at *
  refine (awake_ok _ (hT.below hBX)).mono ?_
  rintro e w1 ⟨rfl, b1⟩
  have hB1 := below_and hBX (Nat.le_refl _) b1
  have kX1 := kX.below b1
  obtain ⟨x0, x1, x2, x3, x4, x5, x6⟩ := kX1.res
  clear hBX kX b1
  go_wp2_with fail
  refine (Room_w 60 (by omega) (tsz T) T _ 10 _ (Nat.le_refl _) (by omega) (by omega) (tv_below hT0 hB1)).mono ?_
  rintro e w2 ⟨rfl, b2⟩
  have hB2 := hid (below_and hB1 (Nat.le_refl _) b2)
  have kX2 := kX1.below b2
  obtain ⟨bb, hbb⟩ : ∃ bb, roomB 60 10 T = bb := ⟨_, rfl⟩
  rw [hbb]
  clear x0 x1 x2 x3 x4 x5 x6 kX1 hB1 b2 hT hz0 hT0
  cases bb with
  | false =>
    clear hbb
    go_wp2
    go_ret
    exact ⟨rfl, hB2.out⟩
  | true =>
  by_cases hS3 : 3000 < S.size
  · have hS3z : (3000 : Int) < (S.size : Int) := by omega
    clear hbb hS3
    go_wp2
    go_ret
    exact ⟨rfl, hB2.out⟩
  have hS3z : ¬ (3000 : Int) < (S.size : Int) := by omega
  have hSl : Hid (S.data.toList.length ≤ 3000) := hid (by show S.size ≤ 3000; omega)
  obtain ⟨hok, hdep⟩ := room_ok (by omega) T _ 10 hTT.out hbb
  have hT2 := hTH.out.below hB2.out
  have c1 := print_w T _ w2 (by omega) hok (tv_below hTT.out hB2.out) hT2.1.1 hT2.1 hT2.2
  obtain ⟨E, hE⟩ : ∃ E, prE T = E := ⟨_, rfl⟩
  rw [hE] at c1
  have kX2H := hid kX2
  obtain ⟨x0, x1, x2, x3, x4, x5, x6⟩ := kX2.res
  by_cases hE0 : E = 0
  · subst hE0
    obtain ⟨hm, hlen, hpS⟩ := prE_zero hE
    rw [hpS] at c1
    have hokf : ∀ p ∈ parts T, p.ok1 ∧ fairB p = true := fun p hp => ⟨hok p hp, (may_parts hm).2 p hp⟩
    have hM := mg_of hokf hTT.out
    obtain ⟨hP1, hP2⟩ := back1 hM hm hlen
    obtain ⟨X, hX⟩ : ∃ X, bs (tx T) = X := ⟨_, rfl⟩
    have hXs : X.size = (tx T).length := by rw [← hX]; exact bs_size _
    rw [show (⟨(tx T).toArray⟩ : ByteArray) = X from hX] at c1
    have c2 := fun w' (hb : Below w2.heap.size w2 w') => Parse_w (tx T) w' (hT2.below hb) (by omega)
    rw [hP1, hP2, hX] at c2
    have c3 := fun w' (hb : Below w2.heap.size w2 w') => Read_w (tx T ++ [32, 120]) w' (hT2.below hb) (by simp; omega)
    have hcat : bs (tx T ++ [32, 120]) = X ++ ⟨#[32, 120]⟩ := by rw [← hX, ← bs_cat]; rfl
    rw [hcat] at c3
    have cS := fun (v' : Value) w' (hb : Below w2.heap.size w2 w') (hv : TV (Low w') w' T v') => rSame_w T T v' _ w' hok hok hv (tv_below (tv_below hTT.out hB2.out) hb) (hT2.below hb).1.1
    rw [cT_me T] at cS
    obtain ⟨RE, hRE⟩ : ∃ x, rdE (tx T ++ [32, 120]) = x := ⟨_, rfl⟩
    obtain ⟨RN, hRN⟩ : ∃ x, rdN (tx T ++ [32, 120]) = x := ⟨_, rfl⟩
    obtain ⟨RT, hRT⟩ : ∃ x, rdT (tx T ++ [32, 120]) = x := ⟨_, rfl⟩
    rw [hRE, hRN, hRT] at c3
    have hq : Hid ((X.size : Int) + 2 ≤ 65536 → RE = 0 ∧ (RN : Int) = (X.size : Int) ∧ RT = some T) := hid (fun hle => by
      obtain ⟨e1, e2, e3⟩ := back2 (q := [32, 120]) hM hm (by decide) (fol_cons _ (by decide)) (by rw [List.length_append]; simp; omega)
      exact ⟨by rw [← hRE, e1], by rw [← hRN, e2, hXs], by rw [← hRT, e3]⟩)
    have hXl : Hid (X.size ≤ 65536) := hid (by omega)
    have hcsz : ¬ 9223372036854775807 < X.size + (⟨#[32, 120]⟩ : ByteArray).size := by
      have : (⟨#[32, 120]⟩ : ByteArray).size = 2 := rfl
      omega
    clear hE hX hXs hP1 hP2 hcat hRE hRN hRT hM hokf hok hdep hm hlen hpS hT2 hbb hS3 kX2
    go_wp2_with fail
    refine c1.mono ?_
    rintro e w3 ⟨rfl, b3⟩
    have c2 := c2 w3 b3
    clear x0 x1 x2 x3 x4 x5 x6 c1
    go_wp2_with fail
    refine c2.mono ?_
    rintro e w4 ⟨v4, rfl, hV4, b4⟩
    have hV4' : TV (ZnS w3.heap.size w4) w4 T v4 := hV4
    have hT4 : TV (Low w4) w4 T v4 := TV.mono (fun _ _ h => h.2) _ _ hV4'
    obtain ⟨pk, pneg, pod, pld, pcd, pnm, pn, pol, pll, pcl, pob, plb, pcb, rfl⟩ := hT4.form
    obtain ⟨W5, hW5⟩ : ∃ W5, W5 = w4.alloc (.cells #[.int .i64 pk, .bool pneg, .slice pod pld pcd, .string pnm, .int .i64 pn, .slice pol pll pcl, .slice pob plb pcb] 27) := ⟨_, rfl⟩
    have b5 : Below w4.heap.size w4 W5 := by rw [hW5]; exact (Below.refl _ w4).alloc (Nat.le_refl _) _
    have hg5 : W5.heap[w4.heap.size]? = some (.cells #[.int .i64 pk, .bool pneg, .slice pod pld pcd, .string pnm, .int .i64 pn, .slice pol pll pcl, .slice pob plb pcb] 27 (0, 0)) := by rw [hW5]; exact heap_alloc_new w4 _
    have b25 := below_and (below_and b3 (Nat.le_refl _) b4) (Nat.le_refl _) b5
    have c3 := c3 W5 b25
    have hT5 := hid (tv_below hT4 b5)
    have hW5H := hid hW5
    have hg5H := hid hg5
    have b25H := hid b25
    clear c2 hV4 hV4' hT4 b3 b4 b5 b25 hW5 hg5
    go_upto_region 8 with fail
    rw [← hW5H.out]
    clear hW5H
    go_wp2_with fail
    refine c3.mono ?_
    rintro e w6 ⟨v6, rfl, hV6, b6⟩
    obtain ⟨qk, qneg, qod, qld, qcd, qnm, qn, qol, qll, qcl, qob, qlb, qcb, rfl⟩ := tmo_form hV6
    obtain ⟨W7, hW7⟩ : ∃ W7, W7 = w6.alloc (.cells #[.int .i64 qk, .bool qneg, .slice qod qld qcd, .string qnm, .int .i64 qn, .slice qol qll qcl, .slice qob qlb qcb] 27) := ⟨_, rfl⟩
    have b7 : Below w6.heap.size w6 W7 := by rw [hW7]; exact (Below.refl _ w6).alloc (Nat.le_refl _) _
    have hg7 := hid (show W7.heap[w6.heap.size]? = some (.cells #[.int .i64 qk, .bool qneg, .slice qod qld qcd, .string qnm, .int .i64 qn, .slice qol qll qcl, .slice qob qlb qcb] 27 (0, 0)) by rw [hW7]; exact heap_alloc_new w6 _)
    have b57 : Below W5.heap.size W5 W7 := b6.trans (below_le b7 b6.size)
    have b27 := hid (below_and b25H.out (Nat.le_refl _) b57)
    have hV7 := hid (tmo_bel hV6 b7 (Nat.le_refl _))
    have hg57 := hid ((b57.block _ (Array.getElem?_eq_some_iff.1 hg5H.out).1).trans hg5H.out)
    have hT7 := hid (tv_below hT5.out b57)
    obtain ⟨y0, y1, y2, y3, y4, y5, y6⟩ := cell7 hg57.out
    obtain ⟨x0, x1, x2, x3, x4, x5, x6⟩ := (kX2H.out.below b27.out).res
    have c5 := cS _ W7 b27.out hT7.out
    have hW7H := hid hW7
    clear c3 hV6 b6 b7 b57 hW7
    go_upto_region 9 with fail
    rw [← hW7H.out]
    clear hW7H
    go_wp2_with fail
    refine c5.mono ?_
    rintro e w8 ⟨rfl, b8⟩
    have b28 := hid (below_and b27.out (Nat.le_refl _) b8)
    have hg78 := (b8.block _ (Array.getElem?_eq_some_iff.1 hg7.out).1).trans hg7.out
    have hV8 := hid (tmo_bel hV7.out b8 (Nat.le_refl _))
    clear c5 x0 x1 x2 x3 x4 x5 x6 y0 y1 y2 y3 y4 y5 y6
    obtain ⟨x0, x1, x2, x3, x4, x5, x6⟩ := (kX2H.out.below b28.out).res
    obtain ⟨y0, y1, y2, y3, y4, y5, y6⟩ := cell7 hg78
    by_cases hle : (X.size : Int) + 2 ≤ 65536
    · obtain ⟨rfl, hRNz, rfl⟩ := hq.out hle
      have hT8 : TV (Low w8) w8 T (tmV qk qneg (.slice qod qld qcd) qnm qn (.slice qol qll qcl) (.slice qob qlb qcb)) := TV.mono (fun _ _ h => h.2) _ _ hV8.out
      have c6 := cS _ w8 b28.out hT8
      rw [hRNz]
      clear hg78 hT8 b8 hRNz
      go_wp2_with fail
      refine c6.mono ?_
      rintro e wc ⟨rfl, b9⟩
      have hBc := hid (below_and hB2.out (Nat.le_refl _) (below_and b28.out (Nat.le_refl _) b9))
      clear c6 b9 x0 x1 x2 x3 x4 x5 x6 y0 y1 y2 y3 y4 y5 y6 cS
      have cP := Parse_w S.data.toList wc (hTH.out.below hBc.out) (by have := hSl.out; omega)
      rw [bs_bytes] at cP
      by_cases hp : paE S.data.toList = 0
      · obtain ⟨U, hU, hG, hD, hE0, hS0⟩ := back3 hp
        rw [hp, hU] at cP
        have hSS : Hid ((⟨(prS U).toArray⟩ : ByteArray) = S) := hid (by rw [hS0])
        have hEE := hid hE0
        clear hp hU hE0 hS0
        go_wp2_with fail
        refine cP.mono ?_
        rintro e wd ⟨vd, rfl, hVd, bd⟩
        have hVd' : TV (ZnS wc.heap.size wd) wd U vd := hVd
        have hTd : TV (Low wd) wd U vd := TV.mono (fun _ _ h => h.2) _ _ hVd'
        obtain ⟨uk, uneg, uod, uld, ucd, unm, un, uol, ull, ucl, uob, ulb, ucb, rfl⟩ := hTd.form
        obtain ⟨We, hWe⟩ : ∃ We, We = wd.alloc (.cells #[.int .i64 uk, .bool uneg, .slice uod uld ucd, .string unm, .int .i64 un, .slice uol ull ucl, .slice uob ulb ucb] 27) := ⟨_, rfl⟩
        have be : Below wd.heap.size wd We := by rw [hWe]; exact (Below.refl _ wd).alloc (Nat.le_refl _) _
        have hge : We.heap[wd.heap.size]? = some (.cells #[.int .i64 uk, .bool uneg, .slice uod uld ucd, .string unm, .int .i64 un, .slice uol ull ucl, .slice uob ulb ucb] 27 (0, 0)) := by rw [hWe]; exact heap_alloc_new wd _
        obtain ⟨g0, g1, g2, g3, g4, g5, g6⟩ := cell7 hge
        have hBe := hid (below_and (below_and hBc.out (Nat.le_refl _) bd) (Nat.le_refl _) be)
        have hTe := hTH.out.below hBe.out
        have cQ := print_w U _ We hD hG (tv_below hTd be) hTe.1.1 hTe.1 hTe.2
        rw [hEE.out, hSS.out] at cQ
        have hWeH := hid hWe
        clear cP hVd hVd' hTd bd hWe be hge hTe hG hD
        go_upto_region 14 with fail
        rw [← hWeH.out]
        go_wp2_with fail
        refine cQ.mono ?_
        rintro e wf ⟨rfl, bf⟩
        have hBf := hid (below_and hBe.out (Nat.le_refl _) bf)
        clear cQ bf
        go_wp2
        go_ret
        exact ⟨by simp, hBf.out⟩
      · have hn : paT S.data.toList = none := by unfold paT; rw [if_neg hp]
        rw [hn] at cP
        obtain ⟨EE, hEE⟩ : ∃ EE, paE S.data.toList = EE := ⟨_, rfl⟩
        rw [hEE] at cP hp
        have hne : (EE != 0) = true := by simp [hp]
        clear hEE hp hn
        go_wp2_with fail
        refine cP.mono ?_
        rintro e wd ⟨vd, rfl, hVd, bd⟩
        have hVd' : vd = zV := hVd
        subst hVd'
        obtain ⟨We, hWe⟩ : ∃ We, We = wd.alloc (.cells #[.int .i64 0, .bool false, .slice none 0 0, .string ⟨#[]⟩, .int .i64 0, .slice none 0 0, .slice none 0 0] 27) := ⟨_, rfl⟩
        have be : Below wd.heap.size wd We := by rw [hWe]; exact (Below.refl _ wd).alloc (Nat.le_refl _) _
        have hge : We.heap[wd.heap.size]? = some (.cells #[.int .i64 0, .bool false, .slice none 0 0, .string ⟨#[]⟩, .int .i64 0, .slice none 0 0, .slice none 0 0] 27 (0, 0)) := by rw [hWe]; exact heap_alloc_new wd _
        obtain ⟨g0, g1, g2, g3, g4, g5, g6⟩ := cell7 hge
        have hBe := hid (below_and (below_and hBc.out (Nat.le_refl _) bd) (Nat.le_refl _) be)
        have hTe := hTH.out.below hBe.out
        have cQ := print_w (.mk 0 false [] noS 0 [] []) (tmV 0 false nilS noS 0 nilS nilS) We (by simp [dep]) zT_ok (tv_flat 0 noS 0) hTe.1.1 hTe.1 hTe.2
        obtain ⟨XE, hXE⟩ : ∃ x, prE (.mk 0 false [] noS 0 [] []) = x := ⟨_, rfl⟩
        obtain ⟨XS, hXS⟩ : ∃ x : ByteArray, ⟨(prS (.mk 0 false [] noS 0 [] [])).toArray⟩ = x := ⟨_, rfl⟩
        rw [hXE, hXS] at cQ
        have hWeH := hid hWe
        clear cP hVd bd hWe be hge hTe hXE hXS
        go_upto_region 14 with fail
        rw [← hWeH.out]
        go_wp2_with fail
        refine cQ.mono ?_
        rintro e wf ⟨rfl, bf⟩
        have hBf := hid (below_and hBe.out (Nat.le_refl _) bf)
        clear cQ bf
        go_wp2
        go_ret
        exact ⟨by simp, hBf.out⟩
    · have hX6 : (X.size : Int) ≤ 65536 := by have := hXl.out; omega
      have hleF : ((X.size : Int) + 2 ≤ 65536) = False := by simp only [hle]
      have hBc := hid (below_and hB2.out (Nat.le_refl _) b28.out)
      clear hle hcsz hS3z hq hXl
      clear hg78 b8 x0 x1 x2 x3 x4 x5 x6 y0 y1 y2 y3 y4 y5 y6 cS
      have cP := Parse_w S.data.toList w8 (hTH.out.below hBc.out) (by have := hSl.out; omega)
      rw [bs_bytes] at cP
      by_cases hp : paE S.data.toList = 0
      · obtain ⟨U, hU, hG, hD, hE0, hS0⟩ := back3 hp
        rw [hp, hU] at cP
        have hSS : Hid ((⟨(prS U).toArray⟩ : ByteArray) = S) := hid (by rw [hS0])
        have hEE := hid hE0
        clear hp hU hE0 hS0
        go_wp2_with fail
        refine cP.mono ?_
        rintro e wd ⟨vd, rfl, hVd, bd⟩
        have hVd' : TV (ZnS w8.heap.size wd) wd U vd := hVd
        have hTd : TV (Low wd) wd U vd := TV.mono (fun _ _ h => h.2) _ _ hVd'
        obtain ⟨uk, uneg, uod, uld, ucd, unm, un, uol, ull, ucl, uob, ulb, ucb, rfl⟩ := hTd.form
        obtain ⟨We, hWe⟩ : ∃ We, We = wd.alloc (.cells #[.int .i64 uk, .bool uneg, .slice uod uld ucd, .string unm, .int .i64 un, .slice uol ull ucl, .slice uob ulb ucb] 27) := ⟨_, rfl⟩
        have be : Below wd.heap.size wd We := by rw [hWe]; exact (Below.refl _ wd).alloc (Nat.le_refl _) _
        have hge : We.heap[wd.heap.size]? = some (.cells #[.int .i64 uk, .bool uneg, .slice uod uld ucd, .string unm, .int .i64 un, .slice uol ull ucl, .slice uob ulb ucb] 27 (0, 0)) := by rw [hWe]; exact heap_alloc_new wd _
        obtain ⟨g0, g1, g2, g3, g4, g5, g6⟩ := cell7 hge
        have hBe := hid (below_and (below_and hBc.out (Nat.le_refl _) bd) (Nat.le_refl _) be)
        have hTe := hTH.out.below hBe.out
        have cQ := print_w U _ We hD hG (tv_below hTd be) hTe.1.1 hTe.1 hTe.2
        rw [hEE.out, hSS.out] at cQ
        have hWeH := hid hWe
        clear cP hVd hVd' hTd bd hWe be hge hTe hG hD
        go_upto_region 14 with fail
        rw [← hWeH.out]
        go_wp2_with fail
        refine cQ.mono ?_
        rintro e wf ⟨rfl, bf⟩
        have hBf := hid (below_and hBe.out (Nat.le_refl _) bf)
        clear cQ bf
        go_wp2
        go_ret
        exact ⟨by simp, hBf.out⟩
      · have hn : paT S.data.toList = none := by unfold paT; rw [if_neg hp]
        rw [hn] at cP
        obtain ⟨EE, hEE⟩ : ∃ EE, paE S.data.toList = EE := ⟨_, rfl⟩
        rw [hEE] at cP hp
        have hne : (EE != 0) = true := by simp [hp]
        clear hEE hp hn
        go_wp2_with fail
        refine cP.mono ?_
        rintro e wd ⟨vd, rfl, hVd, bd⟩
        have hVd' : vd = zV := hVd
        subst hVd'
        obtain ⟨We, hWe⟩ : ∃ We, We = wd.alloc (.cells #[.int .i64 0, .bool false, .slice none 0 0, .string ⟨#[]⟩, .int .i64 0, .slice none 0 0, .slice none 0 0] 27) := ⟨_, rfl⟩
        have be : Below wd.heap.size wd We := by rw [hWe]; exact (Below.refl _ wd).alloc (Nat.le_refl _) _
        have hge : We.heap[wd.heap.size]? = some (.cells #[.int .i64 0, .bool false, .slice none 0 0, .string ⟨#[]⟩, .int .i64 0, .slice none 0 0, .slice none 0 0] 27 (0, 0)) := by rw [hWe]; exact heap_alloc_new wd _
        obtain ⟨g0, g1, g2, g3, g4, g5, g6⟩ := cell7 hge
        have hBe := hid (below_and (below_and hBc.out (Nat.le_refl _) bd) (Nat.le_refl _) be)
        have hTe := hTH.out.below hBe.out
        have cQ := print_w (.mk 0 false [] noS 0 [] []) (tmV 0 false nilS noS 0 nilS nilS) We (by simp [dep]) zT_ok (tv_flat 0 noS 0) hTe.1.1 hTe.1 hTe.2
        obtain ⟨XE, hXE⟩ : ∃ x, prE (.mk 0 false [] noS 0 [] []) = x := ⟨_, rfl⟩
        obtain ⟨XS, hXS⟩ : ∃ x : ByteArray, ⟨(prS (.mk 0 false [] noS 0 [] [])).toArray⟩ = x := ⟨_, rfl⟩
        rw [hXE, hXS] at cQ
        have hWeH := hid hWe
        clear cP hVd bd hWe be hge hTe hXE hXS
        go_upto_region 14 with fail
        rw [← hWeH.out]
        go_wp2_with fail
        refine cQ.mono ?_
        rintro e wf ⟨rfl, bf⟩
        have hBf := hid (below_and hBe.out (Nat.le_refl _) bf)
        clear cQ bf
        go_wp2
        go_ret
        exact ⟨by simp, hBf.out⟩
  · have hE0b : (E == 0) = false := by simp [hE0]
    obtain ⟨X, hX⟩ : ∃ X : ByteArray, ⟨(prS T).toArray⟩ = X := ⟨_, rfl⟩
    rw [hX] at c1
    clear hE hE0 hX hok hdep hT2 hbb hS3 kX2
    go_wp2_with fail
    refine c1.mono ?_
    rintro e wc ⟨rfl, bc⟩
    have hBc := hid (below_and hB2.out (Nat.le_refl _) bc)
    clear c1 bc x0 x1 x2 x3 x4 x5 x6
    have cP := Parse_w S.data.toList wc (hTH.out.below hBc.out) (by have := hSl.out; omega)
    rw [bs_bytes] at cP
    by_cases hp : paE S.data.toList = 0
    · obtain ⟨U, hU, hG, hD, hE0, hS0⟩ := back3 hp
      rw [hp, hU] at cP
      have hSS : Hid ((⟨(prS U).toArray⟩ : ByteArray) = S) := hid (by rw [hS0])
      have hEE := hid hE0
      clear hp hU hE0 hS0
      go_wp2_with fail
      refine cP.mono ?_
      rintro e wd ⟨vd, rfl, hVd, bd⟩
      have hVd' : TV (ZnS wc.heap.size wd) wd U vd := hVd
      have hTd : TV (Low wd) wd U vd := TV.mono (fun _ _ h => h.2) _ _ hVd'
      obtain ⟨uk, uneg, uod, uld, ucd, unm, un, uol, ull, ucl, uob, ulb, ucb, rfl⟩ := hTd.form
      obtain ⟨We, hWe⟩ : ∃ We, We = wd.alloc (.cells #[.int .i64 uk, .bool uneg, .slice uod uld ucd, .string unm, .int .i64 un, .slice uol ull ucl, .slice uob ulb ucb] 27) := ⟨_, rfl⟩
      have be : Below wd.heap.size wd We := by rw [hWe]; exact (Below.refl _ wd).alloc (Nat.le_refl _) _
      have hge : We.heap[wd.heap.size]? = some (.cells #[.int .i64 uk, .bool uneg, .slice uod uld ucd, .string unm, .int .i64 un, .slice uol ull ucl, .slice uob ulb ucb] 27 (0, 0)) := by rw [hWe]; exact heap_alloc_new wd _
      obtain ⟨g0, g1, g2, g3, g4, g5, g6⟩ := cell7 hge
      have hBe := hid (below_and (below_and hBc.out (Nat.le_refl _) bd) (Nat.le_refl _) be)
      have hTe := hTH.out.below hBe.out
      have cQ := print_w U _ We hD hG (tv_below hTd be) hTe.1.1 hTe.1 hTe.2
      rw [hEE.out, hSS.out] at cQ
      have hWeH := hid hWe
      clear cP hVd hVd' hTd bd hWe be hge hTe hG hD
      go_upto_region 14 with fail
      rw [← hWeH.out]
      go_wp2_with fail
      refine cQ.mono ?_
      rintro e wf ⟨rfl, bf⟩
      have hBf := hid (below_and hBe.out (Nat.le_refl _) bf)
      clear cQ bf
      go_wp2
      go_ret
      exact ⟨by simp, hBf.out⟩
    · have hn : paT S.data.toList = none := by unfold paT; rw [if_neg hp]
      rw [hn] at cP
      obtain ⟨EE, hEE⟩ : ∃ EE, paE S.data.toList = EE := ⟨_, rfl⟩
      rw [hEE] at cP hp
      have hne : (EE != 0) = true := by simp [hp]
      clear hEE hp hn
      go_wp2_with fail
      refine cP.mono ?_
      rintro e wd ⟨vd, rfl, hVd, bd⟩
      have hVd' : vd = zV := hVd
      subst hVd'
      obtain ⟨We, hWe⟩ : ∃ We, We = wd.alloc (.cells #[.int .i64 0, .bool false, .slice none 0 0, .string ⟨#[]⟩, .int .i64 0, .slice none 0 0, .slice none 0 0] 27) := ⟨_, rfl⟩
      have be : Below wd.heap.size wd We := by rw [hWe]; exact (Below.refl _ wd).alloc (Nat.le_refl _) _
      have hge : We.heap[wd.heap.size]? = some (.cells #[.int .i64 0, .bool false, .slice none 0 0, .string ⟨#[]⟩, .int .i64 0, .slice none 0 0, .slice none 0 0] 27 (0, 0)) := by rw [hWe]; exact heap_alloc_new wd _
      obtain ⟨g0, g1, g2, g3, g4, g5, g6⟩ := cell7 hge
      have hBe := hid (below_and (below_and hBc.out (Nat.le_refl _) bd) (Nat.le_refl _) be)
      have hTe := hTH.out.below hBe.out
      have cQ := print_w (.mk 0 false [] noS 0 [] []) (tmV 0 false nilS noS 0 nilS nilS) We (by simp [dep]) zT_ok (tv_flat 0 noS 0) hTe.1.1 hTe.1 hTe.2
      obtain ⟨XE, hXE⟩ : ∃ x, prE (.mk 0 false [] noS 0 [] []) = x := ⟨_, rfl⟩
      obtain ⟨XS, hXS⟩ : ∃ x : ByteArray, ⟨(prS (.mk 0 false [] noS 0 [] [])).toArray⟩ = x := ⟨_, rfl⟩
      rw [hXE, hXS] at cQ
      have hWeH := hid hWe
      clear cP hVd bd hWe be hge hTe hXE hXS
      go_upto_region 14 with fail
      rw [← hWeH.out]
      go_wp2_with fail
      refine cQ.mono ?_
      rintro e wf ⟨rfl, bf⟩
      have hBf := hid (below_and hBe.out (Nat.le_refl _) bf)
      clear cQ bf
      go_wp2
      go_ret
      exact ⟨by simp, hBf.out⟩
end Go.Proofs.YtjacoodfhkaioaaGreatDoor.textBack
