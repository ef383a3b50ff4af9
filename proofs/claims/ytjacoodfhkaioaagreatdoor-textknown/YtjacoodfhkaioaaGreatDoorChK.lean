/- Texts of mine, one behind the other: TermRMay7, TermRWords, TermRoomOk, TermMakers, TermPartsM, TermItems, TermRooms, TextM, TextPr, TextOps, TextOps2. -/
import Derived.Test.YtjacoodfhkaioaaGreatDoorChJ
import Derived.Test.YtjacoodfhkaioaaGreatDoorChB
import Derived.Test.YtjacoodfhkaioaaGreatDoorChF
import Derived.Test.YtjacoodfhkaioaaGreatDoorChH
import Derived.Shelf.Strconv.AppendIntPublic10
import Derived.Lib.AppendStr
import Derived.Lib.AppendZeros
import Derived.Lib.AppendIntMem
import Derived.Laws.AppendOwn
import Derived.Deep.CutRange
namespace Go.Proofs.YtjacoodfhkaioaaGreatDoor
open Go.ChangeShapes Go.WideShapes Go.ChangeAt Go.RowKit Go.Shelf
set_option linter.unusedSimpArgs false
set_option linter.unusedVariables false
set_option maxRecDepth 2000
theorem rmay_w : ∀ (N : Nat) (T : Tm) (v : Value) (w : World), tsz T ≤ N → (∀ p ∈ parts T, p.ok1) → TV (Low w) w T v → Tabs w → May0 T v w := by
  intro N
  induction N with
  | zero => intro T v w h; cases T; simp only [tsz] at h; omega
  | succ N ih =>
  intro T v w hN hok hT hTa
  have hok1 := hok T (by rw [parts_eq]; simp)
  cases T with | mk k neg d nm n l b =>
  have hIHg : k = 4 ∨ k = 6 → Hid (∀ (t : Tm) (v : Value) (w' : World), t ∈ l → TV (Low w') w' t v → Tabs w' → May0 t v w') := fun hk => hid (fun t v w' ht hV hTa' => by
    obtain ⟨i, hi⟩ := List.getElem?_of_mem ht
    refine ih t v w' (by have := tsz_mem hi; simp only [tsz] at hN; omega) (fun p hp => hok p ?_) hV hTa'
    have : parts (.mk k neg d nm n l b) = .mk k neg d nm n l b :: partsL l := by simp [parts, hk]
    rw [this]
    exact List.mem_cons_of_mem _ (mem_partsL hi hp))
  unfold TV at hT
  obtain ⟨od, cd, ol, cl, ob, cb, rfl, hL, hcd, hm, _, _, hcl, hTR⟩ := hT
  by_cases k0 : k = 0
  · subst k0; exact may_k0 hok1 hcd hL
  by_cases k1 : k = 1
  · subst k1; exact may_k1 hok1 hTa
  by_cases k2 : k = 2
  · subst k2; exact may_k2
  by_cases k3 : k = 3
  · subst k3; exact may_k3
  by_cases k7 : k = 7
  · subst k7; exact may_k7
  by_cases k4 : k = 4
  · subst k4
    by_cases c0 : neg = true
    · subst c0; unfold May0; rw [all_lean (by simp [leanB, prT, eqF])]; exact bad1a od cd ol cl ob cb w 4 _ nm n _ _ rfl
    have c0' : neg = false := by simpa using c0
    subst c0'
    by_cases c1 : (d.length : Int) = 0
    case neg => unfold May0; rw [all_lean (by have : d ≠ [] := (fun e => c1 (by rw [e]; rfl)); simp [leanB, prT, eqF, *])]; exact bad1b od cd ol cl ob cb w 4 _ nm n _ _ rfl (len0 c1)
    by_cases c2 : nm.toList = []
    case neg => unfold May0; rw [all_lean (by simp [leanB, prT, eqF, nil_noS, *])]; rw [lnil c1]; exact bad2b od cd ol cl ob cb w 4 nm n _ _ rfl rfl c2
    by_cases c3 : n = 0
    case neg => unfold May0; rw [all_lean (by simp [leanB, prT, eqF, nil_noS, *])]; rw [lnil c1]; exact bad3c od cd ol cl ob cb w 4 nm n _ _ rfl rfl rfl rfl c2 (ne_true c3)
    by_cases c5 : (b.length : Int) = 0
    case neg => unfold May0; rw [all_lean (by have : b ≠ [] := (fun e => c5 (by rw [e]; rfl)); simp [leanB, prT, eqF, nil_noS, *])]; subst c3; rw [lnil c1]; exact bad5e od cd ol cl ob cb w nm _ _ c2 (len0 c5)
    subst c3
    have e1 := lnil c1
    have e5 := lnil c5
    subst e1 e5
    have hle : leanB (.mk 4 false [] nm 0 l []) = true := by simp [leanB, prT, eqF, nil_noS, *]
    have hpp : (parts (.mk 4 false [] nm 0 l [])).all fairB = (withinB (.mk 4 false [] nm 0 l []) && l.all (fun t => (parts t).all fairB)) := by
      rw [parts_eq]
      simp only [List.all_cons, fairB, hle, Bool.true_and, Tm.kids]
      rw [← all_partsL]
      rfl
    unfold May0
    rw [hpp]
    by_cases h255 : (l.length : Int) ≤ 255
    · have hw : withinB (.mk 4 false [] nm 0 l []) = true := by simp [withinB]; omega
      rw [hw, Bool.true_and]
      exact loop4 od cd ol cl ob cb w nm l c2 h255 hTR (hid hTa) (hIHg (.inl rfl))
    · have hw : withinB (.mk 4 false [] nm 0 l []) = false := by simp [withinB]; omega
      rw [hw, Bool.false_and]
      exact long4 od cd ol l.length cl ob cb w nm c2 (by omega)
  by_cases k6 : k = 6
  · subst k6
    by_cases c0 : neg = true
    · subst c0; unfold May0; rw [all_lean (by simp [leanB, prT, eqF])]; exact bad1a od cd ol cl ob cb w 6 _ nm n _ _ rfl
    have c0' : neg = false := by simpa using c0
    subst c0'
    by_cases c1 : (d.length : Int) = 0
    case neg => unfold May0; rw [all_lean (by have : d ≠ [] := (fun e => c1 (by rw [e]; rfl)); simp [leanB, prT, eqF, *])]; exact bad1b od cd ol cl ob cb w 6 _ nm n _ _ rfl (len0 c1)
    by_cases c2 : nm.toList = []
    case neg => unfold May0; rw [all_lean (by simp [leanB, prT, eqF, nil_noS, *])]; rw [lnil c1]; exact bad2b od cd ol cl ob cb w 6 nm n _ _ rfl rfl c2
    by_cases c3 : n = 0
    case neg => unfold May0; rw [all_lean (by simp [leanB, prT, eqF, nil_noS, *])]; rw [lnil c1]; exact bad3c od cd ol cl ob cb w 6 nm n _ _ rfl rfl rfl rfl c2 (ne_true c3)
    by_cases c5 : (b.length : Int) = 0
    case neg => unfold May0; rw [all_lean (by have : b ≠ [] := (fun e => c5 (by rw [e]; rfl)); simp [leanB, prT, eqF, nil_noS, *])]; subst c3; rw [lnil c1]; exact bad5f od cd ol cl ob cb w nm _ _ c2 (len0 c5)
    subst c3
    have e1 := lnil c1
    have e5 := lnil c5
    subst e1 e5
    have hle : leanB (.mk 6 false [] nm 0 l []) = true := by simp [leanB, prT, eqF, nil_noS, *]
    have hpp : (parts (.mk 6 false [] nm 0 l [])).all fairB = (withinB (.mk 6 false [] nm 0 l []) && l.all (fun t => (parts t).all fairB)) := by
      rw [parts_eq]
      simp only [List.all_cons, fairB, hle, Bool.true_and, Tm.kids]
      rw [← all_partsL]
      rfl
    unfold May0
    rw [hpp]
    by_cases h2 : (l.length : Int) = 2
    · have hw : withinB (.mk 6 false [] nm 0 l []) = true := by simp [withinB]; omega
      rw [hw, Bool.true_and]
      exact loop6 od cd ol cl ob cb w nm l c2 (by simp; omega) (by omega) hTR (hid hTa) (hIHg (.inr rfl))
    · have hw : withinB (.mk 6 false [] nm 0 l []) = false := by simp [withinB]; omega
      rw [hw, Bool.false_and]
      exact long6 od cd ol l.length cl ob cb w nm c2 (by simp; omega)
  exact may_kx k0 k1 k2 k3 k4 k6 k7
set_option maxHeartbeats 1000000 in
theorem rMay_w (T : Tm) (v : Value) (w : World) (hok : ∀ p ∈ parts T, p.ok1) (hT : TV (Low w) w T v) (hTa : Tabs w) :
    Calls Tryz.prog 26 #[v] w fun e w' => e = .returned (.bool (mayB T)) ∧ Below w.heap.size w w' := by
  obtain ⟨k, neg, od, ld, cd, nm, n, ol, ll, cl, ob, lb, cb, rfl⟩ := hT.form
  obtain ⟨kX, hBX, hz0⟩ := bx1 w (.int .i64 k) (.bool neg) (.slice od ld cd) (.string nm) (.int .i64 n) (.slice ol ll cl) (.slice ob lb cb) 27
  have hTb : ∀ w', Below w.heap.size w w' → TV (Low w') w' T (tmV k neg (.slice od ld cd) nm n (.slice ol ll cl) (.slice ob lb cb)) := fun w' hb => tv_below hT hb
  obtain ⟨R, hR⟩ : ∃ R, mayB T = R := ⟨_, rfl⟩
  rw [hR]
  unfold mayB at hR
  have hHR := hid hR
  clear hR hT
  go_enter Tryz.func26, Tryz.ntmps26
  go_wp2_with fail
  generalize (w.alloc (.cells #[.int .i64 k, .bool neg, .slice od ld cd, .string nm, .int .i64 n, .slice ol ll cl, .slice ob lb cb] 27)) = w1 at *
  refine (rTree_w (tsz T) T _ _ (Nat.le_refl _) hok (hTb _ hBX)).mono ?_
  rintro e w2 ⟨rfl, b2⟩
  have hB2 := below_and hBX (Nat.le_refl _) b2
  obtain ⟨x0, x1, x2, x3, x4, x5, x6⟩ := (kX.below b2).res
  by_cases ht : treeN T ≤ 65536
  · have ht' : ((treeN T : Nat) : Int) ≤ 65536 := by omega
    have hRa : (parts T).all fairB = R := by rw [← hHR.out, decide_eq_true ht, Bool.true_and]
    have hHa := hid hRa
    clear ht hHR hRa
    go_wp2_with fail
    refine (rmay_w (tsz T) T _ _ (Nat.le_refl _) hok (hTb _ hB2) (hTa.below hB2)).mono ?_
    rintro e w3 ⟨rfl, b3⟩
    rw [hHa.out]
    have hB3 := below_and hB2 (Nat.le_refl _) b3
    go_wp2
    go_ret
    exact ⟨rfl, hB3⟩
  · have ht' : ¬ (((treeN T : Nat) : Int) ≤ 65536) := by omega
    have hRf : R = false := by rw [← hHR.out, decide_eq_false ht, Bool.false_and]
    subst hRf
    clear hHR ht
    go_wp2
    go_ret
    exact ⟨rfl, hB2⟩
end Go.Proofs.YtjacoodfhkaioaaGreatDoor
namespace Go.Proofs.YtjacoodfhkaioaaGreatDoor
open Go.ChangeShapes Go.WideShapes Go.ChangeAt Go.RowKit Go.Shelf
set_option linter.unusedSimpArgs false
set_option linter.unusedVariables false
set_option maxRecDepth 2000
theorem fldR1 (b : Bool) (o : Option Addr) (n c : Nat) (w : World) : (Instr.field 84 (.agg #[.bool b, .slice o n c]) 1).run Tryz.prog w = .ok (.slice o n c) w := by kernel_rfl
def sumL (l : List Tm) : Nat := ((partsL l).map roomN).sum
theorem sumL_take {l : List Tm} {i : Nat} {t : Tm} (h : l[i]? = some t) : sumL (l.take (i + 1)) = sumL (l.take i) + wordsN t := by
  induction l generalizing i with
  | nil => simp at h
  | cons x l ih =>
    cases i with
    | zero => simp at h; subst h; simp [sumL, partsL, wordsN]
    | succ i =>
      simp only [List.getElem?_cons_succ] at h
      have := ih h
      unfold sumL at this ⊢
      simp only [List.take_succ_cons, partsL, List.map_append, List.sum_append, this]; omega
theorem sumL_le (l : List Tm) (hok : ∀ p ∈ partsL l, p.ok1) (i : Nat) : sumL (l.take i) ≤ (partsL l).length * 1000001 := by
  have h1 : ∀ p ∈ partsL (l.take i), p.ok1 := fun p hp => by
    refine hok p ?_
    clear hok
    induction l generalizing i with
    | nil => simp [partsL] at hp
    | cons x l ih =>
      cases i with
      | zero => simp [partsL] at hp
      | succ i =>
        simp only [List.take_succ_cons, partsL, List.mem_append] at hp ⊢
        rcases hp with hp | hp
        · exact .inl hp
        · exact .inr (ih i hp)
  have := sum_le _ h1
  have h2 := partsL_take_le l i
  unfold sumL
  exact Nat.le_trans this (Nat.mul_le_mul_right _ h2)
end Go.Proofs.YtjacoodfhkaioaaGreatDoor
namespace Go.Proofs.YtjacoodfhkaioaaGreatDoor
open Go.ChangeShapes Go.WideShapes Go.ChangeAt Go.RowKit Go.Shelf
set_option linter.unusedSimpArgs false
set_option linter.unusedVariables false
set_option maxRecDepth 2000
mutual
theorem room_ok {Z : Nat → Prop} {w : World} {most : Int} (hm : most ≤ 1000000) : ∀ (T : Tm) (v : Value) (dp : Int), TV Z w T v → roomB most dp T = true → (∀ p ∈ parts T, p.ok1) ∧ (dep T : Int) ≤ dp + 1
  | .mk k neg d nm n l b, v, dp, h, hr => by
    unfold TV at h
    obtain ⟨od, cd, ol, cl, ob, cb, _, _, _, h3, _, _, _, h7⟩ := h
    unfold roomB at hr
    simp only [Bool.and_eq_true, decide_eq_true_eq] at hr
    obtain ⟨r1, r2, r3, r4, r5, r6⟩ := hr
    obtain ⟨g1, g2⟩ := room_okL hm l ol (dp - 1) h7 r6 (by omega)
    have hself : (Tm.mk k neg d nm n l b).ok1 := ⟨by omega, by omega, by omega, by omega, h3⟩
    refine ⟨fun p hp => ?_, ?_⟩
    · rw [parts_eq] at hp
      rcases List.mem_cons.1 hp with rfl | hp
      · exact hself
      · by_cases hk : k = 4 ∨ k = 6
        · simp only [Tm.kids, hk, if_true] at hp; exact g1 p hp
        · simp only [Tm.kids, hk, if_false, partsL, List.not_mem_nil] at hp
    · unfold dep
      split <;> omega
theorem room_okL {Z : Nat → Prop} {w : World} {most : Int} (hm : most ≤ 1000000) : ∀ (l : List Tm) (o : Option Addr) (dp : Int), TR Z w l o → roomsB most dp l = true → -1 ≤ dp → (∀ p ∈ partsL l, p.ok1) ∧ (depL l : Int) ≤ dp + 1
  | [], o, dp, _, _, h => ⟨by simp [partsL], by simp [depL]; omega⟩
  | t :: l, o, dp, h, hr, hd => by
    unfold TR at h
    obtain ⟨a, v, _, _, _, hT, hR⟩ := h
    unfold roomsB at hr
    rw [Bool.and_eq_true] at hr
    obtain ⟨g1, g2⟩ := room_ok hm t v dp hT hr.1
    obtain ⟨g3, g4⟩ := room_okL hm l _ dp hR hr.2 hd
    refine ⟨fun p hp => ?_, ?_⟩
    · simp only [partsL, List.mem_append] at hp
      rcases hp with hp | hp
      · exact g1 p hp
      · exact g3 p hp
    · simp only [depL]; omega
end
theorem tr_le {M M' p : Nat} (hM : M' = M + 1) (h : min p M' ≤ M) : p ≤ M := by subst hM; omega
theorem may_parts {T : Tm} (h : mayB T = true) : (parts T).length ≤ 65536 ∧ ∀ p ∈ parts T, fairB p = true := by
  unfold mayB at h
  rw [Bool.and_eq_true, List.all_eq_true] at h
  refine ⟨?_, h.2⟩
  have h1 : treeN T ≤ 65536 := of_decide_eq_true h.1
  exact tr_le (M := 65536) rfl h1
end Go.Proofs.YtjacoodfhkaioaaGreatDoor
namespace Go.Proofs.YtjacoodfhkaioaaGreatDoor
open Go.ChangeShapes Go.WideShapes Go.ChangeAt Go.RowKit Go.Shelf
set_option linter.unusedSimpArgs false
set_option linter.unusedVariables false
set_option maxRecDepth 2000
def tupT (l : List Tm) : Tm := .mk 4 false [] noS 0 l []
def binT (b : List Nat) : Tm := .mk 7 false [] noS 0 [] b
def numT (k n : Int) : Tm := .mk k false [] noS n [] []
theorem tv_tup {w : World} {ls : List Tm} {o : Option Addr} {c : Nat} (h : TR (Low w) w ls o) (hc : ls.length ≤ c) : TV (Low w) w (tupT ls) (tmV 4 false nilS noS 0 (.slice o ls.length c) nilS) := by
  unfold tupT TV
  exact ⟨none, 0, o, c, none, 0, rfl, Ls.nil _ _ _, by simp, Lm.nil _, LsB.nil _ _ _, by simp, hc, h⟩
theorem tv_bin {w : World} {b : List Nat} {o : Option Addr} {c : Nat} (h : LsB (Low w) o b w) (hc : b.length ≤ c) : TV (Low w) w (binT b) (tmV 7 false nilS noS 0 nilS (.slice o b.length c)) := by
  unfold binT TV
  exact ⟨none, 0, none, 0, o, c, rfl, Ls.nil _ _ _, by simp, Lm.nil _, h, hc, by simp, by unfold TR; trivial⟩
theorem parts_tup (l : List Tm) : parts (tupT l) = tupT l :: partsL l := by simp [tupT, parts]
theorem parts_bin (b : List Nat) : parts (binT b) = [binT b] := by simp [binT, parts]
theorem cpT_tup (l : List Tm) : cpT (tupT l) = tupT (cpL l) := by simp [tupT, cpT]
theorem cpT_bin (b : List Nat) : cpT (binT b) = binT b := by simp [binT, cpT, prT]
theorem cpT_cons (a b : Tm) : cpT (consT a b) = consT (cpT a) (cpT b) := by simp [consT, cpT, cpL]
set_option maxHeartbeats 1000000 in
theorem Tuple_w (ls : List Tm) (o : Option Addr) (c : Nat) (w : World) (hc : ls.length ≤ c) (hlen : (partsL ls).length ≤ 499999) (hl : ls.length ≤ 1000000) (hok : ∀ p ∈ partsL ls, p.ok1) (hT : TR (Low w) w ls o) :
    Calls Tryz.prog 64 #[.slice o ls.length c] w fun e w' => ∃ v', e = .returned v' ∧ TV (Zw w.heap.size w') w' (tupT (cpL ls)) v' ∧ Below w.heap.size w w' := by
  obtain ⟨kX, hBX, hz0⟩ := bx1 w (.int .i64 0) (.bool false) nilS (.string noS) (.int .i64 0) nilS nilS 27
  go_enter Tryz.func64, Tryz.ntmps64
  go_wp2_with fail
  generalize (w.alloc (.cells #[.int .i64 0, .bool false, .slice none 0 0, .string { data := #[] }, .int .i64 0, .slice none 0 0, .slice none 0 0] 27)) = W0 at *
  refine (Copy_w (tupT ls) _ _ (by rw [parts_tup]; simp; omega) (by rw [parts_tup]; intro p hp; rcases List.mem_cons.1 hp with rfl | hp; exact ⟨by simp, by decide, hl, by simp, Lm.nil _⟩; exact hok p hp) (tv_tup (tr_below hT hBX) hc)).mono ?_
  rintro e w2 ⟨v2, rfl, hV, b2⟩
  rw [cpT_tup] at hV
  have hBX := below_and hBX (by omega) b2
  have kX := kX.below b2
  clear b2
  obtain ⟨k9, neg9, od9, ld9, cd9, nm9, n9, ol9, ll9, cl9, ob9, lb9, cb9, rfl⟩ := hV.form
  have hf9 := kX.fr
  obtain ⟨x0, x1, x2, x3, x4, x5, x6⟩ := kX.res
  have hput := kX.put (b0 := .int .i64 k9) (b1 := .bool neg9) (b2 := .slice od9 ld9 cd9) (b3 := .string nm9) (b4 := .int .i64 n9) (b5 := .slice ol9 ll9 cl9) (b6 := .slice ob9 lb9 cb9)
  have hon := only_put w2 w.heap.size (.int .i64 k9) (.bool neg9) (.slice od9 ld9 cd9) (.string nm9) (.int .i64 n9) (.slice ol9 ll9 cl9) (.slice ob9 lb9 cb9)
  obtain ⟨r0, r1, r2, r3, r4, r5, r6⟩ := hput.res
  have hfin := hid (zw_move (S' := w.heap.size) hV (fun k hk _ => hon.2.2 k (by omega)) (by omega))
  have hBf := hBX.trans (hon.below (B := w.heap.size) (by omega))
  clear hV hon kX hput hBX
  go_wp2
  exact bodyPost_ret (v := tmV k9 neg9 (.slice od9 ld9 cd9) nm9 n9 (.slice ol9 ll9 cl9) (.slice ob9 lb9 cb9)) (by simp [results, Tryz.results64, go_sem, r0, r1, r2, r3, r4, r5, r6]) rfl ⟨_, rfl, hfin.out, hBf⟩
set_option maxHeartbeats 1000000 in
theorem Bin_w (b : List Nat) (o : Option Addr) (c : Nat) (w : World) (hc : b.length ≤ c) (hl : b.length ≤ 1000000) (hT : LsB (Low w) o b w) :
    Calls Tryz.prog 100 #[.slice o b.length c] w fun e w' => ∃ v', e = .returned v' ∧ TV (Zw w.heap.size w') w' (binT b) v' ∧ Below w.heap.size w w' := by
  obtain ⟨kX, hBX, hz0⟩ := bx1 w (.int .i64 0) (.bool false) nilS (.string noS) (.int .i64 0) nilS nilS 27
  go_enter Tryz.func100, Tryz.ntmps100
  go_wp2_with fail
  generalize (w.alloc (.cells #[.int .i64 0, .bool false, .slice none 0 0, .string { data := #[] }, .int .i64 0, .slice none 0 0, .slice none 0 0] 27)) = W0 at *
  refine (Copy_w (binT b) _ _ (by rw [parts_bin]; simp) (by rw [parts_bin]; intro p hp; simp at hp; subst hp; exact ⟨by simp, by decide, by simp, hl, Lm.nil _⟩) (tv_bin ((hT.zs (fun k hk => hBX.block k hk)).mono (fun k hk _ => hk)) hc)).mono ?_
  rintro e w2 ⟨v2, rfl, hV, b2⟩
  rw [cpT_bin] at hV
  have hBX := below_and hBX (by omega) b2
  have kX := kX.below b2
  clear b2
  obtain ⟨k9, neg9, od9, ld9, cd9, nm9, n9, ol9, ll9, cl9, ob9, lb9, cb9, rfl⟩ := hV.form
  have hf9 := kX.fr
  obtain ⟨x0, x1, x2, x3, x4, x5, x6⟩ := kX.res
  have hput := kX.put (b0 := .int .i64 k9) (b1 := .bool neg9) (b2 := .slice od9 ld9 cd9) (b3 := .string nm9) (b4 := .int .i64 n9) (b5 := .slice ol9 ll9 cl9) (b6 := .slice ob9 lb9 cb9)
  have hon := only_put w2 w.heap.size (.int .i64 k9) (.bool neg9) (.slice od9 ld9 cd9) (.string nm9) (.int .i64 n9) (.slice ol9 ll9 cl9) (.slice ob9 lb9 cb9)
  obtain ⟨r0, r1, r2, r3, r4, r5, r6⟩ := hput.res
  have hfin := hid (zw_move (S' := w.heap.size) hV (fun k hk _ => hon.2.2 k (by omega)) (by omega))
  have hBf := hBX.trans (hon.below (B := w.heap.size) (by omega))
  clear hV hon kX hput hBX
  go_wp2
  exact bodyPost_ret (v := tmV k9 neg9 (.slice od9 ld9 cd9) nm9 n9 (.slice ol9 ll9 cl9) (.slice ob9 lb9 cb9)) (by simp [results, Tryz.results100, go_sem, r0, r1, r2, r3, r4, r5, r6]) rfl ⟨_, rfl, hfin.out, hBf⟩
set_option maxHeartbeats 1000000 in
theorem Pid_w (n : Int) (w : World) : Calls Tryz.prog 101 #[.int .i64 n] w fun e w' => e = .returned (tmV 3 false nilS noS n nilS nilS) ∧ Below w.heap.size w w' := by
  go_enter Tryz.func101, Tryz.ntmps101
  go_wp2
  exact bodyPost_ret (v := tmV 3 false nilS noS n nilS nilS) (by simp [results, Tryz.results101, go_sem]) rfl ⟨rfl, (Below.refl _ w).alloc (Nat.le_refl _) _⟩
set_option maxHeartbeats 1000000 in
theorem Ref_w (n : Int) (w : World) : Calls Tryz.prog 102 #[.int .i64 n] w fun e w' => e = .returned (tmV 2 false nilS noS n nilS nilS) ∧ Below w.heap.size w w' := by
  go_enter Tryz.func102, Tryz.ntmps102
  go_wp2
  exact bodyPost_ret (v := tmV 2 false nilS noS n nilS nilS) (by simp [results, Tryz.results102, go_sem]) rfl ⟨rfl, (Below.refl _ w).alloc (Nat.le_refl _) _⟩
end Go.Proofs.YtjacoodfhkaioaaGreatDoor
namespace Go.Proofs.YtjacoodfhkaioaaGreatDoor
open Go.ChangeShapes Go.WideShapes Go.ChangeAt Go.RowKit Go.Shelf
set_option linter.unusedSimpArgs false
set_option linter.unusedVariables false
set_option maxRecDepth 2000
theorem bytes_nil {s : ByteArray} (h : s.toList = []) : s = noS := by
  have h1 := isEmpty_bytes s
  rw [h] at h1
  have h2 : s.data.toList = [] := by
    have : decide (s.data.toList ≠ []) = false := by rw [← h1]; rfl
    simpa using this
  cases s with | mk a =>
  simp at h2
  subst h2
  rfl
theorem prT_lean {T : Tm} (h : leanB T = true) : prT T = T := by
  cases T with | mk k neg d nm n l b =>
  unfold leanB at h
  obtain ⟨P, hP⟩ : ∃ P, prT (.mk k neg d nm n l b) = P := ⟨_, rfl⟩
  rw [hP] at h ⊢
  unfold prT at hP
  by_cases e0 : k = 0
  · subst e0; simp at hP; subst hP; simp [eqF, nil_noS] at h; obtain ⟨⟨⟨h1, rfl⟩, rfl⟩, rfl⟩ := h; rw [bytes_nil h1]
  by_cases e1 : k = 1
  · subst e1; simp at hP; subst hP; simp [eqF, nil_noS] at h; obtain ⟨⟨⟨⟨rfl, rfl⟩, rfl⟩, rfl⟩, rfl⟩ := h; rfl
  by_cases e2 : k = 2
  · subst e2; simp at hP; subst hP; simp [eqF, nil_noS] at h; obtain ⟨⟨⟨⟨rfl, h1⟩, rfl⟩, rfl⟩, rfl⟩ := h; rw [bytes_nil h1]
  by_cases e3 : k = 3
  · subst e3; simp at hP; subst hP; simp [eqF, nil_noS] at h; obtain ⟨⟨⟨⟨rfl, h1⟩, rfl⟩, rfl⟩, rfl⟩ := h; rw [bytes_nil h1]
  by_cases e4 : k = 4
  · subst e4; simp at hP; subst hP; simp [eqF, nil_noS] at h; obtain ⟨⟨⟨⟨rfl, h1⟩, rfl⟩, rfl⟩, rfl⟩ := h; rw [bytes_nil h1]
  by_cases e6 : k = 6
  · subst e6; simp at hP; subst hP; simp [eqF, nil_noS] at h; obtain ⟨⟨⟨⟨rfl, h1⟩, rfl⟩, rfl⟩, rfl⟩ := h; rw [bytes_nil h1]
  by_cases e7 : k = 7
  · subst e7; simp at hP; subst hP; simp [eqF, nil_noS] at h; obtain ⟨⟨⟨⟨rfl, h1⟩, rfl⟩, rfl⟩, rfl⟩ := h; rw [bytes_nil h1]
  simp only [e0, e1, e2, e3, e4, e6, e7, if_false] at hP
  subst hP
  simp [eqF, nil_noS] at h
  obtain ⟨⟨⟨⟨⟨⟨rfl, rfl⟩, h1⟩, rfl⟩, rfl⟩, rfl⟩, rfl⟩ := h
  rw [bytes_nil h1]
theorem fair_lean {T : Tm} (h : fairB T = true) : leanB T = true := by
  unfold fairB at h
  rw [Bool.and_eq_true] at h
  exact h.1
mutual
theorem cpT_id : ∀ (T : Tm), (∀ p ∈ parts T, fairB p = true) → cpT T = T
  | .mk k neg d nm n l b, h => by
    have hp := prT_lean (fair_lean (h (.mk k neg d nm n l b) (by rw [parts_eq]; simp)))
    by_cases hk : k = 4 ∨ k = 6
    · have hl := cpL_id l (fun p hp' => h p (by simp only [parts, hk, if_true]; exact List.mem_cons_of_mem _ hp'))
      unfold cpT
      rw [if_pos hk, hl]
      rcases hk with rfl | rfl
      · simpa [prT] using hp
      · simpa [prT] using hp
    · unfold cpT
      rw [if_neg hk]
      have h4 : ¬ k = 4 := fun e => hk (.inl e)
      have h6 : ¬ k = 6 := fun e => hk (.inr e)
      have e : prT (.mk k neg d nm n l b) = prT (.mk k neg d nm n [] b) := by simp only [prT, h4, h6, if_false]
      rw [← e]
      exact hp
theorem cpL_id : ∀ (l : List Tm), (∀ p ∈ partsL l, fairB p = true) → cpL l = l
  | [], _ => rfl
  | t :: l, h => by
    simp only [cpL]
    rw [cpT_id t (fun p hp => h p (by simp [partsL, hp])), cpL_id l (fun p hp => h p (by simp [partsL, hp]))]
end
theorem list_parts : ∀ l : List Tm, (parts (listT l)).length = (partsL l).length + l.length + 1
  | [] => by simp [listT, parts_nil, partsL]
  | t :: l => by
    have := list_parts l
    simp only [listT, parts_cons, partsL, List.length_cons, List.length_append, this]; omega
theorem list_words : ∀ l : List Tm, wordsN (listT l) = 3 * l.length + sumL l
  | [] => by
    unfold wordsN
    simp only [listT, parts_nil]
    simp [nilT, roomN, sumL, partsL]
  | t :: l => by
    have := list_words l
    unfold wordsN sumL at this ⊢
    have hc : roomN (consT t (listT l)) = 3 := by simp [consT, roomN]
    simp only [listT, parts_cons, partsL, List.map_cons, List.map_append, List.sum_cons, List.sum_append, List.length_cons, this, hc]
    omega
theorem tup_words (l : List Tm) : wordsN (tupT l) = 1 + l.length + sumL l := by
  unfold wordsN sumL
  rw [parts_tup]
  simp [tupT, roomN]
theorem mem_list_parts : ∀ (l : List Tm) (p : Tm), p ∈ parts (listT l) → p ∈ partsL l ∨ (∃ a b, p = consT a b) ∨ p = nilT
  | [], p, h => by simp [listT, parts_nil] at h; exact .inr (.inr h)
  | t :: l, p, h => by
    simp only [listT, parts_cons, List.mem_cons, List.mem_append] at h
    rcases h with rfl | h | h
    · exact .inr (.inl ⟨_, _, rfl⟩)
    · exact .inl (by simp [partsL, h])
    · rcases mem_list_parts l p h with h | h | h
      · exact .inl (by simp [partsL, h])
      · exact .inr (.inl h)
      · exact .inr (.inr h)
theorem dep_list : ∀ l : List Tm, dep (listT l) ≤ l.length + depL l + 1
  | [] => by simp [listT, nilT, dep]
  | t :: l => by
    have := dep_list l
    simp only [listT, consT, dep, depL, List.length_cons]
    simp
    omega
theorem mayB_of {T : Tm} (h1 : (parts T).length ≤ 65536) (h2 : ∀ p ∈ parts T, fairB p = true) : mayB T = true := by
  unfold mayB
  rw [Bool.and_eq_true, List.all_eq_true]
  exact ⟨decide_eq_true (Nat.le_trans (Nat.min_le_left _ _) h1), h2⟩
theorem treeN_of {T : Tm} (h1 : (parts T).length ≤ 65536) : treeN T = (parts T).length := by
  unfold treeN
  exact Nat.min_eq_left (Nat.le_trans h1 (by omega))
theorem fair_tup {l : List Tm} (h : l.length ≤ 255) : fairB (tupT l) = true := by
  unfold fairB
  rw [leanB_of (by simp [tupT, prT])]
  simp [tupT, withinB]; omega
end Go.Proofs.YtjacoodfhkaioaaGreatDoor
namespace Go.Proofs.YtjacoodfhkaioaaGreatDoor
open Go.ChangeShapes Go.WideShapes Go.ChangeAt Go.RowKit Go.Shelf
set_option linter.unusedSimpArgs false
set_option linter.unusedVariables false
set_option maxRecDepth 2000
set_option maxHeartbeats 2000000 in
set_option maxRecDepth 4000 in
theorem copies_nil (o : Option Addr) (c : Nat) (w : World) :
    Calls Tryz.prog 127 #[.slice o 0 c] w fun e w' => ∃ o' c', e = .returned (.slice o' 0 c') ∧ Below w.heap.size w w' := by
  obtain ⟨iT, hT1, hT2, hT3, hT4⟩ := info_parts infoT
  obtain ⟨vA, w1, hr1, hA1, b1⟩ := ap_run 24 27 iT _ 7 112 Tryz.underlying24 hT1 hT2 hT3 hT4 rfl (by decide) w o c 0 [] rfl (by simp) (by omega) (by omega) (fun j u hj => by simp at hj)
  obtain ⟨oA, cA, rfl, hcA⟩ := own_sl hA1
  go_enter Tryz.func127, Tryz.ntmps127
  go_wp2_with (at_builtin; refine wpList_append_run rfl _ _ 24 rfl _ _ _ _ rfl rfl hr1 ?_)
  clear hr1
  have hB1 := b1.alloc b1.size (.cells #[.slice oA 0 cA] 24)
  have hc1 : (w1.alloc (.cells #[.slice oA 0 cA] 24)).cell? ⟨w1.heap.size, 0, none⟩ = some (.slice oA 0 cA) := by rw [World.cell?_alloc_mark]; rfl
  generalize (w1.alloc (.cells #[.slice oA 0 cA] 24)) = W0 at *
  go_loopg [4] 1 (fun t v4 wr => ∃ m : Nat, t = m ∧ m ≤ 1 ∧ v4 = .slice (some ⟨w1.heap.size, 0, none⟩) m 1 ∧ wr = W0)
  case atStart => exact ⟨1, rfl, by omega, rfl, rfl⟩
  case round =>
    obtain ⟨m, rfl, hm, rfl, rfl⟩ := hrel
    generalize gk = m at *
    rcases Nat.eq_zero_or_pos m with h0 | h0
    · subst h0
      go_wp2
      go_ret
      exact ⟨oA, cA, rfl, hB1⟩
    · have h1 : m = 1 := by omega
      subst h1
      go_wp2_with fail
      go_loopg [4, 28] 0 (fun t v4 v28 wx => t = 0 ∧ v4 = .slice (some ⟨w1.heap.size, 0, none⟩) 0 1 ∧ v28 = .int .i64 0 ∧ wx = wr)
      case atStart => exact ⟨rfl, rfl, rfl, rfl⟩
      case round =>
        obtain ⟨rfl, rfl, rfl, rfl⟩ := hrel
        go_wp2
        go_roundg 0
        case measure => omega
        case rel => exact ⟨0, rfl, by omega, rfl, rfl⟩
/-- a list's items, those ahead first, and whether its end is Nil -/
inductive Ch : Tm → List Tm → Bool → Prop
  | stop (k : Int) (neg : Bool) (d : List Nat) (nm : ByteArray) (n : Int) (l : List Tm) (b : List Nat) (h : ¬ (k = 6 ∧ l.length = 2)) (r : Bool) (hr : r = decide (¬ (k = 0 ∨ k = 1 ∨ k = 2 ∨ k = 3 ∨ k = 4 ∨ k = 6 ∨ k = 7))) : Ch (.mk k neg d nm n l b) [] r
  | step (neg : Bool) (d : List Nat) (nm : ByteArray) (n : Int) (x y : Tm) (b : List Nat) (l : List Tm) (r : Bool) (h : Ch y l r) : Ch (.mk 6 neg d nm n [x, y] b) (x :: l) r
theorem ch_list : ∀ l : List Tm, Ch (listT l) l true
  | [] => Ch.stop 5 false [] noS 0 [] [] (by simp) true (by simp)
  | t :: l => Ch.step false [] noS 0 t (listT l) [] l true (ch_list l)
theorem prT_stop {k : Int} {neg : Bool} {d : List Nat} {nm : ByteArray} {n : Int} {l : List Tm} {b : List Nat} {pk : Int} {pneg : Bool} {pd : List Nat} {pnm : ByteArray} {pn : Int} {pl : List Tm} {pb : List Nat} (h : prT (.mk k neg d nm n l b) = .mk pk pneg pd pnm pn pl pb) :
    ((pk = 6 ∧ pl.length = 2) ↔ (k = 6 ∧ l.length = 2)) ∧ (pk = 5 ↔ ¬ (k = 0 ∨ k = 1 ∨ k = 2 ∨ k = 3 ∨ k = 4 ∨ k = 6 ∨ k = 7)) := by
  unfold prT at h
  by_cases e0 : k = 0
  · subst e0; simp at h; obtain ⟨rfl, _, _, _, _, rfl, _⟩ := h; simp
  by_cases e1 : k = 1
  · subst e1; simp at h; obtain ⟨rfl, _, _, _, _, rfl, _⟩ := h; simp
  by_cases e2 : k = 2
  · subst e2; simp at h; obtain ⟨rfl, _, _, _, _, rfl, _⟩ := h; simp
  by_cases e3 : k = 3
  · subst e3; simp at h; obtain ⟨rfl, _, _, _, _, rfl, _⟩ := h; simp
  by_cases e4 : k = 4
  · subst e4; simp at h; obtain ⟨rfl, _, _, _, _, rfl, _⟩ := h; simp
  by_cases e6 : k = 6
  · subst e6; simp at h; obtain ⟨rfl, _, _, _, _, rfl, _⟩ := h; simp
  by_cases e7 : k = 7
  · subst e7; simp at h; obtain ⟨rfl, _, _, _, _, rfl, _⟩ := h; simp
  simp only [e0, e1, e2, e3, e4, e6, e7, if_false] at h
  simp at h
  obtain ⟨rfl, _, _, _, _, rfl, _⟩ := h
  simp [e0, e1, e2, e3, e4, e6, e7]
theorem RC.snoc {Z : Nat → Prop} {w : World} {t : Tm} {k : Int} {neg : Bool} {od : Option Addr} {ld cd : Nat} {nm : ByteArray} {n : Int} {ol : Option Addr} {ll cl : Nat} {ob : Option Addr} {lb cb : Nat} (ht : TV Z w t (tmV k neg (.slice od ld cd) nm n (.slice ol ll cl) (.slice ob lb cb))) :
    ∀ {l : List Tm} {xs : List Value}, RC Z w l xs → RC Z w (l ++ [t]) (xs ++ [.int .i64 k, .bool neg, .slice od ld cd, .string nm, .int .i64 n, .slice ol ll cl, .slice ob lb cb])
  | [], xs, h => by
    have : xs = [] := h
    subst this
    exact ⟨_, _, _, _, _, _, _, _, _, _, _, _, _, [], ht, rfl, rfl⟩
  | q :: l, xs, h => by
    obtain ⟨k', neg', od', ld', cd', nm', n', ol', ll', cl', ob', lb', cb', ys, hq, rfl, hr⟩ := h
    exact ⟨_, _, _, _, _, _, _, _, _, _, _, _, _, _, hq, rfl, hr.snoc ht⟩
theorem RC.mono {Z Z' : Nat → Prop} {w : World} (hb : ∀ k, k < w.heap.size → Z k → Z' k) : ∀ {l : List Tm} {xs : List Value}, RC Z w l xs → RC Z' w l xs
  | [], xs, h => h
  | t :: l, xs, h => by
    obtain ⟨k, neg, od, ld, cd, nm, n, ol, ll, cl, ob, lb, cb, ys, ht, rfl, hr⟩ := h
    exact ⟨k, neg, od, ld, cd, nm, n, ol, ll, cl, ob, lb, cb, ys, TV.mono hb _ _ ht, rfl, hr.mono hb⟩
theorem own_tr {w : World} {B g c : Nat} {l : List Tm} {xs : List Value} (h : w.ownsRow B 27 7 (.slice (some ⟨g, 0, none⟩) l.length c) l.length xs) (hR : RC (Low w) w l xs) : TR (Low w) w l (some ⟨g, 0, none⟩) := by
  have hb := rowB_of h
  refine hR.tr (fun _ => ?_) (fun j u hj => ?_)
  · obtain ⟨cur, hg, _⟩ := hb
    exact (Array.getElem?_eq_some_iff.1 hg).1
  · rw [addr_add, Nat.zero_add]; exact hb.cell j u hj
/-- what Items answers -/
def ItP (S : Nat) (its : List Tm) (r : Bool) (e : Ending) (w' : World) : Prop := (r = true ∧ ∃ o c, e = .returned (.tuple #[.slice o its.length c, .bool true]) ∧ TR (Zw S w') w' (cpL its) o) ∨ (r = false ∧ e = .returned (.tuple #[.slice none 0 0, .bool false]))
theorem ItP.yes {S : Nat} {its : List Tm} {w' : World} {o : Option Addr} {c : Nat} (h : TR (Zw S w') w' (cpL its) o) : ItP S its true (.returned (.tuple #[.slice o its.length c, .bool true])) w' := .inl ⟨rfl, o, c, rfl, h⟩
theorem ItP.no {S : Nat} {its : List Tm} {w' : World} : ItP S its false (.returned (.tuple #[.slice none 0 0, .bool false])) w' := .inr ⟨rfl, rfl⟩
end Go.Proofs.YtjacoodfhkaioaaGreatDoor
namespace Go.Proofs.YtjacoodfhkaioaaGreatDoor
open Go.ChangeShapes Go.WideShapes Go.ChangeAt Go.ChangeMaps Go.RowKit Go.Shelf
set_option linter.unusedSimpArgs false
set_option linter.unusedVariables false
set_option maxRecDepth 2000
theorem open_terms {H : Type} {enc : TypeId × Value → H} {base : Nat} {w : World} {v : Value} {d : DataW H} {p : List MemPlace} (o0 : Value.okWide Tryz.prog w Reach.any base 24 v) (h0 : DataW.Trod enc Tryz.prog w 0 (fun _ => true) true 24 v d p) :
    ∃ (o : Option Addr) (l : List Tm) (c : Nat), v = .slice o l.length c ∧ TR (Low w) w l o ∧ l.length ≤ c := by
  obtain ⟨a, len, cap, rfl⟩ := okWide_slice Tryz.underlying24 o0
  obtain ⟨m, hm⟩ := h0
  rcases DataW.trod_slice Tryz.underlying24 hm with ⟨e, _⟩ | ⟨ad, len', cap', elems, rest, n, hn, e, _, _, hlc, _, hel, hall, _⟩
  · simp [Value.cells] at e
    obtain ⟨rfl, rfl, rfl⟩ := e
    exact ⟨none, [], 0, rfl, by unfold TR; trivial, by simp⟩
  · simp [Value.cells] at e
    obtain ⟨rfl, rfl, rfl⟩ := e
    rw [seven] at hall
    obtain ⟨l, hll, hR⟩ := rows_of (w := w) len ad (fun i hi => by
      have h1 := hall i hi
      rw [List.getElem?_eq_getElem (by omega)] at h1
      cases hc : w.cells? 0 (ad.add (i * 7)) 7 with
      | none => rw [hc] at h1; simp at h1
      | some cs' =>
        rw [hc] at h1
        simp only [Option.bind_some] at h1
        obtain ⟨T, k', neg', od', ld', cd', nm', n'', ol', ll', cl', ob', lb', cb', rfl, hT⟩ := open_cells n cs' _ h1
        obtain ⟨_, _, hcell⟩ := World.cells?_some hc
        have h0 := hcell 0 (by omega)
        rw [add_zero] at h0
        exact ⟨T, _, ⟨_, _, _, _, _, _, _, rfl, h0, hcell 1 (by omega), hcell 2 (by omega), hcell 3 (by omega), hcell 4 (by omega), hcell 5 (by omega), hcell 6 (by omega)⟩, hT⟩)
    exact ⟨some ad, l, cap, by rw [hll], hR, by omega⟩
def okRow (t : Tm) : Bool := roomB 40 8 t && mayB t
theorem TR.mem {Z : Nat → Prop} {w : World} : ∀ {l : List Tm} {o : Option Addr} {t : Tm}, TR Z w l o → t ∈ l → ∃ v, TV Z w t v
  | [], _, _, _, h => by simp at h
  | q :: l, o, t, h, hm => by
    unfold TR at h
    obtain ⟨a, v, _, _, _, hT, hR⟩ := h
    rcases List.mem_cons.1 hm with rfl | hm
    · exact ⟨v, hT⟩
    · exact TR.mem hR hm
set_option maxHeartbeats 2000000 in
set_option maxRecDepth 4000 in
theorem Rooms_w (most : Nat) (hm : most ≤ 1000) (l : List Tm) (o : Option Addr) (c : Nat) (w : World) (hTR : TR (Low w) w l o) (hTa : Tabs w) :
    Calls Tryz.prog 18 #[.slice o l.length c, .int .i64 (most : Int)] w fun e w' => e = .returned (.bool (decide (l.length ≤ most) && l.all okRow)) ∧ Below w.heap.size w w' := by
  obtain ⟨R, hR⟩ : ∃ R, (decide (l.length ≤ most) && l.all okRow) = R := ⟨_, rfl⟩
  rw [hR]
  have hHR := hid hR
  clear hR
  by_cases hl : most < l.length
  · have hl' : (most : Int) < (l.length : Int) := by omega
    have hRf : R = false := by rw [← hHR.out, decide_eq_false (by omega), Bool.false_and]
    subst hRf
    clear hHR
    go_enter Tryz.func18, Tryz.ntmps18
    go_wp2
    go_ret
    exact ⟨rfl, Below.refl _ _⟩
  have hl' : ¬ ((most : Int) < (l.length : Int)) := by omega
  have hHR2 : Hid (l.all okRow = R) := hid (by rw [← hHR.out, decide_eq_true (by omega), Bool.true_and])
  have hll : l.length ≤ 1000 := by omega
  clear hHR
  go_enter Tryz.func18, Tryz.ntmps18
  go_wp2_with fail
  clear hl hl'
  go_loopg [5] l.length (fun t v5 wr => ∃ i : Nat, t + i = l.length ∧ v5 = .int .i64 (i : Int) ∧ Hid (∀ j x, j < i → l[j]? = some x → okRow x = true) ∧ Below w.heap.size w wr)
  case atStart => exact ⟨0, by omega, rfl, hid (fun j x hj => by omega), Below.refl _ _⟩
  case round =>
    obtain ⟨i, hti, rfl, hH, hBr⟩ := hrel
    by_cases hil : i = l.length
    · subst hil
      have hRt : R = true := by
        rw [← hHR2.out, List.all_eq_true]
        intro x hx
        obtain ⟨j, hj, he⟩ := List.getElem_of_mem hx
        exact hH.out j x hj (by rw [List.getElem?_eq_getElem hj, he])
      subst hRt
      go_wp2
      go_ret
      exact ⟨rfl, hBr⟩
    · have hil' : i < l.length := by omega
      have hii : ((i : Nat) : Int) < ((l.length : Nat) : Int) := by omega
      obtain ⟨t, ht⟩ : ∃ t, l[i]? = some t := ⟨l[i], by simp [hil']⟩
      obtain ⟨a, k', neg', od', ld', cd', nm', n', ol', ll', cl', ob', lb', cb', rfl, hTv', y0, y1, y2, y3, y4, y5, y6⟩ := hTR.get ht hBr
      have hHt := hid ht
      have hRf : okRow t = false → R = false := fun hf => by
        rw [← hHR2.out]
        cases hq : l.all okRow with
        | false => rfl
        | true =>
          rw [List.all_eq_true] at hq
          have := hq t (List.mem_of_getElem? ht)
          rw [hf] at this; simp at this
      have hHf := hid hRf
      clear ht hRf
      go_wp2_with fail
      refine (Room_w 40 (by omega) (tsz t) t _ 8 _ (Nat.le_refl _) (by omega) (by omega) hTv').mono ?_
      rintro e w2 ⟨rfl, b2⟩
      have hB2 := below_and hBr (Nat.le_refl _) b2
      have hTv2 := tv_below hTv' b2
      obtain ⟨bb, hbb⟩ : ∃ bb, roomB 40 8 t = bb := ⟨_, rfl⟩
      rw [hbb]
      cases bb with
      | false =>
        have hRf2 : R = false := hHf.out (by simp [okRow, hbb])
        subst hRf2
        clear hbb y0 y1 y2 y3 y4 y5 y6 hHR2 hHf
        go_wp2
        go_ret
        exact ⟨rfl, hB2⟩
      | true =>
        obtain ⟨hokt, _⟩ := room_ok (by omega) t _ 8 hTv' hbb
        obtain ⟨a3, k3, neg3, od3, ld3, cd3, nm3, n3, ol3, ll3, cl3, ob3, lb3, cb3, ea, hTv3, z0, z1, z2, z3, z4, z5, z6⟩ := hTR.get hHt.out hB2
        injection ea with ea
        subst ea
        have hHbb := hid hbb
        have hHok := hid hokt
        clear hbb hokt y0 y1 y2 y3 y4 y5 y6 hTv' hTv2
        go_wp2_with fail
        refine (rMay_w t _ _ hHok.out hTv3 (hTa.below hB2)).mono ?_
        rintro e w3 ⟨rfl, b3⟩
        have hB3 := below_and hB2 (Nat.le_refl _) b3
        obtain ⟨mm, hmm⟩ : ∃ mm, mayB t = mm := ⟨_, rfl⟩
        rw [hmm]
        have hHm := hid hmm
        clear hmm z0 z1 z2 z3 z4 z5 z6 hTv3 hHok
        cases mm with
        | false =>
          have hRf2 : R = false := hHf.out (by simp [okRow, hHm.out])
          subst hRf2
          clear hHR2 hHf
          go_wp2
          go_ret
          exact ⟨rfl, hB3⟩
        | true =>
          go_wp2
          go_roundg (l.length - (i + 1))
          case measure => omega
          case rel =>
            refine ⟨i + 1, by omega, by go_num, hid (fun j x hj hx => ?_), hB3⟩
            rcases Nat.lt_or_ge j i with h | h
            · exact hH.out j x h hx
            · have : j = i := by omega
              subst this
              rw [hHt.out] at hx
              injection hx with hx; subst hx
              simp [okRow, hHbb.out, hHm.out]
end Go.Proofs.YtjacoodfhkaioaaGreatDoor
namespace Go.Proofs.YtjacoodfhkaioaaGreatDoor
open Go.ChangeShapes Go.WideShapes Go.ChangeAt Go.RowKit Go.Shelf
set_option linter.unusedSimpArgs false
set_option linter.unusedVariables false
set_option maxRecDepth 2000

/-- rows of signs with commas between -/
def joinC : List (List UInt8) → List UInt8
  | [] => []
  | [x] => x
  | x :: y :: l => x ++ 44 :: joinC (y :: l)
/-- a byte's text -/
def byT (b : Nat) : List UInt8 := Lib.itoa (b : Int)
/-- the text of what has no parts -/
def leafX (k : Int) (neg : Bool) (d : List Nat) (nm : ByteArray) (n : Int) (b : List Nat) : List UInt8 :=
  if k = 0 then txt (sv neg (gval 4294967296 d))
  else if k = 1 then quoteL nm.data.toList
  else if k = 2 then 35 :: Lib.itoa n
  else if k = 3 then 60 :: (Lib.itoa n ++ [62])
  else if k = 7 then [60, 60] ++ (joinC (b.map byT) ++ [62, 62])
  else [91, 93]
/-- what a list of two has: its head's text and what stands behind it -/
def two (l : List (List UInt8 × List UInt8)) : List UInt8 :=
  match l with
  | [h, t] => h.1 ++ t.2
  | _ => []
mutual
/-- a term's text, and what it is behind an item of a list -/
def tp : Tm → List UInt8 × List UInt8
  | .mk k neg d nm n l b =>
    if k = 6 then (91 :: two (tpL l), 44 :: two (tpL l))
    else if k = 4 then (123 :: (joinC ((tpL l).map (·.1)) ++ [125]), 124 :: (123 :: (joinC ((tpL l).map (·.1)) ++ [125])) ++ [93])
    else if k = 5 then ([91, 93], [93])
    else (leafX k neg d nm n b, 124 :: leafX k neg d nm n b ++ [93])
def tpL : List Tm → List (List UInt8 × List UInt8)
  | [] => []
  | t :: l => tp t :: tpL l
end
def tx (T : Tm) : List UInt8 := (tp T).1
def tb (T : Tm) : List UInt8 := (tp T).2
theorem tpL_map (l : List Tm) : tpL l = l.map tp := by
  induction l with
  | nil => rfl
  | cons t l ih => unfold tpL; rw [ih]; rfl
theorem tp_eq (k : Int) (neg : Bool) (d : List Nat) (nm : ByteArray) (n : Int) (l : List Tm) (b : List Nat) : tp (.mk k neg d nm n l b) =
    if k = 6 then (91 :: two (tpL l), 44 :: two (tpL l))
    else if k = 4 then (123 :: (joinC ((tpL l).map (·.1)) ++ [125]), 124 :: (123 :: (joinC ((tpL l).map (·.1)) ++ [125])) ++ [93])
    else if k = 5 then ([91, 93], [93])
    else (leafX k neg d nm n b, 124 :: leafX k neg d nm n b ++ [93]) := by rw [tp]
theorem tx_leaf {k : Int} {neg : Bool} {d : List Nat} {nm : ByteArray} {n : Int} {l : List Tm} {b : List Nat} (h4 : k ≠ 4) (h6 : k ≠ 6) : tx (.mk k neg d nm n l b) = leafX k neg d nm n b := by
  show (tp _).1 = _
  rw [tp_eq, if_neg h6, if_neg h4]
  by_cases h5 : k = 5
  · subst h5; simp [leafX]
  · rw [if_neg h5]
theorem tx_tuple {neg : Bool} {d : List Nat} {nm : ByteArray} {n : Int} {l : List Tm} {b : List Nat} : tx (.mk 4 neg d nm n l b) = 123 :: (joinC (l.map tx) ++ [125]) := by
  have e : (tpL l).map (·.1) = l.map tx := by rw [tpL_map, List.map_map]; rfl
  show (tp _).1 = _
  rw [tp_eq, if_neg (by decide), if_pos rfl, e]
theorem two_eq (H T : Tm) : two (tpL [H, T]) = tx H ++ tb T := by rw [tpL_map]; rfl
theorem tx_cons {neg : Bool} {d : List Nat} {nm : ByteArray} {n : Int} {H T : Tm} {b : List Nat} : tx (.mk 6 neg d nm n [H, T] b) = 91 :: (tx H ++ tb T) := by
  show (tp _).1 = _
  rw [tp_eq, if_pos rfl, two_eq]
theorem tb_cons {neg : Bool} {d : List Nat} {nm : ByteArray} {n : Int} {H T : Tm} {b : List Nat} : tb (.mk 6 neg d nm n [H, T] b) = 44 :: (tx H ++ tb T) := by
  show (tp _).2 = _
  rw [tp_eq, if_pos rfl, two_eq]
theorem tb_nil {neg : Bool} {d : List Nat} {nm : ByteArray} {n : Int} {l : List Tm} {b : List Nat} : tb (.mk 5 neg d nm n l b) = [93] := by
  show (tp _).2 = _
  rw [tp_eq, if_neg (by decide), if_neg (by decide), if_pos rfl]
theorem tb_other {T : Tm} (h5 : T.kind ≠ 5) (h6 : T.kind ≠ 6) : tb T = 124 :: (tx T ++ [93]) := by
  cases T with | mk k neg d nm n l b =>
  simp only [Tm.kind] at h5 h6
  show (tp _).2 = 124 :: ((tp _).1 ++ [93])
  rw [tp_eq, if_neg h6]
  by_cases h4 : k = 4
  · rw [if_pos h4]; rfl
  · rw [if_neg h4, if_neg h5]; rfl
/-- what waits to be written -/
inductive Pc where
  | mk (r : Nat)
  | tl (T : Tm)
  | tm (T : Tm)
def Pc.text : Pc → List UInt8
  | .mk r => [UInt8.ofNat r]
  | .tl T => tb T
  | .tm T => tx T
/-- how much work it is -/
def Pc.work : Pc → Nat
  | .mk _ => 1
  | .tl T => 3 * (parts T).length + 2
  | .tm T => 3 * (parts T).length - 1
/-- the text of all that waits, the last first -/
def rem : List Pc → List UInt8
  | [] => []
  | p :: l => p.text ++ rem l
def works : List Pc → Nat
  | [] => 0
  | p :: l => p.work + works l
theorem rem_append (a b : List Pc) : rem (a ++ b) = rem a ++ rem b := by
  induction a with
  | nil => rfl
  | cons p a ih => simp [rem, ih]
theorem works_append (a b : List Pc) : works (a ++ b) = works a + works b := by
  induction a with
  | nil => simp [works]
  | cons p a ih => simp [works, ih]; omega
/-- a tuple's items as they wait, the first on top -/
def itemsPc : List Tm → List Pc
  | [] => []
  | [t] => [.tm t]
  | t :: u :: l => .tm t :: .mk 44 :: itemsPc (u :: l)
theorem rem_items (l : List Tm) : rem (itemsPc l) = joinC (l.map tx) := by
  match l with
  | [] => rfl
  | [t] => simp [itemsPc, rem, joinC, Pc.text]
  | t :: u :: l =>
    have ih := rem_items (u :: l)
    simp only [itemsPc, rem, Pc.text, List.map_cons, joinC] at ih ⊢
    rw [ih]; rfl
theorem parts_pos (T : Tm) : 1 ≤ (parts T).length := by rw [parts_eq]; simp
theorem works_items (l : List Tm) : works (itemsPc l) + 1 ≤ 3 * (partsL l).length + 1 := by
  match l with
  | [] => simp [itemsPc, works, partsL]
  | [t] => have := parts_pos t; simp [itemsPc, works, partsL, Pc.work] <;> omega
  | t :: u :: l =>
    have ih := works_items (u :: l)
    have := parts_pos t
    simp only [itemsPc, works, Pc.work] at ih ⊢
    have e : (partsL (t :: u :: l)).length = (parts t).length + (partsL (u :: l)).length := by simp [partsL]
    omega
theorem kids_mem {T : Tm} {l : List Tm} (h : T.kids = l) : (parts T).length = 1 + (partsL l).length := by rw [parts_eq, h, List.length_cons]; omega
theorem items_cons (t : Tm) (l : List Tm) : itemsPc (t :: l) = if l = [] then [.tm t] else .tm t :: .mk 44 :: itemsPc l := by
  cases l with
  | nil => rfl
  | cons u l => simp [itemsPc]
/-- what waits of a tuple when so many items are still to be laid -/
def stI (l : List Tm) (j : Nat) : List Pc := if j = 0 then itemsPc l else if j = l.length then [] else .mk 44 :: itemsPc (l.drop j)
theorem stI_step {l : List Tm} {j : Nat} {t : Tm} (h : l[j]? = some t) : Pc.tm t :: stI l (j + 1) = itemsPc (l.drop j) := by
  have hj := (List.getElem?_eq_some_iff.1 h).1
  have hd : l.drop j = t :: l.drop (j + 1) := by
    rw [List.drop_eq_getElem_cons hj]
    rw [List.getElem?_eq_getElem hj] at h
    injection h with h
    rw [h]
  rw [hd, items_cons]
  unfold stI
  rw [if_neg (by omega)]
  by_cases e : j + 1 = l.length
  · rw [if_pos e, if_pos (by rw [List.drop_eq_nil_iff]; omega)]
  · rw [if_neg e, if_neg (by rw [List.drop_eq_nil_iff]; omega)]
theorem stI_full (l : List Tm) : stI l l.length = [] := by
  unfold stI
  by_cases e : l.length = 0
  · rw [if_pos e, List.eq_nil_of_length_eq_zero e]; rfl
  · rw [if_neg e, if_pos rfl]
theorem stI_len (l : List Tm) (j : Nat) (hjl : j ≤ l.length) : (stI l j).length ≤ 2 * l.length := by
  have h : ∀ q : List Tm, (itemsPc q).length + 1 ≤ 2 * q.length ∨ q = [] := by
    intro q
    induction q with
    | nil => exact .inr rfl
    | cons t q ih =>
      refine .inl ?_
      rw [items_cons]
      rcases ih with ih | rfl
      · split
        · simp; omega
        · simp; omega
      · simp
  unfold stI
  split
  · rcases h l with h | rfl
    · omega
    · simp [itemsPc]
  · split
    · simp
    · rename_i h0 h1
      by_cases hj : j < l.length
      · rcases h (l.drop j) with h | h
        · simp at h ⊢; omega
        · simp [h, itemsPc]; omega
      · omega
theorem joinC_snoc (xs : List (List UInt8)) (y : List UInt8) : joinC (xs ++ [y]) = if xs = [] then y else joinC xs ++ 44 :: y := by
  induction xs with
  | nil => rfl
  | cons x xs ih =>
    cases xs with
    | nil => rfl
    | cons z xs =>
      simp only [List.cons_append, joinC] at ih ⊢
      rw [ih, if_neg (by simp), if_neg (by simp)]
      simp
end Go.Proofs.YtjacoodfhkaioaaGreatDoor
namespace Go.Proofs.YtjacoodfhkaioaaGreatDoor
open Go.ChangeShapes Go.WideShapes Go.ChangeAt Go.RowKit Go.Shelf
set_option linter.unusedSimpArgs false
set_option linter.unusedVariables false
set_option maxRecDepth 2000

/-- a piece in memory -/
def PcV (w0 : World) : Pc → Value → Prop
  | .mk r, v => v = .iface 75 (.int .i32 (r : Int))
  | .tl T, v => ∃ a, v = .iface 79 a ∧ TV (Low w0) w0 T a
  | .tm T, v => ∃ a, v = .iface 27 a ∧ TV (Low w0) w0 T a
theorem PcV.one {w0 : World} {p : Pc} {v : Value} (h : PcV w0 p v) : v.oneCell' = true := by
  cases p with
  | mk r => simp only [PcV] at h; subst h; rfl
  | tl T => obtain ⟨a, rfl, _⟩ := h; rfl
  | tm T => obtain ⟨a, rfl, _⟩ := h; rfl
theorem PcV.form {w0 : World} {p : Pc} {v : Value} (h : PcV w0 p v) : ∃ t x, v = .iface t x := by
  cases p with
  | mk r => exact ⟨_, _, h⟩
  | tl T => obtain ⟨a, rfl, _⟩ := h; exact ⟨_, _, rfl⟩
  | tm T => obtain ⟨a, rfl, _⟩ := h; exact ⟨_, _, rfl⟩
/-- pieces in a row, the last on top -/
def PsV (w0 : World) : List Pc → List Value → Prop
  | [], vs => vs = []
  | p :: ps, vs => ∃ us v, vs = us ++ [v] ∧ PcV w0 p v ∧ PsV w0 ps us
theorem PsV.length {w0 : World} : ∀ {ps : List Pc} {vs : List Value}, PsV w0 ps vs → vs.length = ps.length
  | [], vs, h => by simp only [PsV] at h; subst h; rfl
  | p :: ps, vs, h => by
    obtain ⟨us, v, rfl, _, h⟩ := h
    simp [PsV.length h]
theorem infoP : (Tryz.prog.info? 67).map (fun i => (i.zero, i.size, i.bytes)) = some (some .nilIface, 1, 16) := by kernel_rfl
theorem infoB8 : (Tryz.prog.info? 5).map (fun i => (i.zero, i.size, i.bytes)) = some (some (.int .u8 0), 1, 1) := by kernel_rfl
/-- a printer at block g: what is written, what waits, the first to be written ahead -/
structure Prn (w0 : World) (g : Nat) (o : List UInt8) (ps : List Pc) (ov wv : Value) (vs : List Value) (w : World) : Prop where
  box : w.heap[g]? = some (.cells #[ov, wv] 58 (0, 0))
  low : w0.heap.size ≤ g
  out : w.ownsRow w0.heap.size 5 1 ov o.length (Lib.byteCells o)
  wait : w.ownsRow w0.heap.size 67 1 wv vs.length vs
  is : PsV w0 ps vs
  below : Below w0.heap.size w0 w
theorem own_block {w : World} {B : Nat} {e : TypeId} {v : Value} {n : Nat} {xs : List Value} (h : w.ownsRow B e 1 v n xs) : ∀ k, v.ownBlock = some k → ∃ c, w.heap[k]? = some (.cells c e (0, 0)) := by
  intro k hk
  rcases h.2 with ⟨rfl, _⟩ | ⟨g, cap, cur, rfl, _, hg, _⟩
  · simp [Value.ownBlock] at hk
  · simp [Value.ownBlock] at hk; subst hk; exact ⟨cur, hg⟩
theorem own_form {w : World} {B : Nat} {e : TypeId} {v : Value} {n : Nat} {xs : List Value} (h : w.ownsRow B e 1 v n xs) : ∃ o c, v = .slice o n c := by
  rcases h.2 with ⟨rfl, rfl⟩ | ⟨g, cap, cur, rfl, _⟩
  · exact ⟨_, _, rfl⟩
  · exact ⟨_, _, rfl⟩
theorem own_of {w w' : World} {B : Nat} {e : TypeId} {v : Value} {n : Nat} {xs : List Value} (h : w.ownsRow B e 1 v n xs) (hk : ∀ k, v.ownBlock = some k → w'.heap[k]? = w.heap[k]?) : w'.ownsRow B e 1 v n xs := by
  obtain ⟨h1, h2 | ⟨g, cap, cur, rfl, hg, hc, rest⟩⟩ := h
  · exact ⟨h1, .inl h2⟩
  · exact ⟨h1, .inr ⟨g, cap, cur, rfl, hg, (hk g rfl).trans hc, rest⟩⟩
theorem heap_put {w : World} {g : Nat} {u v : Value} {T : TypeId} (h : w.heap[g]? = some (.cells #[u, v] T (0, 0))) (x : Value) : (w.setCell ⟨g, 0, none⟩ x).heap[g]? = some (.cells #[x, v] T (0, 0)) ∧ (w.setCell ⟨g, 1, none⟩ x).heap[g]? = some (.cells #[u, x] T (0, 0)) := by
  constructor <;> simp [World.setCell, Array.getElem?_modify, h]
theorem Prn.cells {w0 : World} {g : Nat} {o : List UInt8} {ps : List Pc} {ov wv : Value} {vs : List Value} {w : World} (h : Prn w0 g o ps ov wv vs w) :
    w.cell? ⟨g, 0, none⟩ = some ov ∧ w.cell? ⟨g, 1, none⟩ = some wv ∧ w.frozen? ⟨g, 0, none⟩ = false ∧ w.frozen? ⟨g, 1, none⟩ = false := by
  have := h.box
  simp [World.cell?, World.frozen?, this]
theorem Prn.later {w0 : World} {g : Nat} {o : List UInt8} {ps : List Pc} {ov wv : Value} {vs : List Value} {w w' : World} (h : Prn w0 g o ps ov wv vs w) (hb : Below w.heap.size w w') : Prn w0 g o ps ov wv vs w' :=
  ⟨(hb.block g (Array.getElem?_eq_some_iff.1 h.box).1).trans h.box, h.low, own_of h.out (fun k e => hb.block k ((World.ownsRow.lt h.out k e).2)), own_of h.wait (fun k e => hb.block k ((World.ownsRow.lt h.wait k e).2)), h.is,
    h.below.trans ⟨hb.os, hb.tape, hb.output, hb.size, fun k hk => hb.block k (by have := h.below.size; omega)⟩⟩
/-- more is written: other bytes' rows, and new blocks, may have turned -/
theorem Prn.wrote {w0 : World} {g : Nat} {o o' : List UInt8} {ps : List Pc} {ov wv ov' : Value} {vs : List Value} {w w2 : World} (h : Prn w0 g o ps ov wv vs w)
    (hk : Lib.OthersKept 5 none w w2) (hb : Below w0.heap.size w w2) (hown : w2.ownsRow w0.heap.size 5 1 ov' o'.length (Lib.byteCells o')) :
    Prn w0 g o' ps ov' wv vs (w2.setCell ⟨g, 0, none⟩ ov') := by
  have hg : w2.heap[g]? = some (.cells #[ov, wv] 58 (0, 0)) := hk g _ h.box (by simp) (fun c fz e => by injection e with _ e2; exact absurd e2 (by decide))
  have hne : ∀ {v : Value} {e : TypeId} {n : Nat} {xs : List Value}, w2.ownsRow w0.heap.size e 1 v n xs → e ≠ 58 → ∀ k, v.ownBlock = some k → (w2.setCell ⟨g, 0, none⟩ ov').heap[k]? = w2.heap[k]? := by
    intro v e n xs hv he k hk2
    refine Below.heap_setCell w2 ⟨g, 0, none⟩ ov' k (fun e2 => ?_)
    obtain ⟨c, hc⟩ := own_block hv k hk2
    rw [e2] at hc
    rw [hg] at hc
    injection hc with hc; injection hc with _ hc
    exact he hc.symm
  have hw2 : w2.ownsRow w0.heap.size 67 1 wv vs.length vs := own_of h.wait (fun k e => by
    obtain ⟨c, hc⟩ := own_block h.wait k e
    rw [hc]
    exact hk k _ hc (by simp) (fun c fz e => by injection e with _ e2; exact absurd e2 (by decide)))
  exact ⟨(heap_put hg ov').1, h.low, own_of hown (hne hown (by decide)), own_of hw2 (hne hw2 (by decide)), h.is, (h.below.trans hb).setCell (p := ⟨g, 0, none⟩) h.low _⟩
/-- what waits has changed -/
theorem Prn.waits {w0 : World} {g : Nat} {o : List UInt8} {ps ps' : List Pc} {ov wv wv' : Value} {vs vs' : List Value} {w w2 : World} (h : Prn w0 g o ps ov wv vs w)
    (hk : Lib.OthersKept 67 none w w2) (hb : Below w0.heap.size w w2) (hown : w2.ownsRow w0.heap.size 67 1 wv' vs'.length vs') (his : PsV w0 ps' vs') :
    Prn w0 g o ps' ov wv' vs' (w2.setCell ⟨g, 1, none⟩ wv') := by
  have hg : w2.heap[g]? = some (.cells #[ov, wv] 58 (0, 0)) := hk g _ h.box (by simp) (fun c fz e => by injection e with _ e2; exact absurd e2 (by decide))
  have hne : ∀ {v : Value} {e : TypeId} {n : Nat} {xs : List Value}, w2.ownsRow w0.heap.size e 1 v n xs → e ≠ 58 → ∀ k, v.ownBlock = some k → (w2.setCell ⟨g, 1, none⟩ wv').heap[k]? = w2.heap[k]? := by
    intro v e n xs hv he k hk2
    refine Below.heap_setCell w2 ⟨g, 1, none⟩ wv' k (fun e2 => ?_)
    obtain ⟨c, hc⟩ := own_block hv k hk2
    rw [e2] at hc
    rw [hg] at hc
    injection hc with hc; injection hc with _ hc
    exact he hc.symm
  have ho2 : w2.ownsRow w0.heap.size 5 1 ov o.length (Lib.byteCells o) := own_of h.out (fun k e => by
    obtain ⟨c, hc⟩ := own_block h.out k e
    rw [hc]
    exact hk k _ hc (by simp) (fun c fz e => by injection e with _ e2; exact absurd e2 (by decide)))
  exact ⟨(heap_put hg wv').2, h.low, own_of ho2 (hne ho2 (by decide)), own_of hown (hne hown (by decide)), his, (h.below.trans hb).setCell (p := ⟨g, 1, none⟩) h.low _⟩
theorem kept_grown {w w' : World} {B : Nat} {e : TypeId} {v : Value} {n : Nat} {xs : List Value} (h : w.ownsRow B e 1 v n xs) (hg : w.grownBy w' v.ownBlock) (hB : B ≤ w.heap.size) : Lib.OthersKept e none w w' ∧ Below B w w' := by
  refine ⟨(Lib.OthersKept.refl e none w).grown hg (fun k hk => ?_), (Below.refl B w).grown hg hB (fun k hk => (World.ownsRow.lt h k hk).1)⟩
  obtain ⟨c, hc⟩ := own_block h k hk
  exact ⟨c, _, hc⟩
/-- what a printer's call leaves -/
def PrnP (w0 : World) (g : Nat) (o : List UInt8) (ps : List Pc) (w : World) : Prop := ∃ ov wv vs, Prn w0 g o ps ov wv vs w
theorem PrnP.later {w0 : World} {g : Nat} {o : List UInt8} {ps : List Pc} {w w' : World} (h : PrnP w0 g o ps w) (hb : Below w.heap.size w w') : PrnP w0 g o ps w' := by
  obtain ⟨ov, wv, vs, h⟩ := h
  exact ⟨ov, wv, vs, h.later hb⟩
theorem PrnP.below {w0 : World} {g : Nat} {o : List UInt8} {ps : List Pc} {w : World} (h : PrnP w0 g o ps w) : Below w0.heap.size w0 w := by
  obtain ⟨ov, wv, vs, h⟩ := h
  exact h.below
/-- all blocks that are not a printer's are kept -/
def PK (w w' : World) : Prop := ∀ (k : Nat) (o : Obj), w.heap[k]? = some o → (∀ (c : Array Value) (fz : Nat × Nat), o ≠ Obj.cells c 5 fz ∧ o ≠ Obj.cells c 67 fz ∧ o ≠ Obj.cells c 58 fz) → w'.heap[k]? = some o
theorem PK.refl (w : World) : PK w w := fun _ _ h _ => h
theorem PK.trans {a b c : World} (h : PK a b) (k : PK b c) : PK a c := fun i o hi ho => k i o (h i o hi ho) ho
theorem PK.of_below {w w' : World} (h : Below w.heap.size w w') : PK w w' := fun k o hk _ => (h.block k (Array.getElem?_eq_some_iff.1 hk).1).trans hk
theorem PK.put {w w2 : World} {e : TypeId} {g j : Nat} {c : Array Value} {fz : Nat × Nat} (he : e = 5 ∨ e = 67) (hk : Lib.OthersKept e none w w2) (hg : w2.heap[g]? = some (.cells c 58 fz)) (x : Value) : PK w (w2.setCell ⟨g, j, none⟩ x) := by
  intro k o h ho
  have h2 := hk k o h (by simp) (fun c fz e2 => by rcases he with rfl | rfl; exact (ho c fz).1 e2; exact (ho c fz).2.1 e2)
  rw [Below.heap_setCell w2 ⟨g, j, none⟩ x k (fun e2 => by
    rw [e2] at h2; rw [hg] at h2; injection h2 with h2; exact (ho c fz).2.2 h2.symm)]
  exact h2
set_option maxHeartbeats 1000000 in
theorem ptext_w (w0 : World) (g : Nat) (o : List UInt8) (ps : List Pc) (s : ByteArray) (w : World) (h : PrnP w0 g o ps w) (hs : s.size ≤ 1000000000) (ho : o.length ≤ 1000000000) :
    Calls Tryz.prog 80 #[.pointer (some ⟨g, 0, none⟩), .string s] w fun e w' => e = .returned (.tuple #[]) ∧ PrnP w0 g (o ++ s.data.toList) ps w' ∧ PK w w' := by
  obtain ⟨ov, wv, vs, h⟩ := h
  obtain ⟨c0, c1, f0, f1⟩ := h.cells
  obtain ⟨i0, hi, hz0, hz1, hz2⟩ := info_parts infoB8
  obtain ⟨v', w2, hr, hown, hg, _⟩ := Lib.run_append_own_string (P := Tryz.prog) w w0.heap.size 25 9 25 5 i0 Tryz.underlying25 Tryz.underlying9 hi hz0 hz1 hz2 ov o.length _ h.out s (by unfold maxLen; omega) (by omega) h.below.size
  obtain ⟨hk, hb⟩ := kept_grown h.out hg h.below.size
  have hcb : Lib.byteCells (o ++ s.data.toList) = Lib.byteCells o ++ Lib.strCells s := by simp [Lib.byteCells, Lib.strCells]
  have hlen : (o ++ s.data.toList).length = o.length + s.size := by rw [List.length_append]; rfl
  have hown2 : w2.ownsRow w0.heap.size 5 1 v' (o ++ s.data.toList).length (Lib.byteCells (o ++ s.data.toList)) := by rw [hcb, hlen]; exact hown
  have hW := hid (h.wrote hk hb hown2)
  obtain ⟨oo, cc, rfl⟩ := own_form h.out
  obtain ⟨o2, k2, rfl⟩ := own_form hown
  have hg2 : w2.heap[g]? = some (.cells #[.slice oo o.length cc, wv] 58 (0, 0)) := hk g _ h.box (by simp) (fun c fz e => by injection e with _ e2; exact absurd e2 (by decide))
  have d0 : w2.cell? ⟨g, 0, none⟩ = some (.slice oo o.length cc) := by simp [World.cell?, hg2]
  have d1 : w2.frozen? ⟨g, 0, none⟩ = false := by simp [World.frozen?, hg2]
  have hPK := hid (PK.put (j := 0) (.inl rfl) hk hg2 (.slice o2 (o.length + s.size) k2))
  clear hown hown2 hg hk hb hcb hg2 c1 f1 h hlen
  go_enter Tryz.func80, Tryz.ntmps80
  go_wp2_with (at_builtin; refine Lib.wpList_append_run _ rfl _ _ _ _ rfl _ _ rfl rfl _ _ hr ?_)
  all_goals go_returns
  all_goals exact ⟨rfl, ⟨_, _, _, hW.out⟩, hPK.out⟩
end Go.Proofs.YtjacoodfhkaioaaGreatDoor
namespace Go.Proofs.YtjacoodfhkaioaaGreatDoor
open Go.ChangeShapes Go.WideShapes Go.ChangeAt Go.RowKit Go.Shelf
set_option linter.unusedSimpArgs false
set_option linter.unusedVariables false
set_option maxRecDepth 2000

set_option maxHeartbeats 1000000 in
theorem ascii_w (B : Nat) (v : Value) (n : Nat) (xs : List Value) (r : Nat) (hr : r < 128) (w : World) (hown : w.ownsRow B 5 1 v n xs) (hn : n ≤ 1000000000) (hB : B ≤ w.heap.size) :
    Calls Tryz.prog 77 #[v, .int .i32 (r : Int)] w fun e w' => ∃ v', e = .returned v' ∧ w'.ownsRow B 5 1 v' (n + 1) (xs ++ [.int .u8 (r : Int)]) ∧ Lib.OthersKept 5 none w w' ∧ Below B w w' := by
  obtain ⟨i0, hi, hz0, hz1, hz2⟩ := info_parts infoB8
  have hR1 := World.ownsRow.alloc hown (.cells #[.int .u8 (r : Int)] 5)
  obtain ⟨v', w', hrun, hown2, hg, _⟩ := run_append_own (P := Tryz.prog) (w.alloc (.cells #[.int .u8 (r : Int)] 5)) B 25 25 5 i0 (.int .u8 0) 1 1 Tryz.underlying25 hi hz0 hz1 hz2 rfl (by decide) v n xs hR1 ⟨w.heap.size, 0, none⟩ 1 1 [.int .u8 (r : Int)] rfl (cell_one_new _ _ _) (by intro u hu; simp at hu; subst hu; rfl) (by unfold maxLen; omega) (by omega) (by simp; omega)
  obtain ⟨hk, hb⟩ := kept_grown hR1 hg (by simp; omega)
  have hk2 : Lib.OthersKept 5 none w w' := ((Lib.OthersKept.refl _ _ w).alloc _).trans hk
  have hb2 : Below B w w' := ((Below.refl B w).alloc hB _).trans hb
  have hrz : (r : Int) ≤ 127 := by omega
  clear hR1 hg hk hb
  go_enter Tryz.func77, Tryz.ntmps77
  go_wp2_with (at_builtin; refine Lib.wpList_append_run _ rfl _ _ _ _ rfl _ _ rfl rfl _ _ hrun ?_)
  all_goals go_ret
  all_goals exact ⟨_, rfl, hown2, hk2, hb2⟩
set_option maxHeartbeats 1000000 in
theorem psign_w (w0 : World) (g : Nat) (o : List UInt8) (ps : List Pc) (r : Nat) (hr : r < 128) (w : World) (h : PrnP w0 g o ps w) (ho : o.length ≤ 1000000000) :
    Calls Tryz.prog 39 #[.pointer (some ⟨g, 0, none⟩), .int .i32 (r : Int)] w fun e w' => e = .returned (.tuple #[]) ∧ PrnP w0 g (o ++ [UInt8.ofNat r]) ps w' ∧ PK w w' := by
  obtain ⟨ov, wv, vs, h⟩ := h
  obtain ⟨c0, c1, f0, f1⟩ := h.cells
  have c := ascii_w w0.heap.size ov o.length _ r hr w h.out (by omega) h.below.size
  obtain ⟨oo, cc, rfl⟩ := own_form h.out
  have hH := hid h
  clear c1 f1 h
  go_enter Tryz.func39, Tryz.ntmps39
  go_wp2_with fail
  refine c.mono ?_
  rintro e w2 ⟨v', rfl, hown, hk, hb⟩
  have h := hH.out
  have hcb : Lib.byteCells (o ++ [UInt8.ofNat r]) = Lib.byteCells o ++ [.int .u8 (r : Int)] := by
    simp [Lib.byteCells]; omega
  have hown2 : w2.ownsRow w0.heap.size 5 1 v' (o ++ [UInt8.ofNat r]).length (Lib.byteCells (o ++ [UInt8.ofNat r])) := by rw [hcb, List.length_append]; exact hown
  have hW := hid (h.wrote hk hb hown2)
  obtain ⟨o2, k2, rfl⟩ := own_form hown
  have hg2 : w2.heap[g]? = some (.cells #[.slice oo o.length cc, wv] 58 (0, 0)) := hk g _ h.box (by simp) (fun c fz e => by injection e with _ e2; exact absurd e2 (by decide))
  have d0 : w2.cell? ⟨g, 0, none⟩ = some (.slice oo o.length cc) := by simp [World.cell?, hg2]
  have d1 : w2.frozen? ⟨g, 0, none⟩ = false := by simp [World.frozen?, hg2]
  have hPK := hid (PK.put (j := 0) (.inl rfl) hk hg2 (.slice o2 (o.length + 1) k2))
  clear hown hown2 hk hb hcb hg2 h c hH c0 f0
  go_wp2
  all_goals go_returns
  all_goals exact ⟨rfl, ⟨_, _, _, hW.out⟩, hPK.out⟩
set_option maxHeartbeats 1000000 in
theorem pnumber_w (w0 : World) (g : Nat) (o : List UInt8) (ps : List Pc) (n : Int) (h0 : -9223372036854775808 ≤ n) (h1 : n ≤ 9223372036854775807) (w : World) (h : PrnP w0 g o ps w) (ho : o.length ≤ 1000000000)
    (hP : Lib.TabBelow Tryz.prog w0.heap.size w0 "internal/strconv.uint64pow10" .u64 Lib.pow10Tab) :
    Calls Tryz.prog 83 #[.pointer (some ⟨g, 0, none⟩), .int .i64 n] w fun e w' => e = .returned (.tuple #[]) ∧ PrnP w0 g (o ++ Lib.itoa n) ps w' ∧ PK w w' := by
  obtain ⟨ov, wv, vs, h⟩ := h
  obtain ⟨c0, c1, f0, f1⟩ := h.cells
  have c : Calls Tryz.prog 121 #[ov, .int .i64 n, .int .i64 10] w _ := Any.strconv_AppendInt_10 Tryz.laysM176 w0.heap.size o.length n h0 h1 ov _ w h.out h.below.size (by omega) (hP.on h.below)
  obtain ⟨oo, cc, rfl⟩ := own_form h.out
  have hH := hid h
  clear c1 f1 h
  go_enter Tryz.func83, Tryz.ntmps83
  go_wp2_with fail
  refine c.mono ?_
  rintro e w2 ⟨v', rfl, hown, hb, hk⟩
  have h := hH.out
  have hcb : Lib.byteCells (o ++ Lib.itoa n) = Lib.byteCells o ++ Lib.byteCells (Lib.itoa n) := by simp [Lib.byteCells]
  have hown2 : w2.ownsRow w0.heap.size 5 1 v' (o ++ Lib.itoa n).length (Lib.byteCells (o ++ Lib.itoa n)) := by rw [hcb, List.length_append]; exact hown
  have hW := hid (h.wrote hk hb hown2)
  obtain ⟨o2, k2, rfl⟩ := own_form hown2
  have hg2 : w2.heap[g]? = some (.cells #[.slice oo o.length cc, wv] 58 (0, 0)) := hk g _ h.box (by simp) (fun c fz e => by injection e with _ e2; exact absurd e2 (by decide))
  have d0 : w2.cell? ⟨g, 0, none⟩ = some (.slice oo o.length cc) := by simp [World.cell?, hg2]
  have d1 : w2.frozen? ⟨g, 0, none⟩ = false := by simp [World.frozen?, hg2]
  obtain ⟨m, hm⟩ : ∃ m, (o ++ Lib.itoa n).length = m := ⟨_, rfl⟩
  rw [hm] at hW
  rw [hm]
  have hPK := hid (PK.put (j := 0) (.inl rfl) hk hg2 (.slice o2 m k2))
  clear hown hown2 hk hb hcb hg2 h c hH c0 f0 hm
  go_wp2
  all_goals go_returns
  all_goals exact ⟨rfl, ⟨_, _, _, hW.out⟩, hPK.out⟩
theorem psv_push {w0 : World} {ps : List Pc} {vs : List Value} {p : Pc} {v : Value} (h : PsV w0 ps vs) (hp : PcV w0 p v) : PsV w0 (p :: ps) (vs ++ [v]) := ⟨vs, v, rfl, hp, h⟩
set_option maxHeartbeats 1000000 in
theorem pwait_w (w0 : World) (g : Nat) (o : List UInt8) (ps : List Pc) (p : Pc) (v : Value) (w : World) (h : PrnP w0 g o ps w) (hp : PcV w0 p v) (hn : ps.length ≤ 1000000000) :
    Calls Tryz.prog 79 #[.pointer (some ⟨g, 0, none⟩), v] w fun e w' => e = .returned (.tuple #[]) ∧ PrnP w0 g o (p :: ps) w' ∧ PK w w' := by
  obtain ⟨ov, wv, vs, h⟩ := h
  obtain ⟨c0, c1, f0, f1⟩ := h.cells
  have hl := h.is.length
  obtain ⟨i0, hi, hz0, hz1, hz2⟩ := info_parts infoP
  have hR1 := World.ownsRow.alloc h.wait (.cells #[v] 67)
  obtain ⟨v', w2, hr, hown, hg, _⟩ := run_append_own (P := Tryz.prog) (w.alloc (.cells #[v] 67)) w0.heap.size 56 56 67 i0 .nilIface 1 16 Tryz.underlying56 hi hz0 hz1 hz2 rfl (by decide) wv vs.length vs hR1 ⟨w.heap.size, 0, none⟩ 1 1 [v] rfl (cell_one_new _ _ _) (by intro u hu; simp at hu; subst hu; exact hp.one) (by unfold maxLen; omega) (by omega) (by have := h.below.size; simp; omega)
  obtain ⟨hk', hb'⟩ := kept_grown hR1 hg (by have := h.below.size; simp; omega)
  have hk : Lib.OthersKept 67 none w w2 := ((Lib.OthersKept.refl _ _ w).alloc _).trans hk'
  have hb : Below w0.heap.size w w2 := ((Below.refl _ w).alloc h.below.size _).trans hb'
  have hown2 : w2.ownsRow w0.heap.size 67 1 v' (vs ++ [v]).length (vs ++ [v]) := by rw [List.length_append]; exact hown
  have hW := hid (h.waits hk hb hown2 (psv_push h.is hp))
  obtain ⟨oo, cc, rfl⟩ := own_form h.wait
  obtain ⟨o2, k2, rfl⟩ := own_form hown
  have hg2 : w2.heap[g]? = some (.cells #[ov, .slice oo vs.length cc] 58 (0, 0)) := hk g _ h.box (by simp) (fun c fz e => by injection e with _ e2; exact absurd e2 (by decide))
  have d0 : w2.cell? ⟨g, 1, none⟩ = some (.slice oo vs.length cc) := by simp [World.cell?, hg2]
  have d1 : w2.frozen? ⟨g, 1, none⟩ = false := by simp [World.frozen?, hg2]
  obtain ⟨pt, px, rfl⟩ := hp.form
  clear hp
  have hPK := hid (PK.put (j := 1) (.inr rfl) hk hg2 (.slice o2 (vs.length + 1) k2))
  clear hown hown2 hg hk hb hk' hb' hg2 c0 f0 h hR1 hl
  go_enter Tryz.func79, Tryz.ntmps79
  go_wp2_with (at_builtin; refine Lib.wpList_append_run _ rfl _ _ _ _ rfl _ _ rfl rfl _ _ hr ?_)
  all_goals go_returns
  all_goals exact ⟨rfl, ⟨_, _, _, hW.out⟩, hPK.out⟩
end Go.Proofs.YtjacoodfhkaioaaGreatDoor
namespace Go.Proofs.YtjacoodfhkaioaaGreatDoor
open Go.ChangeShapes Go.WideShapes Go.ChangeAt Go.RowKit Go.Shelf
set_option linter.unusedSimpArgs false
set_option linter.unusedVariables false
set_option maxRecDepth 2000

/-- the i-th term of a row that came in, in a later world -/
theorem TR.get2 {w0 w : World} {l : List Tm} {o : Option Addr} {i : Nat} {t : Tm} (h : TR (Low w0) w0 l o) (ht : l[i]? = some t) (hb : Below w0.heap.size w0 w) :
    ∃ a k neg od ld cd nm n ol ll cl ob lb cb, o = some a ∧ TV (Low w0) w0 t (tmV k neg (.slice od ld cd) nm n (.slice ol ll cl) (.slice ob lb cb)) ∧ w.cell? (a.add (i * 7)) = some (.int .i64 k) ∧ w.cell? ⟨(a.add (i * 7)).block, (a.add (i * 7)).off + 1, none⟩ = some (.bool neg) ∧ w.cell? ⟨(a.add (i * 7)).block, (a.add (i * 7)).off + 2, none⟩ = some (.slice od ld cd) ∧ w.cell? ⟨(a.add (i * 7)).block, (a.add (i * 7)).off + 3, none⟩ = some (.string nm) ∧ w.cell? ⟨(a.add (i * 7)).block, (a.add (i * 7)).off + 4, none⟩ = some (.int .i64 n) ∧ w.cell? ⟨(a.add (i * 7)).block, (a.add (i * 7)).off + 5, none⟩ = some (.slice ol ll cl) ∧ w.cell? ⟨(a.add (i * 7)).block, (a.add (i * 7)).off + 6, none⟩ = some (.slice ob lb cb) := by
  obtain ⟨a, k, neg, od, ld, cd, nm, n, ol, ll, cl, ob, lb, cb, rfl, hT, h0, h1, h2, h3, h4, h5, h6⟩ := h.get ht (Below.refl _ w0)
  have q : ∀ {x : Addr} {v : Value}, w0.cell? x = some v → w.cell? x = some v := fun hc => (hb.cell (World.block_lt_of_cell? _ _ hc)).trans hc
  exact ⟨a, k, neg, od, ld, cd, nm, n, ol, ll, cl, ob, lb, cb, rfl, hT, q h0, q h1, q h2, q h3, q h4, q h5, q h6⟩
theorem add7 (x : Addr) : x.add 7 = ⟨x.block, x.off + 7, none⟩ := by unfold Addr.add; simp
theorem PK.cell {w w' : World} (h : PK w w') {g : Nat} {c : Array Value} {fz : Nat × Nat} {T : TypeId} (hg : w.heap[g]? = some (.cells c T fz)) (h1 : T ≠ 5) (h2 : T ≠ 67) (h3 : T ≠ 58) : w'.heap[g]? = some (.cells c T fz) :=
  h g _ hg (fun c' fz' => ⟨fun e => by injection e with _ e; exact h1 e, fun e => by injection e with _ e; exact h2 e, fun e => by injection e with _ e; exact h3 e⟩)
theorem cell7 {w : World} {g : Nat} {a0 a1 a2 a3 a4 a5 a6 : Value} {T : TypeId} (h : w.heap[g]? = some (.cells #[a0, a1, a2, a3, a4, a5, a6] T (0, 0))) :
    w.cell? ⟨g, 0, none⟩ = some a0 ∧ w.cell? ⟨g, 1, none⟩ = some a1 ∧ w.cell? ⟨g, 2, none⟩ = some a2 ∧ w.cell? ⟨g, 3, none⟩ = some a3 ∧ w.cell? ⟨g, 4, none⟩ = some a4 ∧ w.cell? ⟨g, 5, none⟩ = some a5 ∧ w.cell? ⟨g, 6, none⟩ = some a6 := by
  simp [World.cell?, h]
set_option maxHeartbeats 2000000 in
theorem pcons_w (w0 : World) (g : Nat) (o : List UInt8) (ps : List Pc) (neg : Bool) (d : List Nat) (nm : ByteArray) (n : Int) (H T : Tm) (b : List Nat) (v : Value) (w : World) (h : PrnP w0 g o ps w) (hT : TV (Low w0) w0 (.mk 6 neg d nm n [H, T] b) v) (hn : ps.length ≤ 900000000) :
    Calls Tryz.prog 78 #[.pointer (some ⟨g, 0, none⟩), v] w fun e w' => e = .returned (.tuple #[]) ∧ PrnP w0 g o (.tm H :: .tl T :: ps) w' ∧ PK w w' := by
  unfold TV at hT
  obtain ⟨od, cd, ol, cl, ob, cb, rfl, _, _, _, _, _, hcl, hTR⟩ := hT
  unfold tmV
  obtain ⟨W, hW⟩ : ∃ W, W = w.alloc (.cells #[.int .i64 6, .bool neg, .slice od d.length cd, .string nm, .int .i64 n, .slice ol [H, T].length cl, .slice ob b.length cb] 27) := ⟨_, rfl⟩
  have bW : Below w.heap.size w W := by rw [hW]; exact (Below.refl _ w).alloc (Nat.le_refl _) _
  have hgW : W.heap[w.heap.size]? = some (.cells #[.int .i64 6, .bool neg, .slice od d.length cd, .string nm, .int .i64 n, .slice ol [H, T].length cl, .slice ob b.length cb] 27 (0, 0)) := by rw [hW]; exact heap_alloc_new w _
  have hPW := h.later bW
  obtain ⟨a, k1, neg1, od1, ld1, cd1, nm1, n1, ol1, ll1, cl1, ob1, lb1, cb1, ea, hT1, y0, y1, y2, y3, y4, y5, y6⟩ := hTR.get2 (i := 1) (t := T) rfl hPW.below
  subst ea
  simp only [List.length_cons, List.length_nil, Nat.zero_add, Nat.reduceAdd] at hgW hW hcl ⊢
  obtain ⟨x0, x1, x2, x3, x4, x5, x6⟩ := cell7 hgW
  rw [Nat.one_mul, add7] at y0 y1 y2 y3 y4 y5 y6
  have c1 := pwait_w w0 g o ps (.tl T) (.iface 79 (tmV k1 neg1 (.slice od1 ld1 cd1) nm1 n1 (.slice ol1 ll1 cl1) (.slice ob1 lb1 cb1))) W hPW ⟨_, rfl, hT1⟩ (by omega)
  unfold tmV at c1
  go_enter Tryz.func78, Tryz.ntmps78
  go_upto_region 1 with fail
  rw [← hW]
  have hTRH := hid hTR
  clear hW hTR h
  go_wp2_with fail
  refine c1.mono ?_
  rintro e w2 ⟨rfl, h2, k2⟩
  have hg2 := k2.cell hgW (by decide) (by decide) (by decide)
  clear c1 x0 x1 x2 x3 x4 x5 x6 y0 y1 y2 y3 y4 y5 y6 hgW
  obtain ⟨x0, x1, x2, x3, x4, x5, x6⟩ := cell7 hg2
  obtain ⟨a', k0, neg0, od0, ld0, cd0, nm0, n0, ol0, ll0, cl0, ob0, lb0, cb0, ea, hT0, y0, y1, y2, y3, y4, y5, y6⟩ := hTRH.out.get2 (i := 0) (t := H) rfl h2.below
  injection ea with ea
  subst ea
  rw [Nat.zero_mul, add_zero] at y0 y1 y2 y3 y4 y5 y6
  have c2 := pwait_w w0 g o (.tl T :: ps) (.tm H) (.iface 27 (tmV k0 neg0 (.slice od0 ld0 cd0) nm0 n0 (.slice ol0 ll0 cl0) (.slice ob0 lb0 cb0))) w2 h2 ⟨_, rfl, hT0⟩ (by simp; omega)
  unfold tmV at c2
  clear hg2
  go_wp2_with fail
  refine c2.mono ?_
  rintro e w3 ⟨rfl, h3, k3⟩
  go_wp2
  all_goals go_returns
  all_goals exact ⟨rfl, h3, ((PK.of_below bW).trans k2).trans k3⟩
end Go.Proofs.YtjacoodfhkaioaaGreatDoor
