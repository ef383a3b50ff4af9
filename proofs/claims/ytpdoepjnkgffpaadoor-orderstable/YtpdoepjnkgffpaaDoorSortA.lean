/- Texts of mine, one behind the other: SortKit, SortIns. -/
import Derived.Test.YtpdoepjnkgffpaaDoorSortM
import Derived.Test.YtpdoepjnkgffpaaDoorOrdTop
import Derived.BigRegion
namespace Go.Proofs.YtpdoepjnkgffpaaDoor
open Go.ChangeShapes Go.WideShapes Go.ChangeAt Go.ChangeMaps Go.RowKit Go.Shelf
set_option linter.unusedSimpArgs false
set_option linter.unusedVariables false
set_option maxRecDepth 2000
theorem RC.split {Z : Nat → Prop} {w : World} : ∀ {l l' : List Tm} {xs : List Value}, RC Z w (l ++ l') xs → ∃ ps ys, xs = ps ++ ys ∧ RC Z w l ps ∧ RC Z w l' ys
  | [], l', xs, h => ⟨[], xs, rfl, by unfold RC; rfl, h⟩
  | t :: l, l', xs, h => by
    rw [List.cons_append] at h
    unfold RC at h
    obtain ⟨k, neg, od, ld, cd, nm, n, ol, ll, cl, ob, lb, cb, ys, h1, rfl, h2⟩ := h
    obtain ⟨ps, zs, rfl, h3, h4⟩ := RC.split (l := l) (l' := l') h2
    refine ⟨.int .i64 k :: .bool neg :: .slice od ld cd :: .string nm :: .int .i64 n :: .slice ol ll cl :: .slice ob lb cb :: ps, zs, rfl, ?_, h4⟩
    unfold RC
    exact ⟨k, neg, od, ld, cd, nm, n, ol, ll, cl, ob, lb, cb, ps, h1, rfl, h3⟩
theorem RC.join {Z : Nat → Prop} {w : World} : ∀ {l l' : List Tm} {ps ys : List Value}, RC Z w l ps → RC Z w l' ys → RC Z w (l ++ l') (ps ++ ys)
  | [], l', ps, ys, h, h' => by
    unfold RC at h
    subst h
    exact h'
  | t :: l, l', ps, ys, h, h' => by
    unfold RC at h
    obtain ⟨k, neg, od, ld, cd, nm, n, ol, ll, cl, ob, lb, cb, zs, h1, rfl, h2⟩ := h
    rw [List.cons_append]
    unfold RC
    exact ⟨k, neg, od, ld, cd, nm, n, ol, ll, cl, ob, lb, cb, zs ++ ys, h1, rfl, RC.join h2 h'⟩
theorem RC.cons {Z : Nat → Prop} {w : World} {t : Tm} {l : List Tm} {xs : List Value} (h : RC Z w (t :: l) xs) : ∃ k neg od ld cd nm n ol ll cl ob lb cb ys, TV Z w t (tmV k neg (.slice od ld cd) nm n (.slice ol ll cl) (.slice ob lb cb)) ∧ xs = .int .i64 k :: .bool neg :: .slice od ld cd :: .string nm :: .int .i64 n :: .slice ol ll cl :: .slice ob lb cb :: ys ∧ RC Z w l ys := by
  unfold RC at h; exact h
theorem RC.nil' {Z : Nat → Prop} {w : World} {xs : List Value} (h : RC Z w [] xs) : xs = [] := by unfold RC at h; exact h
/-- what a row's terms are made of: what lies below B, but for the row itself -/
abbrev Zr (g B : Nat) : Nat → Prop := fun k => k < B ∧ k ≠ g
/-- a row of terms from a block's begin on -/
def SRow (S g c B : Nat) (L : List Tm) (w : World) : Prop := ∃ xs, w.ownsRow S 31 7 (.slice (some ⟨g, 0, none⟩) L.length c) L.length xs ∧ RC (Zr g B) w L xs
/-- what a sort may turn -/
abbrev Fs (g B : Nat) : Nat → Prop := fun k => k = g ∨ B ≤ k
theorem SRow.kept {S g c B : Nat} {L : List Tm} {w w' : World} (h : SRow S g c B L w) (hk : Kept (fun k => B ≤ k) w w') (hB : B ≤ w.heap.size) (hg : g < B) : SRow S g c B L w' := by
  obtain ⟨xs, h1, h2⟩ := h
  refine ⟨xs, own_same h1 (hk.block g (by omega) (by omega)), h2.zs (fun k hz => hk.block k (by have := hz.1; omega) (by have := hz.1; omega))⟩
theorem Kept.of_wr {B : Nat} {w w' : World} (h : Wr B w w') : Kept (fun k => B ≤ k) w w' := ⟨h.os, h.tape, h.output, h.size, fun k hk hn => h.block k hk (fun hb => absurd hb hn)⟩
/-- a row of at least two terms opened at two neighbours -/
theorem SRow.two {S g c B : Nat} {P R : List Tm} {y x : Tm} {w : World} (h : SRow S g c B (P ++ y :: x :: R) w) :
    ∃ ps rs yk yneg yod yld ycd ynm yn yol yll ycl yob ylb ycb xk xneg xod xld xcd xnm xn xol xll xcl xob xlb xcb,
      ps.length = P.length * 7 ∧ RC (Zr g B) w P ps ∧ RC (Zr g B) w R rs ∧ TV (Zr g B) w y (tmV yk yneg (.slice yod yld ycd) ynm yn (.slice yol yll ycl) (.slice yob ylb ycb)) ∧ TV (Zr g B) w x (tmV xk xneg (.slice xod xld xcd) xnm xn (.slice xol xll xcl) (.slice xob xlb xcb)) ∧
      w.ownsRow S 31 7 (.slice (some ⟨g, 0, none⟩) (P ++ y :: x :: R).length c) (P ++ y :: x :: R).length (ps ++ (.int .i64 yk :: .bool yneg :: .slice yod yld ycd :: .string ynm :: .int .i64 yn :: .slice yol yll ycl :: .slice yob ylb ycb :: (.int .i64 xk :: .bool xneg :: .slice xod xld xcd :: .string xnm :: .int .i64 xn :: .slice xol xll xcl :: .slice xob xlb xcb :: rs))) := by
  obtain ⟨xs, h1, h2⟩ := h
  obtain ⟨ps, ys, rfl, hP, h3⟩ := RC.split h2
  obtain ⟨yk, yneg, yod, yld, ycd, ynm, yn, yol, yll, ycl, yob, ylb, ycb, zs, hy, rfl, h4⟩ := h3.cons
  obtain ⟨xk, xneg, xod, xld, xcd, xnm, xn, xol, xll, xcl, xob, xlb, xcb, rs, hx, rfl, h5⟩ := h4.cons
  exact ⟨ps, rs, yk, yneg, yod, yld, ycd, ynm, yn, yol, yll, ycl, yob, ylb, ycb, xk, xneg, xod, xld, xcd, xnm, xn, xol, xll, xcl, xob, xlb, xcb, hP.len, hP, h5, hy, hx, h1⟩
/-- and shut again with the two changed -/
theorem SRow.swapped {S g c B : Nat} {P R : List Tm} {y x : Tm} {w w' : World} {ps rs : List Value} {yk : Int} {yneg : Bool} {yod : Option Addr} {yld ycd : Nat} {ynm : ByteArray} {yn : Int} {yol : Option Addr} {yll ycl : Nat} {yob : Option Addr} {ylb ycb : Nat} {xk : Int} {xneg : Bool} {xod : Option Addr} {xld xcd : Nat} {xnm : ByteArray} {xn : Int} {xol : Option Addr} {xll xcl : Nat} {xob : Option Addr} {xlb xcb : Nat}
    (hP : RC (Zr g B) w P ps) (hR : RC (Zr g B) w R rs) (hy : TV (Zr g B) w y (tmV yk yneg (.slice yod yld ycd) ynm yn (.slice yol yll ycl) (.slice yob ylb ycb))) (hx : TV (Zr g B) w x (tmV xk xneg (.slice xod xld xcd) xnm xn (.slice xol xll xcl) (.slice xob xlb xcb))) (hon : Only g w w')
    (hO : w'.ownsRow S 31 7 (.slice (some ⟨g, 0, none⟩) (P ++ y :: x :: R).length c) (P ++ y :: x :: R).length (ps ++ (.int .i64 xk :: .bool xneg :: .slice xod xld xcd :: .string xnm :: .int .i64 xn :: .slice xol xll xcl :: .slice xob xlb xcb :: (.int .i64 yk :: .bool yneg :: .slice yod yld ycd :: .string ynm :: .int .i64 yn :: .slice yol yll ycl :: .slice yob ylb ycb :: rs)))) : SRow S g c B (P ++ x :: y :: R) w' := by
  have hz : Zs (Zr g B) w w' := fun k hk => hon.2.2 k hk.2
  refine ⟨_, by simpa using hO, RC.join (hP.zs hz) ?_⟩
  unfold RC
  refine ⟨_, _, _, _, _, _, _, _, _, _, _, _, _, _, TV.zs hz _ _ hx, rfl, ?_⟩
  unfold RC
  exact ⟨_, _, _, _, _, _, _, _, _, _, _, _, _, _, TV.zs hz _ _ hy, rfl, hR.zs hz⟩
theorem insR_step {x y : Tm} {P : List Tm} (h : 0 < cT y x) : (insR x (P ++ [y]).reverse).reverse = (insR x P.reverse).reverse ++ [y] := by
  rw [List.reverse_append]
  show (insR x (y :: P.reverse)).reverse = _
  rw [show insR x (y :: P.reverse) = y :: insR x P.reverse from if_pos h, List.reverse_cons]
theorem insR_stop {x y : Tm} {P : List Tm} (h : ¬ 0 < cT y x) : (insR x (P ++ [y]).reverse).reverse = P ++ [y] ++ [x] := by
  rw [List.reverse_append]
  show (insR x (y :: P.reverse)).reverse = _
  rw [show insR x (y :: P.reverse) = x :: y :: P.reverse from if_neg h]
  simp
theorem insR_empty (x : Tm) : (insR x ([] : List Tm).reverse).reverse = [x] := rfl
end Go.Proofs.YtpdoepjnkgffpaaDoor
namespace Go.Proofs.YtpdoepjnkgffpaaDoor
open Go.ChangeShapes Go.WideShapes Go.ChangeAt Go.ChangeMaps Go.RowKit Go.Shelf
set_option linter.unusedSimpArgs false
set_option linter.unusedVariables false
set_option maxRecDepth 2000
/-- the walk's object, whatever it holds -/
def WkA (B h : Nat) (w : World) : Prop := ∃ v m xs, WkE h v w ∧ w.ownsRow B 63 2 v m xs
theorem WkA.only {B h g : Nat} {w w' : World} (hA : WkA B h w) (ho : Only g w w') (hg : g < B) (hB : B ≤ h) : WkA B h w' := by
  obtain ⟨v, m, xs, ⟨_, _, _, _, _, _, _, _, _, _, _, _, _, _, h1⟩, h2⟩ := hA
  refine ⟨v, m, xs, (h1.of_block (ho.2.2 h (by omega))).e, own_block h2 (fun k hk => ho.2.2 k ?_)⟩
  obtain ⟨_, _, _, _, _, q⟩ := own_shape2 h2
  have := (q k hk).1
  omega
set_option maxHeartbeats 8000000 in
set_option maxRecDepth 8000 in
theorem insort_w (S B g h c : Nat) (l : List Tm) (w : World) (hlen : l.length ≤ 1000) (hSg : S ≤ g) (hgB : g < B) (hBh : B ≤ h) (hBw : B ≤ w.heap.size) (hrow : SRow S g c B l w) (hA : WkA B h w) (hw : wfA l) (hd : ∀ t ∈ l, dep t ≤ 1000000) (hT : Tabs w) (hG : 0 < g ∧ 1 < g) :
    Calls Tryd.prog 71 #[.slice (some ⟨g, 0, none⟩) l.length c, .int .i64 0, .int .i64 (l.length : Int), kf h 27] w fun e w' => (∃ r, e = .returned r) ∧ SRow S g c B (isort l) w' ∧ WkA B h w' ∧ Kept (Fs g B) w w' := by
  have HT := hid (fun w' (hk : Kept (Fs g B) w w') => hT.low hG (hk.below (B := g) (by omega) (fun k hk => by rcases hk with rfl | hk <;> omega)))
  have Hw := hid (And.intro hw hd)
  have HG := hid hG
  clear hT hw hd hG
  go_enter Tryd.func71, Tryd.ntmps71
  go_wp2_with fail
  go_loopg [8] l.length (fun t v8 wr => ∃ i : Nat, t + i = l.length ∧ v8 = .int .i64 ((i : Int) + 1) ∧ SRow S g c B (isort (l.take (i + 1)) ++ l.drop (i + 1)) wr ∧ WkA B h wr ∧ Kept (Fs g B) w wr)
  case atStart =>
    refine ⟨0, by omega, rfl, ?_, hA, Kept.refl _ _⟩
    cases l with
    | nil => exact hrow
    | cons t l => exact hrow
  case round =>
    clear hrow hA
    obtain ⟨i, hti, rfl, hrow, hA, hkp⟩ := hrel
    by_cases hil : i + 1 < l.length
    case neg =>
      have hii : ¬ ((i : Int) + 1 < (l.length : Int)) := by omega
      have hfin : SRow S g c B (isort l) wr := by
        rw [List.take_of_length_le (by omega), List.drop_eq_nil_of_le (by omega), List.append_nil] at hrow
        exact hrow
      clear hrow
      go_wp2
      go_end0
      exact ⟨⟨_, rfl⟩, hfin, hA, hkp⟩
    have hii : ((i : Int) + 1 < (l.length : Int)) := by omega
    obtain ⟨x, hx⟩ : ∃ x, l[i + 1]? = some x := ⟨l[i + 1], by simp [hil]⟩
    have hwx : Hid (wfT x ∧ dep x ≤ 1000000) := hid ⟨Hw.out.1 x (List.mem_of_getElem? hx), Hw.out.2 x (List.mem_of_getElem? hx)⟩
    have hwl : Hid (∀ y ∈ isort (l.take (i + 1)), wfT y ∧ dep y ≤ 1000000) := hid (fun y hy => by
      rw [isort_mem] at hy
      exact ⟨Hw.out.1 y (List.mem_of_mem_take hy), Hw.out.2 y (List.mem_of_mem_take hy)⟩)
    obtain ⟨R, hR⟩ : ∃ R, l.drop (i + 2) = R := ⟨_, rfl⟩
    obtain ⟨F, hF⟩ : ∃ F, isort (l.take (i + 2)) = F := ⟨_, rfl⟩
    have hl1 : (isort (l.take (i + 1))).length = i + 1 := by rw [isort_len, List.length_take]; omega
    have hst : Hid ((insR x (isort (l.take (i + 1))).reverse).reverse ++ [] = F) := hid (by
      rw [← hF, ← isort_snoc, List.append_nil]
      congr 1
      rw [show i + 2 = (i + 1) + 1 by omega, List.take_add_one (i := i + 1), hx]; rfl)
    have hRl : R.length + (i + 2) = l.length := by rw [← hR, List.length_drop]; omega
    have hdr : l.drop (i + 1) = x :: R := by
      rw [← hR, List.drop_eq_getElem_cons hil]
      congr 1
      rw [List.getElem?_eq_getElem hil] at hx
      exact Option.some.inj hx
    rw [hdr] at hrow
    have hRF := hid (And.intro hR hF)
    clear hR hF hdr hx
    generalize isort (l.take (i + 1)) = P0 at *
    go_wp2_with fail
    go_loopg [9] (i + 1) (fun t v9 wr => ∃ (P Q : List Tm), t = P.length ∧ v9 = .int .i64 (P.length : Int) ∧ P.length ≤ 1000 ∧ SRow S g c B (P ++ x :: (Q ++ R)) wr ∧ WkA B h wr ∧ Kept (Fs g B) w wr ∧ (P ++ x :: (Q ++ R)).length = l.length ∧ Hid ((insR x P.reverse).reverse ++ Q = F) ∧ Hid (∀ y ∈ P, wfT y ∧ dep y ≤ 1000000))
    case atStart =>
      exact ⟨P0, [], hl1.symm, by rw [hl1]; go_num, by omega, hrow, hA, hkp, by simp; omega, hst, hwl⟩
    case round =>
      clear hrow hA hkp hst hwl hl1 hii
      obtain ⟨P, Q, rfl, rfl, hPl, hrow, hA, hkp, hLl, hH, hwP⟩ := hrel
      rcases List.eq_nil_or_concat P with rfl | ⟨P, y, rfl⟩
      · have hfin : SRow S g c B (isort (l.take (i + 1 + 1)) ++ l.drop (i + 1 + 1)) wr := by
          have h1 := hH.out
          rw [insR_empty] at h1
          have h2 : isort (l.take (i + 2)) ++ l.drop (i + 2) = [] ++ x :: (Q ++ R) := by
            rw [hRF.out.1, hRF.out.2, ← h1]; rfl
          rw [h2]; exact hrow
        have hkp1 := hkp.trans (Kept.of_below ((Below.refl _ wr).drew))
        have hA1 : WkA B h wr.drew := hA
        have hfin1 : SRow S g c B (isort (l.take (i + 1 + 1)) ++ l.drop (i + 1 + 1)) wr.drew := hfin.kept (Kept.of_below ((Below.refl _ wr).drew)) (Nat.le_trans hBw hkp.size) hgB
        clear hrow hA hkp hH hwP hfin
        simp only [List.length_nil] at *
        go_wp2_with fail
        refine wp_region_held_drew (S := fun _ => True) (by kernel_rfl) trivial (fun hHeld => ?_)
        generalize wr.drew = V at *
        refine wpAnyH_take (i := 0) (oi := _) (v := ?_) rfl (by kernel_rfl) (by kernel_rfl) (by kernel_rfl) (fun _ _ _ h => h) (Or.inl ⟨by rfl, ?_⟩) (by assumption) ?_
        rotate_left 1
        · (intro w hSw; (try dsimp only at hSw); go_simp; try with_reducible rfl)
        try simp (maxSteps := 10000000) only [List.getElem_toArray, List.getElem_cons_succ, List.getElem_cons_zero, Act.put, List.setIfInBounds_toArray, List.set_cons_zero, List.set_cons_succ]
        refine wpAnyH_take (i := 1) (oi := _) (v := ?_) rfl (by kernel_rfl) (by kernel_rfl) (by kernel_rfl) (fun _ _ _ h => h) (Or.inl ⟨by rfl, ?_⟩) (by assumption) ?_
        rotate_left 1
        · (intro w hSw; (try dsimp only at hSw); go_simp; try with_reducible rfl)
        try simp (maxSteps := 10000000) only [List.getElem_toArray, List.getElem_cons_succ, List.getElem_cons_zero, Act.put, List.setIfInBounds_toArray, List.set_cons_zero, List.set_cons_succ]
        refine wpAnyH_take (i := 2) (oi := _) (v := ?_) rfl (by kernel_rfl) (by kernel_rfl) (by kernel_rfl) (fun _ _ _ h => h) (Or.inl ⟨by rfl, ?_⟩) (by assumption) ?_
        rotate_left 1
        · (intro w hSw; (try dsimp only at hSw); go_simp; try with_reducible rfl)
        try simp (maxSteps := 10000000) only [List.getElem_toArray, List.getElem_cons_succ, List.getElem_cons_zero, Act.put, List.setIfInBounds_toArray, List.set_cons_zero, List.set_cons_succ]
        refine wpAnyH_take (i := 3) (oi := _) (v := ?_) rfl (by kernel_rfl) (by kernel_rfl) (by kernel_rfl) (fun _ _ _ h => h) (Or.inl ⟨by rfl, ?_⟩) (by assumption) ?_
        rotate_left 1
        · (intro w hSw; (try dsimp only at hSw); go_simp; try with_reducible rfl)
        try simp (maxSteps := 10000000) only [List.getElem_toArray, List.getElem_cons_succ, List.getElem_cons_zero, Act.put, List.setIfInBounds_toArray, List.set_cons_zero, List.set_cons_succ]
        refine wpAnyH_take (i := 4) (oi := _) (v := undef) rfl (by kernel_rfl) (by kernel_rfl) (by kernel_rfl) (fun _ _ _ h => h) (Or.inr ⟨by rfl, rfl⟩) (by assumption) ?_
        try simp (maxSteps := 10000000) only [List.getElem_toArray, List.getElem_cons_succ, List.getElem_cons_zero, Act.put, List.setIfInBounds_toArray, List.set_cons_zero, List.set_cons_succ]
        refine wpAnyH_take (i := 5) (oi := _) (v := undef) rfl (by kernel_rfl) (by kernel_rfl) (by kernel_rfl) (fun _ _ _ h => h) (Or.inr ⟨by rfl, rfl⟩) (by assumption) ?_
        try simp (maxSteps := 10000000) only [List.getElem_toArray, List.getElem_cons_succ, List.getElem_cons_zero, Act.put, List.setIfInBounds_toArray, List.set_cons_zero, List.set_cons_succ]
        refine wpAnyH_take (i := 6) (oi := _) (v := undef) rfl (by kernel_rfl) (by kernel_rfl) (by kernel_rfl) (fun _ _ _ h => h) (Or.inr ⟨by rfl, rfl⟩) (by assumption) ?_
        try simp (maxSteps := 10000000) only [List.getElem_toArray, List.getElem_cons_succ, List.getElem_cons_zero, Act.put, List.setIfInBounds_toArray, List.set_cons_zero, List.set_cons_succ]
        refine wpAnyH_take (i := 7) (oi := _) (v := undef) rfl (by kernel_rfl) (by kernel_rfl) (by kernel_rfl) (fun _ _ _ h => h) (Or.inr ⟨by rfl, rfl⟩) (by assumption) ?_
        try simp (maxSteps := 10000000) only [List.getElem_toArray, List.getElem_cons_succ, List.getElem_cons_zero, Act.put, List.setIfInBounds_toArray, List.set_cons_zero, List.set_cons_succ]
        refine wpAnyH_take (i := 8) (oi := _) (v := undef) rfl (by kernel_rfl) (by kernel_rfl) (by kernel_rfl) (fun _ _ _ h => h) (Or.inr ⟨by rfl, rfl⟩) (by assumption) ?_
        try simp (maxSteps := 10000000) only [List.getElem_toArray, List.getElem_cons_succ, List.getElem_cons_zero, Act.put, List.setIfInBounds_toArray, List.set_cons_zero, List.set_cons_succ]
        refine wpAnyH_take (i := 9) (oi := _) (v := undef) rfl (by kernel_rfl) (by kernel_rfl) (by kernel_rfl) (fun _ _ _ h => h) (Or.inr ⟨by rfl, rfl⟩) (by assumption) ?_
        try simp (maxSteps := 10000000) only [List.getElem_toArray, List.getElem_cons_succ, List.getElem_cons_zero, Act.put, List.setIfInBounds_toArray, List.set_cons_zero, List.set_cons_succ]
        refine wpAnyH_take (i := 10) (oi := _) (v := undef) rfl (by kernel_rfl) (by kernel_rfl) (by kernel_rfl) (fun _ _ _ h => h) (Or.inr ⟨by rfl, rfl⟩) (by assumption) ?_
        try simp (maxSteps := 10000000) only [List.getElem_toArray, List.getElem_cons_succ, List.getElem_cons_zero, Act.put, List.setIfInBounds_toArray, List.set_cons_zero, List.set_cons_succ]
        refine wpAnyH_take (i := 11) (oi := _) (v := undef) rfl (by kernel_rfl) (by kernel_rfl) (by kernel_rfl) (fun _ _ _ h => h) (Or.inr ⟨by rfl, rfl⟩) (by assumption) ?_
        try simp (maxSteps := 10000000) only [List.getElem_toArray, List.getElem_cons_succ, List.getElem_cons_zero, Act.put, List.setIfInBounds_toArray, List.set_cons_zero, List.set_cons_succ]
        refine wpAnyH_take (i := 12) (oi := _) (v := undef) rfl (by kernel_rfl) (by kernel_rfl) (by kernel_rfl) (fun _ _ _ h => h) (Or.inr ⟨by rfl, rfl⟩) (by assumption) ?_
        try simp (maxSteps := 10000000) only [List.getElem_toArray, List.getElem_cons_succ, List.getElem_cons_zero, Act.put, List.setIfInBounds_toArray, List.set_cons_zero, List.set_cons_succ]
        refine wpAnyH_take (i := 13) (oi := _) (v := undef) rfl (by kernel_rfl) (by kernel_rfl) (by kernel_rfl) (fun _ _ _ h => h) (Or.inr ⟨by rfl, rfl⟩) (by assumption) ?_
        try simp (maxSteps := 10000000) only [List.getElem_toArray, List.getElem_cons_succ, List.getElem_cons_zero, Act.put, List.setIfInBounds_toArray, List.set_cons_zero, List.set_cons_succ]
        refine wpAnyH_take (i := 14) (oi := _) (v := undef) rfl (by kernel_rfl) (by kernel_rfl) (by kernel_rfl) (fun _ _ _ h => h) (Or.inr ⟨by rfl, rfl⟩) (by assumption) ?_
        try simp (maxSteps := 10000000) only [List.getElem_toArray, List.getElem_cons_succ, List.getElem_cons_zero, Act.put, List.setIfInBounds_toArray, List.set_cons_zero, List.set_cons_succ]
        refine wpAnyH_take (i := 15) (oi := _) (v := undef) rfl (by kernel_rfl) (by kernel_rfl) (by kernel_rfl) (fun _ _ _ h => h) (Or.inr ⟨by rfl, rfl⟩) (by assumption) ?_
        try simp (maxSteps := 10000000) only [List.getElem_toArray, List.getElem_cons_succ, List.getElem_cons_zero, Act.put, List.setIfInBounds_toArray, List.set_cons_zero, List.set_cons_succ]
        refine wpAnyH_take (i := 16) (oi := _) (v := ?_) rfl (by kernel_rfl) (by kernel_rfl) (by kernel_rfl) (fun _ _ _ h => h) (Or.inl ⟨by rfl, ?_⟩) (by assumption) ?_
        rotate_left 1
        · (intro w hSw; (try dsimp only at hSw); go_simp; try with_reducible rfl)
        try simp (maxSteps := 10000000) only [List.getElem_toArray, List.getElem_cons_succ, List.getElem_cons_zero, Act.put, List.setIfInBounds_toArray, List.set_cons_zero, List.set_cons_succ]
        refine wpAnyH_done (by kernel_rfl) ?_ _
        go_wp2
        go_roundg (l.length - (i + 1))
        case measure => omega
        case rel => exact ⟨i + 1, by omega, by go_num, hfin1, hA1, hkp1⟩
      rw [List.concat_eq_append] at *
      have hLe : (P ++ [y]) ++ x :: (Q ++ R) = P ++ y :: x :: (Q ++ R) := by simp
      rw [hLe] at hrow hLl
      have hlP : (P ++ [y]).length = P.length + 1 := by simp
      rw [hlP] at *
      have hwy := hid (hwP.out y (by simp))
      have hwP' : Hid (∀ z ∈ P, wfT z ∧ dep z ≤ 1000000) := hid (fun z hz => hwP.out z (by simp [hz]))
      obtain ⟨ps, rs, yk, yneg, yod, yld, ycd, ynm, yn, yol, yll, ycl, yob, ylb, ycb, xk, xneg, xod, xld, xcd, xnm, xn, xol, xll, xcl, xob, xlb, xcb, hps, hcP, hcR, hyV, hxV, hO⟩ := hrow.two
      have hDr : Kept (fun k => B ≤ k) wr wr.drew := Kept.of_below ((Below.refl _ wr).drew)
      have hkD : Kept (Fs g B) w wr.drew := hkp.trans (hDr.mono (fun k hk => .inr hk))
      have hBr : B ≤ wr.drew.heap.size := Nat.le_trans hBw hkD.size
      have hrow1 : SRow S g c B (P ++ y :: x :: (Q ++ R)) wr.drew := hrow.kept hDr (Nat.le_trans hBw hkp.size) hgB
      have hTD := HT.out _ hkD
      have hyV1 := TV.zs (w := wr) (w' := wr.drew) (fun k (_ : Zr g B k) => rfl) _ _ hyV
      have hxV1 := TV.zs (w := wr) (w' := wr.drew) (fun k (_ : Zr g B k) => rfl) _ _ hxV
      have hO1 : wr.drew.ownsRow S _ _ _ _ _ := hO
      have hpl : ps.length = P.length * 7 := hps
      have hS : Hid (∀ w', Kept (fun k => B ≤ k) wr.drew w' → (w'.cell? ⟨g, (P.length + 1) * 7, none⟩ = some (.int .i64 xk) ∧ w'.cell? ⟨g, (P.length + 1) * 7 + 1, none⟩ = some (.bool xneg) ∧ w'.cell? ⟨g, (P.length + 1) * 7 + 2, none⟩ = some (.slice xod xld xcd) ∧ w'.cell? ⟨g, (P.length + 1) * 7 + 3, none⟩ = some (.string xnm) ∧ w'.cell? ⟨g, (P.length + 1) * 7 + 4, none⟩ = some (.int .i64 xn) ∧ w'.cell? ⟨g, (P.length + 1) * 7 + 5, none⟩ = some (.slice xol xll xcl) ∧ w'.cell? ⟨g, (P.length + 1) * 7 + 6, none⟩ = some (.slice xob xlb xcb) ∧ w'.cell? ⟨g, P.length * 7, none⟩ = some (.int .i64 yk) ∧ w'.cell? ⟨g, P.length * 7 + 1, none⟩ = some (.bool yneg) ∧ w'.cell? ⟨g, P.length * 7 + 2, none⟩ = some (.slice yod yld ycd) ∧ w'.cell? ⟨g, P.length * 7 + 3, none⟩ = some (.string ynm) ∧ w'.cell? ⟨g, P.length * 7 + 4, none⟩ = some (.int .i64 yn) ∧ w'.cell? ⟨g, P.length * 7 + 5, none⟩ = some (.slice yol yll ycl) ∧ w'.cell? ⟨g, P.length * 7 + 6, none⟩ = some (.slice yob ylb ycb))) := hid (fun w' hb => by
        have hO2 := own_same hO1 (hb.block g (by omega) (by omega))
        obtain ⟨y0, y1, y2, y3, y4, y5, y6⟩ := own_cells7 hO2 hpl
        have hO3 := hO2
        rw [show ∀ (a0 a1 a2 a3 a4 a5 a6 : Value) (r : List Value), ps ++ (a0 :: a1 :: a2 :: a3 :: a4 :: a5 :: a6 :: r) = (ps ++ [a0, a1, a2, a3, a4, a5, a6]) ++ r from fun _ _ _ _ _ _ _ _ => by simp] at hO3
        obtain ⟨x0, x1, x2, x3, x4, x5, x6⟩ := own_cells7 (i := (P.length + 1) * 7) hO3 (by simp [hpl]; omega)
        exact ⟨x0, x1, x2, x3, x4, x5, x6, y0, y1, y2, y3, y4, y5, y6⟩)
      obtain ⟨X, hX⟩ : ∃ X, cT x y = X := ⟨_, rfl⟩
      have HC := hid (show Calls Tryd.prog 27 #[.pointer (some ⟨h, 0, none⟩), tmV xk xneg (.slice xod xld xcd) xnm xn (.slice xol xll xcl) (.slice xob xlb xcb), tmV yk yneg (.slice yod yld ycd) ynm yn (.slice yol yll ycl) (.slice yob ylb ycb)] wr.drew fun e w' => e = .returned (.int .i64 X) ∧ WkA B h w' ∧ Kept (fun k => B ≤ k) wr.drew w' by
        obtain ⟨v, m, xs, hE, hOw⟩ := hA
        refine (wcompare_w B h x y _ _ v m xs wr.drew hBh hE hOw (TV.mono (Z := Zr g B) (w := wr.drew) (fun k _ hk => hk.1) _ _ hxV1) (TV.mono (Z := Zr g B) (w := wr.drew) (fun k _ hk => hk.1) _ _ hyV1) hwx.out.1 hwy.out.1 hwx.out.2 hTD (by have := HG.out; omega)).mono ?_
        rw [hX]
        rintro e w' ⟨rfl, ⟨v', m', xs', q1, q2⟩, k2⟩
        exact ⟨rfl, ⟨v', m', xs', q1, q2⟩, Kept.of_wr k2⟩)
      have HX := hid hX
      have hin1 : ((P.length : Int) + 1 < (l.length : Int)) := by simp at hLl; omega
      have hin0 : ((P.length : Int) < (l.length : Int)) := by omega
      have hps0 : (0 : Int) < (P.length : Int) + 1 := by omega
      have hps1 : (0 : Int) ≤ (P.length : Int) + 1 := by omega
      have hpw : IntKind.i64.wrap (P.length : Int) = (P.length : Int) := by rw [IntKind.wrap_i64]; omega
      have HV := hid (And.intro hyV1 (And.intro hxV1 (And.intro (RC.zs (Z := Zr g B) (w := wr) (w' := wr.drew) (fun k hk => rfl) hcP) (And.intro (RC.zs (Z := Zr g B) (w := wr) (w' := wr.drew) (fun k hk => rfl) hcR) hO1))))
      clear hX hrow hA hkp hDr hTD hyV hxV hO hwP hyV1 hxV1 hO1 hlP hLe hcP hcR
      have hk0 : Kept (fun k => B ≤ k) wr.drew wr.drew := Kept.refl _ _
      go_wp2_with fail
      refine wp_region_held_drew (S := fun w' => w'.cell? ⟨g, (P.length + 1) * 7, none⟩ = some (.int .i64 xk) ∧ w'.cell? ⟨g, (P.length + 1) * 7 + 1, none⟩ = some (.bool xneg) ∧ w'.cell? ⟨g, (P.length + 1) * 7 + 2, none⟩ = some (.slice xod xld xcd) ∧ w'.cell? ⟨g, (P.length + 1) * 7 + 3, none⟩ = some (.string xnm) ∧ w'.cell? ⟨g, (P.length + 1) * 7 + 4, none⟩ = some (.int .i64 xn) ∧ w'.cell? ⟨g, (P.length + 1) * 7 + 5, none⟩ = some (.slice xol xll xcl) ∧ w'.cell? ⟨g, (P.length + 1) * 7 + 6, none⟩ = some (.slice xob xlb xcb) ∧ w'.cell? ⟨g, P.length * 7, none⟩ = some (.int .i64 yk) ∧ w'.cell? ⟨g, P.length * 7 + 1, none⟩ = some (.bool yneg) ∧ w'.cell? ⟨g, P.length * 7 + 2, none⟩ = some (.slice yod yld ycd) ∧ w'.cell? ⟨g, P.length * 7 + 3, none⟩ = some (.string ynm) ∧ w'.cell? ⟨g, P.length * 7 + 4, none⟩ = some (.int .i64 yn) ∧ w'.cell? ⟨g, P.length * 7 + 5, none⟩ = some (.slice yol yll ycl) ∧ w'.cell? ⟨g, P.length * 7 + 6, none⟩ = some (.slice yob ylb ycb)) (by kernel_rfl) (by exact hS.out _ hk0) (fun hHeld => ?_)
      generalize wr.drew = V at *
      refine wpAnyH_take (i := 0) (oi := _) (v := ?_) rfl (by kernel_rfl) (by kernel_rfl) (by kernel_rfl) (fun _ _ _ h => h) (Or.inl ⟨by rfl, ?_⟩) (by assumption) ?_
      rotate_left 1
      · (intro w hSw; (try dsimp only at hSw); go_simp; try with_reducible rfl)
      try simp (maxSteps := 10000000) only [List.getElem_toArray, List.getElem_cons_succ, List.getElem_cons_zero, Act.put, List.setIfInBounds_toArray, List.set_cons_zero, List.set_cons_succ]
      refine wpAnyH_take (i := 1) (oi := _) (v := ?_) rfl (by kernel_rfl) (by kernel_rfl) (by kernel_rfl) (fun _ _ _ h => h) (Or.inl ⟨by rfl, ?_⟩) (by assumption) ?_
      rotate_left 1
      · (intro w hSw; (try dsimp only at hSw); go_simp; try with_reducible rfl)
      try simp (maxSteps := 10000000) only [List.getElem_toArray, List.getElem_cons_succ, List.getElem_cons_zero, Act.put, List.setIfInBounds_toArray, List.set_cons_zero, List.set_cons_succ]
      refine wpAnyH_take (i := 2) (oi := _) (v := ?_) rfl (by kernel_rfl) (by kernel_rfl) (by kernel_rfl) (fun _ _ _ h => h) (Or.inl ⟨by rfl, ?_⟩) (by assumption) ?_
      rotate_left 1
      · (intro w hSw; (try dsimp only at hSw); go_simp; try with_reducible rfl)
      try simp (maxSteps := 10000000) only [List.getElem_toArray, List.getElem_cons_succ, List.getElem_cons_zero, Act.put, List.setIfInBounds_toArray, List.set_cons_zero, List.set_cons_succ]
      refine wpAnyH_take (i := 3) (oi := _) (v := ?_) rfl (by kernel_rfl) (by kernel_rfl) (by kernel_rfl) (fun _ _ _ h => h) (Or.inl ⟨by rfl, ?_⟩) (by assumption) ?_
      rotate_left 1
      · (intro w hSw; (try dsimp only at hSw); go_simp; try with_reducible rfl)
      try simp (maxSteps := 10000000) only [List.getElem_toArray, List.getElem_cons_succ, List.getElem_cons_zero, Act.put, List.setIfInBounds_toArray, List.set_cons_zero, List.set_cons_succ]
      refine wpAnyH_take (i := 4) (oi := _) (v := ?_) rfl (by kernel_rfl) (by kernel_rfl) (by kernel_rfl) (fun _ _ _ h => h) (Or.inl ⟨by rfl, ?_⟩) (by assumption) ?_
      rotate_left 1
      · (intro w hSw; (try dsimp only at hSw); go_simp; try with_reducible rfl)
      try simp (maxSteps := 10000000) only [List.getElem_toArray, List.getElem_cons_succ, List.getElem_cons_zero, Act.put, List.setIfInBounds_toArray, List.set_cons_zero, List.set_cons_succ]
      refine wpAnyH_take (i := 5) (oi := _) (v := ?_) rfl (by kernel_rfl) (by kernel_rfl) (by kernel_rfl) (fun _ _ _ h => h) (Or.inl ⟨by rfl, ?_⟩) (by assumption) ?_
      rotate_left 1
      · (intro w hSw; (try dsimp only at hSw); go_simp; try with_reducible rfl)
      try simp (maxSteps := 10000000) only [List.getElem_toArray, List.getElem_cons_succ, List.getElem_cons_zero, Act.put, List.setIfInBounds_toArray, List.set_cons_zero, List.set_cons_succ]
      refine wpAnyH_take (i := 6) (oi := _) (v := ?_) rfl (by kernel_rfl) (by kernel_rfl) (by kernel_rfl) (fun _ _ _ h => h) (Or.inl ⟨by rfl, ?_⟩) (by assumption) ?_
      rotate_left 1
      · (intro w hSw; (try dsimp only at hSw); go_simp; try with_reducible rfl)
      try simp (maxSteps := 10000000) only [List.getElem_toArray, List.getElem_cons_succ, List.getElem_cons_zero, Act.put, List.setIfInBounds_toArray, List.set_cons_zero, List.set_cons_succ]
      refine wpAnyH_take (i := 7) (oi := _) (v := ?_) rfl (by kernel_rfl) (by kernel_rfl) (by kernel_rfl) (fun _ _ _ h => h) (Or.inl ⟨by rfl, ?_⟩) (by assumption) ?_
      rotate_left 1
      · (intro w hSw; (try dsimp only at hSw); go_simp; try with_reducible rfl)
      try simp (maxSteps := 10000000) only [List.getElem_toArray, List.getElem_cons_succ, List.getElem_cons_zero, Act.put, List.setIfInBounds_toArray, List.set_cons_zero, List.set_cons_succ]
      refine wpAnyH_take (i := 8) (oi := _) (v := ?_) rfl (by kernel_rfl) (by kernel_rfl) (by kernel_rfl) (fun _ _ _ h => h) (Or.inl ⟨by rfl, ?_⟩) (by assumption) ?_
      rotate_left 1
      · (intro w hSw; (try dsimp only at hSw); go_simp; try with_reducible rfl)
      try simp (maxSteps := 10000000) only [List.getElem_toArray, List.getElem_cons_succ, List.getElem_cons_zero, Act.put, List.setIfInBounds_toArray, List.set_cons_zero, List.set_cons_succ]
      refine wpAnyH_take (i := 9) (oi := _) (v := ?_) rfl (by kernel_rfl) (by kernel_rfl) (by kernel_rfl) (fun _ _ _ h => h) (Or.inl ⟨by rfl, ?_⟩) (by assumption) ?_
      rotate_left 1
      · (intro w hSw; (try dsimp only at hSw); go_simp; try with_reducible rfl)
      try simp (maxSteps := 10000000) only [List.getElem_toArray, List.getElem_cons_succ, List.getElem_cons_zero, Act.put, List.setIfInBounds_toArray, List.set_cons_zero, List.set_cons_succ]
      refine wpAnyH_take (i := 10) (oi := _) (v := ?_) rfl (by kernel_rfl) (by kernel_rfl) (by kernel_rfl) (fun _ _ _ h => h) (Or.inl ⟨by rfl, ?_⟩) (by assumption) ?_
      rotate_left 1
      · (intro w hSw; (try dsimp only at hSw); go_simp; try with_reducible rfl)
      try simp (maxSteps := 10000000) only [List.getElem_toArray, List.getElem_cons_succ, List.getElem_cons_zero, Act.put, List.setIfInBounds_toArray, List.set_cons_zero, List.set_cons_succ]
      refine wpAnyH_take (i := 11) (oi := _) (v := ?_) rfl (by kernel_rfl) (by kernel_rfl) (by kernel_rfl) (fun _ _ _ h => h) (Or.inl ⟨by rfl, ?_⟩) (by assumption) ?_
      rotate_left 1
      · (intro w hSw; (try dsimp only at hSw); go_simp; try with_reducible rfl)
      try simp (maxSteps := 10000000) only [List.getElem_toArray, List.getElem_cons_succ, List.getElem_cons_zero, Act.put, List.setIfInBounds_toArray, List.set_cons_zero, List.set_cons_succ]
      refine wpAnyH_take (i := 12) (oi := _) (v := ?_) rfl (by kernel_rfl) (by kernel_rfl) (by kernel_rfl) (fun _ _ _ h => h) (Or.inl ⟨by rfl, ?_⟩) (by assumption) ?_
      rotate_left 1
      · (intro w hSw; (try dsimp only at hSw); go_simp; try with_reducible rfl)
      try simp (maxSteps := 10000000) only [List.getElem_toArray, List.getElem_cons_succ, List.getElem_cons_zero, Act.put, List.setIfInBounds_toArray, List.set_cons_zero, List.set_cons_succ]
      refine wpAnyH_take (i := 13) (oi := _) (v := ?_) rfl (by kernel_rfl) (by kernel_rfl) (by kernel_rfl) (fun _ _ _ h => h) (Or.inl ⟨by rfl, ?_⟩) (by assumption) ?_
      rotate_left 1
      · (intro w hSw; (try dsimp only at hSw); go_simp; try with_reducible rfl)
      try simp (maxSteps := 10000000) only [List.getElem_toArray, List.getElem_cons_succ, List.getElem_cons_zero, Act.put, List.setIfInBounds_toArray, List.set_cons_zero, List.set_cons_succ]
      refine wpAnyH_ready (rs := [14]) (by kernel_rfl) (by simp) ?_
      refine AllReadyH.cons rfl (fun K hK => ?_) AllReadyH.nil
      go_simp
      refine HC.out.mono ?_
      rintro e w2 ⟨rfl, hE2, kV2⟩
      try go_simp
      refine hK.out _ _ ?_ (fun hHeld => ?_)
      · exact hS.out _ (by assumption)
      clear hK K
      try simp (maxSteps := 10000000) only [List.getElem_toArray, List.getElem_cons_succ, List.getElem_cons_zero, Act.put, List.setIfInBounds_toArray, List.set_cons_zero, List.set_cons_succ]
      refine wpAnyH_take (i := 15) (oi := _) (v := ?_) rfl (by kernel_rfl) (by kernel_rfl) (by kernel_rfl) (fun _ _ _ h => h) (Or.inl ⟨by rfl, ?_⟩) (by assumption) ?_
      rotate_left 1
      · (intro w hSw; (try dsimp only at hSw); go_simp; try with_reducible rfl)
      try simp (maxSteps := 10000000) only [List.getElem_toArray, List.getElem_cons_succ, List.getElem_cons_zero, Act.put, List.setIfInBounds_toArray, List.set_cons_zero, List.set_cons_succ]
      refine wpAnyH_take (i := 16) (oi := _) (v := ?_) rfl (by kernel_rfl) (by kernel_rfl) (by kernel_rfl) (fun _ _ _ h => h) (Or.inl ⟨by rfl, ?_⟩) (by assumption) ?_
      rotate_left 1
      · (intro w hSw; (try dsimp only at hSw); go_simp; try with_reducible rfl)
      try simp (maxSteps := 10000000) only [List.getElem_toArray, List.getElem_cons_succ, List.getElem_cons_zero, Act.put, List.setIfInBounds_toArray, List.set_cons_zero, List.set_cons_succ]
      refine wpAnyH_done (by kernel_rfl) ?_ _
      clear HC hHeld
      have hrow2 := hrow1.kept kV2 hBr hgB
      have hk2 := hkD.trans (kV2.mono (fun k hk => .inr hk))
      have hn := cT_neg x y hwx.out.1 hwy.out.1
      rw [HX.out] at hn
      by_cases hX0 : X < 0
      · have hpos : 0 < cT y x := by omega
        have hH2 : Hid ((insR x P.reverse).reverse ++ (y :: Q) = F) := hid (by
          have h1 := hH.out
          rw [insR_step hpos] at h1
          rw [← h1]; simp)
        clear hn hpos hrow2
        have hO2 := own_same HV.out.2.2.2.2 (kV2.block g (by omega) (by omega))
        have hfr := own_fr hO2
        obtain ⟨x0, x1, x2, x3, x4, x5, x6, y0, y1, y2, y3, y4, y5, y6⟩ := hS.out _ kV2
        have hzV : Zs (Zr g B) V w2 := fun k hk => kV2.block k (by have := hk.1; omega) (by have := hk.1; omega)
        have hO3 := hO2
        rw [show ∀ (a0 a1 a2 a3 a4 a5 a6 : Value) (r : List Value), ps ++ (a0 :: a1 :: a2 :: a3 :: a4 :: a5 :: a6 :: r) = (ps ++ [a0, a1, a2, a3, a4, a5, a6]) ++ r from fun _ _ _ _ _ _ _ _ => by simp] at hO3
        have hO4 := own_put7 (i := (P.length + 1) * 7) (b0 := .int .i64 yk) (b1 := .bool yneg) (b2 := .slice yod yld ycd) (b3 := .string ynm) (b4 := .int .i64 yn) (b5 := .slice yol yll ycl) (b6 := .slice yob ylb ycb) hO3 (by simp [hpl]; omega)
        rw [show ∀ (a0 a1 a2 a3 a4 a5 a6 : Value) (r : List Value), (ps ++ [a0, a1, a2, a3, a4, a5, a6]) ++ r = ps ++ (a0 :: a1 :: a2 :: a3 :: a4 :: a5 :: a6 :: r) from fun _ _ _ _ _ _ _ _ => by simp] at hO4
        have hO5 := own_put7 (i := P.length * 7) (b0 := .int .i64 xk) (b1 := .bool xneg) (b2 := .slice xod xld xcd) (b3 := .string xnm) (b4 := .int .i64 xn) (b5 := .slice xol xll xcl) (b6 := .slice xob xlb xcb) hO4 hpl
        have hon := (only_put7 w2 g ((P.length + 1) * 7) (.int .i64 yk) (.bool yneg) (.slice yod yld ycd) (.string ynm) (.int .i64 yn) (.slice yol yll ycl) (.slice yob ylb ycb)).trans (only_put7 _ g (P.length * 7) (.int .i64 xk) (.bool xneg) (.slice xod xld xcd) (.string xnm) (.int .i64 xn) (.slice xol xll xcl) (.slice xob xlb xcb))
        have hR3 : Hid (SRow S g c B (P ++ x :: y :: (Q ++ R)) _) := hid (SRow.swapped (HV.out.2.2.1.zs hzV) (HV.out.2.2.2.1.zs hzV) (TV.zs hzV _ _ HV.out.1) (TV.zs hzV _ _ HV.out.2.1) hon hO5)
        have hA3 := hid (hE2.only hon hgB hBh)
        have hk3 := hid (hk2.trans ((Kept.of_only hon).mono (fun k hk => .inl hk)))
        clear hO2 hO3 hO4 hO5 hon hS HV hzV hrow1 hk0 hkD
        generalize hWd : ((((((((((((((w2.setCell ⟨g, (P.length + 1) * 7, none⟩ (.int .i64 yk)).setCell ⟨g, (P.length + 1) * 7 + 1, none⟩ (.bool yneg)).setCell ⟨g, (P.length + 1) * 7 + 2, none⟩ (.slice yod yld ycd)).setCell ⟨g, (P.length + 1) * 7 + 3, none⟩ (.string ynm)).setCell ⟨g, (P.length + 1) * 7 + 4, none⟩ (.int .i64 yn)).setCell ⟨g, (P.length + 1) * 7 + 5, none⟩ (.slice yol yll ycl)).setCell ⟨g, (P.length + 1) * 7 + 6, none⟩ (.slice yob ylb ycb)).setCell ⟨g, P.length * 7, none⟩ (.int .i64 xk)).setCell ⟨g, P.length * 7 + 1, none⟩ (.bool xneg)).setCell ⟨g, P.length * 7 + 2, none⟩ (.slice xod xld xcd)).setCell ⟨g, P.length * 7 + 3, none⟩ (.string xnm)).setCell ⟨g, P.length * 7 + 4, none⟩ (.int .i64 xn)).setCell ⟨g, P.length * 7 + 5, none⟩ (.slice xol xll xcl)).setCell ⟨g, P.length * 7 + 6, none⟩ (.slice xob xlb xcb)) = W3 at hR3 hA3 hk3
        have HWd := hid hWd
        clear hWd
        go_wp2_with fail
        go_region
        all_goals go_wp2
        rw [HWd.out]
        have hz3 := hk3.out.size
        have hR4 := hR3.out.kept (Kept.of_below ((Below.refl _ W3).drew)) (Nat.le_trans hBw hz3) hgB
        have hA4 : WkA B h W3.drew := hA3.out
        have hk4 := hk3.out.trans (Kept.of_below ((Below.refl _ W3).drew))
        clear HWd hk3 hA3 hR3
        generalize W3.drew = W4 at *
        have hLl2 : (P ++ x :: (y :: Q ++ R)).length = l.length := by simp at hLl ⊢; omega
        go_roundg P.length
        case measure => simp
        case rel => exact ⟨P, y :: Q, rfl, by go_num, by omega, hR4, hA4, hk4, hLl2, hH2, hwP'⟩
      · have hfin : SRow S g c B (isort (l.take (i + 1 + 1)) ++ l.drop (i + 1 + 1)) w2 := by
          have h1 := hH.out
          rw [insR_stop (by omega)] at h1
          have h2 : isort (l.take (i + 2)) ++ l.drop (i + 2) = P ++ y :: x :: (Q ++ R) := by
            rw [hRF.out.1, hRF.out.2, ← h1]; simp
          rw [h2]; exact hrow2
        clear hrow2 hrow1 hS HV hk0 hkD hn
        go_wp2
        go_roundg (l.length - (i + 1))
        case measure => omega
        case rel => exact ⟨i + 1, by omega, by go_num, hfin, hE2, hk2⟩
end Go.Proofs.YtpdoepjnkgffpaaDoor
