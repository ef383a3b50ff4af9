/- Room of the statements: is a term small? -/
import Derived.Test.YtpdoepjnkgffpaaDoorTermOpen
namespace Go.Proofs.YtpdoepjnkgffpaaDoor
open Go.ChangeShapes Go.WideShapes Go.ChangeAt Go.RowKit Go.Shelf
set_option linter.unusedSimpArgs false
set_option linter.unusedVariables false
set_option maxRecDepth 2000
mutual
def tsz : Tm → Nat
  | .mk _ _ _ _ _ l _ => 1 + tszL l
def tszL : List Tm → Nat
  | [] => 0
  | t :: l => tsz t + tszL l
end
theorem tsz_mem : ∀ {l : List Tm} {i : Nat} {t : Tm}, l[i]? = some t → tsz t ≤ tszL l
  | [], i, t, h => by simp at h
  | x :: l, 0, t, h => by simp at h; subst h; simp only [tszL]; omega
  | x :: l, i + 1, t, h => by
    have := tsz_mem (l := l) (i := i) (t := t) (by simpa using h)
    simp only [tszL]; omega
/-- the i-th term of a row -/
theorem TR.get {w w' : World} {l : List Tm} {o : Option Addr} {i : Nat} {t : Tm} (h : TR (Low w) w l o) (ht : l[i]? = some t) (hb : Below w.heap.size w w') :
    ∃ a k neg od ld cd nm n ol ll cl ob lb cb, o = some a ∧ TV (Low w') w' t (tmV k neg (.slice od ld cd) nm n (.slice ol ll cl) (.slice ob lb cb)) ∧ w'.cell? (a.add (i * 7)) = some (.int .i64 k) ∧ w'.cell? ⟨(a.add (i * 7)).block, (a.add (i * 7)).off + 1, none⟩ = some (.bool neg) ∧ w'.cell? ⟨(a.add (i * 7)).block, (a.add (i * 7)).off + 2, none⟩ = some (.slice od ld cd) ∧ w'.cell? ⟨(a.add (i * 7)).block, (a.add (i * 7)).off + 3, none⟩ = some (.string nm) ∧ w'.cell? ⟨(a.add (i * 7)).block, (a.add (i * 7)).off + 4, none⟩ = some (.int .i64 n) ∧ w'.cell? ⟨(a.add (i * 7)).block, (a.add (i * 7)).off + 5, none⟩ = some (.slice ol ll cl) ∧ w'.cell? ⟨(a.add (i * 7)).block, (a.add (i * 7)).off + 6, none⟩ = some (.slice ob lb cb) := by
  obtain ⟨a, rfl⟩ : ∃ a, o = some a := by
    cases l with
    | nil => simp at ht
    | cons q qs =>
      unfold TR at h
      obtain ⟨a, _, ha, _⟩ := h
      exact ⟨a, ha⟩
  obtain ⟨vt, hZ, hA, hTv⟩ := TR.at _ _ i t h ht
  rw [Nat.mul_comm] at hA
  have hA' := hA.zs (Z := Low w) (by rw [block_add]; exact hZ) (fun k hk => hb.block k hk)
  have hTv' := tv_below hTv hb
  obtain ⟨k', neg', od', ld', cd', nm', n', ol', ll', cl', ob', lb', cb', rfl⟩ := hTv.form
  exact ⟨a, k', neg', od', ld', cd', nm', n', ol', ll', cl', ob', lb', cb', rfl, hTv', hA'.tm⟩
mutual
def roomB (most : Int) : Int → Tm → Bool
  | dp, .mk _ _ d nm _ l b => decide (0 ≤ dp) && (decide ((l.length : Int) ≤ most) && (decide ((b.length : Int) ≤ 5000) && (decide ((d.length : Int) ≤ 100) && (decide ((nm.size : Int) ≤ 1100) && roomsB most (dp - 1) l))))
def roomsB (most : Int) : Int → List Tm → Bool
  | _, [] => true
  | dp, t :: l => roomB most dp t && roomsB most dp l
end
theorem roomsB_all (most dp : Int) : ∀ l : List Tm, roomsB most dp l = l.all (roomB most dp)
  | [] => by simp [roomsB]
  | t :: l => by simp [roomsB, roomsB_all most dp l]
set_option maxHeartbeats 2000000 in
set_option maxRecDepth 4000 in
theorem Room_w (most : Int) (hm : most ≤ 1000000) : ∀ (N : Nat) (T : Tm) (v : Value) (dp : Int) (w : World), tsz T ≤ N → -1 ≤ dp → dp ≤ 1000 → TV (Low w) w T v →
    Calls Tryd.prog 18 #[v, .int .i64 dp, .int .i64 most] w fun e w' => e = .returned (.bool (roomB most dp T)) ∧ Below w.heap.size w w' := by
  intro N
  induction N with
  | zero => intro T v dp w h; cases T; simp only [tsz] at h; omega
  | succ N ih =>
  intro T v dp w hN hd0 hd1 hT
  cases T with | mk tk tneg td tnm tn tl tb =>
  unfold TV at hT
  obtain ⟨tod, tcd, tol, tcl, tob, tcb, rfl, _, _, _, _, _, htl, htR⟩ := hT
  have hB : Below w.heap.size w (w.alloc (.cells #[.int .i64 tk, .bool tneg, .slice tod td.length tcd, .string tnm, .int .i64 tn, .slice tol tl.length tcl, .slice tob tb.length tcb] 31)) := (Below.refl _ w).alloc (Nat.le_refl _) _
  have kA := Bx.new w (.int .i64 tk) (.bool tneg) (.slice tod td.length tcd) (.string tnm) (.int .i64 tn) (.slice tol tl.length tcl) (.slice tob tb.length tcb) 31
  have hIH := hid ih
  clear ih
  obtain ⟨R, hR⟩ : ∃ R, roomB most dp (.mk tk tneg td tnm tn tl tb) = R := ⟨_, rfl⟩
  rw [hR]
  unfold roomB at hR
  have hHR := hid hR
  clear hR
  by_cases c1 : dp < 0
  · have hRf : R = false := by rw [← hHR.out, decide_eq_false (by omega), Bool.false_and]
    subst hRf
    go_enter Tryd.func18, Tryd.ntmps18
    go_wp2
    go_ret
    exact ⟨rfl, hB⟩
  by_cases c2 : most < (tl.length : Int)
  · have hRf : R = false := by rw [← hHR.out, decide_eq_false (p := (tl.length : Int) ≤ most) (by omega), Bool.false_and, Bool.and_false]
    subst hRf
    go_enter Tryd.func18, Tryd.ntmps18
    go_wp2
    go_ret
    exact ⟨rfl, hB⟩
  by_cases c3 : (5000 : Int) < (tb.length : Int)
  · have hRf : R = false := by rw [← hHR.out, decide_eq_false (p := (tb.length : Int) ≤ 5000) (by omega)]; simp
    subst hRf
    go_enter Tryd.func18, Tryd.ntmps18
    go_wp2
    go_ret
    exact ⟨rfl, hB⟩
  by_cases c4 : (100 : Int) < (td.length : Int)
  · have hRf : R = false := by rw [← hHR.out, decide_eq_false (p := (td.length : Int) ≤ 100) (by omega)]; simp
    subst hRf
    go_enter Tryd.func18, Tryd.ntmps18
    go_wp2
    go_ret
    exact ⟨rfl, hB⟩
  by_cases c5 : (1100 : Int) < (tnm.size : Int)
  · have hRf : R = false := by rw [← hHR.out, decide_eq_false (p := (tnm.size : Int) ≤ 1100) (by omega)]; simp
    subst hRf
    go_enter Tryd.func18, Tryd.ntmps18
    go_wp2
    go_ret
    exact ⟨rfl, hB⟩
  have hHR2 : Hid (tl.all (roomB most (dp - 1)) = R) := hid (by
    have := hHR.out
    rw [decide_eq_true (by omega), decide_eq_true (by omega), decide_eq_true (by omega), decide_eq_true (by omega), decide_eq_true (by omega), roomsB_all] at this
    simpa using this)
  clear hHR
  go_enter Tryd.func18, Tryd.ntmps18
  go_wp2_with fail
  generalize (w.alloc (.cells #[.int .i64 tk, .bool tneg, .slice tod td.length tcd, .string tnm, .int .i64 tn, .slice tol tl.length tcl, .slice tob tb.length tcb] 31)) = W0 at *
  have hll : tl.length ≤ 1000000 := by omega
  have hdp : 0 ≤ dp := by omega
  clear c1 c2 c3 c4 c5
  go_loopg [7] tl.length (fun t v7 wr => ∃ i : Nat, t + i = tl.length ∧ v7 = .int .i64 (i : Int) ∧ Hid (∀ j x, j < i → tl[j]? = some x → roomB most (dp - 1) x = true) ∧ Bx w.heap.size (.int .i64 tk) (.bool tneg) (.slice tod td.length tcd) (.string tnm) (.int .i64 tn) (.slice tol tl.length tcl) (.slice tob tb.length tcb) wr ∧ Below w.heap.size w wr)
  case atStart => exact ⟨0, by omega, rfl, hid (fun j x hj => by omega), kA, hB⟩
  case round =>
    obtain ⟨i, hti, rfl, hH, kr, hBr⟩ := hrel
    clear kA hB
    obtain ⟨x0, x1, x2, x3, x4, x5, x6⟩ := kr.res
    by_cases hil : i = tl.length
    · subst hil
      have hRt : R = true := by
        rw [← hHR2.out, List.all_eq_true]
        intro x hx
        obtain ⟨j, hj, he⟩ := List.getElem_of_mem hx
        exact hH.out j x hj (by rw [List.getElem?_eq_getElem hj, he])
      subst hRt
      go_wp2
      go_ret
      exact ⟨rfl, hBr⟩
    · have hil' : i < tl.length := by omega
      have hii : ((i : Nat) : Int) < ((tl.length : Nat) : Int) := by omega
      obtain ⟨t, ht⟩ : ∃ t, tl[i]? = some t := ⟨tl[i], by simp [hil']⟩
      obtain ⟨a, k', neg', od', ld', cd', nm', n', ol', ll', cl', ob', lb', cb', rfl, hTv', y0, y1, y2, y3, y4, y5, y6⟩ := htR.get ht hBr
      have hsz : tsz t ≤ N := by have := tsz_mem ht; simp only [tsz] at hN; omega
      have hHt := hid ht
      clear ht
      go_wp2_with fail
      refine (hIH.out t _ (dp - 1) _ hsz (by omega) (by omega) hTv').mono ?_
      rintro e w2 ⟨rfl, b2⟩
      have hB2 := below_and hBr (by have := hBr.size; omega) b2
      have k2 := kr.below b2
      obtain ⟨bb, hbb⟩ : ∃ bb, roomB most (dp - 1) t = bb := ⟨_, rfl⟩
      rw [hbb]
      have hHb := hid hbb
      clear hbb hTv' x0 x1 x2 x3 x4 x5 x6 y0 y1 y2 y3 y4 y5 y6 b2 hBr kr
      cases bb with
      | false =>
        have hRf : R = false := by
          rw [← hHR2.out]
          cases hq : tl.all (roomB most (dp - 1)) with
          | false => rfl
          | true =>
            rw [List.all_eq_true] at hq
            have := hq t (List.mem_of_getElem? hHt.out)
            rw [hHb.out] at this; simp at this
        subst hRf
        go_wp2
        go_ret
        exact ⟨rfl, hB2⟩
      | true =>
        go_wp2
        go_roundg (tl.length - (i + 1))
        case measure => omega
        case rel =>
          refine ⟨i + 1, by omega, by go_num, hid (fun j x hj hx => ?_), k2, hB2⟩
          rcases Nat.lt_or_ge j i with h | h
          · exact hH.out j x h hx
          · have : j = i := by omega
            subst this
            rw [hHt.out] at hx
            injection hx with hx; subst hx
            exact hHb.out
end Go.Proofs.YtpdoepjnkgffpaaDoor
