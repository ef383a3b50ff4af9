/- Items of package term; copies of none. -/
import Derived.Test.YtgaecjocolihjabDoorTermMakers
namespace Go.Proofs.YtgaecjocolihjabDoor
open Go.ChangeShapes Go.WideShapes Go.ChangeAt Go.RowKit Go.Shelf
set_option linter.unusedSimpArgs false
set_option linter.unusedVariables false
set_option maxHeartbeats 2000000 in
set_option maxRecDepth 4000 in
theorem copies_nil (o : Option Addr) (c : Nat) (w : World) :
    Calls Tryd.prog 29 #[.slice o 0 c] w fun e w' => ∃ o' c', e = .returned (.slice o' 0 c') ∧ Below w.heap.size w w' := by
  obtain ⟨iT, hT1, hT2, hT3, hT4⟩ := info_parts infoT
  obtain ⟨vA, w1, hr1, hA1, b1⟩ := ap_run 22 30 iT _ 7 112 Tryd.underlying22 hT1 hT2 hT3 hT4 rfl (by decide) w o c 0 [] rfl (by simp) (by omega) (by omega) (fun j u hj => by simp at hj)
  obtain ⟨oA, cA, rfl, hcA⟩ := own_sl hA1
  go_enter Tryd.func29, Tryd.ntmps29
  go_wp2_with (at_builtin; refine wpList_append_run rfl _ _ 22 rfl _ _ _ _ rfl rfl hr1 ?_)
  clear hr1
  have hB1 := b1.alloc b1.size (.cells #[.slice oA 0 cA] 22)
  have hc1 : (w1.alloc (.cells #[.slice oA 0 cA] 22)).cell? ⟨w1.heap.size, 0, none⟩ = some (.slice oA 0 cA) := by rw [World.cell?_alloc_mark]; rfl
  generalize (w1.alloc (.cells #[.slice oA 0 cA] 22)) = W0 at *
  go_loopg [4] 1 (fun t v4 wr => ∃ m : Nat, t = m ∧ m ≤ 1 ∧ v4 = .slice (some ⟨w1.heap.size, 0, none⟩) m 1 ∧ wr = W0)
  case atStart => exact ⟨1, rfl, by omega, rfl, rfl⟩
  case round =>
    obtain ⟨m, rfl, hm, rfl, rfl⟩ := hrel
    generalize gk = m at *
    rcases Nat.eq_zero_or_pos m with h0 | h0
    · subst h0
      go_wp2
      go_ret
      exact ⟨oA, cA, rfl, hB1⟩
    · have h1 : m = 1 := by omega
      subst h1
      go_wp2_with fail
      go_loopg [4, 28] 0 (fun t v4 v28 wx => t = 0 ∧ v4 = .slice (some ⟨w1.heap.size, 0, none⟩) 0 1 ∧ v28 = .int .i64 0 ∧ wx = wr)
      case atStart => exact ⟨rfl, rfl, rfl, rfl⟩
      case round =>
        obtain ⟨rfl, rfl, rfl, rfl⟩ := hrel
        go_wp2
        go_roundg 0
        case measure => omega
        case rel => exact ⟨0, rfl, by omega, rfl, rfl⟩
/-- a list's items, those ahead first, and whether its end is Nil -/
inductive Ch : Tm → List Tm → Bool → Prop
  | stop (k : Int) (neg : Bool) (d : List Nat) (nm : ByteArray) (n : Int) (l : List Tm) (b : List Nat) (h : ¬ (k = 6 ∧ l.length = 2)) (r : Bool) (hr : r = decide (¬ (k = 0 ∨ k = 1 ∨ k = 2 ∨ k = 3 ∨ k = 4 ∨ k = 6 ∨ k = 7))) : Ch (.mk k neg d nm n l b) [] r
  | step (neg : Bool) (d : List Nat) (nm : ByteArray) (n : Int) (x y : Tm) (b : List Nat) (l : List Tm) (r : Bool) (h : Ch y l r) : Ch (.mk 6 neg d nm n [x, y] b) (x :: l) r
theorem ch_list : ∀ l : List Tm, Ch (listT l) l true
  | [] => Ch.stop 5 false [] noS 0 [] [] (by simp) true (by simp)
  | t :: l => Ch.step false [] noS 0 t (listT l) [] l true (ch_list l)
theorem prT_stop {k : Int} {neg : Bool} {d : List Nat} {nm : ByteArray} {n : Int} {l : List Tm} {b : List Nat} {pk : Int} {pneg : Bool} {pd : List Nat} {pnm : ByteArray} {pn : Int} {pl : List Tm} {pb : List Nat} (h : prT (.mk k neg d nm n l b) = .mk pk pneg pd pnm pn pl pb) :
    ((pk = 6 ∧ pl.length = 2) ↔ (k = 6 ∧ l.length = 2)) ∧ (pk = 5 ↔ ¬ (k = 0 ∨ k = 1 ∨ k = 2 ∨ k = 3 ∨ k = 4 ∨ k = 6 ∨ k = 7)) := by
  unfold prT at h
  by_cases e0 : k = 0
  · subst e0; simp at h; obtain ⟨rfl, _, _, _, _, rfl, _⟩ := h; simp
  by_cases e1 : k = 1
  · subst e1; simp at h; obtain ⟨rfl, _, _, _, _, rfl, _⟩ := h; simp
  by_cases e2 : k = 2
  · subst e2; simp at h; obtain ⟨rfl, _, _, _, _, rfl, _⟩ := h; simp
  by_cases e3 : k = 3
  · subst e3; simp at h; obtain ⟨rfl, _, _, _, _, rfl, _⟩ := h; simp
  by_cases e4 : k = 4
  · subst e4; simp at h; obtain ⟨rfl, _, _, _, _, rfl, _⟩ := h; simp
  by_cases e6 : k = 6
  · subst e6; simp at h; obtain ⟨rfl, _, _, _, _, rfl, _⟩ := h; simp
  by_cases e7 : k = 7
  · subst e7; simp at h; obtain ⟨rfl, _, _, _, _, rfl, _⟩ := h; simp
  simp only [e0, e1, e2, e3, e4, e6, e7, if_false] at h
  simp at h
  obtain ⟨rfl, _, _, _, _, rfl, _⟩ := h
  simp [e0, e1, e2, e3, e4, e6, e7]
theorem RC.snoc {Z : Nat → Prop} {w : World} {t : Tm} {k : Int} {neg : Bool} {od : Option Addr} {ld cd : Nat} {nm : ByteArray} {n : Int} {ol : Option Addr} {ll cl : Nat} {ob : Option Addr} {lb cb : Nat} (ht : TV Z w t (tmV k neg (.slice od ld cd) nm n (.slice ol ll cl) (.slice ob lb cb))) :
    ∀ {l : List Tm} {xs : List Value}, RC Z w l xs → RC Z w (l ++ [t]) (xs ++ [.int .i64 k, .bool neg, .slice od ld cd, .string nm, .int .i64 n, .slice ol ll cl, .slice ob lb cb])
  | [], xs, h => by
    have : xs = [] := h
    subst this
    exact ⟨_, _, _, _, _, _, _, _, _, _, _, _, _, [], ht, rfl, rfl⟩
  | q :: l, xs, h => by
    obtain ⟨k', neg', od', ld', cd', nm', n', ol', ll', cl', ob', lb', cb', ys, hq, rfl, hr⟩ := h
    exact ⟨_, _, _, _, _, _, _, _, _, _, _, _, _, _, hq, rfl, hr.snoc ht⟩
theorem RC.mono {Z Z' : Nat → Prop} {w : World} (hb : ∀ k, k < w.heap.size → Z k → Z' k) : ∀ {l : List Tm} {xs : List Value}, RC Z w l xs → RC Z' w l xs
  | [], xs, h => h
  | t :: l, xs, h => by
    obtain ⟨k, neg, od, ld, cd, nm, n, ol, ll, cl, ob, lb, cb, ys, ht, rfl, hr⟩ := h
    exact ⟨k, neg, od, ld, cd, nm, n, ol, ll, cl, ob, lb, cb, ys, TV.mono hb _ _ ht, rfl, hr.mono hb⟩
theorem own_tr {w : World} {B g c : Nat} {l : List Tm} {xs : List Value} (h : w.ownsRow B 30 7 (.slice (some ⟨g, 0, none⟩) l.length c) l.length xs) (hR : RC (Low w) w l xs) : TR (Low w) w l (some ⟨g, 0, none⟩) := by
  have hb := rowB_of h
  refine hR.tr (fun _ => ?_) (fun j u hj => ?_)
  · obtain ⟨cur, hg, _⟩ := hb
    exact (Array.getElem?_eq_some_iff.1 hg).1
  · rw [addr_add, Nat.zero_add]; exact hb.cell j u hj
/-- what Items answers -/
def ItP (S : Nat) (its : List Tm) (r : Bool) (e : Ending) (w' : World) : Prop := (r = true ∧ ∃ o c, e = .returned (.tuple #[.slice o its.length c, .bool true]) ∧ TR (Zw S w') w' (cpL its) o) ∨ (r = false ∧ e = .returned (.tuple #[.slice none 0 0, .bool false]))
theorem ItP.yes {S : Nat} {its : List Tm} {w' : World} {o : Option Addr} {c : Nat} (h : TR (Zw S w') w' (cpL its) o) : ItP S its true (.returned (.tuple #[.slice o its.length c, .bool true])) w' := .inl ⟨rfl, o, c, rfl, h⟩
theorem ItP.no {S : Nat} {its : List Tm} {w' : World} : ItP S its false (.returned (.tuple #[.slice none 0 0, .bool false])) w' := .inr ⟨rfl, rfl⟩
set_option maxHeartbeats 4000000 in
set_option maxRecDepth 4000 in
theorem Items_w (T : Tm) (its : List Tm) (r : Bool) (v : Value) (w : World) (hCh : Ch T its r) (hlen : (partsL its).length ≤ 5000000) (hl : its.length ≤ 500000) (hok : ∀ p ∈ partsL its, p.ok1) (hT : TV (Low w) w T v) :
    Calls Tryd.prog 8 #[v] w fun e w' => ItP w.heap.size its r e w' ∧ Below w.heap.size w w' := by
  obtain ⟨iT, hT1, hT2, hT3, hT4⟩ := info_parts infoT
  cases T with | mk tk tneg td tnm tn tl tb =>
  have hT0 := hT
  unfold TV at hT
  obtain ⟨tod, tcd, tol, tcl, tob, tcb, rfl, _⟩ := hT
  obtain ⟨kX, hBX, hz0⟩ := bx1 w (.int .i64 tk) (.bool tneg) (.slice tod td.length tcd) (.string tnm) (.int .i64 tn) (.slice tol tl.length tcl) (.slice tob tb.length tcb) 30
  have hp0 := prV_tv hT0
  have hHok := hid (And.intro hlen (And.intro hl hok))
  have hHc := hid hCh
  clear hlen hl hok hCh hT0
  go_enter Tryd.func8, Tryd.ntmps8
  go_wp2_with fail
  generalize (w.alloc (.cells #[.int .i64 tk, .bool tneg, .slice tod td.length tcd, .string tnm, .int .i64 tn, .slice tol tl.length tcl, .slice tob tb.length tcb] 30)) = W0 at *
  refine (pruned_w tk tneg tod td.length tcd tnm tn tol tl.length tcl tob tb.length tcb _).mono ?_
  rintro e w1 ⟨rfl, b1⟩
  have hB1 := below_and hBX (by omega) b1
  have kX1 := kX.below b1
  have hz1 := b1.size
  have hp1 := TV.zs (fun k hk => hB1.block k hk) _ _ hp0
  obtain ⟨k, neg, od, ld, cd, nm, n, ol, ll, cl, ob, lb, cb, hpv⟩ := hp1.form
  rw [hpv] at hp1 ⊢
  unfold tmV
  clear hpv hp0 hBX kX b1
  have hfr := kX1.fr
  obtain ⟨x0, x1, x2, x3, x4, x5, x6⟩ := kX1.res
  go_wp2_with fail
  have kX2 := kX1.put (b0 := .int .i64 k) (b1 := .bool neg) (b2 := .slice od ld cd) (b3 := .string nm) (b4 := .int .i64 n) (b5 := .slice ol ll cl) (b6 := .slice ob lb cb)
  have hon := only_put w1 w.heap.size (.int .i64 k) (.bool neg) (.slice od ld cd) (.string nm) (.int .i64 n) (.slice ol ll cl) (.slice ob lb cb)
  have hB2 := hB1.trans (hon.below (B := w.heap.size) (Nat.le_refl _))
  have hp2 := TV.zs (w' := _) (fun k hk => hon.2.2 k (by have : k < w.heap.size := hk; omega)) _ _ hp1
  have hz2 := hon.2.1
  clear x0 x1 x2 x3 x4 x5 x6 hfr kX1 hp1 hB1 hon
  generalize (((((((w1.setCell ⟨w.heap.size, 0, none⟩ (.int .i64 k)).setCell ⟨w.heap.size, 1, none⟩ (.bool neg)).setCell ⟨w.heap.size, 2, none⟩ (.slice od ld cd)).setCell ⟨w.heap.size, 3, none⟩ (.string nm)).setCell ⟨w.heap.size, 4, none⟩ (.int .i64 n)).setCell ⟨w.heap.size, 5, none⟩ (.slice ol ll cl)).setCell ⟨w.heap.size, 6, none⟩ (.slice ob lb cb)) = w2 at *
  go_loopg [4] its.length (fun t v4 wr => ∃ (U : Tm) (dn rest : List Tm) (xs : List Value) (k : Int) (neg : Bool) (od : Option Addr) (ld cd : Nat) (nm : ByteArray) (n : Int) (ol : Option Addr) (ll cl : Nat) (ob : Option Addr) (lb cb : Nat), t = rest.length ∧ Hid (Ch U rest r) ∧ Hid (its = dn ++ rest) ∧ TV (Low w) wr (prT U) (tmV k neg (.slice od ld cd) nm n (.slice ol ll cl) (.slice ob lb cb)) ∧ Bx w.heap.size (.int .i64 k) (.bool neg) (.slice od ld cd) (.string nm) (.int .i64 n) (.slice ol ll cl) (.slice ob lb cb) wr ∧ RC (Low w) wr dn xs ∧ wr.ownsRow (w.heap.size + 1) 30 7 v4 dn.length xs ∧ Below w.heap.size w wr ∧ w.heap.size + 1 ≤ wr.heap.size)
  case atStart => exact ⟨_, [], its, [], k, neg, od, ld, cd, nm, n, ol, ll, cl, ob, lb, cb, rfl, hHc, hid rfl, hp2, kX2, rfl, World.ownsRow_nil _ _ _ _, hB2, by omega⟩
  case round =>
    obtain ⟨U, dn, rest, xs, k, neg, od, ld, cd, nm, n, ol, ll, cl, ob, lb, cb, rfl, hCU, hit, hp, kr, hRC, hOw, hBr, hzr⟩ := hrel
    clear kX2 hp2 hB2 hHc
    obtain ⟨o4, c4, rfl, _⟩ := own_sl hOw
    obtain ⟨x0, x1, x2, x3, x4, x5, x6⟩ := kr.res
    have hC := hCU.out
    cases hC with
    | stop k0 neg0 d0 nm0 n0 l0 b0 hst r hr =>
      have hdn : dn = its := by rw [hit.out]; simp
      subst hdn
      obtain ⟨P, hP⟩ : ∃ P, prT (.mk k0 neg0 d0 nm0 n0 l0 b0) = P := ⟨_, rfl⟩
      rw [hP] at hp
      cases P with | mk pk pneg pd pnm pn pl pb =>
      unfold TV at hp
      obtain ⟨_, _, _, _, _, _, e, _⟩ := hp
      simp only [Value.agg.injEq, Array.mk.injEq, List.cons.injEq, Value.int.injEq, Value.bool.injEq, Value.string.injEq, Value.slice.injEq, and_true, true_and] at e
      obtain ⟨rfl, rfl, ⟨rfl, rfl, rfl⟩, rfl, rfl, ⟨rfl, rfl, rfl⟩, ⟨rfl, rfl, rfl⟩⟩ := e
      obtain ⟨s1, s2⟩ := prT_stop hP
      have hns := fun h => hst (s1.1 h)
      by_cases hk6 : k = 6
      · subst hk6
        have hl2 : ((pl.length : Int) == 2) = false := by
          rw [beq_eq_false_iff_ne]; intro e; exact hns ⟨rfl, by omega⟩
        have hrf : r = false := by
          rw [hr]; simp only [decide_eq_false_iff_not]; exact fun h => by have := s2.2 h; omega
        subst hrf
        clear hst s1 s2 hns hr hCU hit hP hRC hOw
        go_wp2
        go_ret2
        exact ⟨ItP.no, hBr⟩
      · have e6 : (k == 6) = false := by simp [hk6]
        by_cases hk5 : k = 5
        · subst hk5
          have hrt : r = true := by rw [hr]; exact decide_eq_true (s2.1 rfl)
          subst hrt
          clear hst s1 s2 hns hr hCU hP hk6
          obtain ⟨h1, h2, h3⟩ := hHok.out
          go_wp2_with fail
          by_cases hd0 : dn = []
          · subst hd0
            refine (copies_nil _ _ _).mono ?_
            rintro e w5 ⟨o5, c5, rfl, b5⟩
            have hB5 := below_and hBr (Nat.le_refl _) b5
            clear hRC hOw hit
            go_wp2
            go_ret2
            exact ⟨ItP.yes (its := []) (by unfold cpL TR; trivial), hB5⟩
          · obtain ⟨g4, rfl⟩ : ∃ g4, o4 = some ⟨g4, 0, none⟩ := by
              obtain ⟨_, ⟨_, h9⟩ | ⟨g', cap', cur, h9, _⟩⟩ := hOw
              · exact absurd (List.eq_nil_of_length_eq_zero h9) hd0
              · simp only [Value.slice.injEq, true_and] at h9
                exact ⟨g', h9.1⟩
            refine (copies_w dn _ _ _ hd0 h1 h2 h3 (own_tr hOw (hRC.mono (fun k hk _ => hk)))).mono ?_
            rintro e w5 ⟨g5, c5, rfl, hR5, hc5, b5⟩
            have hB5 := below_and hBr (Nat.le_refl _) b5
            have hR6 := hid (zw_moveR (S' := w.heap.size) (w' := w5) hR5 (fun k _ _ => rfl) hBr.size)
            clear hRC hOw hit hR5 h1 h2 h3 hHok
            go_wp2
            go_ret2
            exact ⟨ItP.yes hR6.out, hB5⟩
        · have hrf : r = false := by
            rw [hr]; simp only [decide_eq_false_iff_not]; exact fun h => hk5 (s2.2 h)
          subst hrf
          have e5 : (k != 5) = true := by simp [hk5]
          clear hst s1 s2 hns hr hCU hit hP hRC hOw
          go_wp2
          go_ret2
          exact ⟨ItP.no, hBr⟩
    | step neg0 d0 nm0 n0 X Y b0 rest' r hC' =>
      have hP : prT (.mk 6 neg0 d0 nm0 n0 [X, Y] b0) = .mk 6 false [] noS 0 [X, Y] [] := by simp [prT]
      rw [hP] at hp
      unfold TV at hp
      obtain ⟨_, _, _, _, _, _, e, _, _, _, _, _, _, hTR⟩ := hp
      simp only [Value.agg.injEq, Array.mk.injEq, List.cons.injEq, Value.int.injEq, Value.bool.injEq, Value.string.injEq, Value.slice.injEq, and_true, true_and] at e
      obtain ⟨rfl, rfl, ⟨rfl, rfl, rfl⟩, rfl, rfl, ⟨rfl, rfl, rfl⟩, ⟨rfl, rfl, rfl⟩⟩ := e
      unfold TR at hTR
      obtain ⟨a, vX, rfl, hZ, hAX, hTX, hTR2⟩ := hTR
      unfold TR at hTR2
      obtain ⟨a2, vY, ha2, hZ2, hAY, hTY, _⟩ := hTR2
      injection ha2 with ha2
      subst ha2
      obtain ⟨k1, neg1, od1, ld1, cd1, nm1, n1, ol1, ll1, cl1, ob1, lb1, cb1, rfl⟩ := hTX.form
      cases Y with | mk yk yneg yd ynm yn yl yb =>
      have hTY0 := hTY
      unfold TV at hTY
      obtain ⟨yod, ycd, yol, ycl, yob, ycb, rfl, _⟩ := hTY
      obtain ⟨y0, y1, y2, y3, y4, y5, y6⟩ := hAX.tm
      have hdl : dn.length ≤ 500000 := by have := hHok.out.2.1; rw [hit.out] at this; simp at this; omega
      have hHO := hid (hOw.alloc (.cells #[.int .i64 k1, .bool neg1, .slice od1 ld1 cd1, .string nm1, .int .i64 n1, .slice ol1 ll1 cl1, .slice ob1 lb1 cb1] 30))
      have hRC2 := hRC.snoc hTX
      have kW := Bx.new wr (.int .i64 k1) (.bool neg1) (.slice od1 ld1 cd1) (.string nm1) (.int .i64 n1) (.slice ol1 ll1 cl1) (.slice ob1 lb1 cb1) 30
      simp only [List.length_cons, List.length_nil] at *
      go_wp2_with (at_builtin; refine wpList_append_own _ rfl _ _ 22 rfl (w.heap.size + 1) 30 iT _ 7 112 Tryd.underlying22 hT1 hT2 hT3 hT4 rfl (by decide) _ _ _ rfl hHO.out ⟨wr.heap.size, 0, none⟩ 1 1 [.int .i64 k1, .bool neg1, .slice od1 ld1 cd1, .string nm1, .int .i64 n1, .slice ol1 ll1 cl1, .slice ob1 lb1 cb1] rfl ?c1 ?c2 ?c3 ?c4 ?c5 ?c6 ?_)
      case c1 => rfl
      case c2 =>
        intro j u hj
        rw [addr_add, Nat.zero_add, World.cell?_alloc_mark]
        simpa using hj
      case c3 =>
        intro u hu
        simp only [List.mem_cons, List.not_mem_nil, or_false] at hu
        rcases hu with rfl | rfl | rfl | rfl | rfl | rfl | rfl <;> rfl
      case c4 => unfold maxLen; omega
      case c5 => omega
      case c6 => simp; omega
      intro v6 w6 hown hgrow hnil
      have hk6 : Kept (fun k => w.heap.size + 1 ≤ k) wr w6 := (Kept.of_alloc (F := fun k => w.heap.size + 1 ≤ k) wr _).trans (Kept.of_grown hgrow (fun k hk => (hHO.out.lt k hk).1))
      have hlow : ∀ k, k < w.heap.size → w6.heap[k]? = wr.heap[k]? := fun k hk => hk6.block k (by have := hBr.size; omega) (by omega)
      have kr6 := kr.of_block (hk6.block w.heap.size (by omega) (by omega))
      have hRC6 := hRC2.zs (w' := w6) (fun k hk => hlow k hk)
      have hTY6 := TV.zs (w' := w6) (fun k hk => hlow k hk) _ _ hTY0
      have hAY6 : At7 ⟨a.block, a.off + 7, none⟩ _ w6 := hAY.zs (Z := Low w) hZ2 (fun k hk => hlow k hk)
      have hB6 : Below w.heap.size w w6 := ⟨hk6.os.trans hBr.os, hk6.tape.trans hBr.tape, hk6.output.trans hBr.output, Nat.le_trans hBr.size hk6.size, fun k hk => (hlow k hk).trans (hBr.block k hk)⟩
      have hz6 : w.heap.size + 1 ≤ w6.heap.size := Nat.le_trans hzr hk6.size
      obtain ⟨o6, c6, rfl, _⟩ := own_sl hown
      clear x0 x1 x2 x3 x4 x5 x6 y0 y1 y2 y3 y4 y5 y6 hAX hAY hTX hTY0 hRC hRC2 hOw hHO kW hgrow hnil hk6 hlow kr hBr
      obtain ⟨x0, x1, x2, x3, x4, x5, x6⟩ := kr6.res
      obtain ⟨z0, z1, z2, z3, z4, z5, z6⟩ := hAY6.tm
      simp only at z1 z2 z3 z4 z5 z6
      go_wp2_with fail
      refine (pruned_w yk yneg yod yd.length ycd ynm yn yol yl.length ycl yob yb.length ycb _).mono ?_
      rintro e w7 ⟨rfl, b7⟩
      have hB7 := below_and hB6 (Nat.le_refl _) b7
      have kr7 := kr6.below b7
      have hp7 := prV_tv (TV.zs (w' := w7) (fun k (hk : k < w.heap.size) => b7.block k (by omega)) _ _ hTY6)
      have hRC7 := hRC6.zs (w' := w7) (fun k (hk : k < w.heap.size) => b7.block k (by omega))
      have hO7 := own_below hown b7
      have hz7 : w.heap.size + 1 ≤ w7.heap.size := Nat.le_trans hz6 b7.size
      obtain ⟨k8, neg8, od8, ld8, cd8, nm8, n8, ol8, ll8, cl8, ob8, lb8, cb8, hpv⟩ := hp7.form
      rw [hpv] at hp7 ⊢
      unfold tmV
      clear hpv x0 x1 x2 x3 x4 x5 x6 z0 z1 z2 z3 z4 z5 z6 hAY6 hTY6 hRC6 hown hB6 kr6 b7
      have hfr := kr7.fr
      obtain ⟨x0, x1, x2, x3, x4, x5, x6⟩ := kr7.res
      have k8' := kr7.put (b0 := .int .i64 k8) (b1 := .bool neg8) (b2 := .slice od8 ld8 cd8) (b3 := .string nm8) (b4 := .int .i64 n8) (b5 := .slice ol8 ll8 cl8) (b6 := .slice ob8 lb8 cb8)
      have hon := only_put w7 w.heap.size (.int .i64 k8) (.bool neg8) (.slice od8 ld8 cd8) (.string nm8) (.int .i64 n8) (.slice ol8 ll8 cl8) (.slice ob8 lb8 cb8)
      have hHon := hid hon
      clear hon
      go_wp2
      go_roundg rest'.length
      case measure => omega
      case rel =>
        have hon := hHon.out
        refine ⟨.mk yk yneg yd ynm yn yl yb, dn ++ [X], rest', _, k8, neg8, od8, ld8, cd8, nm8, n8, ol8, ll8, cl8, ob8, lb8, cb8, rfl, hid hC', hid (by rw [hit.out]; simp), ?_, k8', hRC7.zs (fun k (hk : k < w.heap.size) => hon.2.2 k (by omega)), ?_, hB7.trans (hon.below (B := w.heap.size) (Nat.le_refl _)), by rw [hon.2.1]; exact hz7⟩
        · exact TV.zs (fun k (hk : k < w.heap.size) => hon.2.2 k (by omega)) _ _ hp7
        · have hkk : Kept (fun k => k = w.heap.size) w7 _ := ⟨hon.1.os, hon.1.tape, hon.1.output, hon.1.size, fun k hk hn => hon.2.2 k hn⟩
          have := own_keptS hO7 hkk (fun k hk => by omega)
          simpa using this
end Go.Proofs.YtgaecjocolihjabDoor
