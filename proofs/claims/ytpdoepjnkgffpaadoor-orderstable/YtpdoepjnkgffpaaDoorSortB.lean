/- Texts of mine, one behind the other: SortTop, SortMax. -/
import Derived.Test.YtpdoepjnkgffpaaDoorSortA
import Derived.Test.YtpdoepjnkgffpaaDoorTermRoomL
import Derived.Test.YtpdoepjnkgffpaaDoorTermCopyAll
import Derived.Test.YtpdoepjnkgffpaaDoorTermPartsM
import Derived.Laws.MakeOwn
import Derived.Laws.EntriesVeiled
namespace Go.Proofs.YtpdoepjnkgffpaaDoor
open Go.ChangeShapes Go.WideShapes Go.ChangeAt Go.ChangeMaps Go.RowKit Go.Shelf
set_option linter.unusedSimpArgs false
set_option linter.unusedVariables false
set_option maxRecDepth 2000
set_option maxHeartbeats 1000000 in
theorem insort_none (v f : Value) (n : Int) (w : World) (h0 : 0 ≤ n) (h1 : n ≤ 1000) :
    Calls Tryd.prog 71 #[v, .int .i64 n, .int .i64 n, f] w fun e w' => (∃ r, e = .returned r) ∧ w' = w := by
  have hn : ¬ n + 1 < n := by omega
  have hw : IntKind.i64.wrap (n + 1) = n + 1 := by rw [IntKind.wrap_i64]; omega
  go_enter Tryd.func71, Tryd.ntmps71
  go_wp2_with fail
  go_loopg [8] 0 (fun t v8 wr => t = 0 ∧ v8 = .int .i64 (n + 1) ∧ wr = w)
  case atStart => exact ⟨rfl, by first | rfl | go_num | simp [hw], rfl⟩
  case round =>
    obtain ⟨rfl, rfl, rfl⟩ := hrel
    go_wp2
    go_end0
    exact ⟨⟨_, rfl⟩, rfl⟩
set_option maxHeartbeats 2000000 in
theorem stable_w (S B g h c : Nat) (l : List Tm) (w : World) (hlen : l.length ≤ 20) (hSg : S ≤ g) (hgB : g < B) (hBh : B ≤ h) (hBw : B ≤ w.heap.size) (hrow : SRow S g c B l w) (hA : WkA B h w) (hw : wfA l) (hd : ∀ t ∈ l, dep t ≤ 1000000) (hT : Tabs w) (hG : 0 < g ∧ 1 < g) :
    Calls Tryd.prog 42 #[.slice (some ⟨g, 0, none⟩) l.length c, .int .i64 (l.length : Int), kf h 27] w fun e w' => (∃ r, e = .returned r) ∧ SRow S g c B (isort l) w' ∧ WkA B h w' ∧ Kept (Fs g B) w w' := by
  have HI := hid (insort_w S B g h c l w (by omega) hSg hgB hBh hBw hrow hA hw hd hT hG)
  have hn20 : ¬ (20 : Int) < (l.length : Int) := by omega
  clear hrow hw hd hT
  go_enter Tryd.func42, Tryd.ntmps42
  go_wp2_with fail
  go_loopg [7, 8] 1 (fun t v7 v8 wr => (t = 1 ∧ v7 = .int .i64 0 ∧ v8 = .int .i64 20 ∧ wr = w) ∨ (t = 0 ∧ v7 = .int .i64 20 ∧ v8 = .int .i64 40 ∧ l.length = 20 ∧ SRow S g c B (isort l) wr ∧ WkA B h wr ∧ Kept (Fs g B) w wr))
  case atStart => exact .inl ⟨rfl, rfl, rfl, rfl⟩
  case round =>
    rcases hrel with ⟨rfl, rfl, rfl, rfl⟩ | ⟨rfl, rfl, rfl, hl, hR, hA2, hk⟩
    · by_cases hl : l.length = 20
      · have HI2 := hid (by have := HI.out; rw [hl] at this; exact this)
        simp only [hl] at *
        have hz : ((20 : Nat) : Int) = 20 := rfl
        go_wp2_with fail
        refine HI2.out.mono ?_
        rintro e w1 ⟨⟨r, rfl⟩, hR, hA1, hk⟩
        go_wp2
        go_roundg 0
        case measure => omega
        case rel => exact .inr ⟨rfl, rfl, rfl, by first | rfl | trivial, hR, hA1, hk⟩
      · have hl1 : ¬ (20 : Int) ≤ (l.length : Int) := by omega
        go_wp2_with fail
        refine HI.out.mono ?_
        rintro e w1 ⟨⟨r, rfl⟩, hR, hA1, hk⟩
        go_wp2_with fail
        go_loopg [6] 0 (fun t v6 wr => t = 0 ∧ v6 = .int .i64 20 ∧ wr = w1)
        case atStart => exact ⟨rfl, rfl, rfl⟩
        case round =>
          obtain ⟨rfl, rfl, rfl⟩ := hrel
          go_wp2
          go_end0
          exact ⟨⟨_, rfl⟩, hR, hA1, hk⟩
    · simp only [hl] at *
      go_wp2_with fail
      refine (insort_none _ _ 20 _ (by decide) (by decide)).mono ?_
      rintro e w1 ⟨⟨r, rfl⟩, rfl⟩
      go_wp2_with fail
      go_loopg [6] 0 (fun t v6 wr2 => t = 0 ∧ v6 = .int .i64 20 ∧ wr2 = w1)
      case atStart => exact ⟨rfl, rfl, rfl⟩
      case round =>
        obtain ⟨rfl, rfl, rfl⟩ := hrel
        go_wp2
        go_end0
        exact ⟨⟨_, rfl⟩, hR, hA2, hk⟩
set_option maxHeartbeats 1000000 in
theorem sstable_w (S B g h c : Nat) (l : List Tm) (w : World) (hlen : l.length ≤ 20) (hSg : S ≤ g) (hgB : g < B) (hBh : B ≤ h) (hBw : B ≤ w.heap.size) (hrow : SRow S g c B l w) (hA : WkA B h w) (hw : wfA l) (hd : ∀ t ∈ l, dep t ≤ 1000000) (hT : Tabs w) (hG : 0 < g ∧ 1 < g) :
    Calls Tryd.prog 25 #[.slice (some ⟨g, 0, none⟩) l.length c, kf h 27] w fun e w' => (∃ r, e = .returned r) ∧ SRow S g c B (isort l) w' ∧ WkA B h w' ∧ Kept (Fs g B) w w' := by
  have HI := hid (stable_w S B g h c l w hlen hSg hgB hBh hBw hrow hA hw hd hT hG)
  clear hrow hw hd hT hA
  go_enter Tryd.func25, Tryd.ntmps25
  go_wp2_with fail
  refine HI.out.mono ?_
  rintro e w1 ⟨⟨r, rfl⟩, hR, hA1, hk⟩
  go_wp2
  go_end0
  exact ⟨⟨_, rfl⟩, hR, hA1, hk⟩
theorem RC.monoS {Z Z' : Nat → Prop} {w : World} (hb : ∀ k, k < w.heap.size → Z k → Z' k) : ∀ {l : List Tm} {xs : List Value}, RC Z w l xs → RC Z' w l xs
  | [], xs, h => h
  | t :: l, xs, h => by
    obtain ⟨k, neg, od, ld, cd, nm, n, ol, ll, cl, ob, lb, cb, ys, ht, rfl, hr⟩ := h
    exact ⟨k, neg, od, ld, cd, nm, n, ol, ll, cl, ob, lb, cb, ys, TV.mono hb _ _ ht, rfl, hr.monoS hb⟩
abbrev zeroS : Array Value := #[.int .i64 0, .bool false, nilS, .string noS, .int .i64 0, nilS, nilS]
abbrev zeroT : Tm := .mk 0 false [] noS 0 [] []
theorem zeros_rc {Z : Nat → Prop} {w : World} : ∀ (n : Nat) (L : List Value), L.length = n * 7 → (∀ i, i < n * 7 → L[i]? = some (zeroS[i % 7]!)) → RC Z w (List.replicate n zeroT) L
  | 0, L, hl, _ => by
    have : L = [] := List.eq_nil_of_length_eq_zero (by omega)
    subst this
    unfold List.replicate RC; rfl
  | n + 1, L, hl, h => by
    rcases L with _ | ⟨a0, _ | ⟨a1, _ | ⟨a2, _ | ⟨a3, _ | ⟨a4, _ | ⟨a5, _ | ⟨a6, L⟩⟩⟩⟩⟩⟩⟩
    all_goals try (exfalso; simp only [List.length_cons, List.length_nil] at hl; omega)
    have q : ∀ i, i < 7 → (a0 :: a1 :: a2 :: a3 :: a4 :: a5 :: a6 :: L)[i]? = some (zeroS[i]!) := fun i hi => by
      have := h i (by omega)
      rwa [Nat.mod_eq_of_lt hi] at this
    have e0 : a0 = .int .i64 0 := Option.some.inj (q 0 (by omega))
    have e1 : a1 = .bool false := Option.some.inj (q 1 (by omega))
    have e2 : a2 = nilS := Option.some.inj (q 2 (by omega))
    have e3 : a3 = .string noS := Option.some.inj (q 3 (by omega))
    have e4 : a4 = .int .i64 0 := Option.some.inj (q 4 (by omega))
    have e5 : a5 = nilS := Option.some.inj (q 5 (by omega))
    have e6 : a6 = nilS := Option.some.inj (q 6 (by omega))
    subst e0 e1 e2 e3 e4 e5 e6
    rw [List.replicate_succ]
    unfold RC
    refine ⟨_, _, _, _, _, _, _, _, _, _, _, _, _, L, tv_flat 0 noS 0, rfl, zeros_rc n L (by simp at hl; omega) (fun i hi => ?_)⟩
    have := h (i + 7) (by omega)
    rw [show (i + 7) % 7 = i % 7 by omega] at this
    simpa using this
theorem made_rc {Z : Nat → Prop} {w : World} (n : Nat) : RC Z w (List.replicate n zeroT) (madeCells zeroS (n * 7)).toList := by
  refine zeros_rc n _ (by simp [size_madeCells]) (fun i hi => ?_)
  rw [Array.getElem?_toList]
  simp [madeCells, hi]
theorem made_own {w : World} {n : Nat} (hn : n ≤ 1000) : (w.alloc (.cells (madeCells zeroS (n * 7)) 31)).ownsRow w.heap.size 31 7 (.slice (some ⟨w.heap.size, 0, none⟩) n n) n (madeCells zeroS (n * 7)).toList := by
  refine ⟨by simp [size_madeCells], .inr ⟨w.heap.size, n, _, rfl, Nat.le_refl _, heap_alloc_new w _, Nat.le_refl _, by unfold maxLen; omega, size_madeCells _ _, ?_⟩⟩
  rw [List.take_of_length_le (by simp [size_madeCells])]
/-- a row of terms that were copied as far as i -/
def QRow (g c : Nat) (L : List Tm) (w : World) : Prop := ∃ xs, w.ownsRow g 31 7 (.slice (some ⟨g, 0, none⟩) L.length c) L.length xs ∧ RC (fun k => k ≠ g) w L xs
theorem QRow.rw {g c : Nat} {L : List Tm} {w : World} (h : QRow g c L w) : SRow g g c w.heap.size L w := by
  obtain ⟨xs, h1, h2⟩ := h
  exact ⟨xs, h1, h2.monoS (fun k hk hz => ⟨hk, hz⟩)⟩
theorem QRow.below {g c : Nat} {L : List Tm} {w w' : World} (h : QRow g c L w) (hg : g < w.heap.size) (hb : Below w.heap.size w w') : QRow g c L w' := by
  obtain ⟨xs, h1, h2⟩ := h
  refine ⟨xs, own_same h1 (hb.block g hg), ?_⟩
  have h3 : RC (fun k => k ≠ g ∧ k < w.heap.size) w L xs := h2.monoS (fun k hk hz => ⟨hz, hk⟩)
  exact (h3.zs (fun k hk => hb.block k hk.2)).monoS (fun k _ hz => hz.1)
theorem SRow.tr {S g c B : Nat} {L : List Tm} {w : World} (h : SRow S g c B L w) : TR (Low w) w L (some ⟨g, 0, none⟩) := by
  obtain ⟨xs, h1, h2⟩ := h
  obtain ⟨cur, hg, _⟩ := own_blk h1
  have h3 : RC (Low w) w L xs := h2.monoS (fun k hk _ => hk)
  refine h3.tr (fun _ => (Array.getElem?_eq_some_iff.1 hg).1) (fun j u hj => ?_)
  have := (rowB_of h1).cell j u hj
  rwa [addr_add, Nat.zero_add]
/-- a row opened at one place -/
theorem QRow.one {g c : Nat} {P R : List Tm} {y : Tm} {w : World} (h : QRow g c (P ++ y :: R) w) :
    ∃ ps rs yk yneg yod yld ycd ynm yn yol yll ycl yob ylb ycb,
      ps.length = P.length * 7 ∧ RC (fun k => k ≠ g) w P ps ∧ RC (fun k => k ≠ g) w R rs ∧
      w.ownsRow g 31 7 (.slice (some ⟨g, 0, none⟩) (P ++ y :: R).length c) (P ++ y :: R).length (ps ++ (.int .i64 yk :: .bool yneg :: .slice yod yld ycd :: .string ynm :: .int .i64 yn :: .slice yol yll ycl :: .slice yob ylb ycb :: rs)) := by
  obtain ⟨xs, h1, h2⟩ := h
  obtain ⟨ps, ys, rfl, hP, h3⟩ := RC.split h2
  obtain ⟨yk, yneg, yod, yld, ycd, ynm, yn, yol, yll, ycl, yob, ylb, ycb, zs, hy, rfl, h4⟩ := h3.cons
  exact ⟨ps, zs, yk, yneg, yod, yld, ycd, ynm, yn, yol, yll, ycl, yob, ylb, ycb, hP.len, hP, h4, h1⟩
theorem QRow.put {g c : Nat} {P R : List Tm} {y t : Tm} {w w' : World} {ps rs : List Value} {xk : Int} {xneg : Bool} {xod : Option Addr} {xld xcd : Nat} {xnm : ByteArray} {xn : Int} {xol : Option Addr} {xll xcl : Nat} {xob : Option Addr} {xlb xcb : Nat}
    (hP : RC (fun k => k ≠ g) w P ps) (hR : RC (fun k => k ≠ g) w R rs) (hx : TV (fun k => k ≠ g) w t (tmV xk xneg (.slice xod xld xcd) xnm xn (.slice xol xll xcl) (.slice xob xlb xcb))) (hon : Only g w w')
    (hO : w'.ownsRow g 31 7 (.slice (some ⟨g, 0, none⟩) (P ++ y :: R).length c) (P ++ y :: R).length (ps ++ (.int .i64 xk :: .bool xneg :: .slice xod xld xcd :: .string xnm :: .int .i64 xn :: .slice xol xll xcl :: .slice xob xlb xcb :: rs))) : QRow g c (P ++ t :: R) w' := by
  have hz : Zs (fun k => k ≠ g) w w' := fun k hk => hon.2.2 k hk
  refine ⟨_, by simpa using hO, RC.join (hP.zs hz) ?_⟩
  unfold RC
  exact ⟨_, _, _, _, _, _, _, _, _, _, _, _, _, _, TV.zs hz _ _ hx, rfl, hR.zs hz⟩
set_option maxHeartbeats 4000000 in
set_option maxRecDepth 8000 in
theorem Sort_o (l : List Tm) (o : Option Addr) (c : Nat) (w : World) (hl : l.length ≤ 20) (hR : TR (Low w) w l o) (hf : ∀ t ∈ l, wfT t ∧ dep t ≤ 1000000 ∧ (parts t).length ≤ 500000 ∧ ∀ p ∈ parts t, p.ok1 ∧ fairB p = true) (hT : Tabs w) :
    Calls Tryd.prog 9 #[.slice o l.length c] w fun e w' => ∃ g c', e = .returned (.slice (some ⟨g, 0, none⟩) l.length c') ∧ w.heap.size ≤ g ∧ TR (Low w') w' (isort l) (some ⟨g, 0, none⟩) ∧ Below w.heap.size w w' := by
  have hmk : ∀ W : World, (Instr.makeSlice 22 (.int .i64 (l.length : Int)) (.int .i64 (l.length : Int))).run Tryd.prog W = .ok (.slice (some ⟨W.heap.size, 0, none⟩) l.length l.length) (W.alloc (.cells (madeCells zeroS (l.length * 7)) 31)) := by
    intro W
    obtain ⟨iT, hT1, hT2, hT3, hT4⟩ := info_parts infoT
    have := run_make (P := Tryd.prog) W 22 31 iT _ Tryd.underlying22 hT1 hT2 .i64 .i64 l.length l.length (by omega) (by omega) (by rw [hT4]; omega) (by omega)
    rw [hT3] at this
    exact this
  have HT := hid (fun w' (hk : Below w.heap.size w w') => hT.below hk)
  have hG : 0 < w.heap.size ∧ 1 < w.heap.size := hT.lt
  have HG := hid hG
  have Hf := hid hf
  have HR := hid hR
  have hb0 : Below w.heap.size w (w.alloc (.cells (madeCells zeroS (l.length * 7)) 31)) := (Below.refl _ w).alloc (Nat.le_refl _) _
  have hq0 : QRow w.heap.size l.length (l.take 0 ++ List.replicate (l.length - 0) zeroT) (w.alloc (.cells (madeCells zeroS (l.length * 7)) 31)) := by
    have := made_own (w := w) (n := l.length) (by omega)
    exact ⟨_, by simpa using this, by simpa using made_rc l.length⟩
  clear hf hR hT hG
  go_enter Tryd.func9, Tryd.ntmps9
  go_wp2_with fail
  go_loopg [11] l.length (fun t v11 wr => ∃ i : Nat, t + i = l.length ∧ v11 = .int .i64 (i : Int) ∧ QRow w.heap.size l.length (l.take i ++ List.replicate (l.length - i) zeroT) wr ∧ w.heap.size < wr.heap.size ∧ Below w.heap.size w wr)
  case atStart => exact ⟨0, by omega, rfl, hq0, by simp, hb0⟩
  case round =>
    clear hq0 hb0
    obtain ⟨i, hti, rfl, hq, hsz, hbr⟩ := hrel
    by_cases hil : i < l.length
    · have hii : (i : Int) < (l.length : Int) := by omega
      obtain ⟨t, ht⟩ : ∃ t, l[i]? = some t := ⟨l[i], by simp [hil]⟩
      obtain ⟨pa, pk, pneg, pod, pld, pcd, pnm, pn, pol, pll, pcl, pob, plb, pcb, rfl, hTp, y0, y1, y2, y3, y4, y5, y6⟩ := HR.out.get ht hbr
      have Hft := hid (Hf.out t (List.mem_of_getElem? ht))
      have hb1 : Below wr.heap.size wr (wr.alloc (.cells #[.int .i64 pk, .bool pneg, .slice pod pld pcd, .string pnm, .int .i64 pn, .slice pol pll pcl, .slice pob plb pcb] 31)) := (Below.refl _ wr).alloc (Nat.le_refl _) _
      have hq1 := hq.below hsz hb1
      have hB1 := below_and hbr (Nat.le_refl _) hb1
      have hTp1 := tv_below hTp hb1
      have hz1 := hb1.size
      have Ht := hid ht
      clear hq ht hTp
      go_wp2_with fail
      clear y0 y1 y2 y3 y4 y5 y6
      generalize (wr.alloc (.cells #[.int .i64 pk, .bool pneg, .slice pod pld pcd, .string pnm, .int .i64 pn, .slice pol pll pcl, .slice pob plb pcb] 31)) = w2 at *
      refine (Copy_w t _ _ Hft.out.2.2.1 (fun p hp => (Hft.out.2.2.2 p hp).1) hTp1).mono ?_
      rintro e w3 ⟨v3, rfl, hV3, b3⟩
      rw [cpT_id t (fun p hp => (Hft.out.2.2.2 p hp).2)] at hV3
      obtain ⟨xk, xneg, xod, xld, xcd, xnm, xn, xol, xll, xcl, xob, xlb, xcb, rfl⟩ := hV3.form
      have hq3 := hq1.below (by omega) b3
      have hB3 := below_and hB1 (Nat.le_refl _) b3
      have hz3 := b3.size
      rw [show l.length - i = (l.length - (i + 1)) + 1 by omega, List.replicate_succ] at hq3
      have hV4 : TV (fun k => k ≠ w.heap.size) w3 t _ := TV.mono (fun k _ hk => by have := hk.1; omega) _ _ hV3
      obtain ⟨ps, rs, yk, yneg, yod, yld, ycd, ynm, yn, yol, yll, ycl, yob, ylb, ycb, hps, hP, hRr, hO⟩ := hq3.one
      have hpl : ps.length = i * 7 := by rw [hps, List.length_take]; omega
      have hLl : (l.take i ++ zeroT :: List.replicate (l.length - (i + 1)) zeroT).length = l.length := by simp; omega
      obtain ⟨y0, y1, y2, y3, y4, y5, y6⟩ := own_cells7 hO hpl
      have hfr := own_fr hO
      have hO4 := own_put7 (b0 := .int .i64 xk) (b1 := .bool xneg) (b2 := .slice xod xld xcd) (b3 := .string xnm) (b4 := .int .i64 xn) (b5 := .slice xol xll xcl) (b6 := .slice xob xlb xcb) hO hpl
      have hon := only_put7 w3 w.heap.size (i * 7) (.int .i64 xk) (.bool xneg) (.slice xod xld xcd) (.string xnm) (.int .i64 xn) (.slice xol xll xcl) (.slice xob xlb xcb)
      have hq4 := QRow.put hP hRr hV4 hon hO4
      have hB4 := hB3.trans (hon.below (B := w.heap.size) (Nat.le_refl _))
      have hz4 := hon.2.1
      have hta : l.take i ++ t :: List.replicate (l.length - (i + 1)) zeroT = l.take (i + 1) ++ List.replicate (l.length - (i + 1)) zeroT := by
        rw [List.take_add_one, Ht.out]; simp
      rw [hta] at hq4
      have Hq4 := hid hq4
      have HB4 := hid (And.intro hB4 (Nat.lt_of_lt_of_eq (show w.heap.size < w3.heap.size by omega) hz4.symm))
      clear hq1 hq3 hP hRr hO hO4 hon hq4 hta hV3 hV4 hB3 hB4 hz4 hTp1 b3 hb1 hB1
      go_wp2
      go_roundg (l.length - (i + 1))
      case measure => omega
      case rel => exact ⟨i + 1, by omega, by go_num, Hq4.out, HB4.out.2, HB4.out.1⟩
    · have hii : ¬ (i : Int) < (l.length : Int) := by omega
      have hq2 : QRow w.heap.size l.length l wr := by
        rw [List.take_of_length_le (by omega), show l.length - i = 0 by omega] at hq
        simpa using hq
      have hw := hid (fun t (ht : t ∈ l) => (Hf.out t ht).1)
      have hd := hid (fun t (ht : t ∈ l) => (Hf.out t ht).2.1)
      clear hq
      go_wp2_with fail
      refine (newWalk_w _).mono ?_
      rintro e w5 ⟨rfl, hE5, b5⟩
      have hrw : SRow w.heap.size w.heap.size l.length wr.heap.size l w5 := hq2.rw.kept (Kept.of_below b5) (Nat.le_refl _) hsz
      have hB5 := below_and hbr (Nat.le_refl _) b5
      have hT5 := HT.out _ hB5
      have hA5 : WkA wr.heap.size wr.heap.size w5 := ⟨nilS, 0, [], hE5, World.ownsRow_nil _ _ _ _⟩
      have hz5 := b5.size
      go_wp2_with fail
      refine (sstable_w w.heap.size wr.heap.size w.heap.size wr.heap.size l.length l w5 hl (Nat.le_refl _) hsz (Nat.le_refl _) hz5 hrw hA5 hw.out hd.out hT5 HG.out).mono ?_
      rintro e w6 ⟨⟨r, rfl⟩, hR6, _, hk6⟩
      have hB6 := hB5.trans (hk6.below (B := w.heap.size) (by omega) (fun k hk => by rcases hk with rfl | hk <;> omega))
      have hTR6 := hR6.tr
      clear hrw hR6 hk6 hA5 hE5 hq2
      go_wp2
      go_ret
      exact ⟨_, _, rfl, Nat.le_refl _, hTR6, hB6⟩
end Go.Proofs.YtpdoepjnkgffpaaDoor
namespace Go.Proofs.YtpdoepjnkgffpaaDoor
open Go.ChangeShapes Go.WideShapes Go.ChangeAt Go.ChangeMaps Go.RowKit Go.Shelf
set_option linter.unusedSimpArgs false
set_option linter.unusedVariables false
set_option maxRecDepth 2000
set_option maxHeartbeats 1000000 in
theorem Max_nil (o : Option Addr) (c : Nat) (w : World) :
    Calls Tryd.prog 12 #[.slice o 0 c] w fun e w' => e = .returned (.tuple #[tmV 0 false nilS noS 0 nilS nilS, .bool false]) ∧ Below w.heap.size w w' := by
  obtain ⟨kX, hBX, hz0⟩ := bx1 w (.int .i64 0) (.bool false) nilS (.string noS) (.int .i64 0) nilS nilS 31
  go_enter Tryd.func12, Tryd.ntmps12
  go_wp2_with fail
  generalize (w.alloc (.cells #[.int .i64 0, .bool false, .slice none 0 0, .string { data := #[] }, .int .i64 0, .slice none 0 0, .slice none 0 0] 31)) = W0 at *
  have hf := kX.fr
  obtain ⟨f0, f1, f2, f3, f4, f5, f6, _⟩ := id kX
  obtain ⟨r0, r1, r2, r3, r4, r5, r6⟩ := kX.res
  go_wp2
  exact bodyPost_ret (v := .tuple #[tmV 0 false nilS noS 0 nilS nilS, .bool false]) (by simp [results, Tryd.results12, go_sem, r0, r1, r2, r3, r4, r5, r6]) rfl ⟨rfl, hBX⟩
theorem bx_heap {g : Nat} {a0 a1 a2 a3 a4 a5 a6 : Value} {T : TypeId} {w : World} (h : w.heap[g]? = some (.cells #[a0, a1, a2, a3, a4, a5, a6] T (0, 0))) : Bx g a0 a1 a2 a3 a4 a5 a6 w := by
  have hc : ∀ j, w.cell? ⟨g, j, none⟩ = (#[a0, a1, a2, a3, a4, a5, a6] : Array Value)[j]? := fun j => by simp [World.cell?, h]
  exact ⟨hc 0, hc 1, hc 2, hc 3, hc 4, hc 5, hc 6, fun j => by simp [World.frozen?, h]⟩
theorem put7_heap {g : Nat} {a0 a1 a2 a3 a4 a5 a6 : Value} {T : TypeId} {w : World} (h : w.heap[g]? = some (.cells #[a0, a1, a2, a3, a4, a5, a6] T (0, 0))) (b0 b1 b2 b3 b4 b5 b6 : Value) :
    (((((((w.setCell ⟨g, 0, none⟩ b0).setCell ⟨g, 1, none⟩ b1).setCell ⟨g, 2, none⟩ b2).setCell ⟨g, 3, none⟩ b3).setCell ⟨g, 4, none⟩ b4).setCell ⟨g, 5, none⟩ b5).setCell ⟨g, 6, none⟩ b6).heap[g]? = some (.cells #[b0, b1, b2, b3, b4, b5, b6] T (0, 0)) := by
  have h0 : (w.setCell ⟨g, 0, none⟩ b0).heap[g]? = some (.cells #[b0, a1, a2, a3, a4, a5, a6] T (0, 0)) := heap_setc h b0
  have h1 : ((w.setCell ⟨g, 0, none⟩ b0).setCell ⟨g, 1, none⟩ b1).heap[g]? = some (.cells #[b0, b1, a2, a3, a4, a5, a6] T (0, 0)) := heap_setc h0 b1
  have h2 : (((w.setCell ⟨g, 0, none⟩ b0).setCell ⟨g, 1, none⟩ b1).setCell ⟨g, 2, none⟩ b2).heap[g]? = some (.cells #[b0, b1, b2, a3, a4, a5, a6] T (0, 0)) := heap_setc h1 b2
  have h3 : ((((w.setCell ⟨g, 0, none⟩ b0).setCell ⟨g, 1, none⟩ b1).setCell ⟨g, 2, none⟩ b2).setCell ⟨g, 3, none⟩ b3).heap[g]? = some (.cells #[b0, b1, b2, b3, a4, a5, a6] T (0, 0)) := heap_setc h2 b3
  have h4 : (((((w.setCell ⟨g, 0, none⟩ b0).setCell ⟨g, 1, none⟩ b1).setCell ⟨g, 2, none⟩ b2).setCell ⟨g, 3, none⟩ b3).setCell ⟨g, 4, none⟩ b4).heap[g]? = some (.cells #[b0, b1, b2, b3, b4, a5, a6] T (0, 0)) := heap_setc h3 b4
  have h5 : ((((((w.setCell ⟨g, 0, none⟩ b0).setCell ⟨g, 1, none⟩ b1).setCell ⟨g, 2, none⟩ b2).setCell ⟨g, 3, none⟩ b3).setCell ⟨g, 4, none⟩ b4).setCell ⟨g, 5, none⟩ b5).heap[g]? = some (.cells #[b0, b1, b2, b3, b4, b5, a6] T (0, 0)) := heap_setc h4 b5
  have h6 : (((((((w.setCell ⟨g, 0, none⟩ b0).setCell ⟨g, 1, none⟩ b1).setCell ⟨g, 2, none⟩ b2).setCell ⟨g, 3, none⟩ b3).setCell ⟨g, 4, none⟩ b4).setCell ⟨g, 5, none⟩ b5).setCell ⟨g, 6, none⟩ b6).heap[g]? = some (.cells #[b0, b1, b2, b3, b4, b5, b6] T (0, 0)) := heap_setc h5 b6
  exact h6
theorem WkA.below {B g : Nat} {w w' : World} (h : WkA B g w) (hb : Below w.heap.size w w') : WkA B g w' := by
  obtain ⟨v, m, xs, ⟨_, _, _, _, _, _, _, _, _, _, _, _, _, _, h1⟩, h2⟩ := h
  refine ⟨v, m, xs, (h1.below hb).e, own_block h2 (fun k hk => hb.block k ?_)⟩
  obtain ⟨_, _, _, _, _, q⟩ := own_shape2 h2
  exact (q k hk).2.1
theorem wcmp_w (B g : Nat) (A U : Tm) (va vb : Value) (w : World) (hB : B ≤ g) (hE : WkA B g w)
    (hA : TV (fun k => k < B) w A va) (hU : TV (fun k => k < B) w U vb) (hwA : wfT A) (hwU : wfT U) (hd : dep A ≤ 1000000) (hT : Tabs w) (hG : 0 < B ∧ 1 < B) :
    Calls Tryd.prog 27 #[.pointer (some ⟨g, 0, none⟩), va, vb] w fun e w' => e = .returned (.int .i64 (cT A U)) ∧ WkA B g w' ∧ Wr B w w' := by
  obtain ⟨v, m, xs, hE, hO⟩ := hE
  refine (wcompare_w B g A U va vb v m xs w hB hE hO hA hU hwA hwU hd hT hG).mono ?_
  rintro e w' ⟨rfl, ⟨v', m', xs', h1, h2⟩, h3⟩
  exact ⟨rfl, ⟨v', m', xs', h1, h2⟩, h3⟩
set_option maxHeartbeats 4000000 in
set_option maxRecDepth 8000 in
theorem Max_o (t0 : Tm) (l : List Tm) (o : Option Addr) (c : Nat) (w : World) (hl : l.length ≤ 20) (hlc : l.length + 1 ≤ c) (hR : TR (Low w) w (t0 :: l) o) (hf : ∀ t ∈ t0 :: l, wfT t ∧ dep t ≤ 1000000 ∧ (parts t).length ≤ 500000 ∧ ∀ p ∈ parts t, p.ok1 ∧ fairB p = true) (hT : Tabs w) :
    Calls Tryd.prog 12 #[.slice o (l.length + 1) c] w fun e w' => ∃ v', e = .returned (.tuple #[v', .bool true]) ∧ TV (Low w') w' (mx t0 l) v' ∧ Below w.heap.size w w' := by
  obtain ⟨kX, hBX, hz0⟩ := bx1 w (.int .i64 0) (.bool false) nilS (.string noS) (.int .i64 0) nilS nilS 31
  have HT := hid (fun w' (hk : Below w.heap.size w w') => hT.below hk)
  have hG : 0 < w.heap.size ∧ 1 < w.heap.size := hT.lt
  have HG := hid hG
  have Hf := hid hf
  have hR0 := hR
  unfold TR at hR
  obtain ⟨a, v0, rfl, hZa, hA0, hV0, hRl⟩ := hR
  obtain ⟨bk, bneg, bod, bld, bcd, bnm, bn, bol, bll, bcl, bob, blb, bcb, rfl⟩ := hV0.form
  obtain ⟨oA, hoA⟩ : ∃ oA, (if c = 1 then some a else some (⟨a.block, a.off + 7, none⟩ : Addr)) = oA := ⟨_, rfl⟩
  have HRl : Hid (TR (Low w) w l oA) := hid (by
    cases l with
    | nil => unfold TR; trivial
    | cons t l =>
      have hc1 : ¬ c = 1 := by simp at hlc; omega
      rw [if_neg hc1] at hoA
      rw [← hoA]
      have e7 : a.add 7 = (⟨a.block, a.off + 7, none⟩ : Addr) := by simp [Addr.add]
      rw [← e7]
      exact hRl)
  have HHA := hid (And.intro hA0 hV0)
  clear hRl hR0 hf hT hG hA0 hV0
  have hl1 : (1 : Int) ≤ (l.length : Int) + 1 := by omega
  have hl0 : ((l.length : Int) + 1 == 0) = false := by simp; omega
  go_enter Tryd.func12, Tryd.ntmps12
  go_wp2_with fail
  generalize (w.alloc (.cells #[.int .i64 0, .bool false, .slice none 0 0, .string { data := #[] }, .int .i64 0, .slice none 0 0, .slice none 0 0] 31)) = W0 at *
  have Hz0 := hid hz0
  have HzW := hid (show w.heap.size < W0.heap.size by rw [hz0]; exact Nat.lt_succ_self _)
  clear hz0
  refine (newWalk_w _).mono ?_
  rintro e w1 ⟨rfl, hE1, b1⟩
  have hB1 := below_and hBX (Nat.le_refl _) b1
  have kX1 := kX.below b1
  have hz1 := b1.size
  have hlt1 : W0.heap.size < w1.heap.size := by
    obtain ⟨_, _, _, _, _, _, _, _, _, _, _, _, _, _, h1⟩ := id hE1
    exact h1.lt
  have hAz := HHA.out.1.zs (Z := Low w) hZa (fun k hk => hB1.block k hk)
  obtain ⟨y0, y1, y2, y3, y4, y5, y6⟩ := hAz.tm
  clear hAz
  have hb2 : Below w1.heap.size w1 (w1.alloc (.cells #[.int .i64 bk, .bool bneg, .slice bod bld bcd, .string bnm, .int .i64 bn, .slice bol bll bcl, .slice bob blb bcb] 31)) := (Below.refl _ w1).alloc (Nat.le_refl _) _
  have hGb := heap_alloc_new w1 (.cells #[.int .i64 bk, .bool bneg, .slice bod bld bcd, .string bnm, .int .i64 bn, .slice bol bll bcl, .slice bob blb bcb] 31)
  have hA1 : WkA W0.heap.size W0.heap.size (w1.alloc (.cells #[.int .i64 bk, .bool bneg, .slice bod bld bcd, .string bnm, .int .i64 bn, .slice bol bll bcl, .slice bob blb bcb] 31)) := by
    obtain ⟨_, _, _, _, _, _, _, _, _, _, _, _, _, _, h1⟩ := hE1
    exact ⟨nilS, 0, [], (h1.below hb2).e, World.ownsRow_nil _ _ _ _⟩
  have hB2 := below_and hB1 (Nat.le_refl _) hb2
  have kX2 := kX1.below hb2
  have hz2 := hb2.size
  have hkB : Kept (fun k => W0.heap.size ≤ k) W0 (w1.alloc (.cells #[.int .i64 bk, .bool bneg, .slice bod bld bcd, .string bnm, .int .i64 bn, .slice bol bll bcl, .slice bob blb bcb] 31)) := Kept.of_below (below_and b1 (Nat.le_refl _) hb2)
  have hGs : w1.heap.size < (w1.alloc (.cells #[.int .i64 bk, .bool bneg, .slice bod bld bcd, .string bnm, .int .i64 bn, .slice bol bll bcl, .slice bob blb bcb] 31)).heap.size := by simp
  have HR1 := hid (fun w' (hk : Kept (fun k => W0.heap.size ≤ k) W0 w') => (below_and hBX (Nat.le_refl _) (hk.below (B := W0.heap.size) (Nat.le_refl _) (fun k hk => hk)) : Below w.heap.size w w'))
  clear kX kX1 hB1 b1 hE1 hBX hb2
  have hl2 : ((l.length : Int) + 1 - 1) = (l.length : Int) := by omega
  go_wp2_with fail
  clear y0 y1 y2 y3 y4 y5 y6
  generalize (w1.alloc (.cells #[.int .i64 bk, .bool bneg, .slice bod bld bcd, .string bnm, .int .i64 bn, .slice bol bll bcl, .slice bob blb bcb] 31)) = W2 at *
  have Hfm := hid (fun (t : Tm) (ht : t = t0 ∨ t ∈ l) => Hf.out t (by rcases ht with rfl | ht <;> simp [*]))
  go_loopg [19] l.length (fun t v19 wr => ∃ (i : Nat) (gt : Tm) (gk : Int) (gneg : Bool) (god : Option Addr) (gld gcd : Nat) (gnm : ByteArray) (gn : Int) (gol : Option Addr) (gll gcl : Nat) (gob : Option Addr) (glb gcb : Nat), t + i = l.length ∧ v19 = .int .i64 (i : Int) ∧ wr.heap[w1.heap.size]? = some (.cells #[.int .i64 gk, .bool gneg, .slice god gld gcd, .string gnm, .int .i64 gn, .slice gol gll gcl, .slice gob glb gcb] 31 (0, 0)) ∧ Hid (TV (Low w) w gt (tmV gk gneg (.slice god gld gcd) gnm gn (.slice gol gll gcl) (.slice gob glb gcb)) ∧ (gt = t0 ∨ gt ∈ l)) ∧ WkA W0.heap.size W0.heap.size wr ∧ Kept (fun k => W0.heap.size ≤ k) W0 wr ∧ Bx w.heap.size (.int .i64 0) (.bool false) nilS (.string noS) (.int .i64 0) nilS nilS wr ∧ w1.heap.size < wr.heap.size ∧ Hid (mx gt (l.drop i) = mx t0 l))
  case atStart => exact ⟨0, t0, bk, bneg, bod, bld, bcd, bnm, bn, bol, bll, bcl, bob, blb, bcb, by omega, rfl, hGb, hid ⟨HHA.out.2, .inl rfl⟩, hA1, hkB, kX2, hGs, hid rfl⟩
  case round =>
    clear hGb hA1 hkB kX2 hGs hB2 hz2
    obtain ⟨i, gt, gk, gneg, god, gld, gcd, gnm, gn, gol, gll, gcl, gob, glb, gcb, hti, rfl, hGb, hGV, hA, hkp, kX, hGs, hM⟩ := hrel
    have hBr := HR1.out _ hkp
    by_cases hil : i < l.length
    · have hii : (i : Int) < (l.length : Int) := by omega
      obtain ⟨t, ht⟩ : ∃ t, l[i]? = some t := ⟨l[i], by simp [hil]⟩
      obtain ⟨pa, pk, pneg, pod, pld, pcd, pnm, pn, pol, pll, pcl, pob, plb, pcb, hpa, hTp, y0, y1, y2, y3, y4, y5, y6⟩ := HRl.out.get ht hBr
      have hM2 : Hid (mx (if 0 < cT t gt then t else gt) (l.drop (i + 1)) = mx t0 l) := hid (by
        have h1 := hM.out
        rw [List.drop_eq_getElem_cons hil] at h1
        have h2 : l[i] = t := by rw [List.getElem?_eq_getElem hil] at ht; exact Option.some.inj ht
        rw [h2] at h1
        exact h1)
      have htm : t ∈ l := List.mem_of_getElem? ht
      have hTp0 : TV (Low w) w t (tmV pk pneg (.slice pod pld pcd) pnm pn (.slice pol pll pcl) (.slice pob plb pcb)) := by
        obtain ⟨pa', k1, k2, k3, k4, k5, k6, k7, k8, k9, k10, k11, k12, k13, e0, h1, h2⟩ := HRl.out.get ht (Below.refl _ w)
        rw [e0] at hpa
        obtain rfl := Option.some.inj hpa
        have q : ∀ {x : Addr} {v : Value}, w.cell? x = some v → wr.cell? x = some v := fun h => (hBr.cell (World.block_lt_of_cell? _ _ h)).trans h
        obtain ⟨g0, g1, g2, g3, g4, g5, g6⟩ := h2
        have e0 := (q g0).symm.trans y0
        have e1 := (q g1).symm.trans y1
        have e2 := (q g2).symm.trans y2
        have e3 := (q g3).symm.trans y3
        have e4 := (q g4).symm.trans y4
        have e5 := (q g5).symm.trans y5
        have e6 := (q g6).symm.trans y6
        simp only [Option.some.injEq, Value.int.injEq, Value.bool.injEq, Value.slice.injEq, Value.string.injEq, true_and] at e0 e1 e2 e3 e4 e5 e6
        obtain ⟨rfl, rfl, rfl⟩ := e2
        obtain ⟨rfl, rfl, rfl⟩ := e5
        obtain ⟨rfl, rfl, rfl⟩ := e6
        subst e0 e1 e3 e4
        exact h1
      subst hpa
      have HT0 := hid hTp0
      have hb3 : Below wr.heap.size wr (wr.alloc (.cells #[.int .i64 pk, .bool pneg, .slice pod pld pcd, .string pnm, .int .i64 pn, .slice pol pll pcl, .slice pob plb pcb] 31)) := (Below.refl _ wr).alloc (Nat.le_refl _) _
      have kT := heap_alloc_new wr (.cells #[.int .i64 pk, .bool pneg, .slice pod pld pcd, .string pnm, .int .i64 pn, .slice pol pll pcl, .slice pob plb pcb] 31)
      have hA3 := hA.below hb3
      have hG3 := (hb3.block w1.heap.size hGs).trans hGb
      have kX3 := kX.below hb3
      have hk3 := hkp.trans (Kept.of_below (F := fun k => W0.heap.size ≤ k) hb3)
      have hs3 : w1.heap.size < (wr.alloc (.cells #[.int .i64 pk, .bool pneg, .slice pod pld pcd, .string pnm, .int .i64 pn, .slice pol pll pcl, .slice pob plb pcb] 31)).heap.size := Nat.lt_of_lt_of_le hGs hb3.size
      obtain ⟨x0, x1, x2, x3, x4, x5, x6⟩ := (bx_heap hGb).res
      have hgne : wr.heap.size ≠ w1.heap.size := by omega
      clear hTp hTp0 hA hkp kX hGb hM hb3 hBr ht
      go_wp2_with fail
      clear y0 y1 y2 y3 y4 y5 y6 x0 x1 x2 x3 x4 x5 x6
      generalize (wr.alloc (.cells #[.int .i64 pk, .bool pneg, .slice pod pld pcd, .string pnm, .int .i64 pn, .slice pol pll pcl, .slice pob plb pcb] 31)) = W3 at *
      have hB3 := HR1.out _ hk3
      have hzW : w.heap.size ≤ W0.heap.size := Nat.le_of_lt HzW.out
      have hva : TV (fun k => k < W0.heap.size) W3 t (tmV pk pneg (.slice pod pld pcd) pnm pn (.slice pol pll pcl) (.slice pob plb pcb)) := TV.mono (Z := fun k => k < w.heap.size) (fun k _ hk => Nat.lt_of_lt_of_le hk hzW) _ _ (TV.zs (fun k hk => hB3.block k hk) _ _ HT0.out)
      have hvg : TV (fun k => k < W0.heap.size) W3 gt (tmV gk gneg (.slice god gld gcd) gnm gn (.slice gol gll gcl) (.slice gob glb gcb)) := TV.mono (Z := fun k => k < w.heap.size) (fun k _ hk => Nat.lt_of_lt_of_le hk hzW) _ _ (TV.zs (fun k hk => hB3.block k hk) _ _ hGV.out.1)
      have hwt := Hfm.out t (.inr htm)
      have hwg := Hfm.out gt hGV.out.2
      have HCC := wcmp_w W0.heap.size W0.heap.size t gt _ _ W3 (Nat.le_refl _) hA3 hva hvg hwt.1 hwg.1 hwt.2.1 (HT.out _ hB3) ⟨Nat.lt_of_lt_of_le HG.out.1 hzW, Nat.lt_of_lt_of_le HG.out.2 hzW⟩
      obtain ⟨X, hX⟩ : ∃ X, cT t gt = X := ⟨_, rfl⟩
      rw [hX] at hM2 HCC
      clear hX hva hvg hwt hwg hA3
      refine HCC.mono ?_
      rintro e w4 ⟨rfl, hA4, k4⟩
      clear HCC
      have hG4 := k4.term hG3
      have kT4 := k4.term kT
      have hk4 := hk3.trans (Kept.of_wr k4)
      have kX4 := kX3.of_block (k4.block w.heap.size kX3.lt (fun hb => absurd hb (Nat.not_le_of_lt HzW.out)))
      have hs4 := Nat.lt_of_lt_of_le hs3 k4.size
      clear hG3 kT hk3 kX3 k4 hB3
      by_cases hX0 : 0 < X
      · have hM4 : Hid (mx t (l.drop (i + 1)) = mx t0 l) := hid (by have := hM2.out; rwa [if_pos hX0] at this)
        clear hM2
        have hG5 := put7_heap hG4 (.int .i64 pk) (.bool pneg) (.slice pod pld pcd) (.string pnm) (.int .i64 pn) (.slice pol pll pcl) (.slice pob plb pcb)
        have hon := only_put w4 w1.heap.size (.int .i64 pk) (.bool pneg) (.slice pod pld pcd) (.string pnm) (.int .i64 pn) (.slice pol pll pcl) (.slice pob plb pcb)
        obtain ⟨x0, x1, x2, x3, x4, x5, x6⟩ := (bx_heap hG4).res
        have xf := (bx_heap hG4).fr
        obtain ⟨y0, y1, y2, y3, y4, y5, y6⟩ := (bx_heap kT4).res
        clear kT4
        go_upto_region 10 with fail
        clear x0 x1 x2 x3 x4 x5 x6 xf y0 y1 y2 y3 y4 y5 y6
        generalize (((((((w4.setCell ⟨w1.heap.size, 0, none⟩ (.int .i64 pk)).setCell ⟨w1.heap.size, 1, none⟩ (.bool pneg)).setCell ⟨w1.heap.size, 2, none⟩ (.slice pod pld pcd)).setCell ⟨w1.heap.size, 3, none⟩ (.string pnm)).setCell ⟨w1.heap.size, 4, none⟩ (.int .i64 pn)).setCell ⟨w1.heap.size, 5, none⟩ (.slice pol pll pcl)).setCell ⟨w1.heap.size, 6, none⟩ (.slice pob plb pcb)) = w5 at *
        have hzz := HzW.out
        have hA5 : WkA W0.heap.size W0.heap.size w5 := by
          obtain ⟨v5, m5, xs5, ⟨_, _, _, _, _, _, _, _, _, _, _, _, _, _, h1⟩, h2⟩ := hA4
          refine ⟨v5, m5, xs5, (h1.of_block (hon.2.2 _ (by omega))).e, own_block h2 (fun k hk => hon.2.2 k (fun e => ?_))⟩
          subst e
          obtain ⟨_, _, _, _, _, q⟩ := own_shape2 h2
          obtain ⟨_, _, cur, hc⟩ := q _ hk
          rw [hG4] at hc
          simp at hc
        have hk5 := hk4.trans ((Kept.of_only hon).mono (fun k hk => by rw [hk]; omega))
        have kX5 := kX4.of_block (hon.2.2 _ (by omega))
        have hs5 : w1.heap.size < w5.heap.size := Nat.lt_of_lt_of_eq hs4 hon.2.1.symm
        clear hk4 kX4 hA4 hon hG4
        go_wp2
        go_roundg (l.length - (i + 1))
        case measure => omega
        case rel => exact ⟨i + 1, t, pk, pneg, pod, pld, pcd, pnm, pn, pol, pll, pcl, pob, plb, pcb, by omega, by go_num, hG5, hid ⟨HT0.out, .inr htm⟩, hA5, hk5, kX5, hs5, hM4⟩
      · have hM4 : Hid (mx gt (l.drop (i + 1)) = mx t0 l) := hid (by have := hM2.out; rwa [if_neg hX0] at this)
        clear hM2 kT4
        go_wp2
        go_roundg (l.length - (i + 1))
        case measure => omega
        case rel => exact ⟨i + 1, gt, gk, gneg, god, gld, gcd, gnm, gn, gol, gll, gcl, gob, glb, gcb, by omega, by go_num, hG4, hGV, hA4, hk4, kX4, hs4, hM4⟩
    · have hii : ¬ (i : Int) < (l.length : Int) := by omega
      have hM3 : Hid (gt = mx t0 l) := hid (by have := hM.out; rw [List.drop_eq_nil_of_le (by omega)] at this; exact this)
      have hGx := bx_heap hGb
      obtain ⟨x0, x1, x2, x3, x4, x5, x6⟩ := hGx.res
      have hgv : Hid (TV (Low wr) wr gt (tmV gk gneg (.slice god gld gcd) gnm gn (.slice gol gll gcl) (.slice gob glb gcb))) := hid (tv_below hGV.out.1 hBr)
      have Hfg := hid (Hfm.out gt hGV.out.2)
      clear hGx hM hA
      go_wp2_with fail
      refine (Copy_w gt _ _ Hfg.out.2.2.1 (fun p hp => (Hfg.out.2.2.2 p hp).1) hgv.out).mono ?_
      rintro e w3 ⟨v3, rfl, hV3, b3⟩
      rw [cpT_id gt (fun p hp => (Hfg.out.2.2.2 p hp).2), hM3.out] at hV3
      obtain ⟨xk, xneg, xod, xld, xcd, xnm, xn, xol, xll, xcl, xob, xlb, xcb, rfl⟩ := hV3.form
      have kX3 := kX.below b3
      have hf := kX3.fr
      obtain ⟨f0, f1, f2, f3, f4, f5, f6, _⟩ := id kX3
      have hput := kX3.put (b0 := .int .i64 xk) (b1 := .bool xneg) (b2 := .slice xod xld xcd) (b3 := .string xnm) (b4 := .int .i64 xn) (b5 := .slice xol xll xcl) (b6 := .slice xob xlb xcb)
      have hon := only_put w3 w.heap.size (.int .i64 xk) (.bool xneg) (.slice xod xld xcd) (.string xnm) (.int .i64 xn) (.slice xol xll xcl) (.slice xob xlb xcb)
      obtain ⟨r0, r1, r2, r3, r4, r5, r6⟩ := hput.res
      have hkl := kX.lt
      have hzz := HzW.out
      have hB3 := below_and hBr (Nat.le_refl _) b3
      have hfin := hid (tv_low (zw_move (S' := w.heap.size) hV3 (fun k hk _ => hon.2.2 k (by omega)) (by omega)))
      have hBf := hB3.trans (hon.below (B := w.heap.size) (Nat.le_refl _))
      clear hV3 hon hput hB3 b3 kX3 kX hGb hkp hBr hgv x0 x1 x2 x3 x4 x5 x6
      go_wp2
      exact bodyPost_ret (v := .tuple #[tmV xk xneg (.slice xod xld xcd) xnm xn (.slice xol xll xcl) (.slice xob xlb xcb), .bool true]) (by simp [results, Tryd.results12, go_sem, r0, r1, r2, r3, r4, r5, r6]) rfl ⟨_, rfl, hfin.out, hBf⟩
end Go.Proofs.YtpdoepjnkgffpaaDoor
