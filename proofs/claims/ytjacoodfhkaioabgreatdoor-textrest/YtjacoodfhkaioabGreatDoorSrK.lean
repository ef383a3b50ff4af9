/- Texts of mine, one behind the other: TextNext, TextPrint, BigRShort, RunesReverse, RunesLess, RunesRLess, TextShowM, TextRd1, TextRd2, BigGrown. -/
import Derived.Test.YtjacoodfhkaioabGreatDoorSrJ
import Derived.Laws.IdiomStrings
import Derived.Test.YtjacoodfhkaioabGreatDoorSrC
import Derived.Laws.Concat
import Derived.Test.YtjacoodfhkaioabGreatDoorSrE
import Derived.Deep.OwnRows
import Derived.Lib.RuneCountTail
import Derived.Deep.QuietTactic
import Derived.BigQuiet
import Derived.Laws.Cover4
import Derived.Lib.TrimUEq
import Derived.Lib.TrimAscii
import Derived.WalkKit
import Derived.ChangeMaps5
import Derived.Test.YtjacoodfhkaioabGreatDoorSrD
import Derived.Test.YtjacoodfhkaioabGreatDoorSrA
namespace Go.Proofs.YtjacoodfhkaioabGreatDoor
open Go.ChangeShapes Go.WideShapes Go.ChangeAt Go.RowKit Go.Shelf
set_option linter.unusedSimpArgs false
set_option linter.unusedVariables false
set_option maxRecDepth 2000

set_option maxHeartbeats 2000000 in
theorem pbehind_w (w0 : World) (g : Nat) (o : List UInt8) (ps : List Pc) (T : Tm) (v : Value) (w : World) (h : PrnP w0 g o ps w) (hT : TV (Low w0) w0 T v)
    (hok : okXs T) (hpo : ∀ p ∈ ps, okPc p) (hwk : works (.tl T :: ps) ≤ 100000000) (ho : o.length ≤ 100000000) :
    Calls Tryz.prog 26 #[.pointer (some ⟨g, 0, none⟩), v] w fun e w' => e = .returned (.tuple #[]) ∧ Went w0 g o (.tl T :: ps) w' := by
  have hT0 := hT
  cases T with | mk k neg d nm n l b =>
  unfold TV at hT
  obtain ⟨od, cd, ol, cl, ob, cb, rfl, hLd, hcd, hLm, hLb, hcb, hcl, hTR⟩ := hT
  obtain ⟨k0, k7, x0, xn, x23, x4, x6, x7⟩ := hok.self
  have hps := works_len ps
  have hwk2 : ps.length ≤ 100000000 := by simp only [works] at hwk; omega
  have hT0H := hid hT0
  clear hT0 x0 x23 x4 x7 hTR hLd hLm hLb
  unfold tmV
  obtain ⟨W, hW⟩ : ∃ W, W = w.alloc (.cells #[.int .i64 k, .bool neg, .slice od d.length cd, .string nm, .int .i64 n, .slice ol l.length cl, .slice ob b.length cb] 26) := ⟨_, rfl⟩
  have bW : Below w.heap.size w W := by rw [hW]; exact (Below.refl _ w).alloc (Nat.le_refl _) _
  have hgW : W.heap[w.heap.size]? = some (.cells #[.int .i64 k, .bool neg, .slice od d.length cd, .string nm, .int .i64 n, .slice ol l.length cl, .slice ob b.length cb] 26 (0, 0)) := by rw [hW]; exact heap_alloc_new w _
  have hPW := h.later bW
  obtain ⟨y0, y1, y2, y3, y4, y5, y6⟩ := cell7 hgW
  have hPWH := hid hPW
  have hgWH := hid hgW
  clear h hgW hPW
  by_cases h6 : k = 6
  · subst h6
    obtain ⟨H, T, rfl⟩ := pair_of (x6 rfl)
    have hkids : ∀ t ∈ [H, T], okXs t := fun t ht => hok.kid ht
    have hpl : (parts (.mk 6 neg d nm n [H, T] b)).length = 1 + (partsL [H, T]).length := kids_mem rfl
    have hfin : ∀ w', PrnP w0 g (o ++ [44]) (.tm H :: .tl T :: ps) w' → Went w0 g o (.tl (.mk 6 neg d nm n [H, T] b) :: ps) w' := by
      intro w' hp
      refine ⟨_, _, hp, ?_, ?_, ?_, by simp⟩
      · simp only [rem, Pc.text]
        rw [tb_cons]
        simp
      · have h1 := parts_pos H
        have h2 := parts_pos T
        have e : (partsL [H, T]).length = (parts H).length + (parts T).length := by simp [partsL]
        simp only [works, Pc.work]; omega
      · intro p hp
        rcases List.mem_cons.1 hp with rfl | hp
        · exact hkids H (by simp)
        · rcases List.mem_cons.1 hp with rfl | hp
          · exact hkids T (by simp)
          · exact hpo p hp
    have hfinH := hid hfin
    have c1 := psign_w w0 g o ps 44 (by decide) W hPWH.out (by omega)
    simp only [List.length_cons, List.length_nil, Nat.zero_add, Nat.reduceAdd] at hW hgWH
    clear x6 hfin hpl hkids
    go_enter Tryz.func26, Tryz.ntmps26
    go_upto_region 1 with fail
    rw [← hW]
    clear hW
    go_wp2_with fail
    refine c1.mono ?_
    rintro e w1 ⟨rfl, h1, k1⟩
    obtain ⟨y0, y1, y2, y3, y4, y5, y6⟩ := cell7 (k1.cell hgWH.out (by decide) (by decide) (by decide))
    have c2 := pcons_w w0 g _ ps neg d nm n H T b _ w1 h1 hT0H.out (by omega)
    unfold tmV at c2
    simp only [List.length_cons, List.length_nil, Nat.zero_add, Nat.reduceAdd] at c2
    clear c1 h1
    go_wp2_with fail
    refine c2.mono ?_
    rintro e w2 ⟨rfl, h2, k2⟩
    have hqH := hid (hfinH.out w2 h2)
    clear c2 h2
    go_wp2
    all_goals go_returns
    all_goals exact ⟨rfl, hqH.out⟩
  · by_cases h5 : k = 5
    · subst h5
      have hfin : ∀ w', PrnP w0 g (o ++ [93]) ps w' → Went w0 g o (.tl (.mk 5 neg d nm n l b) :: ps) w' := by
        intro w' hp
        refine ⟨_, _, hp, ?_, ?_, hpo, by simp⟩
        · simp only [rem, Pc.text]
          rw [tb_nil]
          simp
        · have h1 := parts_pos (.mk 5 neg d nm n l b)
          simp only [works, Pc.work]; omega
      have hfinH := hid hfin
      have c1 := psign_w w0 g o ps 93 (by decide) W hPWH.out (by omega)
      clear x6 hfin h6
      go_enter Tryz.func26, Tryz.ntmps26
      go_upto_region 1 with fail
      rw [← hW]
      clear hW
      go_wp2_with fail
      refine c1.mono ?_
      rintro e w1 ⟨rfl, h1, k1⟩
      have hqH := hid (hfinH.out w1 h1)
      clear c1 h1
      go_wp2
      all_goals go_returns
      all_goals exact ⟨rfl, hqH.out⟩
    · have h6b : (k == 6) = false := by simpa using h6
      have h5b : (k == 5) = false := by simpa using h5
      have hfin : ∀ w', PrnP w0 g (o ++ [124]) (.tm (.mk k neg d nm n l b) :: .mk 93 :: ps) w' → Went w0 g o (.tl (.mk k neg d nm n l b) :: ps) w' := by
        intro w' hp
        refine ⟨_, _, hp, ?_, ?_, ?_, by simp⟩
        · simp only [rem, Pc.text]
          rw [tb_other (T := .mk k neg d nm n l b) h5 h6]
          simp
        · have h1 := parts_pos (.mk k neg d nm n l b)
          simp only [works, Pc.work]; omega
        · intro p hp
          rcases List.mem_cons.1 hp with rfl | hp
          · exact hok
          · rcases List.mem_cons.1 hp with rfl | hp
            · show 93 < 128; decide
            · exact hpo p hp
      have hfinH := hid hfin
      have c1 := psign_w w0 g o ps 124 (by decide) W hPWH.out (by omega)
      clear x6 hfin h6 h5
      go_enter Tryz.func26, Tryz.ntmps26
      go_upto_region 1 with fail
      rw [← hW]
      clear hW
      go_wp2_with fail
      refine c1.mono ?_
      rintro e w1 ⟨rfl, h1, k1⟩
      have c2 := pwait_w w0 g _ ps (.mk 93) (.iface 58 (.int .i32 93)) w1 h1 rfl (by omega)
      have hgw1 := hid (k1.cell hgWH.out (by decide) (by decide) (by decide))
      clear c1 h1
      go_wp2_with fail
      refine c2.mono ?_
      rintro e w2 ⟨rfl, h2, k2⟩
      obtain ⟨y0, y1, y2, y3, y4, y5, y6⟩ := cell7 (k2.cell hgw1.out (by decide) (by decide) (by decide))
      have c3 := pwait_w w0 g _ (.mk 93 :: ps) (.tm (.mk k neg d nm n l b)) (.iface 26 (tmV k neg (.slice od d.length cd) nm n (.slice ol l.length cl) (.slice ob b.length cb))) w2 h2 ⟨_, rfl, hT0H.out⟩ (by simp; omega)
      unfold tmV at c3
      clear c2 h2
      go_wp2_with fail
      refine c3.mono ?_
      rintro e w3 ⟨rfl, h3, k3⟩
      have hqH := hid (hfinH.out w3 h3)
      clear c3 h3
      go_wp2
      all_goals go_returns
      all_goals exact ⟨rfl, hqH.out⟩
abbrev z7 : Value := .agg #[.int .i64 0, .bool false, .slice none 0 0, .string noS, .int .i64 0, .slice none 0 0, .slice none 0 0]
theorem as_mm (x : Value) (w : World) : (Instr.typeAssert (.iface 58 x) 57 58 true).run Tryz.prog w = .ok (.tuple #[x, .bool true]) w := by kernel_rfl
theorem as_tm (x : Value) (w : World) : (Instr.typeAssert (.iface 62 x) 57 58 true).run Tryz.prog w = .ok (.tuple #[.int .i32 0, .bool false]) w := by kernel_rfl
theorem as_tt (x : Value) (w : World) : (Instr.typeAssert (.iface 62 x) 57 62 true).run Tryz.prog w = .ok (.tuple #[x, .bool true]) w := by kernel_rfl
theorem as_em (x : Value) (w : World) : (Instr.typeAssert (.iface 26 x) 57 58 true).run Tryz.prog w = .ok (.tuple #[.int .i32 0, .bool false]) w := by kernel_rfl
theorem as_et (x : Value) (w : World) : (Instr.typeAssert (.iface 26 x) 57 62 true).run Tryz.prog w = .ok (.tuple #[z7, .bool false]) w := by kernel_rfl
theorem as_ee (x : Value) (w : World) : (Instr.typeAssert (.iface 26 x) 57 26 true).run Tryz.prog w = .ok (.tuple #[x, .bool true]) w := by kernel_rfl
theorem own_cut {w : World} {B : Nat} {e : TypeId} {q c m k : Nat} {xs ys : List Value} (h : w.ownsRow B e 1 (.slice (some ⟨q, 0, none⟩) m c) m (xs ++ ys)) (hk : k = xs.length) : w.ownsRow B e 1 (.slice (some ⟨q, 0, none⟩) k c) k xs := by
  obtain ⟨h1, ⟨e1, _⟩ | ⟨g, cap, cur, e1, hg, hc, hn, hm, hs, ht⟩⟩ := h
  · cases e1
  · cases e1
    rw [List.length_append, Nat.mul_one] at h1
    refine ⟨by omega, .inr ⟨q, c, cur, rfl, hg, hc, by omega, hm, hs, ?_⟩⟩
    rw [Nat.mul_one] at ht ⊢
    have : cur.toList.take k = (cur.toList.take m).take k := by rw [List.take_take]; congr 1; omega
    rw [this, ht, hk]
    exact List.take_left
theorem prn_top {w0 : World} {g : Nat} {o : List UInt8} {p : Pc} {ps : List Pc} {w : World} (h : PrnP w0 g o (p :: ps) w) :
    ∃ v q c m, PcV w0 p v ∧ w.cell? ⟨g, 1, none⟩ = some (.slice (some ⟨q, 0, none⟩) (m + 1) c) ∧ w.frozen? ⟨g, 1, none⟩ = false ∧ w.cell? ⟨q, m, none⟩ = some v ∧ m + 1 ≤ c ∧ m = ps.length ∧ PrnP w0 g o ps (w.setCell ⟨g, 1, none⟩ (.slice (some ⟨q, 0, none⟩) m c)) := by
  obtain ⟨ov, wv, vs, h⟩ := h
  obtain ⟨c0, c1, f0, f1⟩ := h.cells
  obtain ⟨us, v, rfl, hp, hps⟩ := h.is
  have hl := hps.length
  have hw := h.wait
  rcases hw.2 with ⟨_, h0⟩ | ⟨q, c, cur, e, hq, hc, hn, hm, _⟩
  · simp at h0
  · subst e
    have hcell := hw.cells (g := q) rfl us.length v (by simp)
    rw [addr_add, Nat.zero_add] at hcell
    simp only [List.length_append, List.length_cons, List.length_nil, Nat.zero_add] at c1 hn hw
    refine ⟨v, q, c, us.length, hp, c1, f1, hcell, hn, hl, ov, .slice (some ⟨q, 0, none⟩) us.length c, us, ?_⟩
    exact h.waits (Lib.OthersKept.refl _ _ w) (Below.refl _ w) (own_cut hw rfl) hps
set_option maxHeartbeats 2000000 in
theorem pnext_w (w0 : World) (g : Nat) (o : List UInt8) (p : Pc) (ps : List Pc) (w : World) (h : PrnP w0 g o (p :: ps) w) (hpo : ∀ q ∈ p :: ps, okPc q) (hwk : works (p :: ps) ≤ 100000000) (ho : o.length ≤ 100000000) (hQ : TabsQ w0) (hP : Lib.TabBelow Tryz.prog w0.heap.size w0 "internal/strconv.uint64pow10" .u64 Lib.pow10Tab) :
    Calls Tryz.prog 15 #[.pointer (some ⟨g, 0, none⟩)] w fun e w' => e = .returned (.tuple #[]) ∧ Went w0 g o (p :: ps) w' := by
  obtain ⟨v, q, c, m, hp, c1, f1, hcell, hmc, hm, h2⟩ := prn_top h
  have hpl := works_len (p :: ps)
  have hm8 : m ≤ 100000000 := by simp only [List.length_cons] at hpl; omega
  have hmz : (m : Int) ≤ 100000000 := by omega
  have hmcz : (m : Int) ≤ (c : Int) := by omega
  have hpo2 : ∀ r ∈ ps, okPc r := fun r hr => hpo r (List.mem_cons_of_mem _ hr)
  have h2H := hid h2
  have hmH := hid hm
  clear hm h2 hpl h
  cases p with
  | mk r =>
    have hr : r < 128 := hpo (.mk r) (by simp)
    have hv : v = .iface 58 (.int .i32 (r : Int)) := hp
    subst hv
    have hfin : ∀ w', PrnP w0 g (o ++ [UInt8.ofNat r]) ps w' → Went w0 g o (.mk r :: ps) w' := fun w' hp => ⟨_, _, hp, by simp [rem, Pc.text], by simp only [works, Pc.work]; omega, hpo2, by simp⟩
    have hfinH := hid hfin
    have ha := as_mm (.int .i32 (r : Int))
    have c2 := psign_w w0 g o ps r hr _ h2H.out (by omega)
    clear hfin
    go_enter Tryz.func15, Tryz.ntmps15
    go_wp2_with fail
    refine c2.mono ?_
    rintro e w1 ⟨rfl, h1, k1⟩
    have hqH := hid (hfinH.out w1 h1)
    clear c2 h1
    go_wp2
    all_goals go_returns
    all_goals exact ⟨rfl, hqH.out⟩
  | tl T =>
    obtain ⟨a, rfl, hTV⟩ := hp
    have hTV0 := hTV
    cases T with | mk k neg d nm n l b =>
    unfold TV at hTV0
    obtain ⟨od, cd, ol, cl, ob, cb, rfl, _⟩ := hTV0
    have hok : okXs (.mk k neg d nm n l b) := hpo (.tl (.mk k neg d nm n l b)) (by simp)
    have ha := as_tm (tmV k neg (.slice od d.length cd) nm n (.slice ol l.length cl) (.slice ob b.length cb))
    have hb := as_tt (tmV k neg (.slice od d.length cd) nm n (.slice ol l.length cl) (.slice ob b.length cb))
    unfold tmV at ha hb hcell
    have hTVH := hid hTV
    clear hTV
    go_enter Tryz.func15, Tryz.ntmps15
    go_upto_region 8 with fail
    generalize hV : w.setCell ⟨g, 1, none⟩ (.slice (some ⟨q, 0, none⟩) m c) = V at *
    have hVs : V.heap.size = w.heap.size := by rw [← hV]; simp
    generalize hW : World.alloc V _ = W
    have bW : Below V.heap.size V W := by rw [← hW]; exact (Below.refl _ V).alloc (Nat.le_refl _) _
    have hgW : W.heap[w.heap.size]? = some (.cells #[.int .i64 k, .bool neg, .slice od d.length cd, .string nm, .int .i64 n, .slice ol l.length cl, .slice ob b.length cb] 62 (0, 0)) := by rw [← hW, ← hVs]; exact heap_alloc_new V _
    obtain ⟨y0, y1, y2, y3, y4, y5, y6⟩ := cell7 hgW
    have c2 := pbehind_w w0 g o ps (.mk k neg d nm n l b) _ W (h2H.out.later bW) hTVH.out hok hpo2 hwk ho
    unfold tmV at c2
    clear hgW hW hV bW hVs hcell c1 f1
    go_wp2_with fail
    refine c2.mono ?_
    rintro e w1 ⟨rfl, h1⟩
    have hqH := hid h1
    clear c2 h1
    go_wp2
    all_goals go_returns
    all_goals exact ⟨rfl, hqH.out⟩
  | tm T =>
    obtain ⟨a, rfl, hTV⟩ := hp
    have hTV0 := hTV
    cases T with | mk k neg d nm n l b =>
    unfold TV at hTV0
    obtain ⟨od, cd, ol, cl, ob, cb, rfl, _⟩ := hTV0
    have hok : okXs (.mk k neg d nm n l b) := hpo (.tm (.mk k neg d nm n l b)) (by simp)
    have ha := as_em (tmV k neg (.slice od d.length cd) nm n (.slice ol l.length cl) (.slice ob b.length cb))
    have hb := as_et (tmV k neg (.slice od d.length cd) nm n (.slice ol l.length cl) (.slice ob b.length cb))
    have hc := as_ee (tmV k neg (.slice od d.length cd) nm n (.slice ol l.length cl) (.slice ob b.length cb))
    unfold tmV at ha hb hc hcell
    have hTVH := hid hTV
    clear hTV
    go_enter Tryz.func15, Tryz.ntmps15
    go_upto_region 11 with fail
    generalize hV : w.setCell ⟨g, 1, none⟩ (.slice (some ⟨q, 0, none⟩) m c) = V at *
    have hVs : V.heap.size = w.heap.size := by rw [← hV]; simp
    generalize hU : World.alloc V _ = U
    have bU : Below V.heap.size V U := by rw [← hU]; exact (Below.refl _ V).alloc (Nat.le_refl _) _
    have hUs : U.heap.size = w.heap.size + 1 := by rw [← hU, ← hVs]; simp
    generalize hW : World.alloc U _ = W
    have bW : Below U.heap.size U W := by rw [← hW]; exact (Below.refl _ U).alloc (Nat.le_refl _) _
    have hgW : W.heap[w.heap.size + 1]? = some (.cells #[.int .i64 k, .bool neg, .slice od d.length cd, .string nm, .int .i64 n, .slice ol l.length cl, .slice ob b.length cb] 26 (0, 0)) := by rw [← hW, ← hUs]; exact heap_alloc_new U _
    obtain ⟨y0, y1, y2, y3, y4, y5, y6⟩ := cell7 hgW
    have c2 := pterm_w w0 g o ps (.mk k neg d nm n l b) _ W ((h2H.out.later bU).later bW) hTVH.out hok hpo2 hwk ho hQ hP
    unfold tmV at c2
    clear hgW hW hV bW hVs hcell c1 f1 hU bU hUs
    go_wp2_with fail
    refine c2.mono ?_
    rintro e w1 ⟨rfl, h1⟩
    have hqH := hid h1
    clear c2 h1
    go_wp2
    all_goals go_returns
    all_goals exact ⟨rfl, hqH.out⟩
end Go.Proofs.YtjacoodfhkaioabGreatDoor
namespace Go.Proofs.YtjacoodfhkaioabGreatDoor
open Go.ChangeShapes Go.WideShapes Go.ChangeAt Go.RowKit Go.Shelf
set_option linter.unusedSimpArgs false
set_option linter.unusedVariables false
set_option maxRecDepth 2000

def prE (T : Tm) : Int := if mayB T then (if (tx T).length ≤ 65536 then 0 else 3) else 1
def prS (T : Tm) : List UInt8 := if mayB T then (if (tx T).length ≤ 65536 then tx T else []) else []
theorem may_ok {T : Tm} (hok : ∀ p ∈ parts T, p.ok1) (h : mayB T = true) : okXs T ∧ (parts T).length ≤ 65536 := by
  unfold mayB at h
  rw [Bool.and_eq_true] at h
  obtain ⟨h1, h2⟩ := h
  have h3 := of_decide_eq_true h1
  refine ⟨fun p hp => okX_fair p (hok p hp) (List.all_eq_true.1 h2 p hp), ?_⟩
  unfold treeN at h3
  omega
theorem conv_out {w : World} {B : Nat} {ov : Value} {o : List UInt8} (h : w.ownsRow B 5 1 ov o.length (Lib.byteCells o)) (ho : o.length ≤ 1000000000) :
    (convert 24 9 ov).run Tryz.prog w = .ok (.string ⟨o.toArray⟩) w := by
  rcases h.2 with ⟨rfl, h0⟩ | ⟨q, c, cur, rfl, hq, hc, hn, hm, _⟩
  · have : o = [] := List.eq_nil_of_length_eq_zero h0
    subst this
    rfl
  · refine run_convert_bytes_back _ _ _ 5 ⟨q, 0, none⟩ _ o Tryz.underlying24 Tryz.underlying5 Tryz.underlying9 ?_
    intro j hj
    exact h.cells (g := q) rfl j (.int .u8 ((o[j]).toNat : Int)) (by simp [Lib.byteCells, hj])
theorem tab_up {w w' : World} {zs : List Int} (h : Lib.TabBelow Tryz.prog w.heap.size w "internal/strconv.uint64pow10" .u64 zs) (hb : Below w.heap.size w w') : Lib.TabBelow Tryz.prog w'.heap.size w' "internal/strconv.uint64pow10" .u64 zs := fun w2 h2 => h w2 (hb.trans (below_le h2 hb.size))
theorem prn_new (w0 : World) (T : Tm) (v : Value) (W1 W2 : World) (hT : TV (Low w0) w0 T v) (e1 : W1 = w0.alloc (.cells #[.iface 26 v] 57)) (e2 : W2 = W1.alloc (.cells #[.slice none 0 0, .slice (some ⟨w0.heap.size, 0, none⟩) 1 1] 45)) :
    PrnP w0 (w0.heap.size + 1) [] [.tm T] W2 := by
  have hs : W1.heap.size = w0.heap.size + 1 := by rw [e1]; simp
  have b1 : Below w0.heap.size w0 W1 := by rw [e1]; exact (Below.refl _ w0).alloc (Nat.le_refl _) _
  have b2 : Below W1.heap.size W1 W2 := by rw [e2]; exact (Below.refl _ W1).alloc (Nat.le_refl _) _
  have hg1 : W1.heap[w0.heap.size]? = some (.cells #[.iface 26 v] 57 (0, 0)) := by rw [e1]; exact heap_alloc_new w0 _
  have hg2 : W2.heap[w0.heap.size]? = some (.cells #[.iface 26 v] 57 (0, 0)) := (b2.block _ (by omega)).trans hg1
  refine ⟨.slice none 0 0, .slice (some ⟨w0.heap.size, 0, none⟩) 1 1, [.iface 26 v], ?_, by omega, World.ownsRow_nil _ _ _ _, ?_, ⟨[], _, rfl, ⟨v, rfl, hT⟩, rfl⟩, b1.trans (below_le b2 (by omega))⟩
  · rw [e2, ← hs]; exact heap_alloc_new W1 _
  · exact ⟨rfl, .inr ⟨w0.heap.size, 1, _, rfl, Nat.le_refl _, hg2, Nat.le_refl _, by unfold maxLen; omega, rfl, rfl⟩⟩
theorem prn_see {w0 : World} {g : Nat} {o : List UInt8} {ps : List Pc} {w : World} (h : PrnP w0 g o ps w) (ho : o.length ≤ 1000000000) :
    ∃ oo cc ow cw, w.cell? ⟨g, 0, none⟩ = some (.slice oo o.length cc) ∧ w.cell? ⟨g, 1, none⟩ = some (.slice ow ps.length cw) ∧ (convert 24 9 (.slice oo o.length cc)).run Tryz.prog w = .ok (.string ⟨o.toArray⟩) w := by
  obtain ⟨ov, wv, vs, h⟩ := h
  obtain ⟨c0, c1, f0, f1⟩ := h.cells
  have hc := conv_out h.out ho
  have hl := h.is.length
  obtain ⟨oo, cc, rfl⟩ := own_form h.out
  obtain ⟨ow, cw, rfl⟩ := own_form h.wait
  rw [hl] at c1
  exact ⟨oo, cc, ow, cw, c0, c1, hc⟩
set_option maxHeartbeats 4000000 in
set_option maxRecDepth 4000 in
theorem print_w (T : Tm) (v : Value) (w : World) (hD : dep T ≤ 1000000) (hok : ∀ p ∈ parts T, p.ok1) (hT : TV (Low w) w T v) (hTa : Tabs w) (hQ : TabsQ w) (hP : Lib.TabBelow Tryz.prog w.heap.size w "internal/strconv.uint64pow10" .u64 Lib.pow10Tab) :
    Calls Tryz.prog 6 #[v] w fun e w' => e = .returned (.tuple #[.string ⟨(prS T).toArray⟩, .int .i64 (prE T)]) ∧ Below w.heap.size w w' := by
  obtain ⟨k, neg, od, ld, cd, nm, n, ol, ll, cl, ob, lb, cb, rfl⟩ := hT.form
  obtain ⟨W, hW⟩ : ∃ W, W = w.alloc (.cells #[.int .i64 k, .bool neg, .slice od ld cd, .string nm, .int .i64 n, .slice ol ll cl, .slice ob lb cb] 26) := ⟨_, rfl⟩
  have bW : Below w.heap.size w W := by rw [hW]; exact (Below.refl _ w).alloc (Nat.le_refl _) _
  have hgW : W.heap[w.heap.size]? = some (.cells #[.int .i64 k, .bool neg, .slice od ld cd, .string nm, .int .i64 n, .slice ol ll cl, .slice ob lb cb] 26 (0, 0)) := by rw [hW]; exact heap_alloc_new w _
  obtain ⟨y0, y1, y2, y3, y4, y5, y6⟩ := cell7 hgW
  have c1 := May_w T _ W hD hok (tv_below hT bW) (hTa.below bW)
  obtain ⟨E, hE⟩ : ∃ E, prE T = E := ⟨_, rfl⟩
  obtain ⟨S, hS⟩ : ∃ S, prS T = S := ⟨_, rfl⟩
  rw [hE, hS]
  have hEH := hid hE
  have hSH := hid hS
  clear hE hS
  unfold tmV at c1 ⊢
  go_enter Tryz.func6, Tryz.ntmps6
  go_upto_region 1 with fail
  rw [← hW]
  clear hW
  go_wp2_with fail
  refine c1.mono ?_
  rintro e w1 ⟨rfl, b1⟩
  clear c1
  have hB1 : Below w.heap.size w w1 := bW.trans (below_le b1 bW.size)
  have hgw1 : w1.heap[w.heap.size]? = some (.cells #[.int .i64 k, .bool neg, .slice od ld cd, .string nm, .int .i64 n, .slice ol ll cl, .slice ob lb cb] 26 (0, 0)) := (b1.block _ (Array.getElem?_eq_some_iff.1 hgW).1).trans hgW
  have hT1 := tv_below hT hB1
  cases hm : mayB T
  · have e1 : E = 1 := by rw [← hEH.out]; unfold prE; rw [hm]; rfl
    have e2 : S = [] := by rw [← hSH.out]; unfold prS; rw [hm]; rfl
    subst e1 e2
    clear hm y0 y1 y2 y3 y4 y5 y6 hgW
    go_wp2
    all_goals go_ret2
    all_goals exact ⟨rfl, hB1⟩
  · obtain ⟨hX, hpl⟩ := may_ok hok hm
    have hXH := hid (And.intro hX hpl)
    have e1 : Hid (E = if (tx T).length ≤ 65536 then 0 else 3) := hid (by rw [← hEH.out]; unfold prE; rw [hm]; rfl)
    have e2 : Hid (S = if (tx T).length ≤ 65536 then tx T else []) := hid (by rw [← hSH.out]; unfold prS; rw [hm]; rfl)
    clear y0 y1 y2 y3 y4 y5 y6 hgW hm hX hpl hEH hSH
    obtain ⟨y0, y1, y2, y3, y4, y5, y6⟩ := cell7 hgw1
    go_upto_region 4 with fail
    have hPn := prn_new w1 T _ _ _ hT1 rfl rfl
    generalize World.alloc (World.alloc w1 _) _ = W2 at *
    have hPnH := hid hPn
    have hQ1 := hid (hQ.below hB1)
    have hP1 := hid (tab_up hP hB1)
    clear hPn hQ hP y0 y1 y2 y3 y4 y5 y6 hgw1 hT1 hT hTa hok b1 bW
    go_loopg [] (works [.tm T]) (fun t wr => ∃ o ps, t = works ps ∧ Hid (PrnP w1 (w1.heap.size + 1) o ps wr) ∧ Hid (o ++ rem ps = tx T) ∧ Hid (∀ p ∈ ps, okPc p) ∧ o.length ≤ 31000000 ∧ Hid (works ps ≤ 300000))
    case atStart => exact ⟨[], [.tm T], rfl, hPnH, hid (by simp [rem, Pc.text]), hid (by intro p hp; simp at hp; subst hp; exact hXH.out.1), by simp, hid (by have := hXH.out.2; simp only [works, Pc.work]; omega)⟩
    case round =>
      obtain ⟨o, ps, hgk, hPr, hR, hO, ho, hwk⟩ := hrel
      obtain ⟨oo, cc, ow, cw, c0, c1, hcv⟩ := prn_see hPr.out (by omega)
      have hbb : Below w.heap.size w wr := hB1.trans (below_le hPr.out.below hB1.size)
      have hgkH := hid hgk
      clear hgk
      cases ps with
      | nil =>
        have hR2 := hR.out
        simp only [rem, List.append_nil] at hR2
        by_cases h6 : o.length ≤ 65536
        · have h6z : ¬ (65536 : Int) < (o.length : Int) := by omega
          have q1 : E = 0 := by rw [e1.out, ← hR2, if_pos h6]
          have q2 : S = o := by rw [e2.out, ← hR2, if_pos h6]
          subst q1 q2
          clear hR2
          go_wp2
          go_ret2
          exact ⟨rfl, hbb⟩
        · have h6z : (65536 : Int) < (o.length : Int) := by omega
          have q1 : E = 3 := by rw [e1.out, ← hR2, if_neg h6]
          have q2 : S = [] := by rw [e2.out, ← hR2, if_neg h6]
          subst q1 q2
          clear hR2 hcv
          go_wp2
          go_ret2
          exact ⟨rfl, hbb⟩
      | cons p ps =>
        have hlz : (0 : Int) < ((ps.length + 1 : Nat) : Int) := by omega
        by_cases h6 : o.length ≤ 65536
        · have h6z : (o.length : Int) ≤ 65536 := by omega
          have c2 := pnext_w w1 (w1.heap.size + 1) o p ps wr hPr.out hO.out (by have := hwk.out; omega) (by omega) hQ1.out hP1.out
          clear hcv
          go_wp2_with fail
          refine c2.mono ?_
          rintro e w2 ⟨rfl, o', ps', h2, hr2, hw2, ho2, hl2⟩
          have hgk2 := hgkH.out
          clear c2
          go_wp2
          go_roundg (works ps')
          case measure => omega
          case rel => exact ⟨o', ps', rfl, hid h2, hid (by rw [hr2]; exact hR.out), hid ho2, by omega, hid (by have := hwk.out; omega)⟩
        · have h6z : (65536 : Int) < (o.length : Int) := by omega
          have hlen : 65536 < (tx T).length := by rw [← hR.out, List.length_append]; omega
          have q1 : E = 3 := by rw [e1.out, if_neg (by omega)]
          have q2 : S = [] := by rw [e2.out, if_neg (by omega)]
          subst q1 q2
          clear hlen hcv
          go_wp2
          go_ret2
          exact ⟨rfl, hbb⟩
end Go.Proofs.YtjacoodfhkaioabGreatDoor
namespace Go.Proofs.YtjacoodfhkaioabGreatDoor
open Go.ChangeShapes Go.WideShapes Go.ChangeAt Go.RowKit
set_option linter.unusedSimpArgs false
set_option linter.unusedVariables false
set_option maxRecDepth 2000
theorem app_mk (x y : Array UInt8) : (⟨x⟩ : ByteArray) ++ ⟨y⟩ = ⟨x ++ y⟩ := by
  apply ByteArray.ext; simp
end Go.Proofs.YtjacoodfhkaioabGreatDoor
namespace Go.Proofs.YtjacoodfhkaioabGreatDoor
open Go.ChangeShapes Go.WideShapes Go.ChangeAt Go.RowKit Go.Shelf
set_option linter.unusedSimpArgs false
set_option linter.unusedVariables false
set_option maxRecDepth 2000
theorem cell_iterAt {w : World} {k b j : Nat} {s : ByteArray} {pos : Nat} (h : b ≠ k) : (w.iterAt k s pos).cell? ⟨b, j, none⟩ = w.cell? ⟨b, j, none⟩ :=
  World.cell?_of_block (a := ⟨b, j, none⟩) (Lib.iterAt_other w k b s pos h)
theorem frozen_iterAt {w : World} {k b j : Nat} {s : ByteArray} {pos : Nat} (h : b ≠ k) : (w.iterAt k s pos).frozen? ⟨b, j, none⟩ = w.frozen? ⟨b, j, none⟩ :=
  World.frozen?_of_block (a := ⟨b, j, none⟩) (Lib.iterAt_other w k b s pos h)
/-- A row of n bytes of the call's own; from place f on it holds l. -/
def Row (g n f : Nat) (l : List UInt8) (w : World) : Prop :=
  (∀ j, j < n → (w.cell? ⟨g, j, none⟩).isSome = true) ∧ (∀ j, w.frozen? ⟨g, j, none⟩ = false) ∧ (∀ j x, l[j]? = some x → w.cell? ⟨g, f + j, none⟩ = some (.int .u8 (x.toNat : Int))) ∧ f + l.length = n
theorem Row.iterAt {g n f : Nat} {l : List UInt8} {w : World} (h : Row g n f l w) {k : Nat} (hk : g ≠ k) (s : ByteArray) (pos : Nat) : Row g n f l (w.iterAt k s pos) :=
  ⟨fun j hj => by rw [cell_iterAt hk]; exact h.1 j hj, fun j => by rw [frozen_iterAt hk]; exact h.2.1 j, fun j x hx => by rw [cell_iterAt hk]; exact h.2.2.1 j x hx, h.2.2.2⟩
theorem Row.put {g n f : Nat} {l : List UInt8} {w : World} (h : Row g n f l w) (m : List UInt8) (f' : Nat) (hf : f' + m.length = f) : Row g n f' (m ++ l) (w.setCells g f' (Lib.byteCells m)) := by
  obtain ⟨h1, h2, h3, h4⟩ := h
  have hml : (Lib.byteCells m).length = m.length := Lib.byteCells_length m
  have hin : ∀ j, j < (Lib.byteCells m).length → (w.cell? ⟨g, f' + j, none⟩).isSome = true := fun j hj => h1 _ (by omega)
  refine ⟨fun j hj => ?_, fun j => by rw [World.frozen?_setCells]; exact h2 j, fun j x hx => ?_, by rw [List.length_append]; omega⟩
  · by_cases hj2 : f' ≤ j ∧ j < f' + m.length
    · have := World.cell?_setCells_in g (Lib.byteCells m) f' w hin (j - f') (by omega)
      rw [show f' + (j - f') = j by omega] at this
      rw [this]; rfl
    · rw [World.cell?_setCells_out g _ _ _ _ (fun _ _ => by simp; omega)]
      exact h1 j hj
  · by_cases hj2 : j < m.length
    · have := World.cell?_setCells_in g (Lib.byteCells m) f' w hin j (by omega)
      rw [this]
      rw [List.getElem?_append_left hj2] at hx
      have hx2 := (List.getElem?_eq_some_iff.1 hx).2
      simp [Lib.byteCells, hx2]
    · rw [World.cell?_setCells_out g _ _ _ _ (fun _ _ => by simp; omega)]
      rw [List.getElem?_append_right (by omega)] at hx
      have := h3 _ _ hx
      rw [show f + (j - m.length) = f' + j by omega] at this
      exact this
end Go.Proofs.YtjacoodfhkaioabGreatDoor
namespace Go.Proofs.YtjacoodfhkaioabGreatDoor
open Go.ChangeShapes Go.WideShapes Go.ChangeAt Go.RowKit Go.Shelf
set_option linter.unusedSimpArgs false
set_option linter.unusedVariables false
set_option maxRecDepth 2000

/-- A well-formed text at a place: the sign, its width, and what follows is well-formed. -/
theorem valid_at (s : ByteArray) (pos : Nat) (h : pos < s.size) (hv : Lib.validD (s.data.toList.drop pos) = true) :
    Lib.validD (s.data.toList.drop (pos + (Utf8.decode s pos).2)) = true ∧ (e1 (Utf8.decode s pos).1).length = (Utf8.decode s pos).2 ∧ pos + (Utf8.decode s pos).2 ≤ s.size := by
  have hs : s.data.toList.length = s.size := rfl
  have hne : s.data.toList.drop pos ≠ [] := by
    intro e; have := congrArg List.length e; simp only [List.length_drop, List.length_nil] at this; omega
  have hle := Lib.decodeL_le _ hne
  rw [Lib.validD_step _ hne] at hv
  split at hv
  · cases hv
  · rename_i hb
    have he := Lib.encode_decode _ hne hb
    rw [Lib.decodeL_drop] at hv he hle
    rw [List.drop_drop] at hv
    refine ⟨hv, ?_, ?_⟩
    · unfold e1
      rw [he, List.length_take]
      omega
    · rw [List.length_drop] at hle; omega
end Go.Proofs.YtjacoodfhkaioabGreatDoor
namespace Go.Proofs.YtjacoodfhkaioabGreatDoor
open Go.ChangeShapes Go.WideShapes Go.ChangeAt Go.RowKit Go.Shelf
set_option linter.unusedSimpArgs false
set_option linter.unusedVariables false
set_option maxRecDepth 2000

/-- A row of bytes in memory. -/
def RowB (g : Nat) (l : List UInt8) (w : World) : Prop := ∀ j x, l[j]? = some x → w.cell? ⟨g, j, none⟩ = some (.int .u8 (x.toNat : Int))
/-- A row of signs in memory. -/
def RowR (g : Nat) (l : List Nat) (w : World) : Prop := ∀ (j r : Nat), l[j]? = some r → w.cell? ⟨g, j, none⟩ = some (.int .i32 (r : Int))
theorem RowB.below {g : Nat} {l : List UInt8} {w w' : World} (h : RowB g l w) (hb : Below w.heap.size w w') : RowB g l w' := fun j x hx =>
  (hb.cell (World.block_lt_of_cell? _ _ (h j x hx))).trans (h j x hx)
theorem RowR.below {g : Nat} {l : List Nat} {w w' : World} (h : RowR g l w) (hb : Below w.heap.size w w') : RowR g l w' := fun j x hx =>
  (hb.cell (World.block_lt_of_cell? _ _ (h j x hx))).trans (h j x hx)

/-! ### texts turned into rows -/
end Go.Proofs.YtjacoodfhkaioabGreatDoor
namespace Go.Proofs.YtjacoodfhkaioabGreatDoor
open Go.ChangeShapes Go.WideShapes Go.ChangeAt Go.RowKit Go.Shelf
set_option linter.unusedSimpArgs false
set_option linter.unusedVariables false
set_option maxRecDepth 2000

/-- signs as a string -/
def bs (l : List UInt8) : ByteArray := ⟨l.toArray⟩
theorem bs_cat (x y : List UInt8) : bs x ++ bs y = bs (x ++ y) := by unfold bs; rw [app_mk]; simp
theorem bs_size (x : List UInt8) : (bs x).size = x.length := by show x.toArray.size = _; simp
theorem dec_low {u : Nat} (h : u < 10) : Lib.decDigits u = [UInt8.ofNat (48 + u)] := by rw [Lib.decDigits, dif_pos h]
theorem dec_high {u : Nat} (h : ¬ u < 10) : Lib.decDigits u = Lib.decDigits (u / 10) ++ [UInt8.ofNat (48 + u % 10)] := by rw [Lib.decDigits, dif_neg h]
end Go.Proofs.YtjacoodfhkaioabGreatDoor
namespace Go.Proofs.YtjacoodfhkaioabGreatDoor
open Go.ChangeShapes Go.WideShapes Go.ChangeAt Go.RowKit Go.Shelf
set_option linter.unusedSimpArgs false
set_option linter.unusedVariables false
set_option maxRecDepth 2000

/-- all blocks that were there are as they were, but those of F -/
structure Kpt (F : Nat → Prop) (w w' : World) : Prop where
  os : w'.os = w.os
  tape : w'.tape = w.tape
  output : w'.output = w.output
  size : w.heap.size ≤ w'.heap.size
  block : ∀ k, k < w.heap.size → ¬ F k → w'.heap[k]? = w.heap[k]?
theorem Kpt.refl (F : Nat → Prop) (w : World) : Kpt F w w := ⟨rfl, rfl, rfl, Nat.le_refl _, fun _ _ _ => rfl⟩
theorem Kpt.trans {F : Nat → Prop} {a b c : World} (h : Kpt F a b) (k : Kpt F b c) : Kpt F a c :=
  ⟨k.os.trans h.os, k.tape.trans h.tape, k.output.trans h.output, Nat.le_trans h.size k.size, fun i hi hn => (k.block i (Nat.lt_of_lt_of_le hi h.size) hn).trans (h.block i hi hn)⟩
theorem Kpt.mono {F G : Nat → Prop} {w w' : World} (h : Kpt F w w') (hF : ∀ k, F k → G k) : Kpt G w w' := ⟨h.os, h.tape, h.output, h.size, fun k hk hn => h.block k hk (fun hf => hn (hF k hf))⟩
theorem Kpt.of_below {F : Nat → Prop} {w w' : World} (h : Below w.heap.size w w') : Kpt F w w' := ⟨h.os, h.tape, h.output, h.size, fun k hk _ => h.block k hk⟩
theorem Kpt.of_set {F : Nat → Prop} (w : World) {p : Addr} (hp : F p.block) (u : Value) : Kpt F w (w.setCell p u) :=
  ⟨rfl, rfl, rfl, by simp, fun k _ hn => Below.heap_setCell w p u k (fun e => hn (e ▸ hp))⟩
theorem Kpt.below {F : Nat → Prop} {B : Nat} {w w' : World} (h : Kpt F w w') (hB : B ≤ w.heap.size) (hF : ∀ k, F k → B ≤ k) : Below B w w' :=
  ⟨h.os, h.tape, h.output, h.size, fun k hk => h.block k (by omega) (fun hf => by have := hF k hf; omega)⟩
/-- the reader: what is not read yet, and what is open -/
structure Rdr (g : Nat) (r : List UInt8) (ov : Value) (w : World) : Prop where
  at_ : w.heap[g]? = some (.cells #[.string (bs r), ov] 49 (0, 0))
theorem Rdr.cells {g : Nat} {r : List UInt8} {ov : Value} {w : World} (h : Rdr g r ov w) : w.cell? ⟨g, 0, none⟩ = some (.string (bs r)) ∧ w.cell? ⟨g, 1, none⟩ = some ov ∧ w.frozen? ⟨g, 0, none⟩ = false ∧ w.frozen? ⟨g, 1, none⟩ = false := by
  have := h.at_
  simp [World.cell?, World.frozen?, this]
theorem Rdr.lt {g : Nat} {r : List UInt8} {ov : Value} {w : World} (h : Rdr g r ov w) : g < w.heap.size := (Array.getElem?_eq_some_iff.1 h.at_).1
theorem Rdr.below {g : Nat} {r : List UInt8} {ov : Value} {w w' : World} (h : Rdr g r ov w) (hb : Below w.heap.size w w') : Rdr g r ov w' := ⟨(hb.block g h.lt).trans h.at_⟩
theorem Rdr.set0 {g : Nat} {r : List UInt8} {ov : Value} {w : World} (h : Rdr g r ov w) (r' : List UInt8) : Rdr g r' ov (w.setCell ⟨g, 0, none⟩ (.string (bs r'))) := by
  refine ⟨?_⟩
  have := h.at_
  simp [World.setCell, Array.getElem?_modify, this]
theorem dec_hi (b : UInt8) (t : List UInt8) (h : ¬ b.toNat < 128) : 128 ≤ (Lib.decodeL (b :: t)).1 := by
  rw [Lib.decodeL_N]
  show 128 ≤ (Lib.decodeN _ b.toNat _ _ _).1
  unfold Lib.decodeN
  rw [if_neg h]
  repeat' split
  all_goals (simp only []; omega)
theorem decGo_nil : Lib.decodeGo (bs []) = (65533, 0) := rfl
theorem decGo_cons (b : UInt8) (t : List UInt8) : Lib.decodeGo (bs (b :: t)) = Lib.decodeL (b :: t) := by
  unfold Lib.decodeGo
  rw [if_neg (by rw [bs_size]; simp)]
  exact (Lib.decodeL_drop (bs (b :: t)) 0).symm
/-- the next sign is an ASCII one just if the next byte is -/
theorem dec_is (r : List UInt8) (c : UInt8) (hc : c.toNat < 128) : ((Lib.decodeGo (bs r)).1 = c.toNat) ↔ r.head? = some c := by
  cases r with
  | nil => rw [decGo_nil]; simp; omega
  | cons b t =>
    rw [decGo_cons]
    by_cases hb : b.toNat < 128
    · rw [Lib.decodeL_ascii b t hb]
      simp only [List.head?_cons, Option.some.injEq]
      exact ⟨fun h => UInt8.toNat_inj.1 h, fun h => by rw [h]⟩
    · have := dec_hi b t hb
      simp only [List.head?_cons, Option.some.injEq]
      exact ⟨fun h => by omega, fun h => by rw [h] at hb; omega⟩
theorem dec_one (r : List UInt8) (c : UInt8) (hc : c.toNat < 128) (h : r.head? = some c) : (Lib.decodeGo (bs r)).2 = 1 := by
  cases r with
  | nil => simp at h
  | cons b t =>
    simp only [List.head?_cons, Option.some.injEq] at h
    subst h
    rw [decGo_cons, Lib.decodeL_ascii b t hc]
/-- skip, of an ASCII sign -/
def skB (c : UInt8) (r : List UInt8) : Bool := r.head? == some c
def skR (c : UInt8) (r : List UInt8) : List UInt8 := if r.head? = some c then r.tail else r
set_option maxHeartbeats 1000000 in
theorem skip_w (g : Nat) (r : List UInt8) (ov : Value) (c : UInt8) (k : Int) (hk : k = (c.toNat : Int)) (hc : c.toNat < 128) (w : World) (h : Rdr g r ov w) (hT : Tabs w) :
    Calls Tryz.prog 53 #[.pointer (some ⟨g, 0, none⟩), .int .i32 k] w fun e w' => e = .returned (.bool (skB c r)) ∧ Rdr g (skR c r) ov w' ∧ Kpt (fun b => b = g) w w' := by
  subst hk
  have c1 := decodeRune_w (bs r) w hT
  obtain ⟨x, hx⟩ : ∃ x, (Lib.decodeGo (bs r)).1 = x := ⟨_, rfl⟩
  obtain ⟨n, hn⟩ : ∃ n, (Lib.decodeGo (bs r)).2 = n := ⟨_, rfl⟩
  have his := dec_is r c hc
  have hone := dec_one r c hc
  rw [hx, hn] at c1
  rw [hx] at his
  rw [hn] at hone
  obtain ⟨y0, y1, f0, f1⟩ := h.cells
  have hH := hid h
  clear h hT hx hn
  by_cases hcx : x = c.toNat
  · have hr := his.1 hcx
    have hb : skB c r = true := by unfold skB; simp [hr]
    have hq : skR c r = r.tail := by unfold skR; rw [if_pos hr]
    rw [hb, hq]
    have h1 := hone hr
    subst h1
    have hne : ((x : Int) != (c.toNat : Int)) = false := by simp [hcx]
    clear his hone hb hq
    have hrn : 1 ≤ (bs r).size := by
      rw [bs_size]
      cases r with
      | nil => simp at hr
      | cons b t => simp
    have hrz : (1 : Int) ≤ ((bs r).size : Int) := by omega
    have hex : (bs r).extract 1 (bs r).size = bs r.tail := by
      cases r with
      | nil => simp at hr
      | cons b t =>
        apply ByteArray.ext
        rw [bs_size]
        simp [bs]
    go_enter Tryz.func53, Tryz.ntmps53
    go_wp2_with fail
    refine c1.mono ?_
    rintro e w1 ⟨rfl, b1⟩
    have h1 := hH.out.below b1
    obtain ⟨z0, z1, g0, g1⟩ := h1.cells
    have hK := hid ((Kpt.of_below (F := fun b => b = g) b1).trans (Kpt.of_set (F := fun b => b = g) w1 (p := ⟨g, 0, none⟩) rfl (.string (bs r.tail))))
    have hR := hid (h1.set0 r.tail)
    clear h1
    go_wp2
    go_ret
    exact ⟨rfl, hR.out, hK.out⟩
  · have hr : ¬ r.head? = some c := fun h => hcx (his.2 h)
    have hb : skB c r = false := by unfold skB; simp [hr]
    have hq : skR c r = r := by unfold skR; rw [if_neg hr]
    rw [hb, hq]
    have hne : ((x : Int) != (c.toNat : Int)) = true := by
      have : (x : Int) ≠ (c.toNat : Int) := by omega
      simp [this]
    clear his hone hb hq hr hcx
    go_enter Tryz.func53, Tryz.ntmps53
    go_wp2_with fail
    refine c1.mono ?_
    rintro e w1 ⟨rfl, b1⟩
    have hR := hid (hH.out.below b1)
    have hK := hid (Kpt.of_below (F := fun b => b = g) b1)
    go_wp2
    go_ret
    exact ⟨rfl, hR.out, hK.out⟩
def digB (x : UInt8) : Bool := decide (48 ≤ x.toNat) && decide (x.toNat ≤ 57)
end Go.Proofs.YtjacoodfhkaioabGreatDoor
namespace Go.Proofs.YtjacoodfhkaioabGreatDoor
open Go.ChangeShapes Go.WideShapes Go.ChangeAt Go.RowKit Go.Shelf
set_option linter.unusedSimpArgs false
set_option linter.unusedVariables false
set_option maxRecDepth 2000

def digX (x : Nat) : Bool := decide (48 ≤ x) && decide (x ≤ 57)
theorem tdigit_w (x : Nat) (w : World) : Calls Tryz.prog 61 #[.int .i32 (x : Int)] w fun e w' => e = .returned (.bool (digX x)) ∧ w' = w := by
  go_enter Tryz.func61, Tryz.ntmps61
  go_wp2
  all_goals go_ret
  all_goals (refine ⟨?_, rfl⟩; first | (simp [digX]; done) | (simp [digX]; omega) | (simp [digX]; rw [Bool.eq_iff_iff]; simp; omega))
theorem bs_list (r : List UInt8) : (bs r).data.toList = r := by simp [bs]
theorem dec_at {r : List UInt8} {pos : Nat} {b : UInt8} (h : r[pos]? = some b) : digX (Utf8.decode (bs r) pos).1 = digB b ∧ (digB b = true → (Utf8.decode (bs r) pos).2 = 1) := by
  have hj := (List.getElem?_eq_some_iff.1 h).1
  have hd : r.drop pos = b :: r.drop (pos + 1) := by
    rw [List.drop_eq_getElem_cons hj]
    rw [List.getElem?_eq_getElem hj] at h
    injection h with h
    rw [h]
  have e : Utf8.decode (bs r) pos = Lib.decodeL (b :: r.drop (pos + 1)) := by rw [← Lib.decodeL_drop, bs_list, hd]
  rw [e]
  by_cases hb : b.toNat < 128
  · rw [Lib.decodeL_ascii _ _ hb]
    exact ⟨rfl, fun _ => rfl⟩
  · have := dec_hi b (r.drop (pos + 1)) hb
    have h1 : digB b = false := by simp [digB]; omega
    refine ⟨?_, fun h => by rw [h1] at h; cases h⟩
    rw [h1]
    simp [digX]; omega
theorem tw_at {r : List UInt8} {pos : Nat} (h : (r.take pos).all digB = true) (hn : ∀ b, r[pos]? = some b → digB b = false) : r.takeWhile digB = r.take pos ∧ r.dropWhile digB = r.drop pos := by
  induction r generalizing pos with
  | nil => simp
  | cons x t ih =>
    cases pos with
    | zero =>
      have := hn x rfl
      simp [List.takeWhile, List.dropWhile, this]
    | succ pos =>
      simp only [List.take_succ_cons, List.all_cons, Bool.and_eq_true] at h
      have := ih h.2 (fun b hb => hn b (by simpa using hb))
      simp [List.takeWhile, List.dropWhile, h.1, this]
theorem ex_take (r : List UInt8) (n : Nat) : (bs r).extract 0 n = bs (r.take n) := by
  apply ByteArray.ext
  simp [bs]
theorem ex_drop (r : List UInt8) (n : Nat) : (bs r).extract n (bs r).size = bs (r.drop n) := by
  apply ByteArray.ext
  rw [bs_size]
  simp [bs]
  exact List.take_of_length_le (by simp)
set_option maxHeartbeats 2000000 in
theorem digits_w (g : Nat) (r : List UInt8) (ov : Value) (w : World) (hr : r.length ≤ 1000000) (h : Rdr g r ov w) :
    Calls Tryz.prog 86 #[.pointer (some ⟨g, 0, none⟩)] w fun e w' => e = .returned (.string (bs (r.takeWhile digB))) ∧ Rdr g (r.dropWhile digB) ov w' ∧ Kpt (fun b => b = g) w w' := by
  obtain ⟨A, hA⟩ : ∃ A, bs (r.takeWhile digB) = A := ⟨_, rfl⟩
  obtain ⟨B, hB⟩ : ∃ B, r.dropWhile digB = B := ⟨_, rfl⟩
  rw [hA, hB]
  have hAH := hid hA
  have hBH := hid hB
  obtain ⟨y0, y1, f0, f1⟩ := h.cells
  have hH := hid h
  have hsz : (bs r).size = r.length := bs_size r
  have hszH := hid hsz
  have hz0 : ((bs r).size : Int) ≤ 1000000 := by omega
  have hg := h.lt
  clear h hA hB hsz
  go_enter Tryz.func86, Tryz.ntmps86
  go_wp2
  go_loopw [3] (fun sz wr => ∃ (pos : Nat), sz = .int .i64 ((bs r).size : Int) ∧ wr.heap[w.heap.size]? = some (.stringIter (bs r) pos) ∧ Below w.heap.size w wr ∧ Hid ((r.take pos).all digB = true)) (fun _ wr => (bs r).size - wr.iterPos w.heap.size)
  case atStart => exact ⟨0, rfl, (iter_fresh (Below.refl _ w) (bs r)).1, (iter_fresh (Below.refl _ w) (bs r)).2, hid (by simp)⟩
  case round =>
    obtain ⟨pos, rfl, hit, hbw, hP⟩ := hrel
    have hRw := hH.out.below hbw
    clear y0 y1 f0 f1
    obtain ⟨y0, y1, f0, f1⟩ := hRw.cells
    by_cases hp : pos < (bs r).size
    · have hnx : ∀ ty, (Instr.next (.pointer (some ⟨w.heap.size, 0, none⟩)) true ty).run Tryz.prog wr = _ := fun ty => Lib.run_next_any_at wr w.heap.size (bs r) pos ty hit hp
      have hwd := Lib.width_pos (bs r) pos
      have hit2 := Lib.iterAt_heap wr w.heap.size (bs r) pos (pos + (Utf8.decode (bs r) pos).2) hit
      have hbw2 := Lib.below_iterAt hbw (k := w.heap.size) (Nat.le_refl _) (bs r) (pos + (Utf8.decode (bs r) pos).2)
      obtain ⟨b, hb⟩ : ∃ b, r[pos]? = some b := ⟨r[pos]'(by rw [← hszH.out]; exact hp), by simp⟩
      obtain ⟨d1, d2⟩ := dec_at hb
      cases hdb : digB b with
      | true =>
        have d3 := hid (d2 hdb)
        clear d2
        go_wp2_with (go_at_call 61; refine (tdigit_w _ _).mono ?_; rw [d1, hdb]; rintro e w1 ⟨rfl, rfl⟩)
        go_roundw
        case rel =>
          refine ⟨pos + (Utf8.decode (bs r) pos).2, rfl, hit2, hbw2, hid ?_⟩
          rw [d3.out, List.take_add_one, hb]
          rw [List.all_append, hP.out]
          simp [hdb]
        case measure =>
          simp only [World.iterPos, hit2, hit]
          omega
      | false =>
        obtain ⟨t1, t2⟩ := tw_at hP.out (fun b' hb' => by rw [hb] at hb'; injection hb' with e; rw [← e]; exact hdb)
        have q1 : (bs r).extract 0 pos = A := by rw [ex_take, ← t1, hAH.out]
        have q2 : (bs r).extract pos (bs r).size = bs B := by rw [ex_drop, ← t2, hBH.out]
        have hpz : (pos : Int) ≤ ((bs r).size : Int) := by omega
        have hR2 := hH.out.below hbw2
        obtain ⟨z0, z1, g0, g1⟩ := hR2.cells
        have hRR := hid (hR2.set0 B)
        have hKK := hid ((Kpt.of_below (F := fun b => b = g) hbw2).trans (Kpt.of_set (F := fun b => b = g) _ (p := ⟨g, 0, none⟩) rfl (.string (bs B))))
        clear d2 t1 t2 hR2
        go_wp2_with (go_at_call 61; refine (tdigit_w _ _).mono ?_; rw [d1, hdb]; rintro e w1 ⟨rfl, rfl⟩)
        go_ret
        exact ⟨rfl, hRR.out, hKK.out⟩
    · have hnx : ∀ ty, (Instr.next (.pointer (some ⟨w.heap.size, 0, none⟩)) true ty).run Tryz.prog wr = _ := fun ty => Lib.run_next_end_at wr w.heap.size (bs r) pos ty hit hp
      have hall : r.all digB = true := by
        have := hP.out
        rw [List.take_of_length_le (by have := hszH.out; omega)] at this
        exact this
      obtain ⟨u1, u2⟩ := tw_at (pos := r.length) (r := r) (by rw [List.take_length]; exact hall) (fun b hb => by simp at hb)
      have q1 : (bs r).extract 0 (bs r).size = A := by rw [ex_take, hszH.out, ← u1, hAH.out]
      have q2 : (bs r).extract (bs r).size (bs r).size = bs B := by rw [ex_drop, hszH.out, ← u2, hBH.out]
      have hBe : bs B = ByteArray.empty := by
        rw [← q2]
        apply ByteArray.ext
        simp
      have hRR : Hid (Rdr g B ov (wr.setCell ⟨g, 0, none⟩ (.string ByteArray.empty))) := hid (by rw [← hBe]; exact hRw.set0 B)
      have hKK := hid ((Kpt.of_below (F := fun b => b = g) hbw).trans (Kpt.of_set (F := fun b => b = g) _ (p := ⟨g, 0, none⟩) rfl (.string ByteArray.empty)))
      clear hBe
      clear u1 u2 hRw
      go_wp2
      go_ret
      exact ⟨rfl, hRR.out, hKK.out⟩
end Go.Proofs.YtjacoodfhkaioabGreatDoor
namespace Go.Proofs.YtjacoodfhkaioabGreatDoor
open Go.ChangeShapes Go.WideShapes Go.ChangeAt Go.RowKit
set_option linter.unusedSimpArgs false
set_option linter.unusedVariables false
set_option maxRecDepth 2000
/-- limbs that are worth n, wherever they lie -/
def SlV (v : Value) (n K : Nat) (w : World) : Prop := ∃ (o : Option Addr) (l : List Nat) (c z : Nat), v = .slice o z c ∧ z = l.length ∧ Lies o l w ∧ l.length ≤ c ∧ Lm 4294967296 l ∧ gval 4294967296 l = n ∧ l.length ≤ K
theorem SlV.isN {v : Value} {n K : Nat} {w : World} (h : SlV v n K w) (s : Bool) : IsN (.agg #[.bool s, v]) (sv s n) K w := by
  obtain ⟨o, l, c, z, rfl, rfl, h1, h2, h3, h4, h5⟩ := h
  exact ⟨s, o, l, c, rfl, h1, h2, h3, by rw [h4], h5⟩
theorem SlV.below {v : Value} {n K : Nat} {w w' : World} (h : SlV v n K w) (hb : Below w.heap.size w w') : SlV v n K w' := by
  obtain ⟨o, l, c, z, rfl, rfl, h1, rest⟩ := h
  exact ⟨o, l, c, _, rfl, rfl, h1.below hb, rest⟩
theorem Fr.slv {B : Nat} {v : Value} {l : List Nat} {w : World} {n K : Nat} (h : Fr B v l w) (hm : Lm 4294967296 l) (hn : gval 4294967296 l = n) (hK : l.length ≤ K) : SlV v n K w := by
  obtain ⟨o, c, rfl, h1, h2, _⟩ := h.parts
  exact ⟨o, l, c, _, rfl, rfl, h1, h2, hm, hn, hK⟩
theorem Fr.put {B g c n : Nat} {l : List Nat} {w : World} (h : Fr B (.slice (some ⟨g, 0, none⟩) n c) l w) {j : Nat} (x : Nat) (hj : j < l.length) : Fr B (.slice (some ⟨g, 0, none⟩) n c) (l.set j x) (w.setCell ⟨g, j, none⟩ (.int .u32 (x : Int))) := by
  rcases h.2 with ⟨hv, h0⟩ | ⟨g', cap, cur, hv, hb, hg, hnc, hcm, hcs, htake⟩
  · simp at hv
  · simp only [Value.slice.injEq, Option.some.injEq, Addr.mk.injEq, and_true] at hv
    obtain ⟨rfl, rfl, rfl⟩ := hv
    refine ⟨by simp, .inr ⟨g, c, cur.setIfInBounds j (.int .u32 (x : Int)), by simp, hb, ?_, by simpa using hnc, hcm, by simpa using hcs, ?_⟩⟩
    · simp [World.setCell, Array.getElem?_modify, hg]
    · rw [Array.toList_setIfInBounds, List.length_set, List.map_set, List.take_set, htake]
theorem glim_of_len {l : List Nat} (hm : Lm 4294967296 l) (h : l.length ≤ (glim 4294967296 (gval 4294967296 l)).length) : glim 4294967296 (gval 4294967296 l) = l := by
  obtain ⟨k, hk, e⟩ := glim_is_take hm
  rw [e] at h ⊢
  rw [List.length_take] at h
  exact List.take_of_length_le (by omega)
theorem grown_end {n d : Nat} {L : List Nat} (hm : Lm 4294967296 L) (hl : L.length = (glim 4294967296 n).length) (hv : gval 4294967296 L = n * 10 + d) : glim 4294967296 (n * 10 + d) = L := by
  rw [← hv]
  refine glim_of_len hm ?_
  rw [hv, hl]
  refine Nat.le_of_not_lt fun h => ?_
  have := glim_len_lt (by omega) h
  omega
theorem grown_more {n c d : Nat} {L : List Nat} (hm : Lm 4294967296 L) (hc : c < 4294967296) (hc0 : 0 < c) (hl : L.length = (glim 4294967296 n).length) (hv : gval 4294967296 L + 4294967296 ^ L.length * c = n * 10 + d) : glim 4294967296 (n * 10 + d) = L ++ [c] := by
  have e : gval 4294967296 (L ++ [c]) = n * 10 + d := by rw [gval_append]; simpa [gval] using hv
  rw [← e]
  refine glim_canon (by omega) (hm.append (Lm.cons hc (Lm.nil _))) fun x hx => ?_
  simp at hx; omega
theorem grow_step {P S T c x t d : Nat} (ht : c + x * 10 = t) (h : S + P * c = T * 10 + d) : S + P * (t % 4294967296) + P * 4294967296 * (t / 4294967296) = (T + P * x) * 10 + d := by
  have e2 : P * t = P * (t % 4294967296) + P * 4294967296 * (t / 4294967296) := by
    rw [Nat.mul_assoc, ← Nat.mul_add, Nat.mod_add_div]
  have e : P * t = P * c + P * (x * 10) := by rw [← ht, Nat.mul_add]
  rw [Nat.add_mul, Nat.mul_assoc P x 10]; omega
set_option maxHeartbeats 1000000 in
theorem grown_w (B n d : Nat) (v : Value) (w : World) (hd : d < 10) (hF : Fr B v (glim 4294967296 n) w) (hlen : (glim 4294967296 n).length ≤ 1000000) (hBw : B ≤ w.heap.size) :
    Calls Tryz.prog 106 #[v, .int .u32 10, .int .u32 (d : Int)] w fun e w' => ∃ v', e = .returned v' ∧ Fr B v' (glim 4294967296 (n * 10 + d)) w' ∧ Below B w w' := by
  obtain ⟨i0, hi, hy0, hy1, hy2⟩ := info_parts info32u
  have hm := lm_glim (b := 4294967296) (by omega) n
  have hv := gval_glim (b := 4294967296) (by omega) n
  rcases hF.shape with ⟨rfl, h2⟩ | ⟨g, c, rfl⟩
  · have hn0 : n = 0 := (glim_nil (by omega)).1 h2
    subst hn0
    rw [Nat.zero_mul, Nat.zero_add]
    have hgd : 0 < d → glim 4294967296 d = [d] := fun h => by
      have := glim_canon (b := 4294967296) (by omega) (l := [d]) (Lm.cons (by omega) (Lm.nil _)) (fun x hx => by simp at hx; omega)
      simpa [gval] using this
    have hgd' := hid hgd
    clear hgd hv hm h2
    have wd : IntKind.u64.wrap (d : Int) = (d : Int) := by rw [IntKind.wrap_u64]; omega
    have wd2 : IntKind.u32.wrap (d : Int) = (d : Int) := by rw [IntKind.wrap_u32]; omega
    go_enter Tryz.func106, Tryz.ntmps106
    go_wp2
    go_loopw [7, 14] (fun cv iv wr => cv = .int .u64 (d : Int) ∧ iv = .int .i64 0 ∧ wr = w) (fun _ _ _ => 0)
    case atStart => exact ⟨rfl, rfl, rfl⟩
    case round =>
      obtain ⟨rfl, rfl, rfl⟩ := hrel
      by_cases hd0 : d = 0
      · subst hd0
        go_wp2
        go_ret
        exact ⟨_, rfl, by rw [glim_zero]; exact Fr.nil _ _, Below.refl _ _⟩
      · have hdp : (0 : Int) < (d : Int) := by omega
        have hN : wr.ownsRow B 104 1 (.slice none 0 0) 0 [] := World.ownsRow_nil _ _ _ _
        go_wp2_with (at_builtin; refine wpList_append_own _ rfl _ _ 22 rfl B 104 i0 (.int .u32 0) 1 4 Tryz.underlying22 hi hy0 hy1 hy2 rfl (by decide) _ _ _ rfl (World.ownsRow.alloc hN _) ⟨wr.heap.size, 0, none⟩ 1 1 [.int .u32 (d : Int)] rfl rfl ?c1 ?c2 ?c3 ?c4 ?c5 ?_)
        first
          | (case c1 =>
              intro j u hj
              match j, hj with
              | 0, hj => simp at hj; subst hj; simp [Addr.add]
              | j + 1, hj => simp at hj)
          | skip
        case c2 => first | rfl | (intro u hu; simp at hu; subst hu; rfl)
        case c3 => unfold maxLen; omega
        case c4 => omega
        case c5 => first | omega | (simp; omega)
        intro v' w2 hown' hgrow _
        have hB2 : Below B wr w2 := ((Below.refl B wr).alloc hBw _).grown hgrow (by simp; omega) (fun q hq => by simp [Value.ownBlock] at hq)
        go_wp2
        go_ret
        refine ⟨v', rfl, ?_, hB2⟩
        rw [hgd'.out (by omega)]
        unfold Fr
        simpa using hown'
  · obtain ⟨hgB, hgw, hOwn, hlc⟩ := hF.own
    have wd : IntKind.u64.wrap (d : Int) = (d : Int) := by rw [IntKind.wrap_u64]; omega
    have hlc' := hlc
    obtain ⟨A, hA⟩ : ∃ A, glim 4294967296 n = A := ⟨_, rfl⟩
    obtain ⟨G, hG⟩ : ∃ G, glim 4294967296 (n * 10 + d) = G := ⟨_, rfl⟩
    have hge := fun (L : List Nat) => grown_end (n := n) (d := d) (L := L)
    have hgm := fun (L : List Nat) (c : Nat) => grown_more (n := n) (d := d) (c := c) (L := L)
    rw [hA] at hF hlen hm hv hOwn hlc hlc' hge hgm ⊢
    rw [hG] at hge hgm ⊢
    have hge' := hid hge
    have hgm' := hid hgm
    have hv' := hid hv
    clear hA hG hge hgm hv
    go_enter Tryz.func106, Tryz.ntmps106
    go_wp2
    go_loopw [7, 14] (fun cv iv wr => ∃ (k cn : Nat) (L : List Nat), cv = .int .u64 (cn : Int) ∧ iv = .int .i64 (k : Int) ∧ k ≤ A.length ∧ cn < 4294967296 ∧ Fr B (.slice (some ⟨g, 0, none⟩) A.length c) L wr ∧ L.length = A.length ∧ Lm 4294967296 L ∧ Below B w wr ∧ Hid (∀ j, k ≤ j → L[j]? = A[j]?) ∧ Hid (gval 4294967296 (L.take k) + 4294967296 ^ k * cn = gval 4294967296 (A.take k) * 10 + d)) (fun _ iv _ => A.length - (intOf iv).toNat)
    case atStart => exact ⟨0, d, A, rfl, rfl, by omega, by omega, hF, rfl, hm, Below.refl _ _, hid fun _ _ => rfl, hid (by simp [gval])⟩
    case round =>
      obtain ⟨k, cn, L, rfl, rfl, hk, hcn, hFL, hLl, hLm, hbw, hJ, hH⟩ := hrel
      obtain ⟨_, hgw2, hOL, _⟩ := hFL.own
      by_cases h1 : k < A.length
      · have h1z : (k : Int) < (A.length : Int) := by omega
        obtain ⟨x, hx⟩ : ∃ x, A[k]? = some x := ⟨A[k], by simp [h1]⟩
        have hxm := hm.at hx
        have hxL : L[k]? = some x := by rw [hJ.out k (Nat.le_refl _), hx]
        have cx := hOL.1 k x hxL
        have fx := hOL.2 k
        obtain ⟨xt, hxt⟩ : ∃ xt, x * 10 = xt := ⟨_, rfl⟩
        obtain ⟨t, ht⟩ : ∃ t, cn + xt = t := ⟨_, rfl⟩
        have w1 : IntKind.u64.wrap ((x : Int) * 10) = (xt : Int) := by rw [IntKind.wrap_u64]; omega
        have w2 : IntKind.u64.wrap ((cn : Int) + (xt : Int)) = (t : Int) := by rw [IntKind.wrap_u64]; omega
        have w3 : IntKind.u32.wrap (t : Int) = ((t % 4294967296 : Nat) : Int) := by rw [IntKind.wrap_u32]; omega
        have htm : t / 4294967296 < 4294967296 := by omega
        have hstep := hid (grow_step (x := x) (t := t) (by rw [hxt]; exact ht) hH.out)
        clear hxt ht hxL
        go_wp2
        go_roundw
        case rel =>
          refine ⟨k + 1, t / 4294967296, L.set k (t % 4294967296), by congr 1, by go_num, by omega, htm, hFL.put _ (by omega), by simp [hLl], hLm.set _ _ (Nat.mod_lt _ (by omega)), hbw.setCell (p := ⟨g, k, none⟩) hgB _, hid fun j hj => ?_, hid ?_⟩
          · rw [List.getElem?_set_ne (by omega)]; exact hJ.out j (by omega)
          · rw [gval_set_take _ _ (by omega), gval_take_succ _ hx, pow_step]
            exact hstep.out
        case measure => simp [intOf]; omega
      · have h1z : ¬ (k : Int) < (A.length : Int) := by omega
        have hke : k = A.length := by omega
        subst hke
        have hh := hH.out
        rw [List.take_of_length_le (by omega), List.take_length, hv'.out] at hh
        have hbz := hbw.size
        by_cases hc0 : cn = 0
        · subst hc0
          have hGe := hge'.out L hLm hLl (by omega)
          have hGe' := hid hGe
          clear hH hJ hh hge' hgm' hGe
          go_wp2
          go_ret
          exact ⟨_, rfl, by rw [hGe'.out]; exact hFL, hbw⟩
        · have hcp : (0 : Int) < (cn : Int) := by omega
          have hGe := hgm'.out L cn hLm hcn (by omega) hLl (by rw [hLl]; exact hh)
          have hGe' := hid hGe
          have wc : IntKind.u32.wrap (cn : Int) = (cn : Int) := by rw [IntKind.wrap_u32]; omega
          have hFL' : wr.ownsRow B 104 1 (.slice (some ⟨g, 0, none⟩) A.length c) A.length (L.map fun (x : Nat) => Value.int .u32 (x : Int)) := by
            have := hFL; unfold Fr at this; rw [hLl] at this; exact this
          clear hH hJ hh hge' hgm' hGe
          go_wp2_with (at_builtin; refine wpList_append_own _ rfl _ _ 22 rfl B 104 i0 (.int .u32 0) 1 4 Tryz.underlying22 hi hy0 hy1 hy2 rfl (by decide) _ _ _ rfl (World.ownsRow.alloc hFL' _) ⟨wr.heap.size, 0, none⟩ 1 1 [.int .u32 (cn : Int)] rfl rfl ?c1 ?c2 ?c3 ?c4 ?c5 ?_)
          first
            | (case c1 =>
                intro j u hj
                match j, hj with
                | 0, hj => simp at hj; subst hj; simp [Addr.add]
                | j + 1, hj => simp at hj)
            | skip
          case c2 => first | rfl | (intro u hu; simp at hu; subst hu; rfl)
          case c3 => unfold maxLen; omega
          case c4 => omega
          case c5 => first | omega | (simp; omega)
          intro v' w2 hown' hgrow _
          have hB2 : Below B w w2 := (hbw.alloc (by omega) _).grown hgrow (by simp; omega) (fun q hq => by simp only [Value.ownBlock, Option.some.injEq] at hq; omega)
          go_wp2
          go_ret
          refine ⟨v', rfl, ?_, hB2⟩
          rw [hGe'.out]
          unfold Fr
          have el : (L ++ [cn]).length = A.length + 1 := by simp [hLl]
          rw [el, List.map_append]
          exact hown'
end Go.Proofs.YtjacoodfhkaioabGreatDoor
