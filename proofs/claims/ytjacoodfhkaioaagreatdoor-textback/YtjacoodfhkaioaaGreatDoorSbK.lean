/- Texts of mine, one behind the other: TextNext, TextPrint, BigRShort, RunesReverse, RunesLess, RunesRLess, RunesRQuote, TextShowM. -/
import Derived.Test.YtjacoodfhkaioaaGreatDoorSbJ
import Derived.Laws.IdiomStrings
import Derived.Test.YtjacoodfhkaioaaGreatDoorSbC
import Derived.Laws.Concat
import Derived.Test.YtjacoodfhkaioaaGreatDoorSbE
import Derived.Deep.OwnRows
import Derived.Lib.RuneCountTail
import Derived.Deep.QuietTactic
import Derived.BigQuiet
import Derived.Laws.Cover4
namespace Go.Proofs.YtjacoodfhkaioaaGreatDoor
open Go.ChangeShapes Go.WideShapes Go.ChangeAt Go.RowKit Go.Shelf
set_option linter.unusedSimpArgs false
set_option linter.unusedVariables false
set_option maxRecDepth 2000

set_option maxHeartbeats 2000000 in
theorem pbehind_w (w0 : World) (g : Nat) (o : List UInt8) (ps : List Pc) (T : Tm) (v : Value) (w : World) (h : PrnP w0 g o ps w) (hT : TV (Low w0) w0 T v)
    (hok : okXs T) (hpo : ∀ p ∈ ps, okPc p) (hwk : works (.tl T :: ps) ≤ 100000000) (ho : o.length ≤ 100000000) :
    Calls Tryz.prog 40 #[.pointer (some ⟨g, 0, none⟩), v] w fun e w' => e = .returned (.tuple #[]) ∧ Went w0 g o (.tl T :: ps) w' := by
  have hT0 := hT
  cases T with | mk k neg d nm n l b =>
  unfold TV at hT
  obtain ⟨od, cd, ol, cl, ob, cb, rfl, hLd, hcd, hLm, hLb, hcb, hcl, hTR⟩ := hT
  obtain ⟨k0, k7, x0, xn, x23, x4, x6, x7⟩ := hok.self
  have hps := works_len ps
  have hwk2 : ps.length ≤ 100000000 := by simp only [works] at hwk; omega
  have hT0H := hid hT0
  clear hT0 x0 x23 x4 x7 hTR hLd hLm hLb
  unfold tmV
  obtain ⟨W, hW⟩ : ∃ W, W = w.alloc (.cells #[.int .i64 k, .bool neg, .slice od d.length cd, .string nm, .int .i64 n, .slice ol l.length cl, .slice ob b.length cb] 27) := ⟨_, rfl⟩
  have bW : Below w.heap.size w W := by rw [hW]; exact (Below.refl _ w).alloc (Nat.le_refl _) _
  have hgW : W.heap[w.heap.size]? = some (.cells #[.int .i64 k, .bool neg, .slice od d.length cd, .string nm, .int .i64 n, .slice ol l.length cl, .slice ob b.length cb] 27 (0, 0)) := by rw [hW]; exact heap_alloc_new w _
  have hPW := h.later bW
  obtain ⟨y0, y1, y2, y3, y4, y5, y6⟩ := cell7 hgW
  have hPWH := hid hPW
  have hgWH := hid hgW
  clear h hgW hPW
  by_cases h6 : k = 6
  · subst h6
    obtain ⟨H, T, rfl⟩ := pair_of (x6 rfl)
    have hkids : ∀ t ∈ [H, T], okXs t := fun t ht => hok.kid ht
    have hpl : (parts (.mk 6 neg d nm n [H, T] b)).length = 1 + (partsL [H, T]).length := kids_mem rfl
    have hfin : ∀ w', PrnP w0 g (o ++ [44]) (.tm H :: .tl T :: ps) w' → Went w0 g o (.tl (.mk 6 neg d nm n [H, T] b) :: ps) w' := by
      intro w' hp
      refine ⟨_, _, hp, ?_, ?_, ?_, by simp⟩
      · simp only [rem, Pc.text]
        rw [tb_cons]
        simp
      · have h1 := parts_pos H
        have h2 := parts_pos T
        have e : (partsL [H, T]).length = (parts H).length + (parts T).length := by simp [partsL]
        simp only [works, Pc.work]; omega
      · intro p hp
        rcases List.mem_cons.1 hp with rfl | hp
        · exact hkids H (by simp)
        · rcases List.mem_cons.1 hp with rfl | hp
          · exact hkids T (by simp)
          · exact hpo p hp
    have hfinH := hid hfin
    have c1 := psign_w w0 g o ps 44 (by decide) W hPWH.out (by omega)
    simp only [List.length_cons, List.length_nil, Nat.zero_add, Nat.reduceAdd] at hW hgWH
    clear x6 hfin hpl hkids
    go_enter Tryz.func40, Tryz.ntmps40
    go_upto_region 1 with fail
    rw [← hW]
    clear hW
    go_wp2_with fail
    refine c1.mono ?_
    rintro e w1 ⟨rfl, h1, k1⟩
    obtain ⟨y0, y1, y2, y3, y4, y5, y6⟩ := cell7 (k1.cell hgWH.out (by decide) (by decide) (by decide))
    have c2 := pcons_w w0 g _ ps neg d nm n H T b _ w1 h1 hT0H.out (by omega)
    unfold tmV at c2
    simp only [List.length_cons, List.length_nil, Nat.zero_add, Nat.reduceAdd] at c2
    clear c1 h1
    go_wp2_with fail
    refine c2.mono ?_
    rintro e w2 ⟨rfl, h2, k2⟩
    have hqH := hid (hfinH.out w2 h2)
    clear c2 h2
    go_wp2
    all_goals go_returns
    all_goals exact ⟨rfl, hqH.out⟩
  · by_cases h5 : k = 5
    · subst h5
      have hfin : ∀ w', PrnP w0 g (o ++ [93]) ps w' → Went w0 g o (.tl (.mk 5 neg d nm n l b) :: ps) w' := by
        intro w' hp
        refine ⟨_, _, hp, ?_, ?_, hpo, by simp⟩
        · simp only [rem, Pc.text]
          rw [tb_nil]
          simp
        · have h1 := parts_pos (.mk 5 neg d nm n l b)
          simp only [works, Pc.work]; omega
      have hfinH := hid hfin
      have c1 := psign_w w0 g o ps 93 (by decide) W hPWH.out (by omega)
      clear x6 hfin h6
      go_enter Tryz.func40, Tryz.ntmps40
      go_upto_region 1 with fail
      rw [← hW]
      clear hW
      go_wp2_with fail
      refine c1.mono ?_
      rintro e w1 ⟨rfl, h1, k1⟩
      have hqH := hid (hfinH.out w1 h1)
      clear c1 h1
      go_wp2
      all_goals go_returns
      all_goals exact ⟨rfl, hqH.out⟩
    · have h6b : (k == 6) = false := by simpa using h6
      have h5b : (k == 5) = false := by simpa using h5
      have hfin : ∀ w', PrnP w0 g (o ++ [124]) (.tm (.mk k neg d nm n l b) :: .mk 93 :: ps) w' → Went w0 g o (.tl (.mk k neg d nm n l b) :: ps) w' := by
        intro w' hp
        refine ⟨_, _, hp, ?_, ?_, ?_, by simp⟩
        · simp only [rem, Pc.text]
          rw [tb_other (T := .mk k neg d nm n l b) h5 h6]
          simp
        · have h1 := parts_pos (.mk k neg d nm n l b)
          simp only [works, Pc.work]; omega
        · intro p hp
          rcases List.mem_cons.1 hp with rfl | hp
          · exact hok
          · rcases List.mem_cons.1 hp with rfl | hp
            · show 93 < 128; decide
            · exact hpo p hp
      have hfinH := hid hfin
      have c1 := psign_w w0 g o ps 124 (by decide) W hPWH.out (by omega)
      clear x6 hfin h6 h5
      go_enter Tryz.func40, Tryz.ntmps40
      go_upto_region 1 with fail
      rw [← hW]
      clear hW
      go_wp2_with fail
      refine c1.mono ?_
      rintro e w1 ⟨rfl, h1, k1⟩
      have c2 := pwait_w w0 g _ ps (.mk 93) (.iface 75 (.int .i32 93)) w1 h1 rfl (by omega)
      have hgw1 := hid (k1.cell hgWH.out (by decide) (by decide) (by decide))
      clear c1 h1
      go_wp2_with fail
      refine c2.mono ?_
      rintro e w2 ⟨rfl, h2, k2⟩
      obtain ⟨y0, y1, y2, y3, y4, y5, y6⟩ := cell7 (k2.cell hgw1.out (by decide) (by decide) (by decide))
      have c3 := pwait_w w0 g _ (.mk 93 :: ps) (.tm (.mk k neg d nm n l b)) (.iface 27 (tmV k neg (.slice od d.length cd) nm n (.slice ol l.length cl) (.slice ob b.length cb))) w2 h2 ⟨_, rfl, hT0H.out⟩ (by simp; omega)
      unfold tmV at c3
      clear c2 h2
      go_wp2_with fail
      refine c3.mono ?_
      rintro e w3 ⟨rfl, h3, k3⟩
      have hqH := hid (hfinH.out w3 h3)
      clear c3 h3
      go_wp2
      all_goals go_returns
      all_goals exact ⟨rfl, hqH.out⟩
abbrev z7 : Value := .agg #[.int .i64 0, .bool false, .slice none 0 0, .string noS, .int .i64 0, .slice none 0 0, .slice none 0 0]
theorem as_mm (x : Value) (w : World) : (Instr.typeAssert (.iface 75 x) 67 75 true).run Tryz.prog w = .ok (.tuple #[x, .bool true]) w := by kernel_rfl
theorem as_tm (x : Value) (w : World) : (Instr.typeAssert (.iface 79 x) 67 75 true).run Tryz.prog w = .ok (.tuple #[.int .i32 0, .bool false]) w := by kernel_rfl
theorem as_tt (x : Value) (w : World) : (Instr.typeAssert (.iface 79 x) 67 79 true).run Tryz.prog w = .ok (.tuple #[x, .bool true]) w := by kernel_rfl
theorem as_em (x : Value) (w : World) : (Instr.typeAssert (.iface 27 x) 67 75 true).run Tryz.prog w = .ok (.tuple #[.int .i32 0, .bool false]) w := by kernel_rfl
theorem as_et (x : Value) (w : World) : (Instr.typeAssert (.iface 27 x) 67 79 true).run Tryz.prog w = .ok (.tuple #[z7, .bool false]) w := by kernel_rfl
theorem as_ee (x : Value) (w : World) : (Instr.typeAssert (.iface 27 x) 67 27 true).run Tryz.prog w = .ok (.tuple #[x, .bool true]) w := by kernel_rfl
theorem own_cut {w : World} {B : Nat} {e : TypeId} {q c m k : Nat} {xs ys : List Value} (h : w.ownsRow B e 1 (.slice (some ⟨q, 0, none⟩) m c) m (xs ++ ys)) (hk : k = xs.length) : w.ownsRow B e 1 (.slice (some ⟨q, 0, none⟩) k c) k xs := by
  obtain ⟨h1, ⟨e1, _⟩ | ⟨g, cap, cur, e1, hg, hc, hn, hm, hs, ht⟩⟩ := h
  · cases e1
  · cases e1
    rw [List.length_append, Nat.mul_one] at h1
    refine ⟨by omega, .inr ⟨q, c, cur, rfl, hg, hc, by omega, hm, hs, ?_⟩⟩
    rw [Nat.mul_one] at ht ⊢
    have : cur.toList.take k = (cur.toList.take m).take k := by rw [List.take_take]; congr 1; omega
    rw [this, ht, hk]
    exact List.take_left
theorem prn_top {w0 : World} {g : Nat} {o : List UInt8} {p : Pc} {ps : List Pc} {w : World} (h : PrnP w0 g o (p :: ps) w) :
    ∃ v q c m, PcV w0 p v ∧ w.cell? ⟨g, 1, none⟩ = some (.slice (some ⟨q, 0, none⟩) (m + 1) c) ∧ w.frozen? ⟨g, 1, none⟩ = false ∧ w.cell? ⟨q, m, none⟩ = some v ∧ m + 1 ≤ c ∧ m = ps.length ∧ PrnP w0 g o ps (w.setCell ⟨g, 1, none⟩ (.slice (some ⟨q, 0, none⟩) m c)) := by
  obtain ⟨ov, wv, vs, h⟩ := h
  obtain ⟨c0, c1, f0, f1⟩ := h.cells
  obtain ⟨us, v, rfl, hp, hps⟩ := h.is
  have hl := hps.length
  have hw := h.wait
  rcases hw.2 with ⟨_, h0⟩ | ⟨q, c, cur, e, hq, hc, hn, hm, _⟩
  · simp at h0
  · subst e
    have hcell := hw.cells (g := q) rfl us.length v (by simp)
    rw [addr_add, Nat.zero_add] at hcell
    simp only [List.length_append, List.length_cons, List.length_nil, Nat.zero_add] at c1 hn hw
    refine ⟨v, q, c, us.length, hp, c1, f1, hcell, hn, hl, ov, .slice (some ⟨q, 0, none⟩) us.length c, us, ?_⟩
    exact h.waits (Lib.OthersKept.refl _ _ w) (Below.refl _ w) (own_cut hw rfl) hps
set_option maxHeartbeats 2000000 in
theorem pnext_w (w0 : World) (g : Nat) (o : List UInt8) (p : Pc) (ps : List Pc) (w : World) (h : PrnP w0 g o (p :: ps) w) (hpo : ∀ q ∈ p :: ps, okPc q) (hwk : works (p :: ps) ≤ 100000000) (ho : o.length ≤ 100000000) (hQ : TabsQ w0) (hP : Lib.TabBelow Tryz.prog w0.heap.size w0 "internal/strconv.uint64pow10" .u64 Lib.pow10Tab) :
    Calls Tryz.prog 25 #[.pointer (some ⟨g, 0, none⟩)] w fun e w' => e = .returned (.tuple #[]) ∧ Went w0 g o (p :: ps) w' := by
  obtain ⟨v, q, c, m, hp, c1, f1, hcell, hmc, hm, h2⟩ := prn_top h
  have hpl := works_len (p :: ps)
  have hm8 : m ≤ 100000000 := by simp only [List.length_cons] at hpl; omega
  have hmz : (m : Int) ≤ 100000000 := by omega
  have hmcz : (m : Int) ≤ (c : Int) := by omega
  have hpo2 : ∀ r ∈ ps, okPc r := fun r hr => hpo r (List.mem_cons_of_mem _ hr)
  have h2H := hid h2
  have hmH := hid hm
  clear hm h2 hpl h
  cases p with
  | mk r =>
    have hr : r < 128 := hpo (.mk r) (by simp)
    have hv : v = .iface 75 (.int .i32 (r : Int)) := hp
    subst hv
    have hfin : ∀ w', PrnP w0 g (o ++ [UInt8.ofNat r]) ps w' → Went w0 g o (.mk r :: ps) w' := fun w' hp => ⟨_, _, hp, by simp [rem, Pc.text], by simp only [works, Pc.work]; omega, hpo2, by simp⟩
    have hfinH := hid hfin
    have ha := as_mm (.int .i32 (r : Int))
    have c2 := psign_w w0 g o ps r hr _ h2H.out (by omega)
    clear hfin
    go_enter Tryz.func25, Tryz.ntmps25
    go_wp2_with fail
    refine c2.mono ?_
    rintro e w1 ⟨rfl, h1, k1⟩
    have hqH := hid (hfinH.out w1 h1)
    clear c2 h1
    go_wp2
    all_goals go_returns
    all_goals exact ⟨rfl, hqH.out⟩
  | tl T =>
    obtain ⟨a, rfl, hTV⟩ := hp
    have hTV0 := hTV
    cases T with | mk k neg d nm n l b =>
    unfold TV at hTV0
    obtain ⟨od, cd, ol, cl, ob, cb, rfl, _⟩ := hTV0
    have hok : okXs (.mk k neg d nm n l b) := hpo (.tl (.mk k neg d nm n l b)) (by simp)
    have ha := as_tm (tmV k neg (.slice od d.length cd) nm n (.slice ol l.length cl) (.slice ob b.length cb))
    have hb := as_tt (tmV k neg (.slice od d.length cd) nm n (.slice ol l.length cl) (.slice ob b.length cb))
    unfold tmV at ha hb hcell
    have hTVH := hid hTV
    clear hTV
    go_enter Tryz.func25, Tryz.ntmps25
    go_upto_region 8 with fail
    generalize hV : w.setCell ⟨g, 1, none⟩ (.slice (some ⟨q, 0, none⟩) m c) = V at *
    have hVs : V.heap.size = w.heap.size := by rw [← hV]; simp
    generalize hW : World.alloc V _ = W
    have bW : Below V.heap.size V W := by rw [← hW]; exact (Below.refl _ V).alloc (Nat.le_refl _) _
    have hgW : W.heap[w.heap.size]? = some (.cells #[.int .i64 k, .bool neg, .slice od d.length cd, .string nm, .int .i64 n, .slice ol l.length cl, .slice ob b.length cb] 79 (0, 0)) := by rw [← hW, ← hVs]; exact heap_alloc_new V _
    obtain ⟨y0, y1, y2, y3, y4, y5, y6⟩ := cell7 hgW
    have c2 := pbehind_w w0 g o ps (.mk k neg d nm n l b) _ W (h2H.out.later bW) hTVH.out hok hpo2 hwk ho
    unfold tmV at c2
    clear hgW hW hV bW hVs hcell c1 f1
    go_wp2_with fail
    refine c2.mono ?_
    rintro e w1 ⟨rfl, h1⟩
    have hqH := hid h1
    clear c2 h1
    go_wp2
    all_goals go_returns
    all_goals exact ⟨rfl, hqH.out⟩
  | tm T =>
    obtain ⟨a, rfl, hTV⟩ := hp
    have hTV0 := hTV
    cases T with | mk k neg d nm n l b =>
    unfold TV at hTV0
    obtain ⟨od, cd, ol, cl, ob, cb, rfl, _⟩ := hTV0
    have hok : okXs (.mk k neg d nm n l b) := hpo (.tm (.mk k neg d nm n l b)) (by simp)
    have ha := as_em (tmV k neg (.slice od d.length cd) nm n (.slice ol l.length cl) (.slice ob b.length cb))
    have hb := as_et (tmV k neg (.slice od d.length cd) nm n (.slice ol l.length cl) (.slice ob b.length cb))
    have hc := as_ee (tmV k neg (.slice od d.length cd) nm n (.slice ol l.length cl) (.slice ob b.length cb))
    unfold tmV at ha hb hc hcell
    have hTVH := hid hTV
    clear hTV
    go_enter Tryz.func25, Tryz.ntmps25
    go_upto_region 11 with fail
    generalize hV : w.setCell ⟨g, 1, none⟩ (.slice (some ⟨q, 0, none⟩) m c) = V at *
    have hVs : V.heap.size = w.heap.size := by rw [← hV]; simp
    generalize hU : World.alloc V _ = U
    have bU : Below V.heap.size V U := by rw [← hU]; exact (Below.refl _ V).alloc (Nat.le_refl _) _
    have hUs : U.heap.size = w.heap.size + 1 := by rw [← hU, ← hVs]; simp
    generalize hW : World.alloc U _ = W
    have bW : Below U.heap.size U W := by rw [← hW]; exact (Below.refl _ U).alloc (Nat.le_refl _) _
    have hgW : W.heap[w.heap.size + 1]? = some (.cells #[.int .i64 k, .bool neg, .slice od d.length cd, .string nm, .int .i64 n, .slice ol l.length cl, .slice ob b.length cb] 27 (0, 0)) := by rw [← hW, ← hUs]; exact heap_alloc_new U _
    obtain ⟨y0, y1, y2, y3, y4, y5, y6⟩ := cell7 hgW
    have c2 := pterm_w w0 g o ps (.mk k neg d nm n l b) _ W ((h2H.out.later bU).later bW) hTVH.out hok hpo2 hwk ho hQ hP
    unfold tmV at c2
    clear hgW hW hV bW hVs hcell c1 f1 hU bU hUs
    go_wp2_with fail
    refine c2.mono ?_
    rintro e w1 ⟨rfl, h1⟩
    have hqH := hid h1
    clear c2 h1
    go_wp2
    all_goals go_returns
    all_goals exact ⟨rfl, hqH.out⟩
end Go.Proofs.YtjacoodfhkaioaaGreatDoor
namespace Go.Proofs.YtjacoodfhkaioaaGreatDoor
open Go.ChangeShapes Go.WideShapes Go.ChangeAt Go.RowKit Go.Shelf
set_option linter.unusedSimpArgs false
set_option linter.unusedVariables false
set_option maxRecDepth 2000

def prE (T : Tm) : Int := if mayB T then (if (tx T).length ≤ 65536 then 0 else 3) else 1
def prS (T : Tm) : List UInt8 := if mayB T then (if (tx T).length ≤ 65536 then tx T else []) else []
theorem may_ok {T : Tm} (hok : ∀ p ∈ parts T, p.ok1) (h : mayB T = true) : okXs T ∧ (parts T).length ≤ 65536 := by
  unfold mayB at h
  rw [Bool.and_eq_true] at h
  obtain ⟨h1, h2⟩ := h
  have h3 := of_decide_eq_true h1
  refine ⟨fun p hp => okX_fair p (hok p hp) (List.all_eq_true.1 h2 p hp), ?_⟩
  unfold treeN at h3
  omega
theorem conv_out {w : World} {B : Nat} {ov : Value} {o : List UInt8} (h : w.ownsRow B 5 1 ov o.length (Lib.byteCells o)) (ho : o.length ≤ 1000000000) :
    (convert 25 9 ov).run Tryz.prog w = .ok (.string ⟨o.toArray⟩) w := by
  rcases h.2 with ⟨rfl, h0⟩ | ⟨q, c, cur, rfl, hq, hc, hn, hm, _⟩
  · have : o = [] := List.eq_nil_of_length_eq_zero h0
    subst this
    rfl
  · refine run_convert_bytes_back _ _ _ 5 ⟨q, 0, none⟩ _ o Tryz.underlying25 Tryz.underlying5 Tryz.underlying9 ?_
    intro j hj
    exact h.cells (g := q) rfl j (.int .u8 ((o[j]).toNat : Int)) (by simp [Lib.byteCells, hj])
theorem tab_up {w w' : World} {zs : List Int} (h : Lib.TabBelow Tryz.prog w.heap.size w "internal/strconv.uint64pow10" .u64 zs) (hb : Below w.heap.size w w') : Lib.TabBelow Tryz.prog w'.heap.size w' "internal/strconv.uint64pow10" .u64 zs := fun w2 h2 => h w2 (hb.trans (below_le h2 hb.size))
theorem prn_new (w0 : World) (T : Tm) (v : Value) (W1 W2 : World) (hT : TV (Low w0) w0 T v) (e1 : W1 = w0.alloc (.cells #[.iface 27 v] 67)) (e2 : W2 = W1.alloc (.cells #[.slice none 0 0, .slice (some ⟨w0.heap.size, 0, none⟩) 1 1] 58)) :
    PrnP w0 (w0.heap.size + 1) [] [.tm T] W2 := by
  have hs : W1.heap.size = w0.heap.size + 1 := by rw [e1]; simp
  have b1 : Below w0.heap.size w0 W1 := by rw [e1]; exact (Below.refl _ w0).alloc (Nat.le_refl _) _
  have b2 : Below W1.heap.size W1 W2 := by rw [e2]; exact (Below.refl _ W1).alloc (Nat.le_refl _) _
  have hg1 : W1.heap[w0.heap.size]? = some (.cells #[.iface 27 v] 67 (0, 0)) := by rw [e1]; exact heap_alloc_new w0 _
  have hg2 : W2.heap[w0.heap.size]? = some (.cells #[.iface 27 v] 67 (0, 0)) := (b2.block _ (by omega)).trans hg1
  refine ⟨.slice none 0 0, .slice (some ⟨w0.heap.size, 0, none⟩) 1 1, [.iface 27 v], ?_, by omega, World.ownsRow_nil _ _ _ _, ?_, ⟨[], _, rfl, ⟨v, rfl, hT⟩, rfl⟩, b1.trans (below_le b2 (by omega))⟩
  · rw [e2, ← hs]; exact heap_alloc_new W1 _
  · exact ⟨rfl, .inr ⟨w0.heap.size, 1, _, rfl, Nat.le_refl _, hg2, Nat.le_refl _, by unfold maxLen; omega, rfl, rfl⟩⟩
theorem prn_see {w0 : World} {g : Nat} {o : List UInt8} {ps : List Pc} {w : World} (h : PrnP w0 g o ps w) (ho : o.length ≤ 1000000000) :
    ∃ oo cc ow cw, w.cell? ⟨g, 0, none⟩ = some (.slice oo o.length cc) ∧ w.cell? ⟨g, 1, none⟩ = some (.slice ow ps.length cw) ∧ (convert 25 9 (.slice oo o.length cc)).run Tryz.prog w = .ok (.string ⟨o.toArray⟩) w := by
  obtain ⟨ov, wv, vs, h⟩ := h
  obtain ⟨c0, c1, f0, f1⟩ := h.cells
  have hc := conv_out h.out ho
  have hl := h.is.length
  obtain ⟨oo, cc, rfl⟩ := own_form h.out
  obtain ⟨ow, cw, rfl⟩ := own_form h.wait
  rw [hl] at c1
  exact ⟨oo, cc, ow, cw, c0, c1, hc⟩
set_option maxHeartbeats 4000000 in
set_option maxRecDepth 4000 in
theorem print_w (T : Tm) (v : Value) (w : World) (hD : dep T ≤ 1000000) (hok : ∀ p ∈ parts T, p.ok1) (hT : TV (Low w) w T v) (hTa : Tabs w) (hQ : TabsQ w) (hP : Lib.TabBelow Tryz.prog w.heap.size w "internal/strconv.uint64pow10" .u64 Lib.pow10Tab) :
    Calls Tryz.prog 13 #[v] w fun e w' => e = .returned (.tuple #[.string ⟨(prS T).toArray⟩, .int .i64 (prE T)]) ∧ Below w.heap.size w w' := by
  obtain ⟨k, neg, od, ld, cd, nm, n, ol, ll, cl, ob, lb, cb, rfl⟩ := hT.form
  obtain ⟨W, hW⟩ : ∃ W, W = w.alloc (.cells #[.int .i64 k, .bool neg, .slice od ld cd, .string nm, .int .i64 n, .slice ol ll cl, .slice ob lb cb] 27) := ⟨_, rfl⟩
  have bW : Below w.heap.size w W := by rw [hW]; exact (Below.refl _ w).alloc (Nat.le_refl _) _
  have hgW : W.heap[w.heap.size]? = some (.cells #[.int .i64 k, .bool neg, .slice od ld cd, .string nm, .int .i64 n, .slice ol ll cl, .slice ob lb cb] 27 (0, 0)) := by rw [hW]; exact heap_alloc_new w _
  obtain ⟨y0, y1, y2, y3, y4, y5, y6⟩ := cell7 hgW
  have c1 := May_w T _ W hD hok (tv_below hT bW) (hTa.below bW)
  obtain ⟨E, hE⟩ : ∃ E, prE T = E := ⟨_, rfl⟩
  obtain ⟨S, hS⟩ : ∃ S, prS T = S := ⟨_, rfl⟩
  rw [hE, hS]
  have hEH := hid hE
  have hSH := hid hS
  clear hE hS
  unfold tmV at c1 ⊢
  go_enter Tryz.func13, Tryz.ntmps13
  go_upto_region 1 with fail
  rw [← hW]
  clear hW
  go_wp2_with fail
  refine c1.mono ?_
  rintro e w1 ⟨rfl, b1⟩
  clear c1
  have hB1 : Below w.heap.size w w1 := bW.trans (below_le b1 bW.size)
  have hgw1 : w1.heap[w.heap.size]? = some (.cells #[.int .i64 k, .bool neg, .slice od ld cd, .string nm, .int .i64 n, .slice ol ll cl, .slice ob lb cb] 27 (0, 0)) := (b1.block _ (Array.getElem?_eq_some_iff.1 hgW).1).trans hgW
  have hT1 := tv_below hT hB1
  cases hm : mayB T
  · have e1 : E = 1 := by rw [← hEH.out]; unfold prE; rw [hm]; rfl
    have e2 : S = [] := by rw [← hSH.out]; unfold prS; rw [hm]; rfl
    subst e1 e2
    clear hm y0 y1 y2 y3 y4 y5 y6 hgW
    go_wp2
    all_goals go_ret2
    all_goals exact ⟨rfl, hB1⟩
  · obtain ⟨hX, hpl⟩ := may_ok hok hm
    have hXH := hid (And.intro hX hpl)
    have e1 : Hid (E = if (tx T).length ≤ 65536 then 0 else 3) := hid (by rw [← hEH.out]; unfold prE; rw [hm]; rfl)
    have e2 : Hid (S = if (tx T).length ≤ 65536 then tx T else []) := hid (by rw [← hSH.out]; unfold prS; rw [hm]; rfl)
    clear y0 y1 y2 y3 y4 y5 y6 hgW hm hX hpl hEH hSH
    obtain ⟨y0, y1, y2, y3, y4, y5, y6⟩ := cell7 hgw1
    go_upto_region 4 with fail
    have hPn := prn_new w1 T _ _ _ hT1 rfl rfl
    generalize World.alloc (World.alloc w1 _) _ = W2 at *
    have hPnH := hid hPn
    have hQ1 := hid (hQ.below hB1)
    have hP1 := hid (tab_up hP hB1)
    clear hPn hQ hP y0 y1 y2 y3 y4 y5 y6 hgw1 hT1 hT hTa hok b1 bW
    go_loopg [] (works [.tm T]) (fun t wr => ∃ o ps, t = works ps ∧ Hid (PrnP w1 (w1.heap.size + 1) o ps wr) ∧ Hid (o ++ rem ps = tx T) ∧ Hid (∀ p ∈ ps, okPc p) ∧ o.length ≤ 31000000 ∧ Hid (works ps ≤ 300000))
    case atStart => exact ⟨[], [.tm T], rfl, hPnH, hid (by simp [rem, Pc.text]), hid (by intro p hp; simp at hp; subst hp; exact hXH.out.1), by simp, hid (by have := hXH.out.2; simp only [works, Pc.work]; omega)⟩
    case round =>
      obtain ⟨o, ps, hgk, hPr, hR, hO, ho, hwk⟩ := hrel
      obtain ⟨oo, cc, ow, cw, c0, c1, hcv⟩ := prn_see hPr.out (by omega)
      have hbb : Below w.heap.size w wr := hB1.trans (below_le hPr.out.below hB1.size)
      have hgkH := hid hgk
      clear hgk
      cases ps with
      | nil =>
        have hR2 := hR.out
        simp only [rem, List.append_nil] at hR2
        by_cases h6 : o.length ≤ 65536
        · have h6z : ¬ (65536 : Int) < (o.length : Int) := by omega
          have q1 : E = 0 := by rw [e1.out, ← hR2, if_pos h6]
          have q2 : S = o := by rw [e2.out, ← hR2, if_pos h6]
          subst q1 q2
          clear hR2
          go_wp2
          go_ret2
          exact ⟨rfl, hbb⟩
        · have h6z : (65536 : Int) < (o.length : Int) := by omega
          have q1 : E = 3 := by rw [e1.out, ← hR2, if_neg h6]
          have q2 : S = [] := by rw [e2.out, ← hR2, if_neg h6]
          subst q1 q2
          clear hR2 hcv
          go_wp2
          go_ret2
          exact ⟨rfl, hbb⟩
      | cons p ps =>
        have hlz : (0 : Int) < ((ps.length + 1 : Nat) : Int) := by omega
        by_cases h6 : o.length ≤ 65536
        · have h6z : (o.length : Int) ≤ 65536 := by omega
          have c2 := pnext_w w1 (w1.heap.size + 1) o p ps wr hPr.out hO.out (by have := hwk.out; omega) (by omega) hQ1.out hP1.out
          clear hcv
          go_wp2_with fail
          refine c2.mono ?_
          rintro e w2 ⟨rfl, o', ps', h2, hr2, hw2, ho2, hl2⟩
          have hgk2 := hgkH.out
          clear c2
          go_wp2
          go_roundg (works ps')
          case measure => omega
          case rel => exact ⟨o', ps', rfl, hid h2, hid (by rw [hr2]; exact hR.out), hid ho2, by omega, hid (by have := hwk.out; omega)⟩
        · have h6z : (65536 : Int) < (o.length : Int) := by omega
          have hlen : 65536 < (tx T).length := by rw [← hR.out, List.length_append]; omega
          have q1 : E = 3 := by rw [e1.out, if_neg (by omega)]
          have q2 : S = [] := by rw [e2.out, if_neg (by omega)]
          subst q1 q2
          clear hlen hcv
          go_wp2
          go_ret2
          exact ⟨rfl, hbb⟩
end Go.Proofs.YtjacoodfhkaioaaGreatDoor
namespace Go.Proofs.YtjacoodfhkaioaaGreatDoor
open Go.ChangeShapes Go.WideShapes Go.ChangeAt Go.RowKit
set_option linter.unusedSimpArgs false
set_option linter.unusedVariables false
set_option maxRecDepth 2000
set_option maxHeartbeats 1000000 in
theorem short_w (o : Option Addr) (c d : Nat) (l : List Nat) (w : World) (hd0 : 0 < d) (hd : d < 4294967296) (hl : Lm 4294967296 l) (hlen : l.length ≤ 1000000) (hO : Lies o l w) :
    Calls Tryz.prog 89 #[.slice o l.length c, .int .u64 (d : Int)] w fun e w' => ∃ sl, e = .returned (.tuple #[sl, .int .u64 ((gval 4294967296 l % d : Nat) : Int)]) ∧ Fr w.heap.size sl (glim 4294967296 (gval 4294967296 l / d)) w' ∧ Below w.heap.size w w' := by
  obtain ⟨R, hR⟩ : ∃ R, gval 4294967296 l % d = R := ⟨_, rfl⟩
  obtain ⟨G, hG⟩ : ∃ G, gval 4294967296 l / d = G := ⟨_, rfl⟩
  rw [hR, hG]
  have hR' := hid hR
  have hG' := hid hG
  clear hR hG
  have hmk := run_make_row' (P := Tryz.prog) 23 145 (.int .u32 0) 4 Tryz.underlying23 info32u rfl .i64 .i64 l.length (by omega) (by omega) w
  have hOwn := Own.made l.length w
  have hB1 : Below w.heap.size w (w.alloc (.cells (madeCells #[.int .u32 0] l.length) 145)) := (Below.refl _ w).alloc (Nat.le_refl _) _
  have hg1 : w.heap.size < (w.alloc (.cells (madeCells #[.int .u32 0] l.length) 145)).heap.size := by simp
  go_enter Tryz.func89, Tryz.ntmps89
  go_wp2
  generalize w.alloc (.cells (madeCells #[.int .u32 0] l.length) 145) = W1 at *
  clear hmk
  go_loopw [7, 8] (fun rv i wr => ∃ (k r : Nat) (L : List Nat), rv = .int .u64 (r : Int) ∧ i = .int .i64 ((k : Int) - 1) ∧ k ≤ l.length ∧ r < d ∧ Own w.heap.size L wr ∧ w.heap.size < wr.heap.size ∧ L.length = l.length ∧ Lm 4294967296 L ∧ Below w.heap.size w wr ∧ Hid (gval 4294967296 (L.drop k) * d + r = gval 4294967296 (l.drop k))) (fun _ i _ => (intOf i + 1).toNat)
  case atStart => exact ⟨l.length, 0, _, rfl, by go_num, Nat.le_refl _, hd0, hOwn, hg1, by simp, Lm.replicate (by omega) _, hB1, hid (by simp [gval])⟩
  case round =>
    obtain ⟨k, r, L, rfl, rfl, hk, hr, hL, hg, hLl, hLm, hbw, hH⟩ := hrel
    clear hOwn hB1 hg1
    by_cases h0 : k = 0
    · subst h0
      have hh := hH.out
      simp only [List.drop_zero] at hh
      have e1 : gval 4294967296 L = G := by
        rw [← hG'.out, ← hh, Nat.add_comm, Nat.add_mul_div_right _ _ hd0, Nat.div_eq_of_lt hr]; omega
      have e2 : R = r := by rw [← hR'.out, ← hh, Nat.add_comm, Nat.add_mul_mod_self_right, Nat.mod_eq_of_lt hr]
      have hN := own_isN (K := 1000000) false hL hLm e1 (by omega)
      rw [hLl] at hN
      subst e2
      have hfd := field34
      clear hh hH hR' hG' e1
      go_wp2_with fail
      refine (rnorm_w _ (sv false G) 1000000 _ (by omega) hN).mono ?_
      rintro e w4 ⟨s4, rfl, hF4, hk4, b4⟩
      have en : (sv false G).natAbs = G := by simp [sv]
      rw [en] at hF4
      have hF5 := hF4.mono hbw.size
      obtain ⟨o4, c4, rfl, _, _, _⟩ := hF4.parts
      have hBw := below_and hbw (Nat.le_refl _) b4
      clear en
      go_wp2
      exact bodyPost_ret (v := .tuple #[.slice o4 (glim 4294967296 G).length c4, .int .u64 (R : Int)]) (by simp [results, Tryz.results89, go_sem]) rfl ⟨_, rfl, hF5, hBw⟩
    · obtain ⟨j, rfl⟩ : ∃ j, k = j + 1 := ⟨k - 1, by omega⟩
      obtain ⟨x, hx⟩ : ∃ x, l[j]? = some x := ⟨l[j]'(by omega), by simp⟩
      obtain ⟨a, rfl, cx⟩ := (hO.below hbw) j x hx
      have cL := hL.1 j (L[j]'(by omega)) (by simp)
      have fx := hL.2 j
      have hxm := hl.at hx
      have e1 : (((j + 1 : Nat) : Int) - 1) = (j : Int) := by omega
      have hjl : (j : Int) < (l.length : Int) := by omega
      obtain ⟨cur, hcur⟩ : ∃ cur, r * 4294967296 + x = cur := ⟨_, rfl⟩
      obtain ⟨rb, hrb⟩ : ∃ rb, r * 4294967296 = rb := ⟨_, rfl⟩
      have w0 : IntKind.u64.wrap (x : Int) = (x : Int) := by rw [IntKind.wrap_u64]; omega
      have w1 : IntKind.u64.wrap ((r : Int) * 4294967296) = (rb : Int) := by rw [IntKind.wrap_u64]; omega
      have w2 : bits .or .u64 (rb : Int) (x : Int) = (cur : Int) := by
        have := or32 (r := r) (x := x) (by omega) hxm
        rw [hrb] at this
        rw [this, ← hcur, hrb]
      have hq : cur / d < 4294967296 := by
        rw [Nat.div_lt_iff_lt_mul hd0, ← hcur]
        have : (r + 1) * 4294967296 ≤ d * 4294967296 := Nat.mul_le_mul_right _ hr
        rw [Nat.mul_comm d] at this
        omega
      have hdz : ((d : Int) == 0) = false := by simp; omega
      have hdn : ¬ (d : Int) = 0 := by omega
      obtain ⟨Q, hQ⟩ : ∃ Q, cur / d = Q := ⟨_, rfl⟩
      obtain ⟨r2, hr2⟩ : ∃ r2, cur % d = r2 := ⟨_, rfl⟩
      have hr2d : r2 < d := by rw [← hr2]; exact Nat.mod_lt _ hd0
      rw [hQ] at hq
      have w3 : IntKind.u64.wrap ((cur : Int) / (d : Int)) = (Q : Int) := by
        rw [show (cur : Int) / (d : Int) = (Q : Int) by rw [← hQ]; exact (Int.natCast_ediv cur d).symm, IntKind.wrap_u64]; omega
      have w4 : IntKind.u32.wrap (Q : Int) = (Q : Int) := by rw [IntKind.wrap_u32]; omega
      have w5 : (cur : Int) % (d : Int) = (r2 : Int) := by rw [← hr2]; exact (Int.natCast_emod cur d).symm
      have hdm : Hid (Q * d + r2 = r * 4294967296 + x) := hid (by rw [← hQ, ← hr2, hcur, Nat.mul_comm]; exact Nat.div_add_mod cur d)
      clear hQ hr2
      have hc1 := hid hcur
      have hc2 := hid hrb
      clear hcur hrb
      rw [e1]
      go_wp2
      go_roundw
      case rel =>
        refine ⟨j, r2, L.set j Q, by rw [w5], by go_num, by omega, hr2d, hL.set _ (by omega), by simpa using hg, by simp [hLl], hLm.set _ _ hq, hbw.setCell (Nat.le_refl _) _, hid ?_⟩
        rw [gval_drop_set _ _ (by omega), gval_drop_at _ hx]
        exact shrink_step hdm.out hH.out
      case measure => simp [intOf]; try omega
theorem app_mk (x y : Array UInt8) : (⟨x⟩ : ByteArray) ++ ⟨y⟩ = ⟨x ++ y⟩ := by
  apply ByteArray.ext; simp
theorem digits10 : ∀ k : Fin 10, ((⟨#[48, 49, 50, 51, 52, 53, 54, 55, 56, 57, 97, 98, 99, 100, 101, 102]⟩ : ByteArray).extract k.val (k.val + 1)) = ⟨#[UInt8.ofNat (48 + k.val)]⟩ := by decide +kernel
theorem slice10 (q : Nat) (hq : q < 10) (w : World) : (Instr.slice 9 (.string ⟨#[48, 49, 50, 51, 52, 53, 54, 55, 56, 57, 97, 98, 99, 100, 101, 102]⟩) (some (.int .u64 (q : Int))) (some (.int .u64 ((q : Int) + 1))) none).run Tryz.prog w = .ok (.string ⟨#[UInt8.ofNat (48 + q)]⟩) w := by
  have h := run_slice_string (P := Tryz.prog) w 9 ⟨#[48, 49, 50, 51, 52, 53, 54, 55, 56, 57, 97, 98, 99, 100, 101, 102]⟩ .u64 .u64 (q : Int) ((q : Int) + 1) Tryz.underlying9 (by omega) (by omega) (by show (q : Int) + 1 ≤ 16; omega)
  rw [show ((q : Int)).toNat = q by omega, show ((q : Int) + 1).toNat = q + 1 by omega] at h
  have hd := digits10 ⟨q, hq⟩
  simp only [] at hd
  rw [hd] at h
  exact h
set_option maxHeartbeats 1000000 in
theorem digits10_w (r : Nat) (hr : r < 10) (w : World) :
    Calls Tryz.prog 46 #[.int .u64 (r : Int), .int .u64 10] w fun e w' => e = .returned (.string ⟨#[UInt8.ofNat (48 + r)]⟩) ∧ Below w.heap.size w w' := by
  have hsl := slice10 r hr
  obtain ⟨ch, hch⟩ : ∃ ch, UInt8.ofNat (48 + r) = ch := ⟨_, rfl⟩
  rw [hch] at hsl ⊢
  clear hch
  go_enter Tryz.func46, Tryz.ntmps46
  go_wp2
  go_loopw [0, 5] (fun n s wr => Below w.heap.size w wr ∧ n = .int .u64 (r : Int) ∧ s = .string ⟨#[]⟩) (fun n _ _ => (intOf n).toNat)
  case atStart => exact ⟨Below.refl _ _, rfl, rfl⟩
  case round =>
    obtain ⟨hbw, rfl, rfl⟩ := hrel
    have hm : ((r : Int)) % 10 = (r : Int) := by omega
    have hm' : ((r : Int)).tmod 10 = (r : Int) := by rw [Int.tmod_eq_emod_of_nonneg (by omega)]; omega
    have hw : IntKind.u64.wrap ((r : Int) + 1) = (r : Int) + 1 := by rw [IntKind.wrap_u64]; omega
    have hdv : ((r : Int)).tdiv 10 = 0 := by rw [Int.tdiv_eq_ediv_of_nonneg (by omega)]; omega
    have hdv' : ((r : Int)) / 10 = 0 := by omega
    go_wp2
    go_quiet (fail)
    go_wp2
    go_ret
    refine ⟨?_, below_drewNv hbw _⟩
    show Ending.returned (Value.string _) = _
    rw [app_mk]; rfl
theorem glim_step {m : Nat} (h : 0 < m) : glim 10 m = m % 10 :: glim 10 (m / 10) := glim_pos (by omega) h
/-- the bytes of digits, lowest first, as they are written -/
def dtx (ds : List Nat) : List UInt8 := ((ds.map fun d => 48 + d).reverse).map UInt8.ofNat
theorem dtx_snoc (ds : List Nat) (r : Nat) : dtx (ds ++ [r]) = UInt8.ofNat (48 + r) :: dtx ds := by
  unfold dtx; simp
theorem dtx_len (ds : List Nat) : (dtx ds).length = ds.length := by unfold dtx; simp
theorem txt_pos {Z : Int} (h : Z ≠ 0) : txt Z = (if Z < 0 then [45] else []) ++ dtx (glim 10 Z.natAbs) := by
  unfold txt txtN dtx
  rw [if_neg h]
  by_cases hz : Z < 0
  · rw [if_pos hz, if_pos hz]; simp
  · rw [if_neg hz, if_neg hz]; simp
set_option maxHeartbeats 2000000 in
theorem numText_w (va : Value) (Z : Int) (K : Nat) (w : World) (hK : K ≤ 1000) (ha : IsN va Z K w) :
    Calls Tryz.prog 44 #[va] w fun e w' => e = .returned (.string ⟨(txt Z).toArray⟩) ∧ Below w.heap.size w w' := by
  have hA : ∀ w', Below w.heap.size w w' → IsN va Z K w' := fun w' hw => ha.below hw
  obtain ⟨na, oa, la, ca, rfl, hLa, hca, hma, hsa, hka⟩ := ha
  clear hLa hca hma hsa hka
  obtain ⟨kA, hB0, hz0⟩ := newbox w (.bool na) (.slice oa la.length ca) 84
  obtain ⟨T, hT⟩ : ∃ T, txt Z = T := ⟨_, rfl⟩
  rw [hT]
  have hT' := hid hT
  clear hT
  obtain ⟨f1, f2, f3, f4⟩ := id kA
  go_enter Tryz.func44, Tryz.ntmps44
  go_wp2_with fail
  generalize (w.alloc (.cells #[.bool na, .slice oa la.length ca] 84)) = W0 at *
  refine (rnorm_w _ Z K _ (by omega) (hA _ hB0)).mono ?_
  rintro e w1 ⟨s1, rfl, hF1, hk1, b1⟩
  have hB1 := below_and hB0 (Nat.le_refl _) b1
  have kA1 := kA.below b1 (by omega)
  obtain ⟨o1, c1, rfl, L1, z1, _⟩ := hF1.parts
  have kA2 := kA1.put (u' := .bool (decide (Z < 0))) (v' := .slice o1 (glim 4294967296 Z.natAbs).length c1)
  have L2 := L1.box kA1 (.bool (decide (Z < 0))) (.slice o1 (glim 4294967296 Z.natAbs).length c1)
  have hB2 := (hB1.setCell (p := ⟨w.heap.size, 0, none⟩) (Nat.le_refl _) (.bool (decide (Z < 0)))).setCell (p := ⟨w.heap.size, 1, none⟩) (Nat.le_refl _) (.slice o1 (glim 4294967296 Z.natAbs).length c1)
  have hg2 : w.heap.size < ((w1.setCell ⟨w.heap.size, 0, none⟩ (.bool (decide (Z < 0)))).setCell ⟨w.heap.size, 1, none⟩ (.slice o1 (glim 4294967296 Z.natAbs).length c1)).heap.size := kA2.lt
  clear f1 f2 f3 f4
  obtain ⟨f1, f2, f3, f4⟩ := id kA1
  go_wp2
  generalize ((w1.setCell ⟨w.heap.size, 0, none⟩ (.bool (decide (Z < 0)))).setCell ⟨w.heap.size, 1, none⟩ (.slice o1 (glim 4294967296 Z.natAbs).length c1)) = W2 at *
  clear f1 f2 f3 f4 kA kA1 L1 hF1 hA
  have hZm : Z.natAbs < 4294967296 ^ K := (glim_len (by omega) _ _).1 hk1
  have hdl : (glim 10 Z.natAbs).length ≤ 32 * K + 1 := by
    by_cases hz : Z = 0
    · subst hz; simp [glim_zero]
    · have h1 := glim_ge (b := 10) (by omega) (n := Z.natAbs) (by omega)
      have := len_bound (s := (glim 10 Z.natAbs).length - 1) (N := 1) (M := Z.natAbs) (K := K) (by omega) (by omega) hZm
      omega
  obtain ⟨zn, hzn⟩ : ∃ zn, decide (Z < 0) = zn := ⟨_, rfl⟩
  rw [hzn] at kA2
  have hzn' := hid hzn
  clear hzn
  go_loopg [3, 4] (glim 10 Z.natAbs).length (fun t sv dv wr => ∃ (ds : List Nat) (m : Nat) (o : Option Addr) (c : Nat), t = (glim 10 m).length ∧ sv = .string ⟨(dtx ds).toArray⟩ ∧ dv = .slice o (glim 4294967296 m).length c ∧ Lies o (glim 4294967296 m) wr ∧ (glim 4294967296 m).length ≤ K ∧ Hid (glim 10 Z.natAbs = ds ++ glim 10 m) ∧ Box w.heap.size (.bool zn) (.slice o1 (glim 4294967296 Z.natAbs).length c1) wr ∧ w.heap.size < wr.heap.size ∧ Below w.heap.size w wr)
  case atStart => exact ⟨[], Z.natAbs, o1, c1, rfl, rfl, rfl, L2, hk1, hid (by simp), kA2, hg2, hB2⟩
  case round =>
    obtain ⟨ds, m, o, c, ht, rfl, rfl, hL, hkm, hH, kA, hg, hbw⟩ := hrel
    clear kA2 hg2 hB2 L2
    obtain ⟨f1, f2, f3, f4⟩ := id kA
    have hdsl : ds.length ≤ 32 * K + 1 := by
      have := congrArg List.length hH.out
      rw [List.length_append] at this
      omega
    by_cases hm : 0 < m
    · have hlz : (0 : Int) < ((glim 4294967296 m).length : Int) := by
        have := List.length_pos_iff.2 (glim_ne (b := 4294967296) (n := m) (by omega) (by omega))
        omega
      have hgm := gval_glim (b := 4294967296) (by omega) m
      have hsh := fun w' hw' => short_w o c 10 (glim 4294967296 m) w' (by omega) (by omega) (lm_glim (by omega) m) (by omega) hw'
      rw [hgm] at hsh
      have hsh' := hid hsh
      have hgs := glim_step hm
      have hgs' := hid hgs
      clear hgm hsh hgs
      go_wp2_with fail
      refine (hsh'.out _ hL).mono ?_
      rintro e w3 ⟨sl, rfl, hF3, b3⟩
      obtain ⟨o3, c3, rfl, L3, z3, _⟩ := hF3.parts
      obtain ⟨r, hr⟩ : ∃ r, m % 10 = r := ⟨_, rfl⟩
      rw [hr]
      have hr10 : r < 10 := by omega
      have hr' := hid hr
      clear hr
      go_wp2_with fail
      refine (digits10_w r hr10 _).mono ?_
      rintro e w4 ⟨rfl, b4⟩
      obtain ⟨ch, hch⟩ : ∃ ch, UInt8.ofNat (48 + r) = ch := ⟨_, rfl⟩
      rw [hch]
      have hch' := hid hch
      clear hch
      have b34 := below_and b3 (Nat.le_refl _) b4
      have hcl : ¬ 9223372036854775807 < 1 + (dtx ds).length := by rw [dtx_len]; omega
      go_wp2
      go_roundg (gk - 1)
      case measure =>
        rw [ht, hgs'.out]; simp
      case rel =>
        refine ⟨ds ++ [r], m / 10, o3, c3, ?_, ?_, rfl, L3.below b4, ?_, hid ?_, kA.below b34 hg, Nat.lt_of_lt_of_le hg b34.size, below_and hbw (Nat.le_refl _) b34⟩
        · rw [ht, hgs'.out]; simp
        · rw [dtx_snoc, hch'.out, app_mk]; simp
        · refine Nat.le_trans (Nat.le_of_not_lt fun h => ?_) hkm
          have := glim_len_lt (by omega) h
          omega
        · rw [hH.out, hgs'.out, hr'.out]; simp
    · have hm0 : m = 0 := by omega
      subst hm0
      have hds : glim 10 Z.natAbs = ds := by have := hH.out; rwa [glim_zero, List.append_nil] at this
      have hds' := hid hds
      have hl0 : (glim 4294967296 0).length = 0 := by rw [glim_zero]; rfl
      clear hds hH
      by_cases hZ0 : Z = 0
      · have hd0 : ds = [] := by rw [← hds'.out, hZ0]; simp [glim_zero]
        have hz0 : zn = false := by rw [← hzn'.out, hZ0]; rfl
        have hTe : T = [48] := by rw [← hT'.out, hZ0]; simp [txt, txtN]
        subst hd0 hz0 hTe
        clear hT' hds' hzn'
        go_wp2
        go_ret
        exact ⟨by first | rfl | simp, hbw⟩
      · have hTe := txt_pos hZ0
        rw [hT'.out, hds'.out] at hTe
        have hdn : ds ≠ [] := by rw [← hds'.out]; exact glim_ne (by omega) (by omega)
        obtain ⟨D, hD⟩ : ∃ D, dtx ds = D := ⟨_, rfl⟩
        have hDl : D.length = ds.length := by rw [← hD, dtx_len]
        have hDn : D ≠ [] := by intro e; rw [e] at hDl; exact hdn (List.eq_nil_of_length_eq_zero hDl.symm)
        rw [hD] at hTe ⊢
        have hDe : D.isEmpty = false := by cases D with
          | nil => exact absurd rfl hDn
          | cons _ _ => rfl
        clear hDn
        cases hzb : zn with
        | false =>
          rw [hzb] at f1 kA hzn'
          have hnz : ¬ Z < 0 := by have := hzn'.out; simpa using this
          rw [if_neg hnz, List.nil_append] at hTe
          subst hTe
          clear hT' hds' hzn' hD
          go_wp2
          go_ret
          exact ⟨rfl, hbw⟩
        | true =>
          rw [hzb] at f1 kA hzn'
          have hnz : Z < 0 := by have := hzn'.out; simpa using this
          rw [if_pos hnz] at hTe
          have hTe' := hid hTe
          clear hT' hds' hzn' hD hTe
          have hcl : ¬ 9223372036854775807 < 1 + D.length := by omega
          go_wp2
          go_ret
          exact ⟨by rw [hTe'.out, app_mk]; simp, hbw⟩
end Go.Proofs.YtjacoodfhkaioaaGreatDoor
namespace Go.Proofs.YtjacoodfhkaioaaGreatDoor
open Go.ChangeShapes Go.WideShapes Go.ChangeAt Go.RowKit Go.Shelf
set_option linter.unusedSimpArgs false
set_option linter.unusedVariables false
set_option maxRecDepth 2000
theorem cell_iterAt {w : World} {k b j : Nat} {s : ByteArray} {pos : Nat} (h : b ≠ k) : (w.iterAt k s pos).cell? ⟨b, j, none⟩ = w.cell? ⟨b, j, none⟩ :=
  World.cell?_of_block (a := ⟨b, j, none⟩) (Lib.iterAt_other w k b s pos h)
theorem frozen_iterAt {w : World} {k b j : Nat} {s : ByteArray} {pos : Nat} (h : b ≠ k) : (w.iterAt k s pos).frozen? ⟨b, j, none⟩ = w.frozen? ⟨b, j, none⟩ :=
  World.frozen?_of_block (a := ⟨b, j, none⟩) (Lib.iterAt_other w k b s pos h)
/-- A row of n bytes of the call's own; from place f on it holds l. -/
def Row (g n f : Nat) (l : List UInt8) (w : World) : Prop :=
  (∀ j, j < n → (w.cell? ⟨g, j, none⟩).isSome = true) ∧ (∀ j, w.frozen? ⟨g, j, none⟩ = false) ∧ (∀ j x, l[j]? = some x → w.cell? ⟨g, f + j, none⟩ = some (.int .u8 (x.toNat : Int))) ∧ f + l.length = n
theorem Row.iterAt {g n f : Nat} {l : List UInt8} {w : World} (h : Row g n f l w) {k : Nat} (hk : g ≠ k) (s : ByteArray) (pos : Nat) : Row g n f l (w.iterAt k s pos) :=
  ⟨fun j hj => by rw [cell_iterAt hk]; exact h.1 j hj, fun j => by rw [frozen_iterAt hk]; exact h.2.1 j, fun j x hx => by rw [cell_iterAt hk]; exact h.2.2.1 j x hx, h.2.2.2⟩
theorem Row.put {g n f : Nat} {l : List UInt8} {w : World} (h : Row g n f l w) (m : List UInt8) (f' : Nat) (hf : f' + m.length = f) : Row g n f' (m ++ l) (w.setCells g f' (Lib.byteCells m)) := by
  obtain ⟨h1, h2, h3, h4⟩ := h
  have hml : (Lib.byteCells m).length = m.length := Lib.byteCells_length m
  have hin : ∀ j, j < (Lib.byteCells m).length → (w.cell? ⟨g, f' + j, none⟩).isSome = true := fun j hj => h1 _ (by omega)
  refine ⟨fun j hj => ?_, fun j => by rw [World.frozen?_setCells]; exact h2 j, fun j x hx => ?_, by rw [List.length_append]; omega⟩
  · by_cases hj2 : f' ≤ j ∧ j < f' + m.length
    · have := World.cell?_setCells_in g (Lib.byteCells m) f' w hin (j - f') (by omega)
      rw [show f' + (j - f') = j by omega] at this
      rw [this]; rfl
    · rw [World.cell?_setCells_out g _ _ _ _ (fun _ _ => by simp; omega)]
      exact h1 j hj
  · by_cases hj2 : j < m.length
    · have := World.cell?_setCells_in g (Lib.byteCells m) f' w hin j (by omega)
      rw [this]
      rw [List.getElem?_append_left hj2] at hx
      have hx2 := (List.getElem?_eq_some_iff.1 hx).2
      simp [Lib.byteCells, hx2]
    · rw [World.cell?_setCells_out g _ _ _ _ (fun _ _ => by simp; omega)]
      rw [List.getElem?_append_right (by omega)] at hx
      have := h3 _ _ hx
      rw [show f + (j - m.length) = f' + j by omega] at this
      exact this
end Go.Proofs.YtjacoodfhkaioaaGreatDoor
namespace Go.Proofs.YtjacoodfhkaioaaGreatDoor
open Go.ChangeShapes Go.WideShapes Go.ChangeAt Go.RowKit Go.Shelf
set_option linter.unusedSimpArgs false
set_option linter.unusedVariables false
set_option maxRecDepth 2000

/-- A well-formed text at a place: the sign, its width, and what follows is well-formed. -/
theorem valid_at (s : ByteArray) (pos : Nat) (h : pos < s.size) (hv : Lib.validD (s.data.toList.drop pos) = true) :
    Lib.validD (s.data.toList.drop (pos + (Utf8.decode s pos).2)) = true ∧ (e1 (Utf8.decode s pos).1).length = (Utf8.decode s pos).2 ∧ pos + (Utf8.decode s pos).2 ≤ s.size := by
  have hs : s.data.toList.length = s.size := rfl
  have hne : s.data.toList.drop pos ≠ [] := by
    intro e; have := congrArg List.length e; simp only [List.length_drop, List.length_nil] at this; omega
  have hle := Lib.decodeL_le _ hne
  rw [Lib.validD_step _ hne] at hv
  split at hv
  · cases hv
  · rename_i hb
    have he := Lib.encode_decode _ hne hb
    rw [Lib.decodeL_drop] at hv he hle
    rw [List.drop_drop] at hv
    refine ⟨hv, ?_, ?_⟩
    · unfold e1
      rw [he, List.length_take]
      omega
    · rw [List.length_drop] at hle; omega
end Go.Proofs.YtjacoodfhkaioaaGreatDoor
namespace Go.Proofs.YtjacoodfhkaioaaGreatDoor
open Go.ChangeShapes Go.WideShapes Go.ChangeAt Go.RowKit Go.Shelf
set_option linter.unusedSimpArgs false
set_option linter.unusedVariables false
set_option maxRecDepth 2000

/-- A row of bytes in memory. -/
def RowB (g : Nat) (l : List UInt8) (w : World) : Prop := ∀ j x, l[j]? = some x → w.cell? ⟨g, j, none⟩ = some (.int .u8 (x.toNat : Int))
/-- A row of signs in memory. -/
def RowR (g : Nat) (l : List Nat) (w : World) : Prop := ∀ (j r : Nat), l[j]? = some r → w.cell? ⟨g, j, none⟩ = some (.int .i32 (r : Int))
theorem RowB.below {g : Nat} {l : List UInt8} {w w' : World} (h : RowB g l w) (hb : Below w.heap.size w w') : RowB g l w' := fun j x hx =>
  (hb.cell (World.block_lt_of_cell? _ _ (h j x hx))).trans (h j x hx)
theorem RowR.below {g : Nat} {l : List Nat} {w w' : World} (h : RowR g l w) (hb : Below w.heap.size w w') : RowR g l w' := fun j x hx =>
  (hb.cell (World.block_lt_of_cell? _ _ (h j x hx))).trans (h j x hx)

/-! ### texts turned into rows -/
end Go.Proofs.YtjacoodfhkaioaaGreatDoor
namespace Go.Proofs.YtjacoodfhkaioaaGreatDoor
open Go.ChangeShapes Go.WideShapes Go.ChangeAt Go.RowKit Go.Shelf
set_option linter.unusedSimpArgs false
set_option linter.unusedVariables false
set_option maxRecDepth 2000

theorem app_mk2 (x y : Array UInt8) : (⟨x⟩ : ByteArray) ++ ⟨y⟩ = ⟨x ++ y⟩ := by
  apply ByteArray.ext; simp
theorem digits16 : ∀ k : Fin 16, ((⟨#[48, 49, 50, 51, 52, 53, 54, 55, 56, 57, 97, 98, 99, 100, 101, 102]⟩ : ByteArray).extract k.val (k.val + 1)) = ⟨#[(hexD k.val).toUInt8]⟩ := by decide +kernel
theorem slice16 (q : Nat) (hq : q < 16) (w : World) : (Instr.slice 9 (.string ⟨#[48, 49, 50, 51, 52, 53, 54, 55, 56, 57, 97, 98, 99, 100, 101, 102]⟩) (some (.int .u64 (q : Int))) (some (.int .u64 ((q : Int) + 1))) none).run Tryz.prog w = .ok (.string ⟨#[(hexD q).toUInt8]⟩) w := by
  have h := run_slice_string (P := Tryz.prog) w 9 ⟨#[48, 49, 50, 51, 52, 53, 54, 55, 56, 57, 97, 98, 99, 100, 101, 102]⟩ .u64 .u64 (q : Int) ((q : Int) + 1) Tryz.underlying9 (by omega) (by omega) (by show (q : Int) + 1 ≤ 16; omega)
  rw [show ((q : Int)).toNat = q by omega, show ((q : Int) + 1).toNat = q + 1 by omega] at h
  have hd := digits16 ⟨q, hq⟩
  simp only [] at hd
  rw [hd] at h
  exact h
set_option maxHeartbeats 2000000 in
theorem rdigits_w (r : Nat) (hr : r < 128) (w : World) :
    Calls Tryz.prog 46 #[.int .u64 (r : Int), .int .u64 16] w fun e w' => e = .returned (.string ⟨(en (hex2 r)).toArray⟩) ∧ Below w.heap.size w w' := by
  go_enter Tryz.func46, Tryz.ntmps46
  go_wp2
  go_loopw [0, 5] (fun n s wr => Below w.heap.size w wr ∧ Hid ((n = .int .u64 (r : Int) ∧ s = .string ⟨#[]⟩) ∨ (16 ≤ r ∧ n = .int .u64 ((r / 16 : Nat) : Int) ∧ s = .string ⟨#[(hexD (r % 16)).toUInt8]⟩))) (fun n _ _ => (intOf n).toNat)
  case atStart => exact ⟨Below.refl _ _, hid (Or.inl ⟨rfl, rfl⟩)⟩
  case round =>
    obtain ⟨hbw, hor⟩ := hrel
    rcases hor.out with ⟨rfl, rfl⟩ | ⟨h16, rfl, rfl⟩
    · obtain ⟨q, hq⟩ : ∃ q, r % 16 = q := ⟨_, rfl⟩
      have hq16 : q < 16 := by omega
      have hsl := slice16 q hq16
      have hm : ((r : Int)).tmod 16 = (q : Int) := by rw [Int.tmod_eq_emod_of_nonneg (by omega)]; omega
      have hw : IntKind.u64.wrap ((q : Int) + 1) = (q : Int) + 1 := by rw [IntKind.wrap_u64]; omega
      have hdv : ((r : Int)).tdiv 16 = ((r / 16 : Nat) : Int) := by rw [Int.tdiv_eq_ediv_of_nonneg (by omega)]; omega
      by_cases h16 : 16 ≤ r
      · have hz : (((r / 16 : Nat) : Int) == 0) = false := by simp; omega
        go_wp2
        go_quiet (fail)
        go_wp2
        refine ⟨⟨below_drewNv hbw _, hid (Or.inr ⟨h16, by simp, ?_⟩)⟩, by simp [intOf]; omega⟩
        rw [app_mk2, hq]; rfl
      · have hz : (((r / 16 : Nat) : Int) == 0) = true := by simp; omega
        have hen : en (hex2 r) = [(hexD q).toUInt8] := by
          have hqr : q = r := by omega
          unfold hex2; rw [if_pos (by omega), en_one, hqr, e1_ascii _ (hexD_lt _ (by omega))]
        go_wp2
        go_quiet (fail)
        go_wp2
        go_ret
        refine ⟨?_, below_drewNv hbw _⟩
        show Ending.returned (Value.string _) = _
        rw [hen, app_mk2]; rfl
    · obtain ⟨q, hq⟩ : ∃ q, r / 16 = q := ⟨_, rfl⟩
      rw [hq]
      have hq16 : q < 16 := by omega
      have hsl := slice16 q hq16
      have hm : ((q : Int)).tmod 16 = (q : Int) := by rw [Int.tmod_eq_emod_of_nonneg (by omega)]; omega
      have hw : IntKind.u64.wrap ((q : Int) + 1) = (q : Int) + 1 := by rw [IntKind.wrap_u64]; omega
      have hdv : ((q : Int)).tdiv 16 = 0 := by rw [Int.tdiv_eq_ediv_of_nonneg (by omega)]; omega
      have hen : en (hex2 r) = [(hexD q).toUInt8, (hexD (r % 16)).toUInt8] := by
        unfold hex2; rw [if_neg (by omega), hq]; show e1 _ ++ (e1 _ ++ []) = _; rw [e1_ascii _ (hexD_lt _ hq16), e1_ascii _ (hexD_lt _ (by omega))]; rfl
      go_wp2
      go_quiet (fail)
      go_wp2
      go_ret
      refine ⟨?_, below_drewNv hbw _⟩
      show Ending.returned (Value.string _) = _
      rw [hen, app_mk2]; rfl

theorem enc_e1 (r : Nat) (h : okR r) : (Utf8.encode (r : Int)).data.toList = e1 r := by
  have hv : Utf8.valid (r : Int) = true := by
    unfold okR at h; unfold Utf8.valid; simp; omega
  unfold okR at h
  unfold Utf8.encode e1 Lib.encodeRune
  simp only [hv, if_true]
  have e : ((r : Int)).toNat = r := by omega
  rw [e]
  by_cases h1 : r < 128
  · rw [if_pos (by omega), Lib.encodeRuneZ_one (by omega) (by omega)]; rfl
  by_cases h2 : r ≤ 2047
  · rw [if_neg (by omega), if_pos (by omega), Lib.encodeRuneZ_two (by omega) (by omega)]
    simp only [List.map_cons, List.map_nil]
    congr 1
  by_cases h3 : r ≤ 65535
  · rw [if_neg (by omega), if_neg (by omega), if_pos (by omega), Lib.encodeRuneZ_three (by omega)]
    simp only [List.map_cons, List.map_nil]
    congr 1
  · rw [if_neg (by omega), if_neg (by omega), if_neg (by omega), Lib.encodeRuneZ_four (by omega) (by omega)]
    simp only [List.map_cons, List.map_nil]
    congr 1
theorem runesBytes_en : ∀ (rs : List Nat) (s : ByteArray), okRs rs → ((rs.map fun (r : Nat) => (r : Int)).foldl (fun r n => r ++ Utf8.encode n) s).data.toList = s.data.toList ++ en rs
  | [], s, _ => by simp [en]
  | r :: t, s, h => by
    simp only [List.map_cons, List.foldl_cons]
    rw [runesBytes_en t _ (okRs_cons h).2]
    have e := enc_e1 r (okRs_cons h).1
    simp only [ByteArray.data_append, Array.toList_append]
    rw [e, List.append_assoc]; rfl
theorem runesBytes_mk (rs : List Nat) (h : okRs rs) : runesBytes (rs.map fun (r : Nat) => (r : Int)) = ⟨(en rs).toArray⟩ := by
  have := runesBytes_en rs ByteArray.empty h
  apply ByteArray.ext
  unfold runesBytes
  rw [← Array.toList_inj, this]; simp
/-- 'string(l)' of a row of signs in memory. -/
theorem string_of_runes (g len cap : Nat) (rs : List Nat) (w : World) (h : okRs rs) (hr : RowR g rs w) (hl : rs.length = len) :
    (convert 124 9 (.slice (some ⟨g, 0, none⟩) len cap)).run Tryz.prog w = .ok (.string ⟨(en rs).toArray⟩) w := by
  rw [run_convert_runes_string w 124 9 21 _ _ _ Tryz.underlying124 Tryz.underlying21 Tryz.underlying9]
  have hload : (loadCells ⟨g, 0, none⟩ len).run Tryz.prog w = .ok ((rs.map fun (r : Nat) => (r : Int)).map (Value.int .i32)).toArray w := by
    rw [← hl]
    have := run_loadCells_list (P := Tryz.prog) w ⟨g, 0, none⟩ ((rs.map fun (r : Nat) => (r : Int)).map (Value.int .i32)) (fun j v hj => by
      simp only [List.map_map, List.getElem?_map, Option.map_eq_some_iff] at hj
      obtain ⟨r, hjr, rfl⟩ := hj
      have := hr j r hjr
      simp only [Addr.add]
      split
      · rename_i h0; subst h0; exact this
      · simpa using this)
    simpa using this
  rw [run_runesToString w ⟨g, 0, none⟩ len cap _ hload, runesBytes_mk rs h]

set_option maxHeartbeats 4000000 in
set_option maxRecDepth 100000 in
theorem rquote_w (s : ByteArray) (w : World) (hs : s.size ≤ 1000000) (hT : TabsQ w) :
    Calls Tryz.prog 45 #[.string s] w fun e w' => e = .returned (.string ⟨(quoteL s.data.toList).toArray⟩) ∧ Below w.heap.size w w' := by
  obtain ⟨R, hR⟩ : ∃ R, quoteL s.data.toList = R := ⟨_, rfl⟩
  rw [hR]
  unfold quoteL at hR
  by_cases hv : Lib.validD s.data.toList = true
  · rw [if_pos hv] at hR
    by_cases hp : plainB s.data.toList = true
    · rw [if_pos hp] at hR
      subst hR
      go_enter Tryz.func45, Tryz.ntmps45
      go_wp2_with fail
      refine (rvalid_w s _ (by omega) hT.1).mono ?_
      rintro e w1 ⟨rfl, b1⟩
      go_wp2_with fail
      refine (rPlain_w s _).mono ?_
      rintro e w2 ⟨rfl, b2⟩
      go_wp2
      go_ret
      exact ⟨by simp, b1.trans (below_le b2 b1.size)⟩
    · rw [if_neg hp] at hR
      have hp' : plainB s.data.toList = false := by simpa using hp
      go_enter Tryz.func45, Tryz.ntmps45
      go_wp2_with fail
      refine (rvalid_w s _ (by omega) hT.1).mono ?_
      rintro e w1 ⟨rfl, b1⟩
      go_wp2_with fail
      refine (rPlain_w s _).mono ?_
      rintro e w2 ⟨rfl, b2⟩
      have B2 : Below w.heap.size w w2 := b1.trans (below_le b2 b1.size)
      clear b1 b2 hT
      go_wp2
      go_loopw [3] (fun av wr => ∃ (pos : Nat) (A : ByteArray), av = .string A ∧ wr.heap[w2.heap.size]? = some (.stringIter s pos) ∧ Below w2.heap.size w2 wr ∧ pos ≤ s.size + 4 ∧ A.size ≤ 1 + 20 * pos ∧ Hid (A.data.toList ++ en (escs (sg (s.data.toList.drop pos))) = 39 :: en (escs (sg s.data.toList)))) (fun _ wr => s.size - wr.iterPos w2.heap.size)
      case atStart =>
        exact ⟨0, ⟨#[39]⟩, rfl, World.iter_heap w2 s 0, (Below.refl _ w2).alloc (Nat.le_refl _) _, by omega, by decide, hid (by simp)⟩
      case round =>
        obtain ⟨pos, A, rfl, hit, hbw, hpz, hal, hH⟩ := hrel
        by_cases hp : pos < s.size
        · have hnx : ∀ ty, (Instr.next (.pointer (some ⟨w2.heap.size, 0, none⟩)) true ty).run Tryz.prog wr = _ := fun ty => Lib.run_next_any_at wr w2.heap.size s pos ty hit hp
          have hwd := Lib.width_pos s pos
          have hw4 : (Utf8.decode s pos).2 ≤ 4 := by
            rw [Lib.decode_at]
            rcases Lib.decodeN_shape (s.size - pos) (s.get! pos).toNat (s.get! (pos + 1)).toNat (s.get! (pos + 2)).toNat (s.get! (pos + 3)).toNat with ⟨_, e⟩ | ⟨_, _, _, _, e⟩ | ⟨_, _, _, _, _, _, e⟩ | ⟨_, _, _, _, _, _, _, e⟩ | e
            all_goals (rw [e]; dsimp only; omega)
          have hit2 := Lib.iterAt_heap wr w2.heap.size s pos (pos + (Utf8.decode s pos).2) hit
          have hbw2 := Lib.below_iterAt hbw (k := w2.heap.size) (Nat.le_refl _) s (pos + (Utf8.decode s pos).2)
          have hst : Hid (sg (s.data.toList.drop pos) = _) := hid (sg_at s pos hp)
          obtain ⟨r, hr⟩ : ∃ r, (Utf8.decode s pos).1 = r := ⟨_, rfl⟩
          have hok : okR r := by
            have := okRs_sg (s.data.toList.drop pos)
            rw [hst.out, hr] at this
            exact this r (by simp)
          rw [hr] at hnx
          have hH1 : Hid (A.data.toList ++ en (escs (r :: sg (s.data.toList.drop (pos + (Utf8.decode s pos).2)))) = 39 :: en (escs (sg s.data.toList))) := hid (by
            have := hH.out
            rw [hst.out, hr] at this
            exact this)
          have hl5 := escR_len r
          have hl20 := en_length_le (escR r)
          have hcv : ∀ W : World, (convert 124 9 (.slice (some ⟨W.heap.size, 0, none⟩) 1 1)).run Tryz.prog (W.alloc (.cells #[.int .i32 (r : Int)] 21)) = .ok (.string ⟨(e1 r).toArray⟩) (W.alloc (.cells #[.int .i32 (r : Int)] 21)) := fun W => by
            have := string_of_runes W.heap.size 1 1 [r] (W.alloc (.cells #[.int .i32 (r : Int)] 21)) (okRs_one hok) (fun j x hj => by
              match j, hj with
              | 0, hj => simp at hj; subst hj; rw [Lib.cell_of_heap (Go.heap_alloc_new W _)]; rfl
              | j + 1, hj => simp at hj) rfl
            rw [en_one] at this
            exact this
          have he4 := (e1_length r).2
          have fin : ∀ (W : World) (A' : ByteArray), W.heap[w2.heap.size]? = some (.stringIter s (pos + (Utf8.decode s pos).2)) → Below w2.heap.size w2 W → A'.data.toList = A.data.toList ++ en (escR r) →
              (∃ (pos' : Nat) (A1 : ByteArray), Value.string A' = .string A1 ∧ W.heap[w2.heap.size]? = some (.stringIter s pos') ∧ Below w2.heap.size w2 W ∧ pos' ≤ s.size + 4 ∧ A1.size ≤ 1 + 20 * pos' ∧ Hid (A1.data.toList ++ en (escs (sg (s.data.toList.drop pos'))) = 39 :: en (escs (sg s.data.toList)))) ∧ s.size - W.iterPos w2.heap.size < s.size - wr.iterPos w2.heap.size := by
            intro W A' hW hB hA
            have hsz : A'.size = A.size + (en (escR r)).length := by
              have h1 : A'.data.toList.length = A'.size := rfl
              have h2 : A.data.toList.length = A.size := rfl
              rw [← h1, ← h2, hA, List.length_append]
            refine ⟨⟨_, A', rfl, hW, hB, by omega, by omega, hid ?_⟩, ?_⟩
            · rw [hA, ← hH1.out, List.append_assoc]
              show _ = A.data.toList ++ en (escR r ++ escs _)
              rw [en_append]
            · simp only [World.iterPos, hW, hit]
              omega
          have hsz2 : w2.heap.size < wr.heap.size := lt_of_heap hit
          have hWs : Hid ((wr.iterAt w2.heap.size s (pos + (Utf8.decode s pos).2)).heap.size = wr.heap.size) := hid (Lib.iterAt_size _ _ _ _)
          have hWa : ∀ o, ((wr.iterAt w2.heap.size s (pos + (Utf8.decode s pos).2)).alloc o).heap[w2.heap.size]? = some (.stringIter s (pos + (Utf8.decode s pos).2)) := fun o => (Lib.alloc_old _ o _ (by rw [hWs.out]; exact hsz2)).trans hit2
          have hBa : ∀ o, Below w2.heap.size w2 ((wr.iterAt w2.heap.size s (pos + (Utf8.decode s pos).2)).alloc o) := fun o => hbw2.alloc (by rw [hWs.out]; omega) o
          by_cases h1 : r = 39 ∨ r = 92
          · have hz : ((r : Int) == 39) = true ∨ (((r : Int) == 39) = false ∧ ((r : Int) == 92) = true) := by
              rcases h1 with rfl | rfl
              · exact Or.inl rfl
              · exact Or.inr ⟨rfl, rfl⟩
            have z1 : ¬ 9223372036854775807 < A.size + 1 := by omega
            have z2 : ¬ 9223372036854775807 < A.size + 1 + (e1 r).length := by omega
            have hesc : en (escR r) = [92] ++ e1 r := by
              unfold escR; rw [if_pos h1]; show e1 92 ++ (e1 r ++ []) = _; rw [List.append_nil]; rfl
            clear h1
            rcases hz with hz | ⟨hz, hz2⟩
            all_goals
              go_wp2
              refine fin _ _ (hWa _) (hBa _) ?_
              rw [hesc]; simp
          · have a1 : ((r : Int) == 39) = false := by simp; omega
            have a2 : ((r : Int) == 92) = false := by simp; omega
            by_cases h2 : r = 10
            · have hesc : en (escR r) = [92, 110] := by subst h2; decide
              have a3 : ((r : Int) == 10) = true := by subst h2; rfl
              have z1 : ¬ 9223372036854775807 < A.size + 2 := by omega
              clear h2 h1
              go_wp2
              refine fin _ _ hit2 hbw2 ?_
              rw [hesc]; simp
            · have a3 : ((r : Int) == 10) = false := by simp; omega
              cases hh : hiddenB r with
              | true =>
                have hlt := hidden_lt hh
                have hesc : en (escR r) = [92, 120] ++ (en (hex2 r) ++ [59]) := by
                  unfold escR
                  rw [if_neg h1, if_neg h2, if_pos hh]
                  show e1 92 ++ (e1 120 ++ en (hex2 r ++ [59])) = _
                  rw [en_append, en_one]
                  rfl
                have hxb : (en (hex2 r)).length ≤ 8 := by
                  have := en_length_le (hex2 r); have := hex2_len r; omega
                have hz : (r : Int) < 32 ∨ (¬ (r : Int) < 32 ∧ ((r : Int) == 127) = true) := by
                  simp [hiddenB] at hh
                  by_cases h32 : r < 32
                  · exact Or.inl (by omega)
                  · exact Or.inr ⟨by omega, by simp; omega⟩
                have hwr : IntKind.u64.wrap (r : Int) = (r : Int) := by rw [IntKind.wrap_u64]; omega
                have z1 : ¬ 9223372036854775807 < A.size + 2 := by omega
                have z2 : ¬ 9223372036854775807 < A.size + 2 + (en (hex2 r)).length := by omega
                have z3 : ¬ 9223372036854775807 < A.size + 2 + (en (hex2 r)).length + 1 := by omega
                have cd := rdigits_w r hlt
                rcases hz with hz | ⟨hz, hz2⟩
                all_goals
                  go_wp2_with fail
                  refine (cd _).mono ?_
                  rintro e w5 ⟨rfl, b5⟩
                  have hit5 := (b5.block _ (lt_of_heap hit2)).trans hit2
                  have hB5 := hbw2.trans (below_le b5 (by rw [hWs.out]; omega))
                  go_wp2
                  refine fin _ _ hit5 hB5 ?_
                  rw [hesc]; simp
              | false =>
                have hesc : en (escR r) = e1 r := by
                  unfold escR
                  rw [if_neg h1, if_neg h2, if_neg (by simp [hh]), en_one]
                have g1 : ¬ ((r : Int) < 32) := by simp [hiddenB] at hh; omega
                have g2 : ((r : Int) == 127) = false := by simp [hiddenB] at hh; simp; omega
                have z1 : ¬ 9223372036854775807 < A.size + (e1 r).length := by omega
                go_wp2
                refine fin _ _ (hWa _) (hBa _) ?_
                rw [hesc]; simp
        · have hnx : ∀ ty, (Instr.next (.pointer (some ⟨w2.heap.size, 0, none⟩)) true ty).run Tryz.prog wr = _ := fun ty => Lib.run_next_end_at wr w2.heap.size s pos ty hit hp
          have hacc := hH.out
          rw [sg_end s pos hp] at hacc
          simp only [escs, en, List.append_nil] at hacc
          have hfin : R = A.data.toList ++ [39] := by
            rw [← hR, hacc]
            show e1 39 ++ en (escs (sg s.data.toList) ++ [39]) = _
            rw [en_append, en_one]; rfl
          have z1 : ¬ 9223372036854775807 < A.size + 1 := by omega
          have hAe : A ++ (⟨#[39]⟩ : ByteArray) = ⟨R.toArray⟩ := by
            apply ByteArray.ext
            rw [← Array.toList_inj, hfin]; simp
          clear hacc hfin hR hH
          go_wp2
          go_ret
          refine ⟨?_, B2.trans (below_le hbw B2.size)⟩
          show Ending.returned (Value.string _) = _
          first | rw [hAe] | rfl
  · rw [if_neg hv] at hR
    subst hR
    have hv' : Lib.validD s.data.toList = false := by simpa using hv
    go_enter Tryz.func45, Tryz.ntmps45
    go_wp2_with fail
    refine (rvalid_w s _ (by omega) hT.1).mono ?_
    rintro e w1 ⟨rfl, b1⟩
    go_wp2
    go_ret
    exact ⟨rfl, b1⟩
end Go.Proofs.YtjacoodfhkaioaaGreatDoor
namespace Go.Proofs.YtjacoodfhkaioaaGreatDoor
open Go.ChangeShapes Go.WideShapes Go.ChangeAt Go.RowKit Go.Shelf
set_option linter.unusedSimpArgs false
set_option linter.unusedVariables false
set_option maxRecDepth 2000

/-- signs as a string -/
def bs (l : List UInt8) : ByteArray := ⟨l.toArray⟩
theorem bs_cat (x y : List UInt8) : bs x ++ bs y = bs (x ++ y) := by unfold bs; rw [app_mk]; simp
theorem bs_size (x : List UInt8) : (bs x).size = x.length := by show x.toArray.size = _; simp
theorem dec_low {u : Nat} (h : u < 10) : Lib.decDigits u = [UInt8.ofNat (48 + u)] := by rw [Lib.decDigits, dif_pos h]
theorem dec_high {u : Nat} (h : ¬ u < 10) : Lib.decDigits u = Lib.decDigits (u / 10) ++ [UInt8.ofNat (48 + u % 10)] := by rw [Lib.decDigits, dif_neg h]
set_option maxHeartbeats 1000000 in
theorem digitsAll_w (n : Nat) (hn : n < 1000000000000) (w : World) :
    Calls Tryz.prog 46 #[.int .u64 (n : Int), .int .u64 10] w fun e w' => e = .returned (.string (bs (Lib.itoa (n : Int)))) ∧ Below w.heap.size w w' := by
  have hit : Lib.itoa (n : Int) = Lib.decDigits n := by unfold Lib.itoa; rw [if_neg (by omega)]; rfl
  rw [hit]
  obtain ⟨R, hR⟩ : ∃ R, Lib.decDigits n = R := ⟨_, rfl⟩
  rw [hR]
  have hRH := hid hR
  clear hR hit
  go_enter Tryz.func46, Tryz.ntmps46
  go_wp2
  go_loopw [0, 5] (fun v s wr => ∃ (m : Nat) (t : List UInt8), v = .int .u64 (m : Int) ∧ m ≤ n ∧ s = .string (bs t) ∧ Hid (m + t.length ≤ n) ∧ Below w.heap.size w wr ∧ Hid (Lib.decDigits m ++ t = R)) (fun v _ _ => (intOf v).toNat)
  case atStart => exact ⟨n, [], rfl, Nat.le_refl _, rfl, hid (by simp), Below.refl _ _, hid (by simp [hRH.out])⟩
  case round =>
    obtain ⟨m, t, rfl, hmn, rfl, hl, hbw, hH⟩ := hrel
    have hsl := slice10 (m % 10) (by omega)
    have hcat : (⟨#[UInt8.ofNat (48 + m % 10)]⟩ : ByteArray) ++ bs t = bs (UInt8.ofNat (48 + m % 10) :: t) := by
      have := bs_cat [UInt8.ofNat (48 + m % 10)] t
      exact this
    have hsz : ¬ 9223372036854775807 < 1 + (bs t).size := by rw [bs_size]; have := hl.out; omega
    obtain ⟨q, hq⟩ : ∃ q : Nat, (m : Int) % 10 = (q : Int) := ⟨m % 10, by omega⟩
    have hqm : m % 10 = q := by omega
    obtain ⟨ch, hch⟩ : ∃ ch, UInt8.ofNat (48 + m % 10) = ch := ⟨_, rfl⟩
    obtain ⟨z, hz⟩ : ∃ z : Nat, (m : Int) / 10 = (z : Int) := ⟨m / 10, by omega⟩
    have hzm : m / 10 = z := by omega
    rw [hch] at hcat
    rw [hqm] at hsl hch
    rw [hch] at hsl
    obtain ⟨B2, hB2⟩ : ∃ B2, bs (ch :: t) = B2 := ⟨_, rfl⟩
    rw [hB2] at hcat
    have hm' : ((m : Int)).tmod 10 = (q : Int) := by rw [Int.tmod_eq_emod_of_nonneg (by omega)]; exact hq
    have hw : IntKind.u64.wrap ((q : Int) + 1) = (q : Int) + 1 := by rw [IntKind.wrap_u64]; omega
    have hdv : ((m : Int)).tdiv 10 = (z : Int) := by rw [Int.tdiv_eq_ediv_of_nonneg (by omega)]; exact hz
    have hfacts := hid (And.intro hch (And.intro hqm (And.intro hzm hB2)))
    clear hch hqm hzm hB2
    by_cases h10 : m < 10
    · have hz0 : z = 0 := by have := hfacts.out.2.2.1; omega
      subst hz0
      have hRR : B2 = bs R := by
        have h1 := hfacts.out
        rw [← h1.2.2.2, ← hH.out, dec_low h10, ← h1.1, ← h1.2.1, Nat.mod_eq_of_lt h10]; rfl
      subst hRR
      have h10H := hid h10
      clear h10
      go_wp2
      go_quiet (fail)
      go_wp2
      go_ret
      exact ⟨rfl, hbw.trans (below_le (below_drewNv (Below.refl _ _) _) hbw.size)⟩
    · have hzb : ((z : Int) == 0) = false := by have := hfacts.out.2.2.1; simp; omega
      have h10H := hid h10
      clear h10
      go_wp2
      go_quiet (fail)
      go_wp2
      obtain ⟨f1, f2, f3, f4⟩ := hfacts.out
      have h10 := h10H.out
      have e1 : Lib.decDigits z ++ (ch :: t) = R := by
        rw [← hH.out, dec_high h10, f3, f2, f1]; simp
      exact ⟨⟨z, ch :: t, rfl, by omega, by rw [f4], hid (by have := hl.out; simp only [List.length_cons]; omega), hbw.trans (below_le (below_drewNv (Below.refl _ _) _) hbw.size), hid e1⟩, by simp [intOf]; omega⟩
theorem leaf_len {k : Int} {neg : Bool} {d : List Nat} {nm : ByteArray} {n : Int} {l : List Tm} {b : List Nat} (hX : okX (.mk k neg d nm n l b)) (hd : Lm 4294967296 d) (hb : Lm 256 b) : (leafX k neg d nm n b).length ≤ 30000000 := by
  obtain ⟨k0, k7, x0, xn, x23, x4, x6, x7⟩ := hX
  unfold leafX
  split
  · rename_i h; have := txt_len (neg := neg) hd (x0 h); omega
  · split
    · have := quote_le nm.data.toList
      have e : nm.data.toList.length = nm.size := rfl
      omega
    · split
      · rename_i h
        have := x23 (.inl h)
        have := Lib.itoa_length_le n (by omega) (by omega)
        simp; omega
      · split
        · rename_i h
          have := x23 (.inr h)
          have := Lib.itoa_length_le n (by omega) (by omega)
          simp; omega
        · split
          · rename_i h
            have := x7 h
            have := joinC_len b (fun x hx => hb x hx)
            simp only [List.length_append, List.length_cons, List.length_nil]; omega
          · simp
theorem join_sum (C : Nat) : ∀ (l : List Tm), (∀ t ∈ l, (tx t).length ≤ C * (parts t).length) → (joinC (l.map tx)).length ≤ C * (partsL l).length + l.length
  | [], _ => by simp [joinC]
  | [t], h => by
    have := h t (by simp)
    simp [joinC, partsL]; omega
  | t :: u :: l, h => by
    have ih := join_sum C (u :: l) (fun x hx => h x (List.mem_cons_of_mem _ hx))
    have := h t (by simp)
    have e : (partsL (t :: u :: l)).length = (parts t).length + (partsL (u :: l)).length := by simp [partsL]
    simp only [List.map_cons, joinC, List.length_append, List.length_cons] at ih ⊢
    rw [e, Nat.mul_add]
    omega
end Go.Proofs.YtjacoodfhkaioaaGreatDoor
