/- Texts of mine, one behind the other: TextPrint, BigRShort, RunesLess, RunesRLess, RunesRQuote, TextShowM, TextRd1, TextRd2, BigGrown. -/
import Derived.Test.YtlojfmlaookpmaaGreatDoorSqJ
import Derived.Laws.IdiomStrings
import Derived.Test.YtlojfmlaookpmaaGreatDoorSqD
import Derived.Test.YtlojfmlaookpmaaGreatDoorSqC
import Derived.Laws.Concat
import Derived.Test.YtlojfmlaookpmaaGreatDoorSqF
import Derived.Deep.OwnRows
import Derived.Lib.RuneCountTail
import Derived.Deep.QuietTactic
import Derived.BigQuiet
import Derived.Laws.Cover4
import Derived.Lib.TrimUEq
import Derived.Lib.TrimAscii
import Derived.WalkKit
import Derived.Test.YtlojfmlaookpmaaGreatDoorSqE
import Derived.Test.YtlojfmlaookpmaaGreatDoorSqA
set_option linter.unusedSimpArgs false
set_option linter.unusedVariables false
set_option maxRecDepth 2000
namespace Go.Proofs.YtlojfmlaookpmaaGreatDoor
open Go.ChangeShapes Go.WideShapes Go.ChangeAt Go.RowKit Go.Shelf
def prE (T : Tm) : Int := if mayB T then (if (tx T).length ≤ 65536 then 0 else 3) else 1
def prS (T : Tm) : List UInt8 := if mayB T then (if (tx T).length ≤ 65536 then tx T else []) else []
theorem may_ok {T : Tm} (hok : ∀ p ∈ parts T, p.ok1) (h : mayB T = true) : okXs T ∧ (parts T).length ≤ 65536 := by
 unfold mayB at h
 rw [Bool.and_eq_true] at h
 obtain ⟨h1, h2⟩ := h
 have h3 := of_decide_eq_true h1
 refine ⟨fun p hp => okX_fair p (hok p hp) (List.all_eq_true.1 h2 p hp), ?_⟩
 unfold treeN at h3
 omega
theorem conv_out {w : World} {B : Nat} {ov : Value} {o : List UInt8} (h : w.ownsRow B 5 1 ov o.length (Lib.byteCells o)) (ho : o.length ≤ 1000000000) :
   (convert 25 9 ov).run Tryz.prog w = .ok (.string ⟨o.toArray⟩) w := by
 rcases h.2 with ⟨rfl, h0⟩ | ⟨q, c, cur, rfl, hq, hc, hn, hm, _⟩
 · have : o = [] := List.eq_nil_of_length_eq_zero h0
   subst this
   rfl
 · refine run_convert_bytes_back _ _ _ 5 ⟨q, 0, none⟩ _ o Tryz.underlying25 Tryz.underlying5 Tryz.underlying9 ?_
   intro j hj
   exact h.cells (g := q) rfl j (.int .u8 ((o[j]).toNat : Int)) (by simp [Lib.byteCells, hj])
theorem tab_up {w w' : World} {zs : List Int} (h : Lib.TabBelow Tryz.prog w.heap.size w "internal/strconv.uint64pow10" .u64 zs) (hb : Below w.heap.size w w') : Lib.TabBelow Tryz.prog w'.heap.size w' "internal/strconv.uint64pow10" .u64 zs := fun w2 h2 => h w2 (hb.trans (below_le h2 hb.size))
theorem prn_new (w0 : World) (T : Tm) (v : Value) (W1 W2 : World) (hT : TV (Low w0) w0 T v) (e1 : W1 = w0.alloc (.cells #[.iface 27 v] 59)) (e2 : W2 = W1.alloc (.cells #[.slice none 0 0, .slice (some ⟨w0.heap.size, 0, none⟩) 1 1] 56)) :
   PrnP w0 (w0.heap.size + 1) [] [.tm T] W2 := by
 have hs : W1.heap.size = w0.heap.size + 1 := by rw [e1]; simp
 have b1 : Below w0.heap.size w0 W1 := by rw [e1]; exact (Below.refl _ w0).alloc (Nat.le_refl _) _
 have b2 : Below W1.heap.size W1 W2 := by rw [e2]; exact (Below.refl _ W1).alloc (Nat.le_refl _) _
 have hg1 : W1.heap[w0.heap.size]? = some (.cells #[.iface 27 v] 59 (0, 0)) := by rw [e1]; exact heap_alloc_new w0 _
 have hg2 : W2.heap[w0.heap.size]? = some (.cells #[.iface 27 v] 59 (0, 0)) := (b2.block _ (by omega)).trans hg1
 refine ⟨.slice none 0 0, .slice (some ⟨w0.heap.size, 0, none⟩) 1 1, [.iface 27 v], ?_, by omega, World.ownsRow_nil _ _ _ _, ?_, ⟨[], _, rfl, ⟨v, rfl, hT⟩, rfl⟩, b1.trans (below_le b2 (by omega))⟩
 · rw [e2, ← hs]; exact heap_alloc_new W1 _
 · exact ⟨rfl, .inr ⟨w0.heap.size, 1, _, rfl, Nat.le_refl _, hg2, Nat.le_refl _, by unfold maxLen; omega, rfl, rfl⟩⟩
theorem prn_see {w0 : World} {g : Nat} {o : List UInt8} {ps : List Pc} {w : World} (h : PrnP w0 g o ps w) (ho : o.length ≤ 1000000000) :
   ∃ oo cc ow cw, w.cell? ⟨g, 0, none⟩ = some (.slice oo o.length cc) ∧ w.cell? ⟨g, 1, none⟩ = some (.slice ow ps.length cw) ∧ (convert 25 9 (.slice oo o.length cc)).run Tryz.prog w = .ok (.string ⟨o.toArray⟩) w := by
 obtain ⟨ov, wv, vs, h⟩ := h
 obtain ⟨c0, c1, f0, f1⟩ := h.cells
 have hc := conv_out h.out ho
 have hl := h.is.length
 obtain ⟨oo, cc, rfl⟩ := own_form h.out
 obtain ⟨ow, cw, rfl⟩ := own_form h.wait
 rw [hl] at c1
 exact ⟨oo, cc, ow, cw, c0, c1, hc⟩
set_option maxHeartbeats 4000000 in
set_option maxRecDepth 4000 in
theorem print_w (T : Tm) (v : Value) (w : World) (hD : dep T ≤ 1000000) (hok : ∀ p ∈ parts T, p.ok1) (hT : TV (Low w) w T v) (hTa : Tabs w) (hQ : TabsQ w) (hP : Lib.TabBelow Tryz.prog w.heap.size w "internal/strconv.uint64pow10" .u64 Lib.pow10Tab) :
   Calls Tryz.prog 10 #[v] w fun e w' => e = .returned (.tuple #[.string ⟨(prS T).toArray⟩, .int .i64 (prE T)]) ∧ Below w.heap.size w w' := by
 obtain ⟨k, neg, od, ld, cd, nm, n, ol, ll, cl, ob, lb, cb, rfl⟩ := hT.form
 obtain ⟨W, hW⟩ : ∃ W, W = w.alloc (.cells #[.int .i64 k, .bool neg, .slice od ld cd, .string nm, .int .i64 n, .slice ol ll cl, .slice ob lb cb] 27) := ⟨_, rfl⟩
 have bW : Below w.heap.size w W := by rw [hW]; exact (Below.refl _ w).alloc (Nat.le_refl _) _
 have hgW : W.heap[w.heap.size]? = some (.cells #[.int .i64 k, .bool neg, .slice od ld cd, .string nm, .int .i64 n, .slice ol ll cl, .slice ob lb cb] 27 (0, 0)) := by rw [hW]; exact heap_alloc_new w _
 obtain ⟨y0, y1, y2, y3, y4, y5, y6⟩ := cell7 hgW
 have c1 := May_w T _ W hD hok (tv_below hT bW) (hTa.below bW)
 obtain ⟨E, hE⟩ : ∃ E, prE T = E := ⟨_, rfl⟩
 obtain ⟨S, hS⟩ : ∃ S, prS T = S := ⟨_, rfl⟩
 rw [hE, hS]
 have hEH := hid hE
 have hSH := hid hS
 clear hE hS
 unfold tmV at c1 ⊢
 go_enter Tryz.func10, Tryz.ntmps10
 go_upto_region 1 with fail
 rw [← hW]
 clear hW
 go_wp2_with fail
 refine c1.mono ?_
 rintro e w1 ⟨rfl, b1⟩
 clear c1
 have hB1 : Below w.heap.size w w1 := bW.trans (below_le b1 bW.size)
 have hgw1 : w1.heap[w.heap.size]? = some (.cells #[.int .i64 k, .bool neg, .slice od ld cd, .string nm, .int .i64 n, .slice ol ll cl, .slice ob lb cb] 27 (0, 0)) := (b1.block _ (Array.getElem?_eq_some_iff.1 hgW).1).trans hgW
 have hT1 := tv_below hT hB1
 cases hm : mayB T
 · have e1 : E = 1 := by rw [← hEH.out]; unfold prE; rw [hm]; rfl
   have e2 : S = [] := by rw [← hSH.out]; unfold prS; rw [hm]; rfl
   subst e1 e2
   clear hm y0 y1 y2 y3 y4 y5 y6 hgW
   go_wp2
   all_goals go_ret2
   all_goals exact ⟨rfl, hB1⟩
 · obtain ⟨hX, hpl⟩ := may_ok hok hm
   have hXH := hid (And.intro hX hpl)
   have e1 : Hid (E = if (tx T).length ≤ 65536 then 0 else 3) := hid (by rw [← hEH.out]; unfold prE; rw [hm]; rfl)
   have e2 : Hid (S = if (tx T).length ≤ 65536 then tx T else []) := hid (by rw [← hSH.out]; unfold prS; rw [hm]; rfl)
   clear y0 y1 y2 y3 y4 y5 y6 hgW hm hX hpl hEH hSH
   obtain ⟨y0, y1, y2, y3, y4, y5, y6⟩ := cell7 hgw1
   go_upto_region 4 with fail
   have hPn := prn_new w1 T _ _ _ hT1 rfl rfl
   generalize World.alloc (World.alloc w1 _) _ = W2 at *
   have hPnH := hid hPn
   have hQ1 := hid (hQ.below hB1)
   have hP1 := hid (tab_up hP hB1)
   clear hPn hQ hP y0 y1 y2 y3 y4 y5 y6 hgw1 hT1 hT hTa hok b1 bW
   go_loopg [] (works [.tm T]) (fun t wr => ∃ o ps, t = works ps ∧ Hid (PrnP w1 (w1.heap.size + 1) o ps wr) ∧ Hid (o ++ rem ps = tx T) ∧ Hid (∀ p ∈ ps, okPc p) ∧ o.length ≤ 31000000 ∧ Hid (works ps ≤ 300000))
   case atStart => exact ⟨[], [.tm T], rfl, hPnH, hid (by simp [rem, Pc.text]), hid (by intro p hp; simp at hp; subst hp; exact hXH.out.1), by simp, hid (by have := hXH.out.2; simp only [works, Pc.work]; omega)⟩
   case round =>
     obtain ⟨o, ps, hgk, hPr, hR, hO, ho, hwk⟩ := hrel
     obtain ⟨oo, cc, ow, cw, c0, c1, hcv⟩ := prn_see hPr.out (by omega)
     have hbb : Below w.heap.size w wr := hB1.trans (below_le hPr.out.below hB1.size)
     have hgkH := hid hgk
     clear hgk
     cases ps with
     | nil =>
       have hR2 := hR.out
       simp only [rem, List.append_nil] at hR2
       by_cases h6 : o.length ≤ 65536
       · have h6z : ¬ (65536 : Int) < (o.length : Int) := by omega
         have q1 : E = 0 := by rw [e1.out, ← hR2, if_pos h6]
         have q2 : S = o := by rw [e2.out, ← hR2, if_pos h6]
         subst q1 q2
         clear hR2
         go_wp2
         go_ret2
         exact ⟨rfl, hbb⟩
       · have h6z : (65536 : Int) < (o.length : Int) := by omega
         have q1 : E = 3 := by rw [e1.out, ← hR2, if_neg h6]
         have q2 : S = [] := by rw [e2.out, ← hR2, if_neg h6]
         subst q1 q2
         clear hR2 hcv
         go_wp2
         go_ret2
         exact ⟨rfl, hbb⟩
     | cons p ps =>
       have hlz : (0 : Int) < ((ps.length + 1 : Nat) : Int) := by omega
       by_cases h6 : o.length ≤ 65536
       · have h6z : (o.length : Int) ≤ 65536 := by omega
         have c2 := pnext_w w1 (w1.heap.size + 1) o p ps wr hPr.out hO.out (by have := hwk.out; omega) (by omega) hQ1.out hP1.out
         clear hcv
         go_wp2_with fail
         refine c2.mono ?_
         rintro e w2 ⟨rfl, o', ps', h2, hr2, hw2, ho2, hl2⟩
         have hgk2 := hgkH.out
         clear c2
         go_wp2
         go_roundg (works ps')
         case measure => omega
         case rel => exact ⟨o', ps', rfl, hid h2, hid (by rw [hr2]; exact hR.out), hid ho2, by omega, hid (by have := hwk.out; omega)⟩
       · have h6z : (65536 : Int) < (o.length : Int) := by omega
         have hlen : 65536 < (tx T).length := by rw [← hR.out, List.length_append]; omega
         have q1 : E = 3 := by rw [e1.out, if_neg (by omega)]
         have q2 : S = [] := by rw [e2.out, if_neg (by omega)]
         subst q1 q2
         clear hlen hcv
         go_wp2
         go_ret2
         exact ⟨rfl, hbb⟩
end Go.Proofs.YtlojfmlaookpmaaGreatDoor
namespace Go.Proofs.YtlojfmlaookpmaaGreatDoor
open Go.ChangeShapes Go.WideShapes Go.ChangeAt Go.RowKit
theorem app_mk (x y : Array UInt8) : (⟨x⟩ : ByteArray) ++ ⟨y⟩ = ⟨x ++ y⟩ := by
 apply ByteArray.ext; simp
open Go.Shelf
theorem valid_at (s : ByteArray) (pos : Nat) (h : pos < s.size) (hv : Lib.validD (s.data.toList.drop pos) = true) :
   Lib.validD (s.data.toList.drop (pos + (Utf8.decode s pos).2)) = true ∧ (e1 (Utf8.decode s pos).1).length = (Utf8.decode s pos).2 ∧ pos + (Utf8.decode s pos).2 ≤ s.size := by
 have hs : s.data.toList.length = s.size := rfl
 have hne : s.data.toList.drop pos ≠ [] := by
   intro e; have := congrArg List.length e; simp only [List.length_drop, List.length_nil] at this; omega
 have hle := Lib.decodeL_le _ hne
 rw [Lib.validD_step _ hne] at hv
 split at hv
 · cases hv
 · rename_i hb
   have he := Lib.encode_decode _ hne hb
   rw [Lib.decodeL_drop] at hv he hle
   rw [List.drop_drop] at hv
   refine ⟨hv, ?_, ?_⟩
   · unfold e1
     rw [he, List.length_take]
     omega
   · rw [List.length_drop] at hle; omega
def RowR (g : Nat) (l : List Nat) (w : World) : Prop := ∀ (j r : Nat), l[j]? = some r → w.cell? ⟨g, j, none⟩ = some (.int .i32 (r : Int))
theorem RowR.below {g : Nat} {l : List Nat} {w w' : World} (h : RowR g l w) (hb : Below w.heap.size w w') : RowR g l w' := fun j x hx =>
 (hb.cell (World.block_lt_of_cell? _ _ (h j x hx))).trans (h j x hx)
theorem runesFrom_eq (s : ByteArray) : ∀ (bound i : Nat) (acc : Array Value), s.size ≤ i + bound → Conv.runesFrom s bound i acc = acc ++ ((sg (s.data.toList.drop i)).map fun (r : Nat) => Value.int .i32 (r : Int)).toArray
 | 0, i, acc, h => by
   rw [Conv.runesFrom, sg_end s i (by omega)]; simp
 | b + 1, i, acc, h => by
   rw [Conv.runesFrom]
   by_cases hp : i < s.size
   · have hw := Lib.width_pos s i
     rw [if_pos hp, sg_at s i hp]
     obtain ⟨⟨r, k⟩, hd⟩ : ∃ d, Utf8.decode s i = d := ⟨_, rfl⟩
     rw [hd] at hw ⊢
     have ih := runesFrom_eq s b (i + k) (acc.push (.int .i32 (r : Int))) (by simp only [] at hw; omega)
     simp only [List.map_cons]
     show Conv.runesFrom s b (i + k) (acc.push (.int .i32 (r : Int))) = _
     rw [ih]
     simp
   · rw [if_neg hp, sg_end s i hp]; simp
theorem runes_conv (s : ByteArray) (w : World) (hs : s.size ≤ 1000000) :
   ∃ cap W, (convert 9 112 (.string s)).run Tryz.prog w = .ok (.slice (some ⟨w.heap.size, 0, none⟩) (sg s.data.toList).length cap) W ∧ Below w.heap.size w W ∧ RowR w.heap.size (sg s.data.toList) W ∧ W.heap.size = w.heap.size + 1 := by
 have e : Conv.runesFrom s s.size 0 #[] = ((sg s.data.toList).map fun (r : Nat) => Value.int .i32 (r : Int)).toArray := by
   rw [runesFrom_eq s s.size 0 #[] (by omega)]; simp
 have hle := sg_le s.data.toList
 have hsz : s.data.toList.length = s.size := rfl
 have hr := run_runes_of_string (P := Tryz.prog) w 9 112 21 s Tryz.underlying9 Tryz.underlying112 Tryz.underlying21 (by rw [e]; simp; omega)
 rw [e] at hr
 simp only [List.size_toArray, List.length_map] at hr
 refine ⟨_, _, hr, ((Below.refl _ w).drew).alloc (Nat.le_refl _) _, ?_, by simp⟩
 intro j r hj
 rw [show ∀ o : Obj, (w.drew.alloc o).cell? ⟨w.heap.size, j, none⟩ = (w.drew.alloc o).cell? ⟨w.drew.heap.size, j, none⟩ from fun _ => rfl, Lib.cell_of_heap (Go.heap_alloc_new w.drew _)]
 have hjl : j < (sg s.data.toList).length := (List.getElem?_eq_some_iff.1 hj).1
 rw [Array.getElem?_append_left (by simpa using hjl)]
 simp [hj]
theorem app_mk2 (x y : Array UInt8) : (⟨x⟩ : ByteArray) ++ ⟨y⟩ = ⟨x ++ y⟩ := by
 apply ByteArray.ext; simp
theorem digits16 : ∀ k : Fin 16, ((⟨#[48, 49, 50, 51, 52, 53, 54, 55, 56, 57, 97, 98, 99, 100, 101, 102]⟩ : ByteArray).extract k.val (k.val + 1)) = ⟨#[(hexD k.val).toUInt8]⟩ := by decide +kernel
theorem slice16 (q : Nat) (hq : q < 16) (w : World) : (Instr.slice 9 (.string ⟨#[48, 49, 50, 51, 52, 53, 54, 55, 56, 57, 97, 98, 99, 100, 101, 102]⟩) (some (.int .u64 (q : Int))) (some (.int .u64 ((q : Int) + 1))) none).run Tryz.prog w = .ok (.string ⟨#[(hexD q).toUInt8]⟩) w := by
 have h := run_slice_string (P := Tryz.prog) w 9 ⟨#[48, 49, 50, 51, 52, 53, 54, 55, 56, 57, 97, 98, 99, 100, 101, 102]⟩ .u64 .u64 (q : Int) ((q : Int) + 1) Tryz.underlying9 (by omega) (by omega) (by show (q : Int) + 1 ≤ 16; omega)
 rw [show ((q : Int)).toNat = q by omega, show ((q : Int) + 1).toNat = q + 1 by omega] at h
 have hd := digits16 ⟨q, hq⟩
 simp only [] at hd
 rw [hd] at h
 exact h
set_option maxHeartbeats 2000000 in
theorem rdigits_w (r : Nat) (hr : r < 128) (w : World) :
   Calls Tryz.prog 102 #[.int .u64 (r : Int), .int .u64 16] w fun e w' => e = .returned (.string ⟨(en (hex2 r)).toArray⟩) ∧ Below w.heap.size w w' := by
 go_enter Tryz.func102, Tryz.ntmps102
 go_wp2
 go_loopw [0, 5] (fun n s wr => Below w.heap.size w wr ∧ Hid ((n = .int .u64 (r : Int) ∧ s = .string ⟨#[]⟩) ∨ (16 ≤ r ∧ n = .int .u64 ((r / 16 : Nat) : Int) ∧ s = .string ⟨#[(hexD (r % 16)).toUInt8]⟩))) (fun n _ _ => (intOf n).toNat)
 case atStart => exact ⟨Below.refl _ _, hid (Or.inl ⟨rfl, rfl⟩)⟩
 case round =>
   obtain ⟨hbw, hor⟩ := hrel
   rcases hor.out with ⟨rfl, rfl⟩ | ⟨h16, rfl, rfl⟩
   · obtain ⟨q, hq⟩ : ∃ q, r % 16 = q := ⟨_, rfl⟩
     have hq16 : q < 16 := by omega
     have hsl := slice16 q hq16
     have hm : ((r : Int)).tmod 16 = (q : Int) := by rw [Int.tmod_eq_emod_of_nonneg (by omega)]; omega
     have hw : IntKind.u64.wrap ((q : Int) + 1) = (q : Int) + 1 := by rw [IntKind.wrap_u64]; omega
     have hdv : ((r : Int)).tdiv 16 = ((r / 16 : Nat) : Int) := by rw [Int.tdiv_eq_ediv_of_nonneg (by omega)]; omega
     by_cases h16 : 16 ≤ r
     · have hz : (((r / 16 : Nat) : Int) == 0) = false := by simp; omega
       go_wp2
       go_quiet (fail)
       go_wp2
       refine ⟨⟨below_drewNv hbw _, hid (Or.inr ⟨h16, by simp, ?_⟩)⟩, by simp [intOf]; omega⟩
       rw [app_mk2, hq]; rfl
     · have hz : (((r / 16 : Nat) : Int) == 0) = true := by simp; omega
       have hen : en (hex2 r) = [(hexD q).toUInt8] := by
         have hqr : q = r := by omega
         unfold hex2; rw [if_pos (by omega), en_one, hqr, e1_ascii _ (hexD_lt _ (by omega))]
       go_wp2
       go_quiet (fail)
       go_wp2
       go_ret
       refine ⟨?_, below_drewNv hbw _⟩
       show Ending.returned (Value.string _) = _
       rw [hen, app_mk2]; rfl
   · obtain ⟨q, hq⟩ : ∃ q, r / 16 = q := ⟨_, rfl⟩
     rw [hq]
     have hq16 : q < 16 := by omega
     have hsl := slice16 q hq16
     have hm : ((q : Int)).tmod 16 = (q : Int) := by rw [Int.tmod_eq_emod_of_nonneg (by omega)]; omega
     have hw : IntKind.u64.wrap ((q : Int) + 1) = (q : Int) + 1 := by rw [IntKind.wrap_u64]; omega
     have hdv : ((q : Int)).tdiv 16 = 0 := by rw [Int.tdiv_eq_ediv_of_nonneg (by omega)]; omega
     have hen : en (hex2 r) = [(hexD q).toUInt8, (hexD (r % 16)).toUInt8] := by
       unfold hex2; rw [if_neg (by omega), hq]; show e1 _ ++ (e1 _ ++ []) = _; rw [e1_ascii _ (hexD_lt _ hq16), e1_ascii _ (hexD_lt _ (by omega))]; rfl
     go_wp2
     go_quiet (fail)
     go_wp2
     go_ret
     refine ⟨?_, below_drewNv hbw _⟩
     show Ending.returned (Value.string _) = _
     rw [hen, app_mk2]; rfl
theorem enc_e1 (r : Nat) (h : okR r) : (Utf8.encode (r : Int)).data.toList = e1 r := by
 have hv : Utf8.valid (r : Int) = true := by
   unfold okR at h; unfold Utf8.valid; simp; omega
 unfold okR at h
 unfold Utf8.encode e1 Lib.encodeRune
 simp only [hv, if_true]
 have e : ((r : Int)).toNat = r := by omega
 rw [e]
 by_cases h1 : r < 128
 · rw [if_pos (by omega), Lib.encodeRuneZ_one (by omega) (by omega)]; rfl
 by_cases h2 : r ≤ 2047
 · rw [if_neg (by omega), if_pos (by omega), Lib.encodeRuneZ_two (by omega) (by omega)]
   simp only [List.map_cons, List.map_nil]
   congr 1
 by_cases h3 : r ≤ 65535
 · rw [if_neg (by omega), if_neg (by omega), if_pos (by omega), Lib.encodeRuneZ_three (by omega)]
   simp only [List.map_cons, List.map_nil]
   congr 1
 · rw [if_neg (by omega), if_neg (by omega), if_neg (by omega), Lib.encodeRuneZ_four (by omega) (by omega)]
   simp only [List.map_cons, List.map_nil]
   congr 1
theorem runesBytes_en : ∀ (rs : List Nat) (s : ByteArray), okRs rs → ((rs.map fun (r : Nat) => (r : Int)).foldl (fun r n => r ++ Utf8.encode n) s).data.toList = s.data.toList ++ en rs
 | [], s, _ => by simp [en]
 | r :: t, s, h => by
   simp only [List.map_cons, List.foldl_cons]
   rw [runesBytes_en t _ (okRs_cons h).2]
   have e := enc_e1 r (okRs_cons h).1
   simp only [ByteArray.data_append, Array.toList_append]
   rw [e, List.append_assoc]; rfl
theorem runesBytes_mk (rs : List Nat) (h : okRs rs) : runesBytes (rs.map fun (r : Nat) => (r : Int)) = ⟨(en rs).toArray⟩ := by
 have := runesBytes_en rs ByteArray.empty h
 apply ByteArray.ext
 unfold runesBytes
 rw [← Array.toList_inj, this]; simp
theorem string_of_runes (g len cap : Nat) (rs : List Nat) (w : World) (h : okRs rs) (hr : RowR g rs w) (hl : rs.length = len) :
   (convert 112 9 (.slice (some ⟨g, 0, none⟩) len cap)).run Tryz.prog w = .ok (.string ⟨(en rs).toArray⟩) w := by
 rw [run_convert_runes_string w 112 9 21 _ _ _ Tryz.underlying112 Tryz.underlying21 Tryz.underlying9]
 have hload : (loadCells ⟨g, 0, none⟩ len).run Tryz.prog w = .ok ((rs.map fun (r : Nat) => (r : Int)).map (Value.int .i32)).toArray w := by
   rw [← hl]
   have := run_loadCells_list (P := Tryz.prog) w ⟨g, 0, none⟩ ((rs.map fun (r : Nat) => (r : Int)).map (Value.int .i32)) (fun j v hj => by
     simp only [List.map_map, List.getElem?_map, Option.map_eq_some_iff] at hj
     obtain ⟨r, hjr, rfl⟩ := hj
     have := hr j r hjr
     simp only [Addr.add]
     split
     · rename_i h0; subst h0; exact this
     · simpa using this)
   simpa using this
 rw [run_runesToString w ⟨g, 0, none⟩ len cap _ hload, runesBytes_mk rs h]
set_option maxHeartbeats 4000000 in
set_option maxRecDepth 100000 in
theorem rquote_w (s : ByteArray) (w : World) (hs : s.size ≤ 1000000) (hT : TabsQ w) :
   Calls Tryz.prog 70 #[.string s] w fun e w' => e = .returned (.string ⟨(quoteL s.data.toList).toArray⟩) ∧ Below w.heap.size w w' := by
 obtain ⟨R, hR⟩ : ∃ R, quoteL s.data.toList = R := ⟨_, rfl⟩
 rw [hR]
 unfold quoteL at hR
 by_cases hv : Lib.validD s.data.toList = true
 · rw [if_pos hv] at hR
   by_cases hp : plainB s.data.toList = true
   · rw [if_pos hp] at hR
     subst hR
     go_enter Tryz.func70, Tryz.ntmps70
     go_wp2_with fail
     refine (rvalid_w s _ (by omega) hT.1).mono ?_
     rintro e w1 ⟨rfl, b1⟩
     go_wp2_with fail
     refine (rPlain_w s _).mono ?_
     rintro e w2 ⟨rfl, b2⟩
     go_wp2
     go_ret
     exact ⟨by simp, b1.trans (below_le b2 b1.size)⟩
   · rw [if_neg hp] at hR
     have hp' : plainB s.data.toList = false := by simpa using hp
     go_enter Tryz.func70, Tryz.ntmps70
     go_wp2_with fail
     refine (rvalid_w s _ (by omega) hT.1).mono ?_
     rintro e w1 ⟨rfl, b1⟩
     go_wp2_with fail
     refine (rPlain_w s _).mono ?_
     rintro e w2 ⟨rfl, b2⟩
     have B2 : Below w.heap.size w w2 := b1.trans (below_le b2 b1.size)
     clear b1 b2 hT
     go_wp2
     go_loopw [3] (fun av wr => ∃ (pos : Nat) (A : ByteArray), av = .string A ∧ wr.heap[w2.heap.size]? = some (.stringIter s pos) ∧ Below w2.heap.size w2 wr ∧ pos ≤ s.size + 4 ∧ A.size ≤ 1 + 20 * pos ∧ Hid (A.data.toList ++ en (escs (sg (s.data.toList.drop pos))) = 39 :: en (escs (sg s.data.toList)))) (fun _ wr => s.size - wr.iterPos w2.heap.size)
     case atStart =>
       exact ⟨0, ⟨#[39]⟩, rfl, World.iter_heap w2 s 0, (Below.refl _ w2).alloc (Nat.le_refl _) _, by omega, by decide, hid (by simp)⟩
     case round =>
       obtain ⟨pos, A, rfl, hit, hbw, hpz, hal, hH⟩ := hrel
       by_cases hp : pos < s.size
       · have hnx : ∀ ty, (Instr.next (.pointer (some ⟨w2.heap.size, 0, none⟩)) true ty).run Tryz.prog wr = _ := fun ty => Lib.run_next_any_at wr w2.heap.size s pos ty hit hp
         have hwd := Lib.width_pos s pos
         have hw4 : (Utf8.decode s pos).2 ≤ 4 := by
           rw [Lib.decode_at]
           rcases Lib.decodeN_shape (s.size - pos) (s.get! pos).toNat (s.get! (pos + 1)).toNat (s.get! (pos + 2)).toNat (s.get! (pos + 3)).toNat with ⟨_, e⟩ | ⟨_, _, _, _, e⟩ | ⟨_, _, _, _, _, _, e⟩ | ⟨_, _, _, _, _, _, _, e⟩ | e
           all_goals (rw [e]; dsimp only; omega)
         have hit2 := Lib.iterAt_heap wr w2.heap.size s pos (pos + (Utf8.decode s pos).2) hit
         have hbw2 := Lib.below_iterAt hbw (k := w2.heap.size) (Nat.le_refl _) s (pos + (Utf8.decode s pos).2)
         have hst : Hid (sg (s.data.toList.drop pos) = _) := hid (sg_at s pos hp)
         obtain ⟨r, hr⟩ : ∃ r, (Utf8.decode s pos).1 = r := ⟨_, rfl⟩
         have hok : okR r := by
           have := okRs_sg (s.data.toList.drop pos)
           rw [hst.out, hr] at this
           exact this r (by simp)
         rw [hr] at hnx
         have hH1 : Hid (A.data.toList ++ en (escs (r :: sg (s.data.toList.drop (pos + (Utf8.decode s pos).2)))) = 39 :: en (escs (sg s.data.toList))) := hid (by
           have := hH.out
           rw [hst.out, hr] at this
           exact this)
         have hl5 := escR_len r
         have hl20 := en_length_le (escR r)
         have hcv : ∀ W : World, (convert 112 9 (.slice (some ⟨W.heap.size, 0, none⟩) 1 1)).run Tryz.prog (W.alloc (.cells #[.int .i32 (r : Int)] 21)) = .ok (.string ⟨(e1 r).toArray⟩) (W.alloc (.cells #[.int .i32 (r : Int)] 21)) := fun W => by
           have := string_of_runes W.heap.size 1 1 [r] (W.alloc (.cells #[.int .i32 (r : Int)] 21)) (okRs_one hok) (fun j x hj => by
             match j, hj with
             | 0, hj => simp at hj; subst hj; rw [Lib.cell_of_heap (Go.heap_alloc_new W _)]; rfl
             | j + 1, hj => simp at hj) rfl
           rw [en_one] at this
           exact this
         have he4 := (e1_length r).2
         have fin : ∀ (W : World) (A' : ByteArray), W.heap[w2.heap.size]? = some (.stringIter s (pos + (Utf8.decode s pos).2)) → Below w2.heap.size w2 W → A'.data.toList = A.data.toList ++ en (escR r) →
             (∃ (pos' : Nat) (A1 : ByteArray), Value.string A' = .string A1 ∧ W.heap[w2.heap.size]? = some (.stringIter s pos') ∧ Below w2.heap.size w2 W ∧ pos' ≤ s.size + 4 ∧ A1.size ≤ 1 + 20 * pos' ∧ Hid (A1.data.toList ++ en (escs (sg (s.data.toList.drop pos'))) = 39 :: en (escs (sg s.data.toList)))) ∧ s.size - W.iterPos w2.heap.size < s.size - wr.iterPos w2.heap.size := by
           intro W A' hW hB hA
           have hsz : A'.size = A.size + (en (escR r)).length := by
             have h1 : A'.data.toList.length = A'.size := rfl
             have h2 : A.data.toList.length = A.size := rfl
             rw [← h1, ← h2, hA, List.length_append]
           refine ⟨⟨_, A', rfl, hW, hB, by omega, by omega, hid ?_⟩, ?_⟩
           · rw [hA, ← hH1.out, List.append_assoc]
             show _ = A.data.toList ++ en (escR r ++ escs _)
             rw [en_append]
           · simp only [World.iterPos, hW, hit]
             omega
         have hsz2 : w2.heap.size < wr.heap.size := lt_of_heap hit
         have hWs : Hid ((wr.iterAt w2.heap.size s (pos + (Utf8.decode s pos).2)).heap.size = wr.heap.size) := hid (Lib.iterAt_size _ _ _ _)
         have hWa : ∀ o, ((wr.iterAt w2.heap.size s (pos + (Utf8.decode s pos).2)).alloc o).heap[w2.heap.size]? = some (.stringIter s (pos + (Utf8.decode s pos).2)) := fun o => (Lib.alloc_old _ o _ (by rw [hWs.out]; exact hsz2)).trans hit2
         have hBa : ∀ o, Below w2.heap.size w2 ((wr.iterAt w2.heap.size s (pos + (Utf8.decode s pos).2)).alloc o) := fun o => hbw2.alloc (by rw [hWs.out]; omega) o
         by_cases h1 : r = 39 ∨ r = 92
         · have hz : ((r : Int) == 39) = true ∨ (((r : Int) == 39) = false ∧ ((r : Int) == 92) = true) := by
             rcases h1 with rfl | rfl
             · exact Or.inl rfl
             · exact Or.inr ⟨rfl, rfl⟩
           have z1 : ¬ 9223372036854775807 < A.size + 1 := by omega
           have z2 : ¬ 9223372036854775807 < A.size + 1 + (e1 r).length := by omega
           have hesc : en (escR r) = [92] ++ e1 r := by
             unfold escR; rw [if_pos h1]; show e1 92 ++ (e1 r ++ []) = _; rw [List.append_nil]; rfl
           clear h1
           rcases hz with hz | ⟨hz, hz2⟩
           all_goals
             go_wp2
             refine fin _ _ (hWa _) (hBa _) ?_
             rw [hesc]; simp
         · have a1 : ((r : Int) == 39) = false := by simp; omega
           have a2 : ((r : Int) == 92) = false := by simp; omega
           by_cases h2 : r = 10
           · have hesc : en (escR r) = [92, 110] := by subst h2; decide
             have a3 : ((r : Int) == 10) = true := by subst h2; rfl
             have z1 : ¬ 9223372036854775807 < A.size + 2 := by omega
             clear h2 h1
             go_wp2
             refine fin _ _ hit2 hbw2 ?_
             rw [hesc]; simp
           · have a3 : ((r : Int) == 10) = false := by simp; omega
             cases hh : hiddenB r with
             | true =>
               have hlt := hidden_lt hh
               have hesc : en (escR r) = [92, 120] ++ (en (hex2 r) ++ [59]) := by
                 unfold escR
                 rw [if_neg h1, if_neg h2, if_pos hh]
                 show e1 92 ++ (e1 120 ++ en (hex2 r ++ [59])) = _
                 rw [en_append, en_one]
                 rfl
               have hxb : (en (hex2 r)).length ≤ 8 := by
                 have := en_length_le (hex2 r); have := hex2_len r; omega
               have hz : (r : Int) < 32 ∨ (¬ (r : Int) < 32 ∧ ((r : Int) == 127) = true) := by
                 simp [hiddenB] at hh
                 by_cases h32 : r < 32
                 · exact Or.inl (by omega)
                 · exact Or.inr ⟨by omega, by simp; omega⟩
               have hwr : IntKind.u64.wrap (r : Int) = (r : Int) := by rw [IntKind.wrap_u64]; omega
               have z1 : ¬ 9223372036854775807 < A.size + 2 := by omega
               have z2 : ¬ 9223372036854775807 < A.size + 2 + (en (hex2 r)).length := by omega
               have z3 : ¬ 9223372036854775807 < A.size + 2 + (en (hex2 r)).length + 1 := by omega
               have cd := rdigits_w r hlt
               rcases hz with hz | ⟨hz, hz2⟩
               all_goals
                 go_wp2_with fail
                 refine (cd _).mono ?_
                 rintro e w5 ⟨rfl, b5⟩
                 have hit5 := (b5.block _ (lt_of_heap hit2)).trans hit2
                 have hB5 := hbw2.trans (below_le b5 (by rw [hWs.out]; omega))
                 go_wp2
                 refine fin _ _ hit5 hB5 ?_
                 rw [hesc]; simp
             | false =>
               have hesc : en (escR r) = e1 r := by
                 unfold escR
                 rw [if_neg h1, if_neg h2, if_neg (by simp [hh]), en_one]
               have g1 : ¬ ((r : Int) < 32) := by simp [hiddenB] at hh; omega
               have g2 : ((r : Int) == 127) = false := by simp [hiddenB] at hh; simp; omega
               have z1 : ¬ 9223372036854775807 < A.size + (e1 r).length := by omega
               go_wp2
               refine fin _ _ (hWa _) (hBa _) ?_
               rw [hesc]; simp
       · have hnx : ∀ ty, (Instr.next (.pointer (some ⟨w2.heap.size, 0, none⟩)) true ty).run Tryz.prog wr = _ := fun ty => Lib.run_next_end_at wr w2.heap.size s pos ty hit hp
         have hacc := hH.out
         rw [sg_end s pos hp] at hacc
         simp only [escs, en, List.append_nil] at hacc
         have hfin : R = A.data.toList ++ [39] := by
           rw [← hR, hacc]
           show e1 39 ++ en (escs (sg s.data.toList) ++ [39]) = _
           rw [en_append, en_one]; rfl
         have z1 : ¬ 9223372036854775807 < A.size + 1 := by omega
         have hAe : A ++ (⟨#[39]⟩ : ByteArray) = ⟨R.toArray⟩ := by
           apply ByteArray.ext
           rw [← Array.toList_inj, hfin]; simp
         clear hacc hfin hR hH
         go_wp2
         go_ret
         refine ⟨?_, B2.trans (below_le hbw B2.size)⟩
         show Ending.returned (Value.string _) = _
         first | rw [hAe] | rfl
 · rw [if_neg hv] at hR
   subst hR
   have hv' : Lib.validD s.data.toList = false := by simpa using hv
   go_enter Tryz.func70, Tryz.ntmps70
   go_wp2_with fail
   refine (rvalid_w s _ (by omega) hT.1).mono ?_
   rintro e w1 ⟨rfl, b1⟩
   go_wp2
   go_ret
   exact ⟨rfl, b1⟩
def bs (l : List UInt8) : ByteArray := ⟨l.toArray⟩
theorem bs_cat (x y : List UInt8) : bs x ++ bs y = bs (x ++ y) := by unfold bs; rw [app_mk]; simp
theorem bs_size (x : List UInt8) : (bs x).size = x.length := by show x.toArray.size = _; simp
structure Kpt (F : Nat → Prop) (w w' : World) : Prop where
 os : w'.os = w.os
 tape : w'.tape = w.tape
 output : w'.output = w.output
 size : w.heap.size ≤ w'.heap.size
 block : ∀ k, k < w.heap.size → ¬ F k → w'.heap[k]? = w.heap[k]?
theorem Kpt.refl (F : Nat → Prop) (w : World) : Kpt F w w := ⟨rfl, rfl, rfl, Nat.le_refl _, fun _ _ _ => rfl⟩
theorem Kpt.trans {F : Nat → Prop} {a b c : World} (h : Kpt F a b) (k : Kpt F b c) : Kpt F a c :=
 ⟨k.os.trans h.os, k.tape.trans h.tape, k.output.trans h.output, Nat.le_trans h.size k.size, fun i hi hn => (k.block i (Nat.lt_of_lt_of_le hi h.size) hn).trans (h.block i hi hn)⟩
theorem Kpt.mono {F G : Nat → Prop} {w w' : World} (h : Kpt F w w') (hF : ∀ k, F k → G k) : Kpt G w w' := ⟨h.os, h.tape, h.output, h.size, fun k hk hn => h.block k hk (fun hf => hn (hF k hf))⟩
theorem Kpt.of_below {F : Nat → Prop} {w w' : World} (h : Below w.heap.size w w') : Kpt F w w' := ⟨h.os, h.tape, h.output, h.size, fun k hk _ => h.block k hk⟩
theorem Kpt.of_set {F : Nat → Prop} (w : World) {p : Addr} (hp : F p.block) (u : Value) : Kpt F w (w.setCell p u) :=
 ⟨rfl, rfl, rfl, by simp, fun k _ hn => Below.heap_setCell w p u k (fun e => hn (e ▸ hp))⟩
theorem Kpt.below {F : Nat → Prop} {B : Nat} {w w' : World} (h : Kpt F w w') (hB : B ≤ w.heap.size) (hF : ∀ k, F k → B ≤ k) : Below B w w' :=
 ⟨h.os, h.tape, h.output, h.size, fun k hk => h.block k (by omega) (fun hf => by have := hF k hf; omega)⟩
structure Rdr (g : Nat) (r : List UInt8) (ov : Value) (w : World) : Prop where
 at_ : w.heap[g]? = some (.cells #[.string (bs r), ov] 45 (0, 0))
theorem Rdr.cells {g : Nat} {r : List UInt8} {ov : Value} {w : World} (h : Rdr g r ov w) : w.cell? ⟨g, 0, none⟩ = some (.string (bs r)) ∧ w.cell? ⟨g, 1, none⟩ = some ov ∧ w.frozen? ⟨g, 0, none⟩ = false ∧ w.frozen? ⟨g, 1, none⟩ = false := by
 have := h.at_
 simp [World.cell?, World.frozen?, this]
theorem Rdr.lt {g : Nat} {r : List UInt8} {ov : Value} {w : World} (h : Rdr g r ov w) : g < w.heap.size := (Array.getElem?_eq_some_iff.1 h.at_).1
theorem Rdr.below {g : Nat} {r : List UInt8} {ov : Value} {w w' : World} (h : Rdr g r ov w) (hb : Below w.heap.size w w') : Rdr g r ov w' := ⟨(hb.block g h.lt).trans h.at_⟩
theorem Rdr.set0 {g : Nat} {r : List UInt8} {ov : Value} {w : World} (h : Rdr g r ov w) (r' : List UInt8) : Rdr g r' ov (w.setCell ⟨g, 0, none⟩ (.string (bs r'))) := by
 refine ⟨?_⟩
 have := h.at_
 simp [World.setCell, Array.getElem?_modify, this]
theorem dec_hi (b : UInt8) (t : List UInt8) (h : ¬ b.toNat < 128) : 128 ≤ (Lib.decodeL (b :: t)).1 := by
 rw [Lib.decodeL_N]
 show 128 ≤ (Lib.decodeN _ b.toNat _ _ _).1
 unfold Lib.decodeN
 rw [if_neg h]
 repeat' split
 all_goals (simp only []; omega)
theorem decGo_nil : Lib.decodeGo (bs []) = (65533, 0) := rfl
theorem decGo_cons (b : UInt8) (t : List UInt8) : Lib.decodeGo (bs (b :: t)) = Lib.decodeL (b :: t) := by
 unfold Lib.decodeGo
 rw [if_neg (by rw [bs_size]; simp)]
 exact (Lib.decodeL_drop (bs (b :: t)) 0).symm
theorem dec_is (r : List UInt8) (c : UInt8) (hc : c.toNat < 128) : ((Lib.decodeGo (bs r)).1 = c.toNat) ↔ r.head? = some c := by
 cases r with
 | nil => rw [decGo_nil]; simp; omega
 | cons b t =>
   rw [decGo_cons]
   by_cases hb : b.toNat < 128
   · rw [Lib.decodeL_ascii b t hb]
     simp only [List.head?_cons, Option.some.injEq]
     exact ⟨fun h => UInt8.toNat_inj.1 h, fun h => by rw [h]⟩
   · have := dec_hi b t hb
     simp only [List.head?_cons, Option.some.injEq]
     exact ⟨fun h => by omega, fun h => by rw [h] at hb; omega⟩
theorem dec_one (r : List UInt8) (c : UInt8) (hc : c.toNat < 128) (h : r.head? = some c) : (Lib.decodeGo (bs r)).2 = 1 := by
 cases r with
 | nil => simp at h
 | cons b t =>
   simp only [List.head?_cons, Option.some.injEq] at h
   subst h
   rw [decGo_cons, Lib.decodeL_ascii b t hc]
def skB (c : UInt8) (r : List UInt8) : Bool := r.head? == some c
def skR (c : UInt8) (r : List UInt8) : List UInt8 := if r.head? = some c then r.tail else r
set_option maxHeartbeats 1000000 in
theorem skip_w (g : Nat) (r : List UInt8) (ov : Value) (c : UInt8) (k : Int) (hk : k = (c.toNat : Int)) (hc : c.toNat < 128) (w : World) (h : Rdr g r ov w) (hT : Tabs w) :
   Calls Tryz.prog 48 #[.pointer (some ⟨g, 0, none⟩), .int .i32 k] w fun e w' => e = .returned (.bool (skB c r)) ∧ Rdr g (skR c r) ov w' ∧ Kpt (fun b => b = g) w w' := by
 subst hk
 have c1 := decodeRune_w (bs r) w hT
 obtain ⟨x, hx⟩ : ∃ x, (Lib.decodeGo (bs r)).1 = x := ⟨_, rfl⟩
 obtain ⟨n, hn⟩ : ∃ n, (Lib.decodeGo (bs r)).2 = n := ⟨_, rfl⟩
 have his := dec_is r c hc
 have hone := dec_one r c hc
 rw [hx, hn] at c1
 rw [hx] at his
 rw [hn] at hone
 obtain ⟨y0, y1, f0, f1⟩ := h.cells
 have hH := hid h
 clear h hT hx hn
 by_cases hcx : x = c.toNat
 · have hr := his.1 hcx
   have hb : skB c r = true := by unfold skB; simp [hr]
   have hq : skR c r = r.tail := by unfold skR; rw [if_pos hr]
   rw [hb, hq]
   have h1 := hone hr
   subst h1
   have hne : ((x : Int) != (c.toNat : Int)) = false := by simp [hcx]
   clear his hone hb hq
   have hrn : 1 ≤ (bs r).size := by
     rw [bs_size]
     cases r with
     | nil => simp at hr
     | cons b t => simp
   have hrz : (1 : Int) ≤ ((bs r).size : Int) := by omega
   have hex : (bs r).extract 1 (bs r).size = bs r.tail := by
     cases r with
     | nil => simp at hr
     | cons b t =>
       apply ByteArray.ext
       rw [bs_size]
       simp [bs]
   go_enter Tryz.func48, Tryz.ntmps48
   go_wp2_with fail
   refine c1.mono ?_
   rintro e w1 ⟨rfl, b1⟩
   have h1 := hH.out.below b1
   obtain ⟨z0, z1, g0, g1⟩ := h1.cells
   have hK := hid ((Kpt.of_below (F := fun b => b = g) b1).trans (Kpt.of_set (F := fun b => b = g) w1 (p := ⟨g, 0, none⟩) rfl (.string (bs r.tail))))
   have hR := hid (h1.set0 r.tail)
   clear h1
   go_wp2
   go_ret
   exact ⟨rfl, hR.out, hK.out⟩
 · have hr : ¬ r.head? = some c := fun h => hcx (his.2 h)
   have hb : skB c r = false := by unfold skB; simp [hr]
   have hq : skR c r = r := by unfold skR; rw [if_neg hr]
   rw [hb, hq]
   have hne : ((x : Int) != (c.toNat : Int)) = true := by
     have : (x : Int) ≠ (c.toNat : Int) := by omega
     simp [this]
   clear his hone hb hq hr hcx
   go_enter Tryz.func48, Tryz.ntmps48
   go_wp2_with fail
   refine c1.mono ?_
   rintro e w1 ⟨rfl, b1⟩
   have hR := hid (hH.out.below b1)
   have hK := hid (Kpt.of_below (F := fun b => b = g) b1)
   go_wp2
   go_ret
   exact ⟨rfl, hR.out, hK.out⟩
def digB (x : UInt8) : Bool := decide (48 ≤ x.toNat) && decide (x.toNat ≤ 57)
def digX (x : Nat) : Bool := decide (48 ≤ x) && decide (x ≤ 57)
theorem tdigit_w (x : Nat) (w : World) : Calls Tryz.prog 56 #[.int .i32 (x : Int)] w fun e w' => e = .returned (.bool (digX x)) ∧ w' = w := by
 go_enter Tryz.func56, Tryz.ntmps56
 go_wp2
 all_goals go_ret
 all_goals (refine ⟨?_, rfl⟩; first | (simp [digX]; done) | (simp [digX]; omega) | (simp [digX]; rw [Bool.eq_iff_iff]; simp; omega))
theorem bs_list (r : List UInt8) : (bs r).data.toList = r := by simp [bs]
theorem dec_at {r : List UInt8} {pos : Nat} {b : UInt8} (h : r[pos]? = some b) : digX (Utf8.decode (bs r) pos).1 = digB b ∧ (digB b = true → (Utf8.decode (bs r) pos).2 = 1) := by
 have hj := (List.getElem?_eq_some_iff.1 h).1
 have hd : r.drop pos = b :: r.drop (pos + 1) := by
   rw [List.drop_eq_getElem_cons hj]
   rw [List.getElem?_eq_getElem hj] at h
   injection h with h
   rw [h]
 have e : Utf8.decode (bs r) pos = Lib.decodeL (b :: r.drop (pos + 1)) := by rw [← Lib.decodeL_drop, bs_list, hd]
 rw [e]
 by_cases hb : b.toNat < 128
 · rw [Lib.decodeL_ascii _ _ hb]
   exact ⟨rfl, fun _ => rfl⟩
 · have := dec_hi b (r.drop (pos + 1)) hb
   have h1 : digB b = false := by simp [digB]; omega
   refine ⟨?_, fun h => by rw [h1] at h; cases h⟩
   rw [h1]
   simp [digX]; omega
theorem tw_at {r : List UInt8} {pos : Nat} (h : (r.take pos).all digB = true) (hn : ∀ b, r[pos]? = some b → digB b = false) : r.takeWhile digB = r.take pos ∧ r.dropWhile digB = r.drop pos := by
 induction r generalizing pos with
 | nil => simp
 | cons x t ih =>
   cases pos with
   | zero =>
     have := hn x rfl
     simp [List.takeWhile, List.dropWhile, this]
   | succ pos =>
     simp only [List.take_succ_cons, List.all_cons, Bool.and_eq_true] at h
     have := ih h.2 (fun b hb => hn b (by simpa using hb))
     simp [List.takeWhile, List.dropWhile, h.1, this]
theorem ex_take (r : List UInt8) (n : Nat) : (bs r).extract 0 n = bs (r.take n) := by
 apply ByteArray.ext
 simp [bs]
theorem ex_drop (r : List UInt8) (n : Nat) : (bs r).extract n (bs r).size = bs (r.drop n) := by
 apply ByteArray.ext
 rw [bs_size]
 simp [bs]
 exact List.take_of_length_le (by simp)
set_option maxHeartbeats 2000000 in
theorem digits_w (g : Nat) (r : List UInt8) (ov : Value) (w : World) (hr : r.length ≤ 1000000) (h : Rdr g r ov w) :
   Calls Tryz.prog 90 #[.pointer (some ⟨g, 0, none⟩)] w fun e w' => e = .returned (.string (bs (r.takeWhile digB))) ∧ Rdr g (r.dropWhile digB) ov w' ∧ Kpt (fun b => b = g) w w' := by
 obtain ⟨A, hA⟩ : ∃ A, bs (r.takeWhile digB) = A := ⟨_, rfl⟩
 obtain ⟨B, hB⟩ : ∃ B, r.dropWhile digB = B := ⟨_, rfl⟩
 rw [hA, hB]
 have hAH := hid hA
 have hBH := hid hB
 obtain ⟨y0, y1, f0, f1⟩ := h.cells
 have hH := hid h
 have hsz : (bs r).size = r.length := bs_size r
 have hszH := hid hsz
 have hz0 : ((bs r).size : Int) ≤ 1000000 := by omega
 have hg := h.lt
 clear h hA hB hsz
 go_enter Tryz.func90, Tryz.ntmps90
 go_wp2
 go_loopw [3] (fun sz wr => ∃ (pos : Nat), sz = .int .i64 ((bs r).size : Int) ∧ wr.heap[w.heap.size]? = some (.stringIter (bs r) pos) ∧ Below w.heap.size w wr ∧ Hid ((r.take pos).all digB = true)) (fun _ wr => (bs r).size - wr.iterPos w.heap.size)
 case atStart => exact ⟨0, rfl, (iter_fresh (Below.refl _ w) (bs r)).1, (iter_fresh (Below.refl _ w) (bs r)).2, hid (by simp)⟩
 case round =>
   obtain ⟨pos, rfl, hit, hbw, hP⟩ := hrel
   have hRw := hH.out.below hbw
   clear y0 y1 f0 f1
   obtain ⟨y0, y1, f0, f1⟩ := hRw.cells
   by_cases hp : pos < (bs r).size
   · have hnx : ∀ ty, (Instr.next (.pointer (some ⟨w.heap.size, 0, none⟩)) true ty).run Tryz.prog wr = _ := fun ty => Lib.run_next_any_at wr w.heap.size (bs r) pos ty hit hp
     have hwd := Lib.width_pos (bs r) pos
     have hit2 := Lib.iterAt_heap wr w.heap.size (bs r) pos (pos + (Utf8.decode (bs r) pos).2) hit
     have hbw2 := Lib.below_iterAt hbw (k := w.heap.size) (Nat.le_refl _) (bs r) (pos + (Utf8.decode (bs r) pos).2)
     obtain ⟨b, hb⟩ : ∃ b, r[pos]? = some b := ⟨r[pos]'(by rw [← hszH.out]; exact hp), by simp⟩
     obtain ⟨d1, d2⟩ := dec_at hb
     cases hdb : digB b with
     | true =>
       have d3 := hid (d2 hdb)
       clear d2
       go_wp2_with (go_at_call 56; refine (tdigit_w _ _).mono ?_; rw [d1, hdb]; rintro e w1 ⟨rfl, rfl⟩)
       go_roundw
       case rel =>
         refine ⟨pos + (Utf8.decode (bs r) pos).2, rfl, hit2, hbw2, hid ?_⟩
         rw [d3.out, List.take_add_one, hb]
         rw [List.all_append, hP.out]
         simp [hdb]
       case measure =>
         simp only [World.iterPos, hit2, hit]
         omega
     | false =>
       obtain ⟨t1, t2⟩ := tw_at hP.out (fun b' hb' => by rw [hb] at hb'; injection hb' with e; rw [← e]; exact hdb)
       have q1 : (bs r).extract 0 pos = A := by rw [ex_take, ← t1, hAH.out]
       have q2 : (bs r).extract pos (bs r).size = bs B := by rw [ex_drop, ← t2, hBH.out]
       have hpz : (pos : Int) ≤ ((bs r).size : Int) := by omega
       have hR2 := hH.out.below hbw2
       obtain ⟨z0, z1, g0, g1⟩ := hR2.cells
       have hRR := hid (hR2.set0 B)
       have hKK := hid ((Kpt.of_below (F := fun b => b = g) hbw2).trans (Kpt.of_set (F := fun b => b = g) _ (p := ⟨g, 0, none⟩) rfl (.string (bs B))))
       clear d2 t1 t2 hR2
       go_wp2_with (go_at_call 56; refine (tdigit_w _ _).mono ?_; rw [d1, hdb]; rintro e w1 ⟨rfl, rfl⟩)
       go_ret
       exact ⟨rfl, hRR.out, hKK.out⟩
   · have hnx : ∀ ty, (Instr.next (.pointer (some ⟨w.heap.size, 0, none⟩)) true ty).run Tryz.prog wr = _ := fun ty => Lib.run_next_end_at wr w.heap.size (bs r) pos ty hit hp
     have hall : r.all digB = true := by
       have := hP.out
       rw [List.take_of_length_le (by have := hszH.out; omega)] at this
       exact this
     obtain ⟨u1, u2⟩ := tw_at (pos := r.length) (r := r) (by rw [List.take_length]; exact hall) (fun b hb => by simp at hb)
     have q1 : (bs r).extract 0 (bs r).size = A := by rw [ex_take, hszH.out, ← u1, hAH.out]
     have q2 : (bs r).extract (bs r).size (bs r).size = bs B := by rw [ex_drop, hszH.out, ← u2, hBH.out]
     have hBe : bs B = ByteArray.empty := by
       rw [← q2]
       apply ByteArray.ext
       simp
     have hRR : Hid (Rdr g B ov (wr.setCell ⟨g, 0, none⟩ (.string ByteArray.empty))) := hid (by rw [← hBe]; exact hRw.set0 B)
     have hKK := hid ((Kpt.of_below (F := fun b => b = g) hbw).trans (Kpt.of_set (F := fun b => b = g) _ (p := ⟨g, 0, none⟩) rfl (.string ByteArray.empty)))
     clear hBe
     clear u1 u2 hRw
     go_wp2
     go_ret
     exact ⟨rfl, hRR.out, hKK.out⟩
end Go.Proofs.YtlojfmlaookpmaaGreatDoor
namespace Go.Proofs.YtlojfmlaookpmaaGreatDoor
open Go.ChangeShapes Go.WideShapes Go.ChangeAt Go.RowKit
def SlV (v : Value) (n K : Nat) (w : World) : Prop := ∃ (o : Option Addr) (l : List Nat) (c z : Nat), v = .slice o z c ∧ z = l.length ∧ Lies o l w ∧ l.length ≤ c ∧ Lm 4294967296 l ∧ gval 4294967296 l = n ∧ l.length ≤ K
theorem Fr.slv {B : Nat} {v : Value} {l : List Nat} {w : World} {n K : Nat} (h : Fr B v l w) (hm : Lm 4294967296 l) (hn : gval 4294967296 l = n) (hK : l.length ≤ K) : SlV v n K w := by
 obtain ⟨o, c, rfl, h1, h2, _⟩ := h.parts
 exact ⟨o, l, c, _, rfl, rfl, h1, h2, hm, hn, hK⟩
theorem Fr.put {B g c n : Nat} {l : List Nat} {w : World} (h : Fr B (.slice (some ⟨g, 0, none⟩) n c) l w) {j : Nat} (x : Nat) (hj : j < l.length) : Fr B (.slice (some ⟨g, 0, none⟩) n c) (l.set j x) (w.setCell ⟨g, j, none⟩ (.int .u32 (x : Int))) := by
 rcases h.2 with ⟨hv, h0⟩ | ⟨g', cap, cur, hv, hb, hg, hnc, hcm, hcs, htake⟩
 · simp at hv
 · simp only [Value.slice.injEq, Option.some.injEq, Addr.mk.injEq, and_true] at hv
   obtain ⟨rfl, rfl, rfl⟩ := hv
   refine ⟨by simp, .inr ⟨g, c, cur.setIfInBounds j (.int .u32 (x : Int)), by simp, hb, ?_, by simpa using hnc, hcm, by simpa using hcs, ?_⟩⟩
   · simp [World.setCell, Array.getElem?_modify, hg]
   · rw [Array.toList_setIfInBounds, List.length_set, List.map_set, List.take_set, htake]
theorem glim_of_len {l : List Nat} (hm : Lm 4294967296 l) (h : l.length ≤ (glim 4294967296 (gval 4294967296 l)).length) : glim 4294967296 (gval 4294967296 l) = l := by
 obtain ⟨k, hk, e⟩ := glim_is_take hm
 rw [e] at h ⊢
 rw [List.length_take] at h
 exact List.take_of_length_le (by omega)
theorem grown_end {n d : Nat} {L : List Nat} (hm : Lm 4294967296 L) (hl : L.length = (glim 4294967296 n).length) (hv : gval 4294967296 L = n * 10 + d) : glim 4294967296 (n * 10 + d) = L := by
 rw [← hv]
 refine glim_of_len hm ?_
 rw [hv, hl]
 refine Nat.le_of_not_lt fun h => ?_
 have := glim_len_lt (by omega) h
 omega
theorem grown_more {n c d : Nat} {L : List Nat} (hm : Lm 4294967296 L) (hc : c < 4294967296) (hc0 : 0 < c) (hl : L.length = (glim 4294967296 n).length) (hv : gval 4294967296 L + 4294967296 ^ L.length * c = n * 10 + d) : glim 4294967296 (n * 10 + d) = L ++ [c] := by
 have e : gval 4294967296 (L ++ [c]) = n * 10 + d := by rw [gval_append]; simpa [gval] using hv
 rw [← e]
 refine glim_canon (by omega) (hm.append (Lm.cons hc (Lm.nil _))) fun x hx => ?_
 simp at hx; omega
theorem grow_step {P S T c x t d : Nat} (ht : c + x * 10 = t) (h : S + P * c = T * 10 + d) : S + P * (t % 4294967296) + P * 4294967296 * (t / 4294967296) = (T + P * x) * 10 + d := by
 have e2 : P * t = P * (t % 4294967296) + P * 4294967296 * (t / 4294967296) := by
   rw [Nat.mul_assoc, ← Nat.mul_add, Nat.mod_add_div]
 have e : P * t = P * c + P * (x * 10) := by rw [← ht, Nat.mul_add]
 rw [Nat.add_mul, Nat.mul_assoc P x 10]; omega
set_option maxHeartbeats 1000000 in
theorem grown_w (B n d : Nat) (v : Value) (w : World) (hd : d < 10) (hF : Fr B v (glim 4294967296 n) w) (hlen : (glim 4294967296 n).length ≤ 1000000) (hBw : B ≤ w.heap.size) :
   Calls Tryz.prog 119 #[v, .int .u32 10, .int .u32 (d : Int)] w fun e w' => ∃ v', e = .returned v' ∧ Fr B v' (glim 4294967296 (n * 10 + d)) w' ∧ Below B w w' := by
 obtain ⟨i0, hi, hy0, hy1, hy2⟩ := info_parts info32u
 have hm := lm_glim (b := 4294967296) (by omega) n
 have hv := gval_glim (b := 4294967296) (by omega) n
 rcases hF.shape with ⟨rfl, h2⟩ | ⟨g, c, rfl⟩
 · have hn0 : n = 0 := (glim_nil (by omega)).1 h2
   subst hn0
   rw [Nat.zero_mul, Nat.zero_add]
   have hgd : 0 < d → glim 4294967296 d = [d] := fun h => by
     have := glim_canon (b := 4294967296) (by omega) (l := [d]) (Lm.cons (by omega) (Lm.nil _)) (fun x hx => by simp at hx; omega)
     simpa [gval] using this
   have hgd' := hid hgd
   clear hgd hv hm h2
   have wd : IntKind.u64.wrap (d : Int) = (d : Int) := by rw [IntKind.wrap_u64]; omega
   have wd2 : IntKind.u32.wrap (d : Int) = (d : Int) := by rw [IntKind.wrap_u32]; omega
   go_enter Tryz.func119, Tryz.ntmps119
   go_wp2
   go_loopw [7, 14] (fun cv iv wr => cv = .int .u64 (d : Int) ∧ iv = .int .i64 0 ∧ wr = w) (fun _ _ _ => 0)
   case atStart => exact ⟨rfl, rfl, rfl⟩
   case round =>
     obtain ⟨rfl, rfl, rfl⟩ := hrel
     by_cases hd0 : d = 0
     · subst hd0
       go_wp2
       go_ret
       exact ⟨_, rfl, by rw [glim_zero]; exact Fr.nil _ _, Below.refl _ _⟩
     · have hdp : (0 : Int) < (d : Int) := by omega
       have hN : wr.ownsRow B 133 1 (.slice none 0 0) 0 [] := World.ownsRow_nil _ _ _ _
       go_wp2_with (at_builtin; refine wpList_append_own _ rfl _ _ 23 rfl B 133 i0 (.int .u32 0) 1 4 Tryz.underlying23 hi hy0 hy1 hy2 rfl (by decide) _ _ _ rfl (World.ownsRow.alloc hN _) ⟨wr.heap.size, 0, none⟩ 1 1 [.int .u32 (d : Int)] rfl rfl ?c1 ?c2 ?c3 ?c4 ?c5 ?_)
       first
         | (case c1 =>
             intro j u hj
             match j, hj with
             | 0, hj => simp at hj; subst hj; simp [Addr.add]
             | j + 1, hj => simp at hj)
         | skip
       case c2 => first | rfl | (intro u hu; simp at hu; subst hu; rfl)
       case c3 => unfold maxLen; omega
       case c4 => omega
       case c5 => first | omega | (simp; omega)
       intro v' w2 hown' hgrow _
       have hB2 : Below B wr w2 := ((Below.refl B wr).alloc hBw _).grown hgrow (by simp; omega) (fun q hq => by simp [Value.ownBlock] at hq)
       go_wp2
       go_ret
       refine ⟨v', rfl, ?_, hB2⟩
       rw [hgd'.out (by omega)]
       unfold Fr
       simpa using hown'
 · obtain ⟨hgB, hgw, hOwn, hlc⟩ := hF.own
   have wd : IntKind.u64.wrap (d : Int) = (d : Int) := by rw [IntKind.wrap_u64]; omega
   have hlc' := hlc
   obtain ⟨A, hA⟩ : ∃ A, glim 4294967296 n = A := ⟨_, rfl⟩
   obtain ⟨G, hG⟩ : ∃ G, glim 4294967296 (n * 10 + d) = G := ⟨_, rfl⟩
   have hge := fun (L : List Nat) => grown_end (n := n) (d := d) (L := L)
   have hgm := fun (L : List Nat) (c : Nat) => grown_more (n := n) (d := d) (c := c) (L := L)
   rw [hA] at hF hlen hm hv hOwn hlc hlc' hge hgm ⊢
   rw [hG] at hge hgm ⊢
   have hge' := hid hge
   have hgm' := hid hgm
   have hv' := hid hv
   clear hA hG hge hgm hv
   go_enter Tryz.func119, Tryz.ntmps119
   go_wp2
   go_loopw [7, 14] (fun cv iv wr => ∃ (k cn : Nat) (L : List Nat), cv = .int .u64 (cn : Int) ∧ iv = .int .i64 (k : Int) ∧ k ≤ A.length ∧ cn < 4294967296 ∧ Fr B (.slice (some ⟨g, 0, none⟩) A.length c) L wr ∧ L.length = A.length ∧ Lm 4294967296 L ∧ Below B w wr ∧ Hid (∀ j, k ≤ j → L[j]? = A[j]?) ∧ Hid (gval 4294967296 (L.take k) + 4294967296 ^ k * cn = gval 4294967296 (A.take k) * 10 + d)) (fun _ iv _ => A.length - (intOf iv).toNat)
   case atStart => exact ⟨0, d, A, rfl, rfl, by omega, by omega, hF, rfl, hm, Below.refl _ _, hid fun _ _ => rfl, hid (by simp [gval])⟩
   case round =>
     obtain ⟨k, cn, L, rfl, rfl, hk, hcn, hFL, hLl, hLm, hbw, hJ, hH⟩ := hrel
     obtain ⟨_, hgw2, hOL, _⟩ := hFL.own
     by_cases h1 : k < A.length
     · have h1z : (k : Int) < (A.length : Int) := by omega
       obtain ⟨x, hx⟩ : ∃ x, A[k]? = some x := ⟨A[k], by simp [h1]⟩
       have hxm := hm.at hx
       have hxL : L[k]? = some x := by rw [hJ.out k (Nat.le_refl _), hx]
       have cx := hOL.1 k x hxL
       have fx := hOL.2 k
       obtain ⟨xt, hxt⟩ : ∃ xt, x * 10 = xt := ⟨_, rfl⟩
       obtain ⟨t, ht⟩ : ∃ t, cn + xt = t := ⟨_, rfl⟩
       have w1 : IntKind.u64.wrap ((x : Int) * 10) = (xt : Int) := by rw [IntKind.wrap_u64]; omega
       have w2 : IntKind.u64.wrap ((cn : Int) + (xt : Int)) = (t : Int) := by rw [IntKind.wrap_u64]; omega
       have w3 : IntKind.u32.wrap (t : Int) = ((t % 4294967296 : Nat) : Int) := by rw [IntKind.wrap_u32]; omega
       have htm : t / 4294967296 < 4294967296 := by omega
       have hstep := hid (grow_step (x := x) (t := t) (by rw [hxt]; exact ht) hH.out)
       clear hxt ht hxL
       go_wp2
       go_roundw
       case rel =>
         refine ⟨k + 1, t / 4294967296, L.set k (t % 4294967296), by congr 1, by go_num, by omega, htm, hFL.put _ (by omega), by simp [hLl], hLm.set _ _ (Nat.mod_lt _ (by omega)), hbw.setCell (p := ⟨g, k, none⟩) hgB _, hid fun j hj => ?_, hid ?_⟩
         · rw [List.getElem?_set_ne (by omega)]; exact hJ.out j (by omega)
         · rw [gval_set_take _ _ (by omega), gval_take_succ _ hx, pow_step]
           exact hstep.out
       case measure => simp [intOf]; omega
     · have h1z : ¬ (k : Int) < (A.length : Int) := by omega
       have hke : k = A.length := by omega
       subst hke
       have hh := hH.out
       rw [List.take_of_length_le (by omega), List.take_length, hv'.out] at hh
       have hbz := hbw.size
       by_cases hc0 : cn = 0
       · subst hc0
         have hGe := hge'.out L hLm hLl (by omega)
         have hGe' := hid hGe
         clear hH hJ hh hge' hgm' hGe
         go_wp2
         go_ret
         exact ⟨_, rfl, by rw [hGe'.out]; exact hFL, hbw⟩
       · have hcp : (0 : Int) < (cn : Int) := by omega
         have hGe := hgm'.out L cn hLm hcn (by omega) hLl (by rw [hLl]; exact hh)
         have hGe' := hid hGe
         have wc : IntKind.u32.wrap (cn : Int) = (cn : Int) := by rw [IntKind.wrap_u32]; omega
         have hFL' : wr.ownsRow B 133 1 (.slice (some ⟨g, 0, none⟩) A.length c) A.length (L.map fun (x : Nat) => Value.int .u32 (x : Int)) := by
           have := hFL; unfold Fr at this; rw [hLl] at this; exact this
         clear hH hJ hh hge' hgm' hGe
         go_wp2_with (at_builtin; refine wpList_append_own _ rfl _ _ 23 rfl B 133 i0 (.int .u32 0) 1 4 Tryz.underlying23 hi hy0 hy1 hy2 rfl (by decide) _ _ _ rfl (World.ownsRow.alloc hFL' _) ⟨wr.heap.size, 0, none⟩ 1 1 [.int .u32 (cn : Int)] rfl rfl ?c1 ?c2 ?c3 ?c4 ?c5 ?_)
         first
           | (case c1 =>
               intro j u hj
               match j, hj with
               | 0, hj => simp at hj; subst hj; simp [Addr.add]
               | j + 1, hj => simp at hj)
           | skip
         case c2 => first | rfl | (intro u hu; simp at hu; subst hu; rfl)
         case c3 => unfold maxLen; omega
         case c4 => omega
         case c5 => first | omega | (simp; omega)
         intro v' w2 hown' hgrow _
         have hB2 : Below B w w2 := (hbw.alloc (by omega) _).grown hgrow (by simp; omega) (fun q hq => by simp only [Value.ownBlock, Option.some.injEq] at hq; omega)
         go_wp2
         go_ret
         refine ⟨v', rfl, ?_, hB2⟩
         rw [hGe'.out]
         unfold Fr
         have el : (L ++ [cn]).length = A.length + 1 := by simp [hLl]
         rw [el, List.map_append]
         exact hown'
end Go.Proofs.YtlojfmlaookpmaaGreatDoor
