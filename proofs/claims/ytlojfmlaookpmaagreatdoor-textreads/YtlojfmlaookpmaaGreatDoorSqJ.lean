/- Texts of mine, one behind the other: TextPr, TextOps, TextOps2, TextOps3, TextOps4, TextTerm, TextNext. -/
import Derived.Test.YtlojfmlaookpmaaGreatDoorSqI
import Derived.Lib.AppendStr
import Derived.Lib.AppendZeros
import Derived.Lib.AppendIntMem
import Derived.Laws.AppendOwn
import Derived.Deep.CutRange
import Derived.Lib.ItoaLen
set_option linter.unusedSimpArgs false
set_option linter.unusedVariables false
set_option maxRecDepth 2000
namespace Go.Proofs.YtlojfmlaookpmaaGreatDoor
open Go.ChangeShapes Go.WideShapes Go.ChangeAt Go.RowKit Go.Shelf
def PcV (w0 : World) : Pc → Value → Prop
 | .mk r, v => v = .iface 79 (.int .i32 (r : Int))
 | .tl T, v => ∃ a, v = .iface 83 a ∧ TV (Low w0) w0 T a
 | .tm T, v => ∃ a, v = .iface 27 a ∧ TV (Low w0) w0 T a
theorem PcV.one {w0 : World} {p : Pc} {v : Value} (h : PcV w0 p v) : v.oneCell' = true := by
 cases p with
 | mk r => simp only [PcV] at h; subst h; rfl
 | tl T => obtain ⟨a, rfl, _⟩ := h; rfl
 | tm T => obtain ⟨a, rfl, _⟩ := h; rfl
theorem PcV.form {w0 : World} {p : Pc} {v : Value} (h : PcV w0 p v) : ∃ t x, v = .iface t x := by
 cases p with
 | mk r => exact ⟨_, _, h⟩
 | tl T => obtain ⟨a, rfl, _⟩ := h; exact ⟨_, _, rfl⟩
 | tm T => obtain ⟨a, rfl, _⟩ := h; exact ⟨_, _, rfl⟩
def PsV (w0 : World) : List Pc → List Value → Prop
 | [], vs => vs = []
 | p :: ps, vs => ∃ us v, vs = us ++ [v] ∧ PcV w0 p v ∧ PsV w0 ps us
theorem PsV.length {w0 : World} : ∀ {ps : List Pc} {vs : List Value}, PsV w0 ps vs → vs.length = ps.length
 | [], vs, h => by simp only [PsV] at h; subst h; rfl
 | p :: ps, vs, h => by
   obtain ⟨us, v, rfl, _, h⟩ := h
   simp [PsV.length h]
theorem infoP : (Tryz.prog.info? 59).map (fun i => (i.zero, i.size, i.bytes)) = some (some .nilIface, 1, 16) := by kernel_rfl
theorem infoB8 : (Tryz.prog.info? 5).map (fun i => (i.zero, i.size, i.bytes)) = some (some (.int .u8 0), 1, 1) := by kernel_rfl
structure Prn (w0 : World) (g : Nat) (o : List UInt8) (ps : List Pc) (ov wv : Value) (vs : List Value) (w : World) : Prop where
 box : w.heap[g]? = some (.cells #[ov, wv] 56 (0, 0))
 low : w0.heap.size ≤ g
 out : w.ownsRow w0.heap.size 5 1 ov o.length (Lib.byteCells o)
 wait : w.ownsRow w0.heap.size 59 1 wv vs.length vs
 is : PsV w0 ps vs
 below : Below w0.heap.size w0 w
theorem own_block {w : World} {B : Nat} {e : TypeId} {v : Value} {n : Nat} {xs : List Value} (h : w.ownsRow B e 1 v n xs) : ∀ k, v.ownBlock = some k → ∃ c, w.heap[k]? = some (.cells c e (0, 0)) := by
 intro k hk
 rcases h.2 with ⟨rfl, _⟩ | ⟨g, cap, cur, rfl, _, hg, _⟩
 · simp [Value.ownBlock] at hk
 · simp [Value.ownBlock] at hk; subst hk; exact ⟨cur, hg⟩
theorem own_form {w : World} {B : Nat} {e : TypeId} {v : Value} {n : Nat} {xs : List Value} (h : w.ownsRow B e 1 v n xs) : ∃ o c, v = .slice o n c := by
 rcases h.2 with ⟨rfl, rfl⟩ | ⟨g, cap, cur, rfl, _⟩
 · exact ⟨_, _, rfl⟩
 · exact ⟨_, _, rfl⟩
theorem own_of {w w' : World} {B : Nat} {e : TypeId} {v : Value} {n : Nat} {xs : List Value} (h : w.ownsRow B e 1 v n xs) (hk : ∀ k, v.ownBlock = some k → w'.heap[k]? = w.heap[k]?) : w'.ownsRow B e 1 v n xs := by
 obtain ⟨h1, h2 | ⟨g, cap, cur, rfl, hg, hc, rest⟩⟩ := h
 · exact ⟨h1, .inl h2⟩
 · exact ⟨h1, .inr ⟨g, cap, cur, rfl, hg, (hk g rfl).trans hc, rest⟩⟩
theorem heap_put {w : World} {g : Nat} {u v : Value} {T : TypeId} (h : w.heap[g]? = some (.cells #[u, v] T (0, 0))) (x : Value) : (w.setCell ⟨g, 0, none⟩ x).heap[g]? = some (.cells #[x, v] T (0, 0)) ∧ (w.setCell ⟨g, 1, none⟩ x).heap[g]? = some (.cells #[u, x] T (0, 0)) := by
 constructor <;> simp [World.setCell, Array.getElem?_modify, h]
theorem Prn.cells {w0 : World} {g : Nat} {o : List UInt8} {ps : List Pc} {ov wv : Value} {vs : List Value} {w : World} (h : Prn w0 g o ps ov wv vs w) :
   w.cell? ⟨g, 0, none⟩ = some ov ∧ w.cell? ⟨g, 1, none⟩ = some wv ∧ w.frozen? ⟨g, 0, none⟩ = false ∧ w.frozen? ⟨g, 1, none⟩ = false := by
 have := h.box
 simp [World.cell?, World.frozen?, this]
theorem Prn.later {w0 : World} {g : Nat} {o : List UInt8} {ps : List Pc} {ov wv : Value} {vs : List Value} {w w' : World} (h : Prn w0 g o ps ov wv vs w) (hb : Below w.heap.size w w') : Prn w0 g o ps ov wv vs w' :=
 ⟨(hb.block g (Array.getElem?_eq_some_iff.1 h.box).1).trans h.box, h.low, own_of h.out (fun k e => hb.block k ((World.ownsRow.lt h.out k e).2)), own_of h.wait (fun k e => hb.block k ((World.ownsRow.lt h.wait k e).2)), h.is,
   h.below.trans ⟨hb.os, hb.tape, hb.output, hb.size, fun k hk => hb.block k (by have := h.below.size; omega)⟩⟩
theorem Prn.wrote {w0 : World} {g : Nat} {o o' : List UInt8} {ps : List Pc} {ov wv ov' : Value} {vs : List Value} {w w2 : World} (h : Prn w0 g o ps ov wv vs w)
   (hk : Lib.OthersKept 5 none w w2) (hb : Below w0.heap.size w w2) (hown : w2.ownsRow w0.heap.size 5 1 ov' o'.length (Lib.byteCells o')) :
   Prn w0 g o' ps ov' wv vs (w2.setCell ⟨g, 0, none⟩ ov') := by
 have hg : w2.heap[g]? = some (.cells #[ov, wv] 56 (0, 0)) := hk g _ h.box (by simp) (fun c fz e => by injection e with _ e2; exact absurd e2 (by decide))
 have hne : ∀ {v : Value} {e : TypeId} {n : Nat} {xs : List Value}, w2.ownsRow w0.heap.size e 1 v n xs → e ≠ 56 → ∀ k, v.ownBlock = some k → (w2.setCell ⟨g, 0, none⟩ ov').heap[k]? = w2.heap[k]? := by
   intro v e n xs hv he k hk2
   refine Below.heap_setCell w2 ⟨g, 0, none⟩ ov' k (fun e2 => ?_)
   obtain ⟨c, hc⟩ := own_block hv k hk2
   rw [e2] at hc
   rw [hg] at hc
   injection hc with hc; injection hc with _ hc
   exact he hc.symm
 have hw2 : w2.ownsRow w0.heap.size 59 1 wv vs.length vs := own_of h.wait (fun k e => by
   obtain ⟨c, hc⟩ := own_block h.wait k e
   rw [hc]
   exact hk k _ hc (by simp) (fun c fz e => by injection e with _ e2; exact absurd e2 (by decide)))
 exact ⟨(heap_put hg ov').1, h.low, own_of hown (hne hown (by decide)), own_of hw2 (hne hw2 (by decide)), h.is, (h.below.trans hb).setCell (p := ⟨g, 0, none⟩) h.low _⟩
theorem Prn.waits {w0 : World} {g : Nat} {o : List UInt8} {ps ps' : List Pc} {ov wv wv' : Value} {vs vs' : List Value} {w w2 : World} (h : Prn w0 g o ps ov wv vs w)
   (hk : Lib.OthersKept 59 none w w2) (hb : Below w0.heap.size w w2) (hown : w2.ownsRow w0.heap.size 59 1 wv' vs'.length vs') (his : PsV w0 ps' vs') :
   Prn w0 g o ps' ov wv' vs' (w2.setCell ⟨g, 1, none⟩ wv') := by
 have hg : w2.heap[g]? = some (.cells #[ov, wv] 56 (0, 0)) := hk g _ h.box (by simp) (fun c fz e => by injection e with _ e2; exact absurd e2 (by decide))
 have hne : ∀ {v : Value} {e : TypeId} {n : Nat} {xs : List Value}, w2.ownsRow w0.heap.size e 1 v n xs → e ≠ 56 → ∀ k, v.ownBlock = some k → (w2.setCell ⟨g, 1, none⟩ wv').heap[k]? = w2.heap[k]? := by
   intro v e n xs hv he k hk2
   refine Below.heap_setCell w2 ⟨g, 1, none⟩ wv' k (fun e2 => ?_)
   obtain ⟨c, hc⟩ := own_block hv k hk2
   rw [e2] at hc
   rw [hg] at hc
   injection hc with hc; injection hc with _ hc
   exact he hc.symm
 have ho2 : w2.ownsRow w0.heap.size 5 1 ov o.length (Lib.byteCells o) := own_of h.out (fun k e => by
   obtain ⟨c, hc⟩ := own_block h.out k e
   rw [hc]
   exact hk k _ hc (by simp) (fun c fz e => by injection e with _ e2; exact absurd e2 (by decide)))
 exact ⟨(heap_put hg wv').2, h.low, own_of ho2 (hne ho2 (by decide)), own_of hown (hne hown (by decide)), his, (h.below.trans hb).setCell (p := ⟨g, 1, none⟩) h.low _⟩
theorem kept_grown {w w' : World} {B : Nat} {e : TypeId} {v : Value} {n : Nat} {xs : List Value} (h : w.ownsRow B e 1 v n xs) (hg : w.grownBy w' v.ownBlock) (hB : B ≤ w.heap.size) : Lib.OthersKept e none w w' ∧ Below B w w' := by
 refine ⟨(Lib.OthersKept.refl e none w).grown hg (fun k hk => ?_), (Below.refl B w).grown hg hB (fun k hk => (World.ownsRow.lt h k hk).1)⟩
 obtain ⟨c, hc⟩ := own_block h k hk
 exact ⟨c, _, hc⟩
def PrnP (w0 : World) (g : Nat) (o : List UInt8) (ps : List Pc) (w : World) : Prop := ∃ ov wv vs, Prn w0 g o ps ov wv vs w
theorem PrnP.later {w0 : World} {g : Nat} {o : List UInt8} {ps : List Pc} {w w' : World} (h : PrnP w0 g o ps w) (hb : Below w.heap.size w w') : PrnP w0 g o ps w' := by
 obtain ⟨ov, wv, vs, h⟩ := h
 exact ⟨ov, wv, vs, h.later hb⟩
theorem PrnP.below {w0 : World} {g : Nat} {o : List UInt8} {ps : List Pc} {w : World} (h : PrnP w0 g o ps w) : Below w0.heap.size w0 w := by
 obtain ⟨ov, wv, vs, h⟩ := h
 exact h.below
def PK (w w' : World) : Prop := ∀ (k : Nat) (o : Obj), w.heap[k]? = some o → (∀ (c : Array Value) (fz : Nat × Nat), o ≠ Obj.cells c 5 fz ∧ o ≠ Obj.cells c 59 fz ∧ o ≠ Obj.cells c 56 fz) → w'.heap[k]? = some o
theorem PK.trans {a b c : World} (h : PK a b) (k : PK b c) : PK a c := fun i o hi ho => k i o (h i o hi ho) ho
theorem PK.of_below {w w' : World} (h : Below w.heap.size w w') : PK w w' := fun k o hk _ => (h.block k (Array.getElem?_eq_some_iff.1 hk).1).trans hk
theorem PK.put {w w2 : World} {e : TypeId} {g j : Nat} {c : Array Value} {fz : Nat × Nat} (he : e = 5 ∨ e = 59) (hk : Lib.OthersKept e none w w2) (hg : w2.heap[g]? = some (.cells c 56 fz)) (x : Value) : PK w (w2.setCell ⟨g, j, none⟩ x) := by
 intro k o h ho
 have h2 := hk k o h (by simp) (fun c fz e2 => by rcases he with rfl | rfl; exact (ho c fz).1 e2; exact (ho c fz).2.1 e2)
 rw [Below.heap_setCell w2 ⟨g, j, none⟩ x k (fun e2 => by
   rw [e2] at h2; rw [hg] at h2; injection h2 with h2; exact (ho c fz).2.2 h2.symm)]
 exact h2
set_option maxHeartbeats 1000000 in
theorem ptext_w (w0 : World) (g : Nat) (o : List UInt8) (ps : List Pc) (s : ByteArray) (w : World) (h : PrnP w0 g o ps w) (hs : s.size ≤ 1000000000) (ho : o.length ≤ 1000000000) :
   Calls Tryz.prog 77 #[.pointer (some ⟨g, 0, none⟩), .string s] w fun e w' => e = .returned (.tuple #[]) ∧ PrnP w0 g (o ++ s.data.toList) ps w' ∧ PK w w' := by
 obtain ⟨ov, wv, vs, h⟩ := h
 obtain ⟨c0, c1, f0, f1⟩ := h.cells
 obtain ⟨i0, hi, hz0, hz1, hz2⟩ := info_parts infoB8
 obtain ⟨v', w2, hr, hown, hg, _⟩ := Lib.run_append_own_string (P := Tryz.prog) w w0.heap.size 25 9 25 5 i0 Tryz.underlying25 Tryz.underlying9 hi hz0 hz1 hz2 ov o.length _ h.out s (by unfold maxLen; omega) (by omega) h.below.size
 obtain ⟨hk, hb⟩ := kept_grown h.out hg h.below.size
 have hcb : Lib.byteCells (o ++ s.data.toList) = Lib.byteCells o ++ Lib.strCells s := by simp [Lib.byteCells, Lib.strCells]
 have hlen : (o ++ s.data.toList).length = o.length + s.size := by rw [List.length_append]; rfl
 have hown2 : w2.ownsRow w0.heap.size 5 1 v' (o ++ s.data.toList).length (Lib.byteCells (o ++ s.data.toList)) := by rw [hcb, hlen]; exact hown
 have hW := hid (h.wrote hk hb hown2)
 obtain ⟨oo, cc, rfl⟩ := own_form h.out
 obtain ⟨o2, k2, rfl⟩ := own_form hown
 have hg2 : w2.heap[g]? = some (.cells #[.slice oo o.length cc, wv] 56 (0, 0)) := hk g _ h.box (by simp) (fun c fz e => by injection e with _ e2; exact absurd e2 (by decide))
 have d0 : w2.cell? ⟨g, 0, none⟩ = some (.slice oo o.length cc) := by simp [World.cell?, hg2]
 have d1 : w2.frozen? ⟨g, 0, none⟩ = false := by simp [World.frozen?, hg2]
 have hPK := hid (PK.put (j := 0) (.inl rfl) hk hg2 (.slice o2 (o.length + s.size) k2))
 clear hown hown2 hg hk hb hcb hg2 c1 f1 h hlen
 go_enter Tryz.func77, Tryz.ntmps77
 go_wp2_with (at_builtin; refine Lib.wpList_append_run _ rfl _ _ _ _ rfl _ _ rfl rfl _ _ hr ?_)
 all_goals go_returns
 all_goals exact ⟨rfl, ⟨_, _, _, hW.out⟩, hPK.out⟩
set_option maxHeartbeats 1000000 in
theorem ascii_w (B : Nat) (v : Value) (n : Nat) (xs : List Value) (r : Nat) (hr : r < 128) (w : World) (hown : w.ownsRow B 5 1 v n xs) (hn : n ≤ 1000000000) (hB : B ≤ w.heap.size) :
   Calls Tryz.prog 74 #[v, .int .i32 (r : Int)] w fun e w' => ∃ v', e = .returned v' ∧ w'.ownsRow B 5 1 v' (n + 1) (xs ++ [.int .u8 (r : Int)]) ∧ Lib.OthersKept 5 none w w' ∧ Below B w w' := by
 obtain ⟨i0, hi, hz0, hz1, hz2⟩ := info_parts infoB8
 have hR1 := World.ownsRow.alloc hown (.cells #[.int .u8 (r : Int)] 5)
 obtain ⟨v', w', hrun, hown2, hg, _⟩ := run_append_own (P := Tryz.prog) (w.alloc (.cells #[.int .u8 (r : Int)] 5)) B 25 25 5 i0 (.int .u8 0) 1 1 Tryz.underlying25 hi hz0 hz1 hz2 rfl (by decide) v n xs hR1 ⟨w.heap.size, 0, none⟩ 1 1 [.int .u8 (r : Int)] rfl (cell_one_new _ _ _) (by intro u hu; simp at hu; subst hu; rfl) (by unfold maxLen; omega) (by omega) (by simp; omega)
 obtain ⟨hk, hb⟩ := kept_grown hR1 hg (by simp; omega)
 have hk2 : Lib.OthersKept 5 none w w' := ((Lib.OthersKept.refl _ _ w).alloc _).trans hk
 have hb2 : Below B w w' := ((Below.refl B w).alloc hB _).trans hb
 have hrz : (r : Int) ≤ 127 := by omega
 clear hR1 hg hk hb
 go_enter Tryz.func74, Tryz.ntmps74
 go_wp2_with (at_builtin; refine Lib.wpList_append_run _ rfl _ _ _ _ rfl _ _ rfl rfl _ _ hrun ?_)
 all_goals go_ret
 all_goals exact ⟨_, rfl, hown2, hk2, hb2⟩
set_option maxHeartbeats 1000000 in
theorem psign_w (w0 : World) (g : Nat) (o : List UInt8) (ps : List Pc) (r : Nat) (hr : r < 128) (w : World) (h : PrnP w0 g o ps w) (ho : o.length ≤ 1000000000) :
   Calls Tryz.prog 44 #[.pointer (some ⟨g, 0, none⟩), .int .i32 (r : Int)] w fun e w' => e = .returned (.tuple #[]) ∧ PrnP w0 g (o ++ [UInt8.ofNat r]) ps w' ∧ PK w w' := by
 obtain ⟨ov, wv, vs, h⟩ := h
 obtain ⟨c0, c1, f0, f1⟩ := h.cells
 have c := ascii_w w0.heap.size ov o.length _ r hr w h.out (by omega) h.below.size
 obtain ⟨oo, cc, rfl⟩ := own_form h.out
 have hH := hid h
 clear c1 f1 h
 go_enter Tryz.func44, Tryz.ntmps44
 go_wp2_with fail
 refine c.mono ?_
 rintro e w2 ⟨v', rfl, hown, hk, hb⟩
 have h := hH.out
 have hcb : Lib.byteCells (o ++ [UInt8.ofNat r]) = Lib.byteCells o ++ [.int .u8 (r : Int)] := by
   simp [Lib.byteCells]; omega
 have hown2 : w2.ownsRow w0.heap.size 5 1 v' (o ++ [UInt8.ofNat r]).length (Lib.byteCells (o ++ [UInt8.ofNat r])) := by rw [hcb, List.length_append]; exact hown
 have hW := hid (h.wrote hk hb hown2)
 obtain ⟨o2, k2, rfl⟩ := own_form hown
 have hg2 : w2.heap[g]? = some (.cells #[.slice oo o.length cc, wv] 56 (0, 0)) := hk g _ h.box (by simp) (fun c fz e => by injection e with _ e2; exact absurd e2 (by decide))
 have d0 : w2.cell? ⟨g, 0, none⟩ = some (.slice oo o.length cc) := by simp [World.cell?, hg2]
 have d1 : w2.frozen? ⟨g, 0, none⟩ = false := by simp [World.frozen?, hg2]
 have hPK := hid (PK.put (j := 0) (.inl rfl) hk hg2 (.slice o2 (o.length + 1) k2))
 clear hown hown2 hk hb hcb hg2 h c hH c0 f0
 go_wp2
 all_goals go_returns
 all_goals exact ⟨rfl, ⟨_, _, _, hW.out⟩, hPK.out⟩
set_option maxHeartbeats 1000000 in
theorem pnumber_w (w0 : World) (g : Nat) (o : List UInt8) (ps : List Pc) (n : Int) (h0 : -9223372036854775808 ≤ n) (h1 : n ≤ 9223372036854775807) (w : World) (h : PrnP w0 g o ps w) (ho : o.length ≤ 1000000000)
   (hP : Lib.TabBelow Tryz.prog w0.heap.size w0 "internal/strconv.uint64pow10" .u64 Lib.pow10Tab) :
   Calls Tryz.prog 80 #[.pointer (some ⟨g, 0, none⟩), .int .i64 n] w fun e w' => e = .returned (.tuple #[]) ∧ PrnP w0 g (o ++ Lib.itoa n) ps w' ∧ PK w w' := by
 obtain ⟨ov, wv, vs, h⟩ := h
 obtain ⟨c0, c1, f0, f1⟩ := h.cells
 have c : Calls Tryz.prog 113 #[ov, .int .i64 n, .int .i64 10] w _ := Any.strconv_AppendInt_10 Tryz.laysM176 w0.heap.size o.length n h0 h1 ov _ w h.out h.below.size (by omega) (hP.on h.below)
 obtain ⟨oo, cc, rfl⟩ := own_form h.out
 have hH := hid h
 clear c1 f1 h
 go_enter Tryz.func80, Tryz.ntmps80
 go_wp2_with fail
 refine c.mono ?_
 rintro e w2 ⟨v', rfl, hown, hb, hk⟩
 have h := hH.out
 have hcb : Lib.byteCells (o ++ Lib.itoa n) = Lib.byteCells o ++ Lib.byteCells (Lib.itoa n) := by simp [Lib.byteCells]
 have hown2 : w2.ownsRow w0.heap.size 5 1 v' (o ++ Lib.itoa n).length (Lib.byteCells (o ++ Lib.itoa n)) := by rw [hcb, List.length_append]; exact hown
 have hW := hid (h.wrote hk hb hown2)
 obtain ⟨o2, k2, rfl⟩ := own_form hown2
 have hg2 : w2.heap[g]? = some (.cells #[.slice oo o.length cc, wv] 56 (0, 0)) := hk g _ h.box (by simp) (fun c fz e => by injection e with _ e2; exact absurd e2 (by decide))
 have d0 : w2.cell? ⟨g, 0, none⟩ = some (.slice oo o.length cc) := by simp [World.cell?, hg2]
 have d1 : w2.frozen? ⟨g, 0, none⟩ = false := by simp [World.frozen?, hg2]
 obtain ⟨m, hm⟩ : ∃ m, (o ++ Lib.itoa n).length = m := ⟨_, rfl⟩
 rw [hm] at hW
 rw [hm]
 have hPK := hid (PK.put (j := 0) (.inl rfl) hk hg2 (.slice o2 m k2))
 clear hown hown2 hk hb hcb hg2 h c hH c0 f0 hm
 go_wp2
 all_goals go_returns
 all_goals exact ⟨rfl, ⟨_, _, _, hW.out⟩, hPK.out⟩
theorem psv_push {w0 : World} {ps : List Pc} {vs : List Value} {p : Pc} {v : Value} (h : PsV w0 ps vs) (hp : PcV w0 p v) : PsV w0 (p :: ps) (vs ++ [v]) := ⟨vs, v, rfl, hp, h⟩
set_option maxHeartbeats 1000000 in
theorem pwait_w (w0 : World) (g : Nat) (o : List UInt8) (ps : List Pc) (p : Pc) (v : Value) (w : World) (h : PrnP w0 g o ps w) (hp : PcV w0 p v) (hn : ps.length ≤ 1000000000) :
   Calls Tryz.prog 76 #[.pointer (some ⟨g, 0, none⟩), v] w fun e w' => e = .returned (.tuple #[]) ∧ PrnP w0 g o (p :: ps) w' ∧ PK w w' := by
 obtain ⟨ov, wv, vs, h⟩ := h
 obtain ⟨c0, c1, f0, f1⟩ := h.cells
 have hl := h.is.length
 obtain ⟨i0, hi, hz0, hz1, hz2⟩ := info_parts infoP
 have hR1 := World.ownsRow.alloc h.wait (.cells #[v] 59)
 obtain ⟨v', w2, hr, hown, hg, _⟩ := run_append_own (P := Tryz.prog) (w.alloc (.cells #[v] 59)) w0.heap.size 54 54 59 i0 .nilIface 1 16 Tryz.underlying54 hi hz0 hz1 hz2 rfl (by decide) wv vs.length vs hR1 ⟨w.heap.size, 0, none⟩ 1 1 [v] rfl (cell_one_new _ _ _) (by intro u hu; simp at hu; subst hu; exact hp.one) (by unfold maxLen; omega) (by omega) (by have := h.below.size; simp; omega)
 obtain ⟨hk', hb'⟩ := kept_grown hR1 hg (by have := h.below.size; simp; omega)
 have hk : Lib.OthersKept 59 none w w2 := ((Lib.OthersKept.refl _ _ w).alloc _).trans hk'
 have hb : Below w0.heap.size w w2 := ((Below.refl _ w).alloc h.below.size _).trans hb'
 have hown2 : w2.ownsRow w0.heap.size 59 1 v' (vs ++ [v]).length (vs ++ [v]) := by rw [List.length_append]; exact hown
 have hW := hid (h.waits hk hb hown2 (psv_push h.is hp))
 obtain ⟨oo, cc, rfl⟩ := own_form h.wait
 obtain ⟨o2, k2, rfl⟩ := own_form hown
 have hg2 : w2.heap[g]? = some (.cells #[ov, .slice oo vs.length cc] 56 (0, 0)) := hk g _ h.box (by simp) (fun c fz e => by injection e with _ e2; exact absurd e2 (by decide))
 have d0 : w2.cell? ⟨g, 1, none⟩ = some (.slice oo vs.length cc) := by simp [World.cell?, hg2]
 have d1 : w2.frozen? ⟨g, 1, none⟩ = false := by simp [World.frozen?, hg2]
 obtain ⟨pt, px, rfl⟩ := hp.form
 clear hp
 have hPK := hid (PK.put (j := 1) (.inr rfl) hk hg2 (.slice o2 (vs.length + 1) k2))
 clear hown hown2 hg hk hb hk' hb' hg2 c0 f0 h hR1 hl
 go_enter Tryz.func76, Tryz.ntmps76
 go_wp2_with (at_builtin; refine Lib.wpList_append_run _ rfl _ _ _ _ rfl _ _ rfl rfl _ _ hr ?_)
 all_goals go_returns
 all_goals exact ⟨rfl, ⟨_, _, _, hW.out⟩, hPK.out⟩
theorem TR.get2 {w0 w : World} {l : List Tm} {o : Option Addr} {i : Nat} {t : Tm} (h : TR (Low w0) w0 l o) (ht : l[i]? = some t) (hb : Below w0.heap.size w0 w) :
   ∃ a k neg od ld cd nm n ol ll cl ob lb cb, o = some a ∧ TV (Low w0) w0 t (tmV k neg (.slice od ld cd) nm n (.slice ol ll cl) (.slice ob lb cb)) ∧ w.cell? (a.add (i * 7)) = some (.int .i64 k) ∧ w.cell? ⟨(a.add (i * 7)).block, (a.add (i * 7)).off + 1, none⟩ = some (.bool neg) ∧ w.cell? ⟨(a.add (i * 7)).block, (a.add (i * 7)).off + 2, none⟩ = some (.slice od ld cd) ∧ w.cell? ⟨(a.add (i * 7)).block, (a.add (i * 7)).off + 3, none⟩ = some (.string nm) ∧ w.cell? ⟨(a.add (i * 7)).block, (a.add (i * 7)).off + 4, none⟩ = some (.int .i64 n) ∧ w.cell? ⟨(a.add (i * 7)).block, (a.add (i * 7)).off + 5, none⟩ = some (.slice ol ll cl) ∧ w.cell? ⟨(a.add (i * 7)).block, (a.add (i * 7)).off + 6, none⟩ = some (.slice ob lb cb) := by
 obtain ⟨a, k, neg, od, ld, cd, nm, n, ol, ll, cl, ob, lb, cb, rfl, hT, h0, h1, h2, h3, h4, h5, h6⟩ := h.get ht (Below.refl _ w0)
 have q : ∀ {x : Addr} {v : Value}, w0.cell? x = some v → w.cell? x = some v := fun hc => (hb.cell (World.block_lt_of_cell? _ _ hc)).trans hc
 exact ⟨a, k, neg, od, ld, cd, nm, n, ol, ll, cl, ob, lb, cb, rfl, hT, q h0, q h1, q h2, q h3, q h4, q h5, q h6⟩
theorem add7 (x : Addr) : x.add 7 = ⟨x.block, x.off + 7, none⟩ := by unfold Addr.add; simp
theorem PK.cell {w w' : World} (h : PK w w') {g : Nat} {c : Array Value} {fz : Nat × Nat} {T : TypeId} (hg : w.heap[g]? = some (.cells c T fz)) (h1 : T ≠ 5) (h2 : T ≠ 59) (h3 : T ≠ 56) : w'.heap[g]? = some (.cells c T fz) :=
 h g _ hg (fun c' fz' => ⟨fun e => by injection e with _ e; exact h1 e, fun e => by injection e with _ e; exact h2 e, fun e => by injection e with _ e; exact h3 e⟩)
theorem cell7 {w : World} {g : Nat} {a0 a1 a2 a3 a4 a5 a6 : Value} {T : TypeId} (h : w.heap[g]? = some (.cells #[a0, a1, a2, a3, a4, a5, a6] T (0, 0))) :
   w.cell? ⟨g, 0, none⟩ = some a0 ∧ w.cell? ⟨g, 1, none⟩ = some a1 ∧ w.cell? ⟨g, 2, none⟩ = some a2 ∧ w.cell? ⟨g, 3, none⟩ = some a3 ∧ w.cell? ⟨g, 4, none⟩ = some a4 ∧ w.cell? ⟨g, 5, none⟩ = some a5 ∧ w.cell? ⟨g, 6, none⟩ = some a6 := by
 simp [World.cell?, h]
set_option maxHeartbeats 2000000 in
theorem pcons_w (w0 : World) (g : Nat) (o : List UInt8) (ps : List Pc) (neg : Bool) (d : List Nat) (nm : ByteArray) (n : Int) (H T : Tm) (b : List Nat) (v : Value) (w : World) (h : PrnP w0 g o ps w) (hT : TV (Low w0) w0 (.mk 6 neg d nm n [H, T] b) v) (hn : ps.length ≤ 900000000) :
   Calls Tryz.prog 75 #[.pointer (some ⟨g, 0, none⟩), v] w fun e w' => e = .returned (.tuple #[]) ∧ PrnP w0 g o (.tm H :: .tl T :: ps) w' ∧ PK w w' := by
 unfold TV at hT
 obtain ⟨od, cd, ol, cl, ob, cb, rfl, _, _, _, _, _, hcl, hTR⟩ := hT
 unfold tmV
 obtain ⟨W, hW⟩ : ∃ W, W = w.alloc (.cells #[.int .i64 6, .bool neg, .slice od d.length cd, .string nm, .int .i64 n, .slice ol [H, T].length cl, .slice ob b.length cb] 27) := ⟨_, rfl⟩
 have bW : Below w.heap.size w W := by rw [hW]; exact (Below.refl _ w).alloc (Nat.le_refl _) _
 have hgW : W.heap[w.heap.size]? = some (.cells #[.int .i64 6, .bool neg, .slice od d.length cd, .string nm, .int .i64 n, .slice ol [H, T].length cl, .slice ob b.length cb] 27 (0, 0)) := by rw [hW]; exact heap_alloc_new w _
 have hPW := h.later bW
 obtain ⟨a, k1, neg1, od1, ld1, cd1, nm1, n1, ol1, ll1, cl1, ob1, lb1, cb1, ea, hT1, y0, y1, y2, y3, y4, y5, y6⟩ := hTR.get2 (i := 1) (t := T) rfl hPW.below
 subst ea
 simp only [List.length_cons, List.length_nil, Nat.zero_add, Nat.reduceAdd] at hgW hW hcl ⊢
 obtain ⟨x0, x1, x2, x3, x4, x5, x6⟩ := cell7 hgW
 rw [Nat.one_mul, add7] at y0 y1 y2 y3 y4 y5 y6
 have c1 := pwait_w w0 g o ps (.tl T) (.iface 83 (tmV k1 neg1 (.slice od1 ld1 cd1) nm1 n1 (.slice ol1 ll1 cl1) (.slice ob1 lb1 cb1))) W hPW ⟨_, rfl, hT1⟩ (by omega)
 unfold tmV at c1
 go_enter Tryz.func75, Tryz.ntmps75
 go_upto_region 1 with fail
 rw [← hW]
 have hTRH := hid hTR
 clear hW hTR h
 go_wp2_with fail
 refine c1.mono ?_
 rintro e w2 ⟨rfl, h2, k2⟩
 have hg2 := k2.cell hgW (by decide) (by decide) (by decide)
 clear c1 x0 x1 x2 x3 x4 x5 x6 y0 y1 y2 y3 y4 y5 y6 hgW
 obtain ⟨x0, x1, x2, x3, x4, x5, x6⟩ := cell7 hg2
 obtain ⟨a', k0, neg0, od0, ld0, cd0, nm0, n0, ol0, ll0, cl0, ob0, lb0, cb0, ea, hT0, y0, y1, y2, y3, y4, y5, y6⟩ := hTRH.out.get2 (i := 0) (t := H) rfl h2.below
 injection ea with ea
 subst ea
 rw [Nat.zero_mul, add_zero] at y0 y1 y2 y3 y4 y5 y6
 have c2 := pwait_w w0 g o (.tl T :: ps) (.tm H) (.iface 27 (tmV k0 neg0 (.slice od0 ld0 cd0) nm0 n0 (.slice ol0 ll0 cl0) (.slice ob0 lb0 cb0))) w2 h2 ⟨_, rfl, hT0⟩ (by simp; omega)
 unfold tmV at c2
 clear hg2
 go_wp2_with fail
 refine c2.mono ?_
 rintro e w3 ⟨rfl, h3, k3⟩
 go_wp2
 all_goals go_returns
 all_goals exact ⟨rfl, h3, ((PK.of_below bW).trans k2).trans k3⟩
set_option maxHeartbeats 2000000 in
theorem ptuple_w (w0 : World) (g : Nat) (o : List UInt8) (ps : List Pc) (l : List Tm) (ol : Option Addr) (cl : Nat) (w : World) (h : PrnP w0 g o ps w) (hT : TR (Low w0) w0 l ol) (hl : l.length ≤ 1000000) (hn : ps.length ≤ 800000000) (ho : o.length ≤ 900000000) :
   Calls Tryz.prog 81 #[.pointer (some ⟨g, 0, none⟩), .slice ol l.length cl] w fun e w' => e = .returned (.tuple #[]) ∧ PrnP w0 g (o ++ [123]) (itemsPc l ++ .mk 125 :: ps) w' ∧ PK w w' := by
 have c1 := psign_w w0 g o ps 123 (by decide) w h (by omega)
 rw [show UInt8.ofNat 123 = 123 from rfl] at c1
 go_enter Tryz.func81, Tryz.ntmps81
 go_wp2_with fail
 refine c1.mono ?_
 rintro e w1 ⟨rfl, h1, k1⟩
 have c2 := pwait_w w0 g (o ++ [123]) ps (.mk 125) (.iface 79 (.int .i32 125)) w1 h1 rfl (by omega)
 clear c1
 go_wp2_with fail
 refine c2.mono ?_
 rintro e w2 ⟨rfl, h2, k2⟩
 clear c2 h1 h
 have hk2 := hid (k1.trans k2)
 have hz : (l.length : Int) ≤ 1000000 := by omega
 have h2H := hid h2
 clear k1 k2 h2
 go_wp2_with fail
 go_loopw [4] (fun v wr => ∃ j : Nat, j ≤ l.length ∧ v = .int .i64 ((j : Int) - 1) ∧ Hid (PrnP w0 g (o ++ [123]) (stI l j ++ .mk 125 :: ps) wr) ∧ Hid (PK w wr)) (fun v _ => (intOf v + 1).toNat)
 case atStart => exact ⟨l.length, Nat.le_refl _, by go_num, by rw [stI_full]; exact h2H, hk2⟩
 case round =>
   obtain ⟨j, hj, rfl, hP, hK⟩ := hrel
   cases j with
   | zero =>
     have hP2 := hP.out
     unfold stI at hP2
     rw [if_pos rfl] at hP2
     go_wp2
     go_returns
     exact ⟨rfl, hP2, hK.out⟩
   | succ j =>
     have hjl : j < l.length := by omega
     obtain ⟨t, ht⟩ : ∃ t, l[j]? = some t := ⟨l[j], by simp⟩
     obtain ⟨a, kk, neg, od, ld, cd, nm, n, oo, ll, cc, ob, lb, cb, rfl, hTV, y0, y1, y2, y3, y4, y5, y6⟩ := hT.get2 ht hP.out.below
     have e1 : (((j + 1 : Nat) : Int) - 1) = (j : Int) := by omega
     have hjz : (j : Int) < (l.length : Int) := by omega
     have hlen := stI_len l (j + 1) hj
     have c3 := pwait_w w0 g (o ++ [123]) (stI l (j + 1) ++ .mk 125 :: ps) (.tm t) (.iface 27 (tmV kk neg (.slice od ld cd) nm n (.slice oo ll cc) (.slice ob lb cb))) wr hP.out ⟨_, rfl, hTV⟩ (by simp; omega)
     rw [← List.cons_append, stI_step ht] at c3
     unfold tmV at c3
     clear hP ht hTV
     rw [e1]
     go_wp2_with fail
     refine c3.mono ?_
     rintro e w3 ⟨rfl, h3, k3⟩
     clear c3
     have hKK := hid (hK.out.trans k3)
     by_cases h0 : j = 0
     · subst h0
       have h3H := hid h3
       clear h3 k3 hK y0 y1 y2 y3 y4 y5 y6
       go_wp2
       exact ⟨⟨0, by omega, by go_num, by unfold stI; rw [if_pos rfl]; exact h3H, hKK⟩, by simp [intOf]⟩
     · have c4 := pwait_w w0 g (o ++ [123]) (itemsPc (l.drop j) ++ .mk 125 :: ps) (.mk 44) (.iface 79 (.int .i32 44)) w3 h3 rfl (by
         have e2 : (itemsPc (l.drop j)).length ≤ 2 * l.length + 1 := by
           have := stI_step (l := l) (j := j) (t := l[j]) (by simp)
           rw [← this]; simp; omega
         simp; omega)
       have e3 : stI l j = .mk 44 :: itemsPc (l.drop j) := by unfold stI; rw [if_neg h0, if_neg (by omega)]
       rw [← List.cons_append, ← e3] at c4
       have hjz0 : (0 : Int) < (j : Int) := by omega
       have hK3 := hKK.out
       clear h3 k3 hK y0 y1 y2 y3 y4 y5 y6 e3 hKK
       have hK3 := hid hK3
       go_wp2_with fail
       refine c4.mono ?_
       rintro e w4 ⟨rfl, h4, k4⟩
       have h4H := hid h4
       have hK4 := hid (hK3.out.trans k4)
       clear c4 h4 k4
       go_wp2
       exact ⟨⟨j, by omega, by go_num, h4H, hK4⟩, by simp [intOf]⟩
theorem byT_len (x : Nat) (h : x < 256) : (byT x).length ≤ 21 := Lib.itoa_length_le _ (by omega) (by omega)
theorem joinC_len (b : List Nat) (h : ∀ x ∈ b, x < 256) : (joinC (b.map byT)).length ≤ 22 * b.length := by
 match b with
 | [] => simp [joinC]
 | [x] => have := byT_len x (h x (by simp)); simp [joinC]; omega
 | x :: y :: b =>
   have ih := joinC_len (y :: b) (fun z hz => h z (by simp at hz ⊢; exact .inr hz))
   have := byT_len x (h x (by simp))
   simp only [List.map_cons, joinC, List.length_append, List.length_cons] at ih ⊢
   omega
theorem take_snoc {b : List Nat} {k x : Nat} (h : b[k]? = some x) : b.take (k + 1) = b.take k ++ [x] := by
 rw [List.take_add_one, h]; rfl
set_option maxHeartbeats 2000000 in
theorem pbin_w (w0 : World) (g : Nat) (o : List UInt8) (ps : List Pc) (b : List Nat) (ob : Option Addr) (cb : Nat) (w : World) (h : PrnP w0 g o ps w) (hT : LsB (Low w0) ob b w0) (hl : b.length ≤ 10000) (ho : o.length ≤ 900000000)
   (hP : Lib.TabBelow Tryz.prog w0.heap.size w0 "internal/strconv.uint64pow10" .u64 Lib.pow10Tab) :
   Calls Tryz.prog 82 #[.pointer (some ⟨g, 0, none⟩), .slice ob b.length cb] w fun e w' => e = .returned (.tuple #[]) ∧ PrnP w0 g (o ++ ([60, 60] ++ (joinC (b.map byT) ++ [62, 62]))) ps w' ∧ PK w w' := by
 obtain ⟨hLs, hLm⟩ := hT
 have c1 := ptext_w w0 g o ps ⟨#[60, 60]⟩ w h (by decide) (by omega)
 have hPH := hid hP
 clear hP
 go_enter Tryz.func82, Tryz.ntmps82
 go_wp2_with fail
 refine c1.mono ?_
 rintro e w1 ⟨rfl, h1, k1⟩
 clear c1 h
 have h1H := hid h1
 have k1H := hid k1
 clear h1 k1
 have hbz : (b.length : Int) ≤ 10000 := by omega
 go_wp2_with fail
 go_loopw [10] (fun v wr => ∃ k : Nat, v = .int .i64 (k : Int) ∧ k ≤ b.length ∧ Hid (PrnP w0 g (o ++ ([60, 60] ++ joinC ((b.take k).map byT))) ps wr) ∧ Hid (PK w wr)) (fun v _ => b.length - (intOf v).toNat)
 case atStart => exact ⟨0, rfl, Nat.zero_le _, by simpa [joinC] using h1H, k1H⟩
 case round =>
   obtain ⟨k, rfl, hk, hH, hK⟩ := hrel
   have hjl := joinC_len (b.take k) (fun x hx => hLm x (List.mem_of_mem_take hx))
   rw [List.length_take] at hjl
   have hlen : (o ++ ([60, 60] ++ joinC ((b.take k).map byT))).length ≤ 900300000 := by
     rw [List.length_append, List.length_append]; simp only [List.length_cons, List.length_nil]; omega
   have hlenH := hid hlen
   clear hjl hlen
   by_cases hkl : k < b.length
   · have hkz : (k : Int) < (b.length : Int) := by omega
     obtain ⟨x, hx⟩ : ∃ x, b[k]? = some x := ⟨b[k], by simp⟩
     obtain ⟨a, rfl, hZ, hc⟩ := hLs k (.int .u8 (x : Int)) (by simp [bts, hx])
     have hx8 : x < 256 := hLm x (List.mem_of_getElem? hx)
     have hcr : wr.cell? (a.add k) = some (.int .u8 (x : Int)) := (hH.out.below.cell (World.block_lt_of_cell? _ _ hc)).trans hc
     have hts : Hid ((b.take (k + 1)).map byT = (b.take k).map byT ++ [byT x]) := hid (by rw [take_snoc hx, List.map_append]; rfl)
     clear hc hx
     by_cases h0 : k = 0
     · subst h0
       rw [add_zero] at hcr
       have c2 := pnumber_w w0 g _ ps (x : Int) (by omega) (by omega) wr hH.out (by have := hlenH.out; omega) hPH.out
       go_wp2_with fail
       refine c2.mono ?_
       rintro e w2 ⟨rfl, h2, k2⟩
       have h2H := hid h2
       have k2H := hid (hK.out.trans k2)
       clear c2 h2 k2 hK hH
       go_wp2
       refine ⟨⟨1, by go_num, by omega, hid ?_, k2H⟩, by simp [intOf]; omega⟩
       have e := hts.out
       simp only [Nat.zero_add, List.take_zero, List.map_nil, List.nil_append] at e
       have h2 := h2H.out
       rw [e]
       simpa [joinC, byT] using h2
     · have hk0 : (0 : Int) < (k : Int) := by omega
       have c2 := psign_w w0 g _ ps 44 (by decide) wr hH.out (by have := hlenH.out; omega)
       rw [show UInt8.ofNat 44 = 44 from rfl] at c2
       have hkH := hid h0
       clear h0
       go_wp2_with fail
       refine c2.mono ?_
       rintro e w2 ⟨rfl, h2, k2⟩
       have c3 := pnumber_w w0 g _ ps (x : Int) (by omega) (by omega) w2 h2 (by have := hlenH.out; rw [List.length_append]; simp only [List.length_cons, List.length_nil]; omega) hPH.out
       clear c2
       have k2H := hid (hK.out.trans k2)
       clear h2 k2 hK hH
       go_wp2_with fail
       refine c3.mono ?_
       rintro e w3 ⟨rfl, h3, k3⟩
       have h3H := hid h3
       have k3H := hid (k2H.out.trans k3)
       clear c3 h3 k3 k2H
       go_wp2
       refine ⟨⟨k + 1, by go_num, by omega, hid ?_, k3H⟩, by simp [intOf]; omega⟩
       have e := hts.out
       have h3 := h3H.out
       have hne : (b.take k).map byT ≠ [] := by
         intro e2
         have := congrArg List.length e2
         have h0 := hkH.out
         rw [List.length_map, List.length_take] at this
         simp only [List.length_nil] at this
         omega
       rw [e, joinC_snoc, if_neg hne]
       simpa [byT] using h3
   · have hkz : ¬ (k : Int) < (b.length : Int) := by omega
     have hH2 := hH.out
     rw [List.take_of_length_le (by omega)] at hH2
     have c2 := ptext_w w0 g _ ps ⟨#[62, 62]⟩ wr hH2 (by decide) (by have h9 := hlenH.out; rw [List.take_of_length_le (by omega)] at h9; omega)
     clear hH hH2
     go_wp2_with fail
     refine c2.mono ?_
     rintro e w2 ⟨rfl, h2, k2⟩
     have h2H := hid h2
     have k2H := hid (hK.out.trans k2)
     clear c2 h2 k2 hK
     go_wp2
     go_returns
     exact ⟨rfl, by simpa using h2H.out, k2H.out⟩
def okX : Tm → Prop
 | .mk k neg d nm n l b => 0 ≤ k ∧ k ≤ 7 ∧ (k = 0 → d.length ≤ 64) ∧ nm.size ≤ 1000000 ∧ (k = 2 ∨ k = 3 → 0 ≤ n ∧ n ≤ 1073741824) ∧ (k = 4 → l.length ≤ 255) ∧ (k = 6 → l.length = 2) ∧ (k = 7 → b.length ≤ 4096)
theorem okX_fair (T : Tm) (h1 : T.ok1) (h : fairB T = true) : okX T := by
 cases T with | mk k neg d nm n l b =>
 unfold fairB at h
 rw [Bool.and_eq_true] at h
 obtain ⟨h2, h3⟩ := h
 obtain ⟨_, hnm, _⟩ := h1
 unfold leanB at h2
 unfold withinB at h3
 dsimp only at h3
 by_cases k0 : k = 0
 · rw [if_pos k0, Bool.and_eq_true] at h3
   have := of_decide_eq_true h3.1
   exact ⟨by omega, by omega, fun _ => by omega, hnm, fun e => by omega, fun e => by omega, fun e => by omega, fun e => by omega⟩
 rw [if_neg k0] at h3
 by_cases k1 : k = 1
 · exact ⟨by omega, by omega, fun e => by omega, hnm, fun e => by omega, fun e => by omega, fun e => by omega, fun e => by omega⟩
 rw [if_neg k1] at h3
 by_cases k2 : k = 2 ∨ k = 3
 · rw [if_pos k2, Bool.and_eq_true] at h3
   have h4 := of_decide_eq_true h3.1
   have h5 := of_decide_eq_true h3.2
   exact ⟨by omega, by omega, fun e => by omega, hnm, fun e => ⟨h4, h5⟩, fun e => by omega, fun e => by omega, fun e => by omega⟩
 rw [if_neg k2] at h3
 by_cases k4 : k = 4
 · rw [if_pos k4] at h3
   have h4 := of_decide_eq_true h3
   exact ⟨by omega, by omega, fun e => by omega, hnm, fun e => by omega, fun e => by omega, fun e => by omega, fun e => by omega⟩
 rw [if_neg k4] at h3
 by_cases k6 : k = 6
 · rw [if_pos k6] at h3
   have h4 : (l.length : Int) = 2 := by simpa using h3
   exact ⟨by omega, by omega, fun e => by omega, hnm, fun e => by omega, fun e => by omega, fun e => by omega, fun e => by omega⟩
 rw [if_neg k6] at h3
 by_cases k7 : k = 7
 · rw [if_pos k7] at h3
   have h4 := of_decide_eq_true h3
   exact ⟨by omega, by omega, fun e => by omega, hnm, fun e => by omega, fun e => by omega, fun e => by omega, fun e => by omega⟩
 have k5 : k = 5 := by
   have hp : prT (.mk k neg d nm n l b) = .mk 5 false [] noS 0 [] [] := by rw [prT]; simp [k0, k1, k4, k6, k7, show ¬ k = 2 by omega, show ¬ k = 3 by omega]
   rw [hp] at h2
   simp only [eqF, Bool.and_eq_true, decide_eq_true_eq] at h2
   omega
 exact ⟨by omega, by omega, fun e => by omega, hnm, fun e => by omega, fun e => by omega, fun e => by omega, fun e => by omega⟩
def okXs (T : Tm) : Prop := ∀ p ∈ parts T, okX p
theorem okXs.self {T : Tm} (h : okXs T) : okX T := h T (by rw [parts_eq]; simp)
theorem okXs.kid {T t : Tm} (h : okXs T) (ht : t ∈ T.kids) : okXs t := fun p hp => h p (by
 rw [parts_eq]
 refine List.mem_cons_of_mem _ ?_
 have hm : ∀ {l : List Tm}, t ∈ l → p ∈ partsL l := by
   intro l
   induction l with
   | nil => intro h; simp at h
   | cons u l ih =>
     intro h
     simp only [partsL, List.mem_append]
     rcases List.mem_cons.1 h with rfl | h
     · exact .inl hp
     · exact .inr (ih h)
 exact hm ht)
theorem txt_len {neg : Bool} {d : List Nat} (h : Lm 4294967296 d) (hl : d.length ≤ 64) : (txt (sv neg (gval 4294967296 d))).length ≤ 1000 := by
 have h1 := gval_lt h
 have h3 : (4294967296 : Nat) ^ d.length ≤ (10 ^ 10) ^ d.length := Nat.pow_le_pow_left (by omega) _
 rw [← Nat.pow_mul] at h3
 have h4 : gval 4294967296 d < 10 ^ (10 * d.length) := Nat.lt_of_lt_of_le h1 h3
 have h5 : (sv neg (gval 4294967296 d)).natAbs = gval 4294967296 d := by unfold sv; cases neg <;> simp
 have h6 := (glim_len (b := 10) (by omega) (gval 4294967296 d) (10 * d.length)).2 h4
 unfold txt txtN
 rw [List.length_map, h5]
 split
 · simp
 · rw [List.length_reverse, List.length_append, List.length_map]
   split <;> simp <;> omega
theorem quote_le (l : List UInt8) : (quoteL l).length ≤ 20 * l.length + 8 := by
 unfold quoteL
 split
 · split
   · omega
   · have h1 := en_length_le (quoteR (sg l))
     have h2 := escs_len (sg l)
     have h3 := sg_le l
     unfold quoteR at h1 ⊢
     simp only [List.length_cons, List.length_append, List.length_nil] at h1 ⊢
     omega
 · simp
def okPc : Pc → Prop
 | .mk r => r < 128
 | .tl T => okXs T
 | .tm T => okXs T
def Went (w0 : World) (g : Nat) (o : List UInt8) (ps : List Pc) (w' : World) : Prop :=
 ∃ o' ps', PrnP w0 g o' ps' w' ∧ o' ++ rem ps' = o ++ rem ps ∧ works ps' < works ps ∧ (∀ p ∈ ps', okPc p) ∧ o'.length ≤ o.length + 30000000
theorem works_len : ∀ ps : List Pc, ps.length ≤ works ps
 | [] => by simp [works]
 | p :: ps => by
   have := works_len ps
   have : 1 ≤ p.work := by
     cases p with
     | mk r => simp [Pc.work]
     | tl T => simp [Pc.work]
     | tm T => have := parts_pos T; simp [Pc.work]; omega
   simp [works]; omega
theorem nums_at {w0 w : World} {neg : Bool} {d : List Nat} {od : Option Addr} {cd : Nat} (hL : Ls (Low w0) od (lim d) w0) (hc : d.length ≤ cd) (hm : Lm 4294967296 d) (h64 : d.length ≤ 64) (hb : Below w0.heap.size w0 w) :
   IsN (.agg #[.bool neg, .slice od d.length cd]) (sv neg (gval 4294967296 d)) 64 w :=
 ⟨neg, od, d, cd, rfl, hL.lies.below hb, hc, hm, rfl, h64⟩
set_option maxHeartbeats 2000000 in
theorem pterm0_w (w0 : World) (g : Nat) (o : List UInt8) (ps : List Pc) (k : Int) (neg : Bool) (d : List Nat) (nm : ByteArray) (n : Int) (l : List Tm) (b : List Nat) (v : Value) (w : World) (h : PrnP w0 g o ps w) (hT : TV (Low w0) w0 (.mk k neg d nm n l b) v)
   (hok : okXs (.mk k neg d nm n l b)) (hpo : ∀ p ∈ ps, okPc p) (hwk : works (.tm (.mk k neg d nm n l b) :: ps) ≤ 100000000) (ho : o.length ≤ 100000000) (hQ : TabsQ w0) (hP : Lib.TabBelow Tryz.prog w0.heap.size w0 "internal/strconv.uint64pow10" .u64 Lib.pow10Tab) (hk : k = 0 ∨ k = 1) :
   Calls Tryz.prog 46 #[.pointer (some ⟨g, 0, none⟩), v] w fun e w' => e = .returned (.tuple #[]) ∧ Went w0 g o (.tm (.mk k neg d nm n l b) :: ps) w' := by
 unfold TV at hT
 obtain ⟨od, cd, ol, cl, ob, cb, rfl, hLd, hcd, hLm, hLb, hcb, hcl, hTR⟩ := hT
 have hX := hok.self
 obtain ⟨k0, k7, x0, xn, x23, x4, x6, x7⟩ := hX
 have hps := works_len ps
 have hend : ∀ s : List UInt8, s = leafX k neg d nm n b → s.length ≤ 30000000 → ∀ w', PrnP w0 g (o ++ s) ps w' → Went w0 g o (.tm (.mk k neg d nm n l b) :: ps) w' := by
   intro s hs hl w' hp
   refine ⟨_, _, hp, ?_, ?_, hpo, by rw [List.length_append]; omega⟩
   · simp only [rem, Pc.text]
     rw [tx_leaf (by omega) (by omega), ← hs, List.append_assoc]
   · have := parts_pos (.mk k neg d nm n l b)
     simp only [works, Pc.work]; omega
 have hendH := hid hend
 have hnb : nm.data.toList.length = nm.size := rfl
 clear hend
 unfold tmV
 obtain ⟨W, hW⟩ : ∃ W, W = w.alloc (.cells #[.int .i64 k, .bool neg, .slice od d.length cd, .string nm, .int .i64 n, .slice ol l.length cl, .slice ob b.length cb] 27) := ⟨_, rfl⟩
 have bW : Below w.heap.size w W := by rw [hW]; exact (Below.refl _ w).alloc (Nat.le_refl _) _
 have hgW : W.heap[w.heap.size]? = some (.cells #[.int .i64 k, .bool neg, .slice od d.length cd, .string nm, .int .i64 n, .slice ol l.length cl, .slice ob b.length cb] 27 (0, 0)) := by rw [hW]; exact heap_alloc_new w _
 have hPW := h.later bW
 obtain ⟨y0, y1, y2, y3, y4, y5, y6⟩ := cell7 hgW
 have hPWH := hid hPW
 have hgWH := hid hgW
 clear h hgW hPW
 rcases hk with rfl | rfl
 · have c1 := text_w _ _ 64 W (by omega) (nums_at (neg := neg) hLd hcd hLm (x0 rfl) hPWH.out.below)
   have hl := txt_len (neg := neg) hLm (x0 rfl)
   have hs : leafX 0 neg d nm n b = txt (sv neg (gval 4294967296 d)) := by unfold leafX; rw [if_pos rfl]
   have hsH := hid (And.intro hl hs)
   clear x0 x23 x4 x6 x7 hl hs
   go_enter Tryz.func46, Tryz.ntmps46
   go_upto_region 1 with fail
   rw [← hW]
   clear hW
   go_wp2_with fail
   refine c1.mono ?_
   rintro e w1 ⟨rfl, b1⟩
   have c2 := ptext_w w0 g o ps ⟨(txt (sv neg (gval 4294967296 d))).toArray⟩ w1 (hPWH.out.later b1) (by have := hsH.out.1; show (txt _).toArray.size ≤ _; simp; omega) (by omega)
   clear c1
   go_wp2_with fail
   refine c2.mono ?_
   rintro e w2 ⟨rfl, h2, k2⟩
   have hq := hendH.out _ hsH.out.2.symm (by have := hsH.out.1; omega) w2 (by simpa using h2)
   have hqH := hid hq
   clear c2 h2 hq
   go_wp2
   all_goals go_returns
   all_goals exact ⟨rfl, hqH.out⟩
 · have c1 := quote_w nm W xn (hQ.below ⟨hPWH.out.below.os, hPWH.out.below.tape, hPWH.out.below.output, hPWH.out.below.size, hPWH.out.below.block⟩)
   have hl := quote_le nm.data.toList
   rw [hnb] at hl
   have hs : leafX 1 neg d nm n b = quoteL nm.data.toList := by unfold leafX; rw [if_neg (by decide), if_pos rfl]
   have hsH := hid (And.intro hl hs)
   clear x0 x23 x4 x6 x7 hl hs
   obtain ⟨R, hR⟩ : ∃ R, quoteL nm.data.toList = R := ⟨_, rfl⟩
   rw [hR] at c1 hsH
   go_enter Tryz.func46, Tryz.ntmps46
   go_upto_region 1 with fail
   rw [← hW]
   clear hW hR
   go_wp2_with fail
   refine c1.mono ?_
   rintro e w1 ⟨rfl, b1⟩
   have c2 := ptext_w w0 g o ps ⟨R.toArray⟩ w1 (hPWH.out.later b1) (by have := hsH.out.1; show R.toArray.size ≤ _; simp; omega) (by omega)
   clear c1
   go_wp2_with fail
   refine c2.mono ?_
   rintro e w2 ⟨rfl, h2, k2⟩
   have hq := hendH.out _ hsH.out.2.symm (by have := hsH.out.1; omega) w2 (by simpa using h2)
   have hqH := hid hq
   clear c2 h2 hq
   go_wp2
   all_goals go_returns
   all_goals exact ⟨rfl, hqH.out⟩
set_option maxHeartbeats 2000000 in
theorem pterm1_w (w0 : World) (g : Nat) (o : List UInt8) (ps : List Pc) (k : Int) (neg : Bool) (d : List Nat) (nm : ByteArray) (n : Int) (l : List Tm) (b : List Nat) (v : Value) (w : World) (h : PrnP w0 g o ps w) (hT : TV (Low w0) w0 (.mk k neg d nm n l b) v)
   (hok : okXs (.mk k neg d nm n l b)) (hpo : ∀ p ∈ ps, okPc p) (hwk : works (.tm (.mk k neg d nm n l b) :: ps) ≤ 100000000) (ho : o.length ≤ 100000000) (hP : Lib.TabBelow Tryz.prog w0.heap.size w0 "internal/strconv.uint64pow10" .u64 Lib.pow10Tab) (hk : k = 2 ∨ k = 3 ∨ k = 5 ∨ k = 7) :
   Calls Tryz.prog 46 #[.pointer (some ⟨g, 0, none⟩), v] w fun e w' => e = .returned (.tuple #[]) ∧ Went w0 g o (.tm (.mk k neg d nm n l b) :: ps) w' := by
 unfold TV at hT
 obtain ⟨od, cd, ol, cl, ob, cb, rfl, hLd, hcd, hLm, hLb, hcb, hcl, hTR⟩ := hT
 have hX := hok.self
 obtain ⟨k0, k7, x0, xn, x23, x4, x6, x7⟩ := hX
 have hps := works_len ps
 have hend : ∀ s : List UInt8, s = leafX k neg d nm n b → s.length ≤ 30000000 → ∀ w', PrnP w0 g (o ++ s) ps w' → Went w0 g o (.tm (.mk k neg d nm n l b) :: ps) w' := by
   intro s hs hl w' hp
   refine ⟨_, _, hp, ?_, ?_, hpo, by rw [List.length_append]; omega⟩
   · simp only [rem, Pc.text]
     rw [tx_leaf (by omega) (by omega), ← hs, List.append_assoc]
   · have := parts_pos (.mk k neg d nm n l b)
     simp only [works, Pc.work]; omega
 have hendH := hid hend
 have hPH := hid hP
 clear hend hP
 unfold tmV
 obtain ⟨W, hW⟩ : ∃ W, W = w.alloc (.cells #[.int .i64 k, .bool neg, .slice od d.length cd, .string nm, .int .i64 n, .slice ol l.length cl, .slice ob b.length cb] 27) := ⟨_, rfl⟩
 have bW : Below w.heap.size w W := by rw [hW]; exact (Below.refl _ w).alloc (Nat.le_refl _) _
 have hgW : W.heap[w.heap.size]? = some (.cells #[.int .i64 k, .bool neg, .slice od d.length cd, .string nm, .int .i64 n, .slice ol l.length cl, .slice ob b.length cb] 27 (0, 0)) := by rw [hW]; exact heap_alloc_new w _
 have hPW := h.later bW
 obtain ⟨y0, y1, y2, y3, y4, y5, y6⟩ := cell7 hgW
 have hPWH := hid hPW
 have hgWH := hid hgW
 clear h hgW hPW
 rcases hk with rfl | rfl | rfl | rfl
 · obtain ⟨n0, n1⟩ := x23 (.inl rfl)
   have hl := Lib.itoa_length_le n (by omega) (by omega)
   have hs : leafX 2 neg d nm n b = 35 :: Lib.itoa n := by unfold leafX; rw [if_neg (by decide), if_neg (by decide), if_pos rfl]
   have hsH := hid (And.intro hl hs)
   have hnH := hid (And.intro n0 n1)
   clear x0 x23 x4 x6 x7 hl hs n0 n1
   go_enter Tryz.func46, Tryz.ntmps46
   go_upto_region 1 with fail
   rw [← hW]
   clear hW
   have c1 := psign_w w0 g o ps 35 (by decide) W hPWH.out (by omega)
   go_wp2_with fail
   refine c1.mono ?_
   rintro e w1 ⟨rfl, h1, k1⟩
   obtain ⟨y0, y1, y2, y3, y4, y5, y6⟩ := cell7 (k1.cell hgWH.out (by decide) (by decide) (by decide))
   have c2 := pnumber_w w0 g _ ps n (by have := hnH.out; omega) (by have := hnH.out; omega) w1 h1 (by rw [List.length_append]; simp only [List.length_cons, List.length_nil]; omega) hPH.out
   clear c1 h1
   go_wp2_with fail
   refine c2.mono ?_
   rintro e w2 ⟨rfl, h2, k2⟩
   have hqH := hid (hendH.out _ hsH.out.2.symm (by have := hsH.out.1; simp only [List.length_cons]; omega) w2 (by simpa using h2))
   clear c2 h2
   go_wp2
   all_goals go_returns
   all_goals exact ⟨rfl, hqH.out⟩
 · obtain ⟨n0, n1⟩ := x23 (.inr rfl)
   have hl := Lib.itoa_length_le n (by omega) (by omega)
   have hs : leafX 3 neg d nm n b = 60 :: (Lib.itoa n ++ [62]) := by unfold leafX; rw [if_neg (by decide), if_neg (by decide), if_neg (by decide), if_pos rfl]
   have hsH := hid (And.intro hl hs)
   have hnH := hid (And.intro n0 n1)
   clear x0 x23 x4 x6 x7 hl hs n0 n1
   go_enter Tryz.func46, Tryz.ntmps46
   go_upto_region 1 with fail
   rw [← hW]
   clear hW
   have c1 := psign_w w0 g o ps 60 (by decide) W hPWH.out (by omega)
   go_wp2_with fail
   refine c1.mono ?_
   rintro e w1 ⟨rfl, h1, k1⟩
   obtain ⟨y0, y1, y2, y3, y4, y5, y6⟩ := cell7 (k1.cell hgWH.out (by decide) (by decide) (by decide))
   have c2 := pnumber_w w0 g _ ps n (by have := hnH.out; omega) (by have := hnH.out; omega) w1 h1 (by rw [List.length_append]; simp only [List.length_cons, List.length_nil]; omega) hPH.out
   clear c1 h1
   go_wp2_with fail
   refine c2.mono ?_
   rintro e w2 ⟨rfl, h2, k2⟩
   have c3 := psign_w w0 g _ ps 62 (by decide) w2 h2 (by have := hsH.out.1; rw [List.length_append, List.length_append]; simp only [List.length_cons, List.length_nil]; omega)
   clear c2 h2
   go_wp2_with fail
   refine c3.mono ?_
   rintro e w3 ⟨rfl, h3, k3⟩
   have hqH := hid (hendH.out _ hsH.out.2.symm (by have := hsH.out.1; simp only [List.length_cons, List.length_append, List.length_nil]; omega) w3 (by simpa using h3))
   clear c3 h3
   go_wp2
   all_goals go_returns
   all_goals exact ⟨rfl, hqH.out⟩
 · have hs : leafX 5 neg d nm n b = [91, 93] := by unfold leafX; rw [if_neg (by decide), if_neg (by decide), if_neg (by decide), if_neg (by decide), if_neg (by decide)]
   have hsH := hid hs
   clear x0 x23 x4 x6 x7 hs
   go_enter Tryz.func46, Tryz.ntmps46
   go_upto_region 1 with fail
   rw [← hW]
   clear hW
   have c1 := ptext_w w0 g o ps ⟨#[91, 93]⟩ W hPWH.out (by decide) (by omega)
   go_wp2_with fail
   refine c1.mono ?_
   rintro e w1 ⟨rfl, h1, k1⟩
   have hqH := hid (hendH.out _ hsH.out.symm (by simp) w1 (by simpa using h1))
   clear c1 h1
   go_wp2
   all_goals go_returns
   all_goals exact ⟨rfl, hqH.out⟩
 · have hb4 := x7 rfl
   have hl := joinC_len b (fun x hx => hLb.2 x hx)
   have hs : leafX 7 neg d nm n b = [60, 60] ++ (joinC (b.map byT) ++ [62, 62]) := by unfold leafX; rw [if_neg (by decide), if_neg (by decide), if_neg (by decide), if_neg (by decide), if_pos rfl]
   have hsH := hid (And.intro hl (And.intro hs hb4))
   have c1 := pbin_w w0 g o ps b ob cb W hPWH.out hLb (by omega) (by omega) hPH.out
   clear x0 x23 x4 x6 x7 hs hl hb4
   go_enter Tryz.func46, Tryz.ntmps46
   go_upto_region 1 with fail
   rw [← hW]
   clear hW
   go_wp2_with fail
   refine c1.mono ?_
   rintro e w1 ⟨rfl, h1, k1⟩
   have hqH := hid (hendH.out _ hsH.out.2.1.symm (by have := hsH.out.1; have := hsH.out.2.2; rw [List.length_append, List.length_append]; simp only [List.length_cons, List.length_nil]; omega) w1 h1)
   clear c1 h1
   go_wp2
   all_goals go_returns
   all_goals exact ⟨rfl, hqH.out⟩
theorem pair_of {l : List Tm} (h : l.length = 2) : ∃ H T, l = [H, T] := by
 match l, h with
 | [H, T], _ => exact ⟨H, T, rfl⟩
theorem okPc_items : ∀ {l : List Tm}, (∀ t ∈ l, okXs t) → ∀ p ∈ itemsPc l, okPc p
 | [], _, p, hp => by simp [itemsPc] at hp
 | t :: l, h, p, hp => by
   rw [items_cons] at hp
   split at hp
   · simp at hp; subst hp; exact h t (by simp)
   · rcases List.mem_cons.1 hp with rfl | hp
     · exact h t (by simp)
     · rcases List.mem_cons.1 hp with rfl | hp
       · show 44 < 128; decide
       · exact okPc_items (fun u hu => h u (List.mem_cons_of_mem _ hu)) p hp
set_option maxHeartbeats 2000000 in
theorem pterm2_w (w0 : World) (g : Nat) (o : List UInt8) (ps : List Pc) (k : Int) (neg : Bool) (d : List Nat) (nm : ByteArray) (n : Int) (l : List Tm) (b : List Nat) (v : Value) (w : World) (h : PrnP w0 g o ps w) (hT : TV (Low w0) w0 (.mk k neg d nm n l b) v)
   (hok : okXs (.mk k neg d nm n l b)) (hpo : ∀ p ∈ ps, okPc p) (hwk : works (.tm (.mk k neg d nm n l b) :: ps) ≤ 100000000) (ho : o.length ≤ 100000000) (hk : k = 4 ∨ k = 6) :
   Calls Tryz.prog 46 #[.pointer (some ⟨g, 0, none⟩), v] w fun e w' => e = .returned (.tuple #[]) ∧ Went w0 g o (.tm (.mk k neg d nm n l b) :: ps) w' := by
 have hT0 := hT
 unfold TV at hT
 obtain ⟨od, cd, ol, cl, ob, cb, rfl, hLd, hcd, hLm, hLb, hcb, hcl, hTR⟩ := hT
 have hX := hok.self
 obtain ⟨k0, k7, x0, xn, x23, x4, x6, x7⟩ := hX
 have hps := works_len ps
 have hkids : ∀ t ∈ l, okXs t := fun t ht => hok.kid (by show t ∈ (if k = 4 ∨ k = 6 then l else []); rw [if_pos hk]; exact ht)
 have hpl : (parts (.mk k neg d nm n l b)).length = 1 + (partsL l).length := kids_mem (by show (if k = 4 ∨ k = 6 then l else []) = l; rw [if_pos hk])
 have hwk2 : ps.length ≤ 100000000 := by simp only [works] at hwk; omega
 have hT0H := hid hT0
 clear hT0
 unfold tmV
 obtain ⟨W, hW⟩ : ∃ W, W = w.alloc (.cells #[.int .i64 k, .bool neg, .slice od d.length cd, .string nm, .int .i64 n, .slice ol l.length cl, .slice ob b.length cb] 27) := ⟨_, rfl⟩
 have bW : Below w.heap.size w W := by rw [hW]; exact (Below.refl _ w).alloc (Nat.le_refl _) _
 have hgW : W.heap[w.heap.size]? = some (.cells #[.int .i64 k, .bool neg, .slice od d.length cd, .string nm, .int .i64 n, .slice ol l.length cl, .slice ob b.length cb] 27 (0, 0)) := by rw [hW]; exact heap_alloc_new w _
 have hPW := h.later bW
 obtain ⟨y0, y1, y2, y3, y4, y5, y6⟩ := cell7 hgW
 have hPWH := hid hPW
 have hgWH := hid hgW
 clear h hgW hPW
 rcases hk with rfl | rfl
 · have hl4 := x4 rfl
   have hw := works_items l
   have hfin : ∀ w', PrnP w0 g (o ++ [123]) (itemsPc l ++ .mk 125 :: ps) w' → Went w0 g o (.tm (.mk 4 neg d nm n l b) :: ps) w' := by
     intro w' hp
     refine ⟨_, _, hp, ?_, ?_, ?_, by simp⟩
     · simp only [rem, rem_append, Pc.text]
       rw [tx_tuple, rem_items]
       simp
     · simp only [works, works_append, Pc.work]; omega
     · intro p hp
       rcases List.mem_append.1 hp with hp | hp
       · exact okPc_items hkids p hp
       · rcases List.mem_cons.1 hp with rfl | hp
         · show 125 < 128; decide
         · exact hpo p hp
   have hfinH := hid hfin
   have c1 := ptuple_w w0 g o ps l ol cl W hPWH.out hTR (by omega) (by omega) (by omega)
   clear x0 x23 x4 x6 x7 hfin hw hpl
   go_enter Tryz.func46, Tryz.ntmps46
   go_upto_region 1 with fail
   rw [← hW]
   clear hW
   go_wp2_with fail
   refine c1.mono ?_
   rintro e w1 ⟨rfl, h1, k1⟩
   have hqH := hid (hfinH.out w1 h1)
   clear c1 h1
   go_wp2
   all_goals go_returns
   all_goals exact ⟨rfl, hqH.out⟩
 · obtain ⟨H, T, rfl⟩ := pair_of (x6 rfl)
   have hfin : ∀ w', PrnP w0 g (o ++ [91]) (.tm H :: .tl T :: ps) w' → Went w0 g o (.tm (.mk 6 neg d nm n [H, T] b) :: ps) w' := by
     intro w' hp
     refine ⟨_, _, hp, ?_, ?_, ?_, by simp⟩
     · simp only [rem, Pc.text]
       rw [tx_cons]
       simp
     · have h1 := parts_pos H
       have h2 := parts_pos T
       have e : (partsL [H, T]).length = (parts H).length + (parts T).length := by simp [partsL]
       simp only [works, Pc.work]; omega
     · intro p hp
       rcases List.mem_cons.1 hp with rfl | hp
       · exact hkids H (by simp)
       · rcases List.mem_cons.1 hp with rfl | hp
         · exact hkids T (by simp)
         · exact hpo p hp
   have hfinH := hid hfin
   have c1 := psign_w w0 g o ps 91 (by decide) W hPWH.out (by omega)
   simp only [List.length_cons, List.length_nil, Nat.zero_add, Nat.reduceAdd] at hW hgWH
   clear x0 x23 x4 x6 x7 hfin hpl
   go_enter Tryz.func46, Tryz.ntmps46
   go_upto_region 1 with fail
   rw [← hW]
   clear hW
   go_wp2_with fail
   refine c1.mono ?_
   rintro e w1 ⟨rfl, h1, k1⟩
   obtain ⟨y0, y1, y2, y3, y4, y5, y6⟩ := cell7 (k1.cell hgWH.out (by decide) (by decide) (by decide))
   have c2 := pcons_w w0 g _ ps neg d nm n H T b _ w1 h1 hT0H.out (by omega)
   unfold tmV at c2
   simp only [List.length_cons, List.length_nil, Nat.zero_add, Nat.reduceAdd] at c2
   clear c1 h1
   go_wp2_with fail
   refine c2.mono ?_
   rintro e w2 ⟨rfl, h2, k2⟩
   have hqH := hid (hfinH.out w2 h2)
   clear c2 h2
   go_wp2
   all_goals go_returns
   all_goals exact ⟨rfl, hqH.out⟩
theorem pterm_w (w0 : World) (g : Nat) (o : List UInt8) (ps : List Pc) (T : Tm) (v : Value) (w : World) (h : PrnP w0 g o ps w) (hT : TV (Low w0) w0 T v)
   (hok : okXs T) (hpo : ∀ p ∈ ps, okPc p) (hwk : works (.tm T :: ps) ≤ 100000000) (ho : o.length ≤ 100000000) (hQ : TabsQ w0) (hP : Lib.TabBelow Tryz.prog w0.heap.size w0 "internal/strconv.uint64pow10" .u64 Lib.pow10Tab) :
   Calls Tryz.prog 46 #[.pointer (some ⟨g, 0, none⟩), v] w fun e w' => e = .returned (.tuple #[]) ∧ Went w0 g o (.tm T :: ps) w' := by
 cases T with | mk k neg d nm n l b =>
 obtain ⟨k0, k7, _⟩ := hok.self
 by_cases h01 : k = 0 ∨ k = 1
 · exact pterm0_w w0 g o ps k neg d nm n l b v w h hT hok hpo hwk ho hQ hP h01
 · by_cases h46 : k = 4 ∨ k = 6
   · exact pterm2_w w0 g o ps k neg d nm n l b v w h hT hok hpo hwk ho h46
   · exact pterm1_w w0 g o ps k neg d nm n l b v w h hT hok hpo hwk ho hP (by omega)
set_option maxHeartbeats 2000000 in
theorem pbehind_w (w0 : World) (g : Nat) (o : List UInt8) (ps : List Pc) (T : Tm) (v : Value) (w : World) (h : PrnP w0 g o ps w) (hT : TV (Low w0) w0 T v)
   (hok : okXs T) (hpo : ∀ p ∈ ps, okPc p) (hwk : works (.tl T :: ps) ≤ 100000000) (ho : o.length ≤ 100000000) :
   Calls Tryz.prog 45 #[.pointer (some ⟨g, 0, none⟩), v] w fun e w' => e = .returned (.tuple #[]) ∧ Went w0 g o (.tl T :: ps) w' := by
 have hT0 := hT
 cases T with | mk k neg d nm n l b =>
 unfold TV at hT
 obtain ⟨od, cd, ol, cl, ob, cb, rfl, hLd, hcd, hLm, hLb, hcb, hcl, hTR⟩ := hT
 obtain ⟨k0, k7, x0, xn, x23, x4, x6, x7⟩ := hok.self
 have hps := works_len ps
 have hwk2 : ps.length ≤ 100000000 := by simp only [works] at hwk; omega
 have hT0H := hid hT0
 clear hT0 x0 x23 x4 x7 hTR hLd hLm hLb
 unfold tmV
 obtain ⟨W, hW⟩ : ∃ W, W = w.alloc (.cells #[.int .i64 k, .bool neg, .slice od d.length cd, .string nm, .int .i64 n, .slice ol l.length cl, .slice ob b.length cb] 27) := ⟨_, rfl⟩
 have bW : Below w.heap.size w W := by rw [hW]; exact (Below.refl _ w).alloc (Nat.le_refl _) _
 have hgW : W.heap[w.heap.size]? = some (.cells #[.int .i64 k, .bool neg, .slice od d.length cd, .string nm, .int .i64 n, .slice ol l.length cl, .slice ob b.length cb] 27 (0, 0)) := by rw [hW]; exact heap_alloc_new w _
 have hPW := h.later bW
 obtain ⟨y0, y1, y2, y3, y4, y5, y6⟩ := cell7 hgW
 have hPWH := hid hPW
 have hgWH := hid hgW
 clear h hgW hPW
 by_cases h6 : k = 6
 · subst h6
   obtain ⟨H, T, rfl⟩ := pair_of (x6 rfl)
   have hkids : ∀ t ∈ [H, T], okXs t := fun t ht => hok.kid ht
   have hpl : (parts (.mk 6 neg d nm n [H, T] b)).length = 1 + (partsL [H, T]).length := kids_mem rfl
   have hfin : ∀ w', PrnP w0 g (o ++ [44]) (.tm H :: .tl T :: ps) w' → Went w0 g o (.tl (.mk 6 neg d nm n [H, T] b) :: ps) w' := by
     intro w' hp
     refine ⟨_, _, hp, ?_, ?_, ?_, by simp⟩
     · simp only [rem, Pc.text]
       rw [tb_cons]
       simp
     · have h1 := parts_pos H
       have h2 := parts_pos T
       have e : (partsL [H, T]).length = (parts H).length + (parts T).length := by simp [partsL]
       simp only [works, Pc.work]; omega
     · intro p hp
       rcases List.mem_cons.1 hp with rfl | hp
       · exact hkids H (by simp)
       · rcases List.mem_cons.1 hp with rfl | hp
         · exact hkids T (by simp)
         · exact hpo p hp
   have hfinH := hid hfin
   have c1 := psign_w w0 g o ps 44 (by decide) W hPWH.out (by omega)
   simp only [List.length_cons, List.length_nil, Nat.zero_add, Nat.reduceAdd] at hW hgWH
   clear x6 hfin hpl hkids
   go_enter Tryz.func45, Tryz.ntmps45
   go_upto_region 1 with fail
   rw [← hW]
   clear hW
   go_wp2_with fail
   refine c1.mono ?_
   rintro e w1 ⟨rfl, h1, k1⟩
   obtain ⟨y0, y1, y2, y3, y4, y5, y6⟩ := cell7 (k1.cell hgWH.out (by decide) (by decide) (by decide))
   have c2 := pcons_w w0 g _ ps neg d nm n H T b _ w1 h1 hT0H.out (by omega)
   unfold tmV at c2
   simp only [List.length_cons, List.length_nil, Nat.zero_add, Nat.reduceAdd] at c2
   clear c1 h1
   go_wp2_with fail
   refine c2.mono ?_
   rintro e w2 ⟨rfl, h2, k2⟩
   have hqH := hid (hfinH.out w2 h2)
   clear c2 h2
   go_wp2
   all_goals go_returns
   all_goals exact ⟨rfl, hqH.out⟩
 · by_cases h5 : k = 5
   · subst h5
     have hfin : ∀ w', PrnP w0 g (o ++ [93]) ps w' → Went w0 g o (.tl (.mk 5 neg d nm n l b) :: ps) w' := by
       intro w' hp
       refine ⟨_, _, hp, ?_, ?_, hpo, by simp⟩
       · simp only [rem, Pc.text]
         rw [tb_nil]
         simp
       · have h1 := parts_pos (.mk 5 neg d nm n l b)
         simp only [works, Pc.work]; omega
     have hfinH := hid hfin
     have c1 := psign_w w0 g o ps 93 (by decide) W hPWH.out (by omega)
     clear x6 hfin h6
     go_enter Tryz.func45, Tryz.ntmps45
     go_upto_region 1 with fail
     rw [← hW]
     clear hW
     go_wp2_with fail
     refine c1.mono ?_
     rintro e w1 ⟨rfl, h1, k1⟩
     have hqH := hid (hfinH.out w1 h1)
     clear c1 h1
     go_wp2
     all_goals go_returns
     all_goals exact ⟨rfl, hqH.out⟩
   · have h6b : (k == 6) = false := by simpa using h6
     have h5b : (k == 5) = false := by simpa using h5
     have hfin : ∀ w', PrnP w0 g (o ++ [124]) (.tm (.mk k neg d nm n l b) :: .mk 93 :: ps) w' → Went w0 g o (.tl (.mk k neg d nm n l b) :: ps) w' := by
       intro w' hp
       refine ⟨_, _, hp, ?_, ?_, ?_, by simp⟩
       · simp only [rem, Pc.text]
         rw [tb_other (T := .mk k neg d nm n l b) h5 h6]
         simp
       · have h1 := parts_pos (.mk k neg d nm n l b)
         simp only [works, Pc.work]; omega
       · intro p hp
         rcases List.mem_cons.1 hp with rfl | hp
         · exact hok
         · rcases List.mem_cons.1 hp with rfl | hp
           · show 93 < 128; decide
           · exact hpo p hp
     have hfinH := hid hfin
     have c1 := psign_w w0 g o ps 124 (by decide) W hPWH.out (by omega)
     clear x6 hfin h6 h5
     go_enter Tryz.func45, Tryz.ntmps45
     go_upto_region 1 with fail
     rw [← hW]
     clear hW
     go_wp2_with fail
     refine c1.mono ?_
     rintro e w1 ⟨rfl, h1, k1⟩
     have c2 := pwait_w w0 g _ ps (.mk 93) (.iface 79 (.int .i32 93)) w1 h1 rfl (by omega)
     have hgw1 := hid (k1.cell hgWH.out (by decide) (by decide) (by decide))
     clear c1 h1
     go_wp2_with fail
     refine c2.mono ?_
     rintro e w2 ⟨rfl, h2, k2⟩
     obtain ⟨y0, y1, y2, y3, y4, y5, y6⟩ := cell7 (k2.cell hgw1.out (by decide) (by decide) (by decide))
     have c3 := pwait_w w0 g _ (.mk 93 :: ps) (.tm (.mk k neg d nm n l b)) (.iface 27 (tmV k neg (.slice od d.length cd) nm n (.slice ol l.length cl) (.slice ob b.length cb))) w2 h2 ⟨_, rfl, hT0H.out⟩ (by simp; omega)
     unfold tmV at c3
     clear c2 h2
     go_wp2_with fail
     refine c3.mono ?_
     rintro e w3 ⟨rfl, h3, k3⟩
     have hqH := hid (hfinH.out w3 h3)
     clear c3 h3
     go_wp2
     all_goals go_returns
     all_goals exact ⟨rfl, hqH.out⟩
abbrev z7 : Value := .agg #[.int .i64 0, .bool false, .slice none 0 0, .string noS, .int .i64 0, .slice none 0 0, .slice none 0 0]
theorem as_mm (x : Value) (w : World) : (Instr.typeAssert (.iface 79 x) 59 79 true).run Tryz.prog w = .ok (.tuple #[x, .bool true]) w := by kernel_rfl
theorem as_tm (x : Value) (w : World) : (Instr.typeAssert (.iface 83 x) 59 79 true).run Tryz.prog w = .ok (.tuple #[.int .i32 0, .bool false]) w := by kernel_rfl
theorem as_tt (x : Value) (w : World) : (Instr.typeAssert (.iface 83 x) 59 83 true).run Tryz.prog w = .ok (.tuple #[x, .bool true]) w := by kernel_rfl
theorem as_em (x : Value) (w : World) : (Instr.typeAssert (.iface 27 x) 59 79 true).run Tryz.prog w = .ok (.tuple #[.int .i32 0, .bool false]) w := by kernel_rfl
theorem as_et (x : Value) (w : World) : (Instr.typeAssert (.iface 27 x) 59 83 true).run Tryz.prog w = .ok (.tuple #[z7, .bool false]) w := by kernel_rfl
theorem as_ee (x : Value) (w : World) : (Instr.typeAssert (.iface 27 x) 59 27 true).run Tryz.prog w = .ok (.tuple #[x, .bool true]) w := by kernel_rfl
theorem own_cut {w : World} {B : Nat} {e : TypeId} {q c m k : Nat} {xs ys : List Value} (h : w.ownsRow B e 1 (.slice (some ⟨q, 0, none⟩) m c) m (xs ++ ys)) (hk : k = xs.length) : w.ownsRow B e 1 (.slice (some ⟨q, 0, none⟩) k c) k xs := by
 obtain ⟨h1, ⟨e1, _⟩ | ⟨g, cap, cur, e1, hg, hc, hn, hm, hs, ht⟩⟩ := h
 · cases e1
 · cases e1
   rw [List.length_append, Nat.mul_one] at h1
   refine ⟨by omega, .inr ⟨q, c, cur, rfl, hg, hc, by omega, hm, hs, ?_⟩⟩
   rw [Nat.mul_one] at ht ⊢
   have : cur.toList.take k = (cur.toList.take m).take k := by rw [List.take_take]; congr 1; omega
   rw [this, ht, hk]
   exact List.take_left
theorem prn_top {w0 : World} {g : Nat} {o : List UInt8} {p : Pc} {ps : List Pc} {w : World} (h : PrnP w0 g o (p :: ps) w) :
   ∃ v q c m, PcV w0 p v ∧ w.cell? ⟨g, 1, none⟩ = some (.slice (some ⟨q, 0, none⟩) (m + 1) c) ∧ w.frozen? ⟨g, 1, none⟩ = false ∧ w.cell? ⟨q, m, none⟩ = some v ∧ m + 1 ≤ c ∧ m = ps.length ∧ PrnP w0 g o ps (w.setCell ⟨g, 1, none⟩ (.slice (some ⟨q, 0, none⟩) m c)) := by
 obtain ⟨ov, wv, vs, h⟩ := h
 obtain ⟨c0, c1, f0, f1⟩ := h.cells
 obtain ⟨us, v, rfl, hp, hps⟩ := h.is
 have hl := hps.length
 have hw := h.wait
 rcases hw.2 with ⟨_, h0⟩ | ⟨q, c, cur, e, hq, hc, hn, hm, _⟩
 · simp at h0
 · subst e
   have hcell := hw.cells (g := q) rfl us.length v (by simp)
   rw [addr_add, Nat.zero_add] at hcell
   simp only [List.length_append, List.length_cons, List.length_nil, Nat.zero_add] at c1 hn hw
   refine ⟨v, q, c, us.length, hp, c1, f1, hcell, hn, hl, ov, .slice (some ⟨q, 0, none⟩) us.length c, us, ?_⟩
   exact h.waits (Lib.OthersKept.refl _ _ w) (Below.refl _ w) (own_cut hw rfl) hps
set_option maxHeartbeats 2000000 in
theorem pnext_w (w0 : World) (g : Nat) (o : List UInt8) (p : Pc) (ps : List Pc) (w : World) (h : PrnP w0 g o (p :: ps) w) (hpo : ∀ q ∈ p :: ps, okPc q) (hwk : works (p :: ps) ≤ 100000000) (ho : o.length ≤ 100000000) (hQ : TabsQ w0) (hP : Lib.TabBelow Tryz.prog w0.heap.size w0 "internal/strconv.uint64pow10" .u64 Lib.pow10Tab) :
   Calls Tryz.prog 20 #[.pointer (some ⟨g, 0, none⟩)] w fun e w' => e = .returned (.tuple #[]) ∧ Went w0 g o (p :: ps) w' := by
 obtain ⟨v, q, c, m, hp, c1, f1, hcell, hmc, hm, h2⟩ := prn_top h
 have hpl := works_len (p :: ps)
 have hm8 : m ≤ 100000000 := by simp only [List.length_cons] at hpl; omega
 have hmz : (m : Int) ≤ 100000000 := by omega
 have hmcz : (m : Int) ≤ (c : Int) := by omega
 have hpo2 : ∀ r ∈ ps, okPc r := fun r hr => hpo r (List.mem_cons_of_mem _ hr)
 have h2H := hid h2
 have hmH := hid hm
 clear hm h2 hpl h
 cases p with
 | mk r =>
   have hr : r < 128 := hpo (.mk r) (by simp)
   have hv : v = .iface 79 (.int .i32 (r : Int)) := hp
   subst hv
   have hfin : ∀ w', PrnP w0 g (o ++ [UInt8.ofNat r]) ps w' → Went w0 g o (.mk r :: ps) w' := fun w' hp => ⟨_, _, hp, by simp [rem, Pc.text], by simp only [works, Pc.work]; omega, hpo2, by simp⟩
   have hfinH := hid hfin
   have ha := as_mm (.int .i32 (r : Int))
   have c2 := psign_w w0 g o ps r hr _ h2H.out (by omega)
   clear hfin
   go_enter Tryz.func20, Tryz.ntmps20
   go_wp2_with fail
   refine c2.mono ?_
   rintro e w1 ⟨rfl, h1, k1⟩
   have hqH := hid (hfinH.out w1 h1)
   clear c2 h1
   go_wp2
   all_goals go_returns
   all_goals exact ⟨rfl, hqH.out⟩
 | tl T =>
   obtain ⟨a, rfl, hTV⟩ := hp
   have hTV0 := hTV
   cases T with | mk k neg d nm n l b =>
   unfold TV at hTV0
   obtain ⟨od, cd, ol, cl, ob, cb, rfl, _⟩ := hTV0
   have hok : okXs (.mk k neg d nm n l b) := hpo (.tl (.mk k neg d nm n l b)) (by simp)
   have ha := as_tm (tmV k neg (.slice od d.length cd) nm n (.slice ol l.length cl) (.slice ob b.length cb))
   have hb := as_tt (tmV k neg (.slice od d.length cd) nm n (.slice ol l.length cl) (.slice ob b.length cb))
   unfold tmV at ha hb hcell
   have hTVH := hid hTV
   clear hTV
   go_enter Tryz.func20, Tryz.ntmps20
   go_upto_region 8 with fail
   generalize hV : w.setCell ⟨g, 1, none⟩ (.slice (some ⟨q, 0, none⟩) m c) = V at *
   have hVs : V.heap.size = w.heap.size := by rw [← hV]; simp
   generalize hW : World.alloc V _ = W
   have bW : Below V.heap.size V W := by rw [← hW]; exact (Below.refl _ V).alloc (Nat.le_refl _) _
   have hgW : W.heap[w.heap.size]? = some (.cells #[.int .i64 k, .bool neg, .slice od d.length cd, .string nm, .int .i64 n, .slice ol l.length cl, .slice ob b.length cb] 83 (0, 0)) := by rw [← hW, ← hVs]; exact heap_alloc_new V _
   obtain ⟨y0, y1, y2, y3, y4, y5, y6⟩ := cell7 hgW
   have c2 := pbehind_w w0 g o ps (.mk k neg d nm n l b) _ W (h2H.out.later bW) hTVH.out hok hpo2 hwk ho
   unfold tmV at c2
   clear hgW hW hV bW hVs hcell c1 f1
   go_wp2_with fail
   refine c2.mono ?_
   rintro e w1 ⟨rfl, h1⟩
   have hqH := hid h1
   clear c2 h1
   go_wp2
   all_goals go_returns
   all_goals exact ⟨rfl, hqH.out⟩
 | tm T =>
   obtain ⟨a, rfl, hTV⟩ := hp
   have hTV0 := hTV
   cases T with | mk k neg d nm n l b =>
   unfold TV at hTV0
   obtain ⟨od, cd, ol, cl, ob, cb, rfl, _⟩ := hTV0
   have hok : okXs (.mk k neg d nm n l b) := hpo (.tm (.mk k neg d nm n l b)) (by simp)
   have ha := as_em (tmV k neg (.slice od d.length cd) nm n (.slice ol l.length cl) (.slice ob b.length cb))
   have hb := as_et (tmV k neg (.slice od d.length cd) nm n (.slice ol l.length cl) (.slice ob b.length cb))
   have hc := as_ee (tmV k neg (.slice od d.length cd) nm n (.slice ol l.length cl) (.slice ob b.length cb))
   unfold tmV at ha hb hc hcell
   have hTVH := hid hTV
   clear hTV
   go_enter Tryz.func20, Tryz.ntmps20
   go_upto_region 11 with fail
   generalize hV : w.setCell ⟨g, 1, none⟩ (.slice (some ⟨q, 0, none⟩) m c) = V at *
   have hVs : V.heap.size = w.heap.size := by rw [← hV]; simp
   generalize hU : World.alloc V _ = U
   have bU : Below V.heap.size V U := by rw [← hU]; exact (Below.refl _ V).alloc (Nat.le_refl _) _
   have hUs : U.heap.size = w.heap.size + 1 := by rw [← hU, ← hVs]; simp
   generalize hW : World.alloc U _ = W
   have bW : Below U.heap.size U W := by rw [← hW]; exact (Below.refl _ U).alloc (Nat.le_refl _) _
   have hgW : W.heap[w.heap.size + 1]? = some (.cells #[.int .i64 k, .bool neg, .slice od d.length cd, .string nm, .int .i64 n, .slice ol l.length cl, .slice ob b.length cb] 27 (0, 0)) := by rw [← hW, ← hUs]; exact heap_alloc_new U _
   obtain ⟨y0, y1, y2, y3, y4, y5, y6⟩ := cell7 hgW
   have c2 := pterm_w w0 g o ps (.mk k neg d nm n l b) _ W ((h2H.out.later bU).later bW) hTVH.out hok hpo2 hwk ho hQ hP
   unfold tmV at c2
   clear hgW hW hV bW hVs hcell c1 f1 hU bU hUs
   go_wp2_with fail
   refine c2.mono ?_
   rintro e w1 ⟨rfl, h1⟩
   have hqH := hid h1
   clear c2 h1
   go_wp2
   all_goals go_returns
   all_goals exact ⟨rfl, hqH.out⟩
end Go.Proofs.YtlojfmlaookpmaaGreatDoor
