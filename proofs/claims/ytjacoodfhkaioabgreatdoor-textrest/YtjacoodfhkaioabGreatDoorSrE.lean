/- Texts of mine, one behind the other: RunesBuilder, RunesHex, RunesQuote, TermEvery. -/
import Derived.Test.YtjacoodfhkaioabGreatDoorSrD
import Derived.Lib.FrozenHead2
import Derived.Lib.UnsafeStr
import Derived.Shelf.Strings.Builder1
import Derived.Laws.IdiomStrings
import Derived.Shelf.Abstract
namespace Go.Proofs.YtjacoodfhkaioabGreatDoor
open Go.ChangeShapes Go.WideShapes Go.ChangeAt Go.RowKit Go.Shelf
set_option linter.unusedSimpArgs false
set_option linter.unusedVariables false
set_option maxRecDepth 2000

/-- The builder lies in block b behind the cells 'pre', and holds bs. -/
def Bld (T : TypeId) (B b : Nat) (pre post : List Value) (bs : List UInt8) (w : World) : Prop :=
  B ≤ b ∧ T ≠ 5 ∧ ∃ p v, (p = .pointer none ∨ p = .pointer (some ⟨b, pre.length, none⟩)) ∧ w.heap[b]? = some (.cells (pre ++ p :: v :: post).toArray T (0, 0)) ∧ w.ownsRowF B 5 1 v bs.length (Lib.byteCells bs) ∧ (bs = [] → v = .slice none 0 0)

theorem set_at (pre post : List Value) (p q v : Value) : (pre ++ p :: v :: post).set pre.length q = pre ++ q :: v :: post := by
  simp
theorem set_at1 (pre post : List Value) (p q v : Value) : (pre ++ p :: v :: post).set (pre.length + 1) q = pre ++ p :: q :: post := by
  rw [List.set_append_right _ _ (by omega)]
  have : pre.length + 1 - pre.length = 1 := by omega
  rw [this]; rfl
theorem heap_set {w : World} {b j : Nat} {cs : List Value} {T : TypeId} (h : w.heap[b]? = some (.cells cs.toArray T (0, 0))) (q : Value) :
    (w.setCell ⟨b, j, none⟩ q).heap[b]? = some (.cells (cs.set j q).toArray T (0, 0)) := by
  simp [World.setCell, Array.getElem?_modify, h]
theorem sown_set {w : World} {B b j : Nat} {cs : List Value} {T : TypeId} {v : Value} {n : Nat} {xs : List Value} (h : w.heap[b]? = some (.cells cs.toArray T (0, 0))) (hT : T ≠ 5) (hown : w.ownsRowF B 5 1 v n xs) (q : Value) :
    (w.setCell ⟨b, j, none⟩ q).ownsRowF B 5 1 v n xs :=
  hown.kept (row := some b) ⟨rfl, rfl, rfl, by simp [World.setCell], fun k _ hk => Below.heap_setCell _ _ _ _ (fun e => hk (by simp [e]))⟩ (Or.inr (Lib.ownBlock_neF hown h hT))
theorem lt_of_heap {w : World} {b : Nat} {x : Obj} (h : w.heap[b]? = some x) : b < w.heap.size := (Array.getElem?_eq_some_iff.1 h).1

theorem sizeBuilder : (Tryz.prog.info? 109).map (·.size) = some 2 := by kernel_rfl
/-- Where a builder can lie: alone, or as the second field of the struct 'quoted'. -/
def Home (T : TypeId) (o n : Nat) : Prop := liesAt Tryz.prog Tryz.prog.depth T (n / Tryz.prog.cellsOf T) o 109 1 = true
theorem home0 : Home 109 0 2 := by unfold Home; kernel_rfl
theorem home1 : Home 148 1 6 := by unfold Home; kernel_rfl

set_option maxHeartbeats 1000000 in
set_option maxRecDepth 100000 in
theorem copyCheck_used (b o : Nat) (w : World) (h0 : w.cell? ⟨b, o, none⟩ = some (.pointer (some ⟨b, o, none⟩))) :
    Calls Tryz.prog 95 #[.pointer (some ⟨b, o, none⟩)] w fun e w' => e = .returned (.tuple #[]) ∧ w' = w := by
  obtain ⟨j, hj, _⟩ := Option.map_eq_some_iff.1 sizeBuilder
  go_enter Tryz.func95, Tryz.ntmps95
  go_wp2
  rw [Lib.run_neq_ptr_same w _ Tryz.underlying107 hj]
  go_wp2
  go_end0
  exact ⟨rfl, rfl⟩

set_option maxHeartbeats 1000000 in
set_option maxRecDepth 100000 in
theorem copyCheck_fresh (T : TypeId) (b o n : Nat) (w : World) (h0 : w.cell? ⟨b, o, none⟩ = some (.pointer none)) (hsh : w.shape? b = some (T, n)) (ho : o < n) (hl : Home T o n) (hfz : w.frozen? ⟨b, o, none⟩ = false) :
    Calls Tryz.prog 95 #[.pointer (some ⟨b, o, none⟩)] w fun e w' => e = .returned (.tuple #[]) ∧ w' = w.setCell ⟨b, o, none⟩ (.pointer (some ⟨b, o, none⟩)) := by
  obtain ⟨j, hj, hjs⟩ := Option.map_eq_some_iff.1 sizeBuilder
  have hr1 := World.cell?_setCell_same w ⟨b, o, none⟩ (.pointer (some ⟨b, o, none⟩)) h0
  go_enter Tryz.func95, Tryz.ntmps95
  go_wp2
  rw [Lib.run_to_unsafe w ⟨b, o, none⟩ Tryz.underlying107 Tryz.underlying144 hj (by rw [hjs]; decide) hsh ho]
  simp only [Result.andThen]
  rw [Oper.upon_value]
  go_wp2
  rw [run_callFunc_extern Tryz.func111 (by kernel_rfl) (by kernel_rfl) (by kernel_rfl) (e := Extern.AbiNoEscape.same) (by kernel_rfl)]
  rw [Lib.run_noEscape]
  simp only [Result.andThen]
  rw [Oper.upon_value]
  go_wp2
  rw [Lib.run_from_unsafe w ⟨b, o, none⟩ Tryz.underlying144 Tryz.underlying107 hj hsh hl]
  simp only [Result.andThen]
  rw [Oper.upon_value]
  go_wp2
  go_end0
  exact ⟨rfl, rfl⟩

/-- copyCheck: behind it the builder knows its own place. -/
theorem copyCheck_w (T : TypeId) (B b : Nat) (pre post : List Value) (bs : List UInt8) (w : World) (h : Bld T B b pre post bs w) (hl : Home T pre.length (pre.length + 2 + post.length)) :
    Calls Tryz.prog 95 #[.pointer (some ⟨b, pre.length, none⟩)] w fun e w' => e = .returned (.tuple #[]) ∧
      (∃ v, w'.heap[b]? = some (.cells (pre ++ (.pointer (some ⟨b, pre.length, none⟩)) :: v :: post).toArray T (0, 0)) ∧ w'.ownsRowF B 5 1 v bs.length (Lib.byteCells bs)) ∧ Below B w w' ∧ Lib.OthersKept 5 (some b) w w' := by
  obtain ⟨hB, hT, p, v, hp, hb, hown, _⟩ := h
  have hc : w.cell? ⟨b, pre.length, none⟩ = some p := by rw [Lib.cell_of_heap hb]; simp
  rcases hp with rfl | rfl
  · have hsh : w.shape? b = some (T, pre.length + 2 + post.length) := by simp [World.shape?, hb]; omega
    refine (copyCheck_fresh T b pre.length _ w hc hsh (by omega) hl (Lib.frozen_of_heap hb _)).mono ?_
    rintro e w' ⟨rfl, rfl⟩
    refine ⟨rfl, ⟨v, ?_, sown_set hb hT hown _⟩, (Below.refl B w).setCell (p := ⟨b, pre.length, none⟩) hB _, (Lib.OthersKept.refl _ _ w).setCell ⟨b, pre.length, none⟩ rfl _⟩
    rw [heap_set hb, set_at]
  · refine (copyCheck_used b pre.length w hc).mono ?_
    rintro e w' ⟨rfl, rfl⟩
    exact ⟨rfl, ⟨v, hb, hown⟩, Below.refl B _, Lib.OthersKept.refl _ _ _⟩

/-- What a writer's last store leaves. -/
theorem Bld.put {T : TypeId} {B b : Nat} {pre post : List Value} {v v' : Value} {bs : List UInt8} {w : World} (hB : B ≤ b) (hT : T ≠ 5)
    (hb : w.heap[b]? = some (.cells (pre ++ (.pointer (some ⟨b, pre.length, none⟩)) :: v :: post).toArray T (0, 0))) (hown : w.ownsRowF B 5 1 v' bs.length (Lib.byteCells bs)) (hn : bs ≠ []) :
    Bld T B b pre post bs (w.setCell ⟨b, pre.length + 1, none⟩ v') :=
  ⟨hB, hT, _, v', Or.inr rfl, by rw [heap_set hb, set_at1], sown_set hb hT hown _, fun e => absurd e hn⟩
theorem byteCells_one (c : UInt8) : Lib.byteCells [c] = [.int .u8 (c.toNat : Int)] := by simp [Lib.byteCells]

set_option maxHeartbeats 2000000 in
set_option maxRecDepth 100000 in
theorem writeByte_w (T : TypeId) (B b : Nat) (pre post : List Value) (bs : List UInt8) (c : UInt8) (w : World) (h : Bld T B b pre post bs w) (hl : Home T pre.length (pre.length + 2 + post.length)) (hlen : bs.length + 1 ≤ 140737488355328) (hBw : B ≤ w.heap.size) :
    Calls Tryz.prog 75 #[.pointer (some ⟨b, pre.length, none⟩), .int .u8 (c.toNat : Int)] w fun e w' => e = .returned .nilIface ∧ Bld T B b pre post (bs ++ [c]) w' ∧ Below B w w' ∧ Lib.OthersKept 5 (some b) w w' := by
  obtain ⟨i0, hi, hz0, hz1, hz2⟩ := info_parts info8
  go_enter Tryz.func75, Tryz.ntmps75
  go_wp2_with (go_at_call 95; refine (copyCheck_w T B b pre post bs _ h hl).mono ?_)
  rintro e w1 ⟨rfl, ⟨v, hbk, hown⟩, hb1, hk1⟩
  obtain ⟨hB, hT, _⟩ := h
  have hne := Lib.ownBlock_neF hown hbk hT
  have c0 : w1.cell? ⟨b, pre.length, none⟩ = some (.pointer (some ⟨b, pre.length, none⟩)) := by rw [Lib.cell_of_heap hbk]; simp
  have c1 : w1.cell? ⟨b, pre.length + 1, none⟩ = some v := by rw [Lib.cell_of_heap hbk]; simp
  go_wp2_with (at_builtin; refine wpList_append_ownF _ rfl _ _ 24 rfl B 5 i0 (.int .u8 0) 1 1 Tryz.underlying24 hi hz0 hz1 hz2 rfl (by decide) _ _ _ rfl (hown.alloc _) ⟨w1.heap.size, 0, none⟩ 1 1 [.int .u8 (c.toNat : Int)] rfl rfl ?c1 ?c2 ?c3 ?c4 ?c5 ?_)
  case c1 =>
    intro j u hj
    match j, hj with
    | 0, hj => simp at hj; subst hj; simp [Addr.add]
  case c2 => intro u hu; simp at hu; subst hu; rfl
  case c3 => unfold maxLen; omega
  case c4 => omega
  case c5 => have := hb1.size; simp; omega
  intro v' w2 hown' hgrow _
  have hlt := lt_of_heap hbk
  have hb2 : w2.heap[b]? = some (.cells (pre ++ (.pointer (some ⟨b, pre.length, none⟩)) :: v :: post).toArray T (0, 0)) := by
    rw [hgrow.block b (by simp; omega) (fun e => hne e.symm), Lib.alloc_old w1 _ b hlt]
    exact hbk
  have d1 : w2.cell? ⟨b, pre.length + 1, none⟩ = some v := by rw [Lib.cell_of_heap hb2]; simp
  have f1 : w2.frozen? ⟨b, pre.length + 1, none⟩ = false := Lib.frozen_of_heap hb2 _
  obtain ⟨g, cap, rfl⟩ : ∃ g cap, v' = .slice (some ⟨g, 0, none⟩) (bs.length + 1) cap := by
    rcases hown'.2 with ⟨_, h0⟩ | ⟨g, cap, cur, fz, hv, _⟩
    · omega
    · exact ⟨g, cap, hv⟩
  go_wp2
  go_ret
  refine ⟨rfl, ?_, ?_, ((hk1.alloc _).grown hgrow (Lib.ownsRowF_kind (hown.alloc _))).setCell ⟨b, pre.length + 1, none⟩ rfl _⟩
  · exact Bld.put hB hT hb2 (bs := bs ++ [c]) (by rw [Lib.byteCells_append, byteCells_one]; simpa using hown') (by simp)
  · exact ((hb1.alloc (by have := hb1.size; omega) _).grown hgrow (by have := hb1.size; simp; omega) (fun k hk => (hown.lt k hk).1)).setCell (p := ⟨b, pre.length + 1, none⟩) hB _

set_option maxHeartbeats 2000000 in
set_option maxRecDepth 100000 in
theorem writeString_w (T : TypeId) (B b : Nat) (pre post : List Value) (bs : List UInt8) (s : ByteArray) (w : World) (h : Bld T B b pre post bs w) (hl : Home T pre.length (pre.length + 2 + post.length)) (hs0 : s.data.toList ≠ []) (hlen : bs.length + s.size ≤ 140737488355328) (hBw : B ≤ w.heap.size) :
    Calls Tryz.prog 97 #[.pointer (some ⟨b, pre.length, none⟩), .string s] w fun e w' => e = .returned (.tuple #[.int .i64 s.size, .nilIface]) ∧ Bld T B b pre post (bs ++ s.data.toList) w' ∧ Below B w w' ∧ Lib.OthersKept 5 (some b) w w' := by
  obtain ⟨i0, hi, hz0, hz1, hz2⟩ := info_parts info8
  go_enter Tryz.func97, Tryz.ntmps97
  go_wp2_with (go_at_call 95; refine (copyCheck_w T B b pre post bs _ h hl).mono ?_)
  rintro e w1 ⟨rfl, ⟨v, hbk, hown⟩, hb1, hk1⟩
  obtain ⟨hB, hT, _⟩ := h
  have hne := Lib.ownBlock_neF hown hbk hT
  have c0 : w1.cell? ⟨b, pre.length, none⟩ = some (.pointer (some ⟨b, pre.length, none⟩)) := by rw [Lib.cell_of_heap hbk]; simp
  have c1 : w1.cell? ⟨b, pre.length + 1, none⟩ = some v := by rw [Lib.cell_of_heap hbk]; simp
  go_wp2_with (at_builtin; refine Lib.wpList_append_own_stringF _ rfl _ _ 24 9 rfl B 5 i0 Tryz.underlying24 Tryz.underlying9 hi hz0 hz1 hz2 _ _ _ rfl hown s rfl ?c3 ?c4 ?c5 ?_)
  case c3 => unfold maxLen; omega
  case c4 => omega
  case c5 => have := hb1.size; omega
  intro v' w2 hown' hgrow _
  have hlt := lt_of_heap hbk
  have hb2 : w2.heap[b]? = some (.cells (pre ++ (.pointer (some ⟨b, pre.length, none⟩)) :: v :: post).toArray T (0, 0)) := by
    rw [hgrow.block b hlt (fun e => hne e.symm)]
    exact hbk
  have d1 : w2.cell? ⟨b, pre.length + 1, none⟩ = some v := by rw [Lib.cell_of_heap hb2]; simp
  have f1 : w2.frozen? ⟨b, pre.length + 1, none⟩ = false := Lib.frozen_of_heap hb2 _
  obtain ⟨ao, n', cap, rfl⟩ : ∃ ao n' cap, v' = .slice ao n' cap := by
    rcases hown'.2 with ⟨hv, _⟩ | ⟨g, cap, cur, fz, hv, _⟩
    · exact ⟨_, _, _, hv⟩
    · exact ⟨_, _, _, hv⟩
  go_wp2
  go_ret2
  refine ⟨rfl, ?_, ?_, (hk1.grown hgrow (Lib.ownsRowF_kind hown)).setCell ⟨b, pre.length + 1, none⟩ rfl _⟩
  · refine Bld.put hB hT hb2 (bs := bs ++ s.data.toList) ?_ (by simp [hs0])
    rw [Lib.byteCells_append]
    have e1 : Lib.byteCells s.data.toList = Lib.strCells s := by simp [Lib.byteCells, Lib.strCells]
    have e2 : (bs ++ s.data.toList).length = bs.length + s.size := by rw [List.length_append]; rfl
    rw [e1, e2]
    exact hown'
  · exact (hb1.grown hgrow (by have := hb1.size; omega) (fun k hk => (hown.lt k hk).1)).setCell (p := ⟨b, pre.length + 1, none⟩) hB _

set_option maxHeartbeats 2000000 in
set_option maxRecDepth 100000 in
theorem writeRune_w (T : TypeId) (B b : Nat) (pre post : List Value) (bs : List UInt8) (r : Nat) (hr : r ≤ 1114111) (w : World) (h : Bld T B b pre post bs w) (hl : Home T pre.length (pre.length + 2 + post.length)) (hlen : bs.length + 4 ≤ 140737488355328) (hBw : B ≤ w.heap.size) :
    Calls Tryz.prog 96 #[.pointer (some ⟨b, pre.length, none⟩), .int .i32 (r : Int)] w fun e w' => e = .returned (.tuple #[.int .i64 (e1 r).length, .nilIface]) ∧ Bld T B b pre post (bs ++ e1 r) w' ∧ Below B w w' ∧ Lib.OthersKept 5 (some b) w w' := by
  go_enter Tryz.func96, Tryz.ntmps96
  go_wp2_with (go_at_call 95; refine (copyCheck_w T B b pre post bs _ h hl).mono ?_)
  rintro e w1 ⟨rfl, ⟨v, hbk, hown⟩, hb1, hk1⟩
  obtain ⟨hB, hT, _⟩ := h
  have hne := Lib.ownBlock_neF hown hbk hT
  obtain ⟨ao, cap, rfl⟩ : ∃ ao cap, v = .slice ao bs.length cap := by
    rcases hown.2 with ⟨hv, h0⟩ | ⟨g, cap, cur, fz, hv, _⟩
    · exact ⟨none, 0, by rw [hv, h0]⟩
    · exact ⟨_, _, hv⟩
  have c1 : w1.cell? ⟨b, pre.length + 1, none⟩ = some (.slice ao bs.length cap) := by rw [Lib.cell_of_heap hbk]; simp
  have hle := Lib.runeCells_le (r : Int)
  go_wp2_with (go_at_call 43; refine (appendRune_w B _ _ _ (r : Int) (by omega) (by omega) _ hown (by omega) (by have := hb1.size; omega)).mono ?_)
  rintro e w2 ⟨v', rfl, hown', o, hgrow⟩
  have hlt := lt_of_heap hbk
  have hb2 : w2.heap[b]? = some (.cells (pre ++ (.pointer (some ⟨b, pre.length, none⟩)) :: (.slice ao bs.length cap) :: post).toArray T (0, 0)) := by
    rw [hgrow.block b (by simp; omega) (fun e => hne e.symm), Lib.alloc_old w1 _ b hlt]
    exact hbk
  have d1 : w2.cell? ⟨b, pre.length + 1, none⟩ = some (.slice ao bs.length cap) := by rw [Lib.cell_of_heap hb2]; simp
  have f1 : w2.frozen? ⟨b, pre.length + 1, none⟩ = false := Lib.frozen_of_heap hb2 _
  obtain ⟨g, cap', rfl⟩ : ∃ g cap', v' = .slice (some ⟨g, 0, none⟩) (bs.length + (Lib.runeCells r).length) cap' := by
    rcases hown'.2 with ⟨_, h0⟩ | ⟨g, cap, cur, fz, hv, _⟩
    · omega
    · exact ⟨g, cap, hv⟩
  have d2 : (w2.setCell ⟨b, pre.length + 1, none⟩ (.slice (some ⟨g, 0, none⟩) (bs.length + (Lib.runeCells r).length) cap')).cell? ⟨b, pre.length + 1, none⟩ = some (.slice (some ⟨g, 0, none⟩) (bs.length + (Lib.runeCells r).length) cap') := World.cell?_setCell_same _ _ _ d1
  go_wp2
  go_ret2
  have hrl : (Lib.runeCells r).length = (e1 r).length := Lib.runeCells_length r
  refine ⟨?_, ?_, ?_, ((hk1.alloc _).grown hgrow (Lib.ownsRowF_kind (hown.alloc _))).setCell ⟨b, pre.length + 1, none⟩ rfl _⟩
  · rw [hrl]
    congr 3
    go_num
  · refine Bld.put hB hT hb2 (bs := bs ++ e1 r) ?_ (by simp [e1_ne])
    rw [Lib.byteCells_append, show Lib.byteCells (e1 r) = Lib.runeCells (r : Int) from Lib.byteCells_encodeRune r, List.length_append, ← hrl]
    exact hown'
  · exact ((hb1.alloc (by have := hb1.size; omega) _).grown hgrow (by have := hb1.size; simp; omega) (fun k hk => (hown.lt k hk).1)).setCell (p := ⟨b, pre.length + 1, none⟩) hB _

theorem cells8 : Tryz.prog.cellsOf 5 = 1 := by kernel_rfl
set_option maxHeartbeats 2000000 in
set_option maxRecDepth 100000 in
theorem string_w (T : TypeId) (B b : Nat) (pre post : List Value) (l : List UInt8) (w : World) (h : Bld T B b pre post l w) :
    Calls Tryz.prog 77 #[.pointer (some ⟨b, pre.length, none⟩)] w fun e w' => e = .returned (.string ⟨l.toArray⟩) ∧ Below B w w' := by
  obtain ⟨hB, hT, p, v, hp, hbk, hown, hemp⟩ := h
  by_cases h0 : l = []
  · subst h0
    obtain rfl := hemp rfl
    have c1 : w.drew.cell? ⟨b, pre.length + 1, none⟩ = some (.slice none 0 0) := by
      have : w.drew.heap[b]? = some (.cells (pre ++ p :: (.slice none 0 0) :: post).toArray T (0, 0)) := hbk
      rw [Lib.cell_of_heap this]; simp
    have hSD : (Builtin.unsafeSliceData_ #[24] 135 #[.slice none 0 0]).run Tryz.prog w.drew = .ok (.pointer none) w.drew := rfl
    have hUS : (Builtin.unsafeString_ #[135, 3] 9 #[.pointer none, .int .i64 0]).run Tryz.prog w.drew = .ok (.string .empty) w.drew := Lib.run_unsafeString_none w.drew _ _ _ none
    go_enter Tryz.func77, Tryz.ntmps77
    go_wp2
    go_region
    all_goals (go_wp2; go_ret; exact ⟨rfl, Below.drew (Below.refl B w)⟩)
  · have hl0 : l.length ≠ 0 := by simpa using h0
    obtain ⟨g, cap, cur, fz, rfl, hbg, hg, hfz, hnc, hcm, hcs, htake⟩ : ∃ g cap cur fz, v = .slice (some ⟨g, 0, none⟩) l.length cap ∧ B ≤ g ∧ w.heap[g]? = some (.cells cur 5 fz) ∧ fz.2 ≤ l.length * 1 ∧ l.length ≤ cap ∧ cap ≤ maxLen ∧ cur.size = cap * 1 ∧ cur.toList.take (l.length * 1) = Lib.byteCells l := by
      rcases hown.2 with ⟨_, hz⟩ | ⟨g, cap, cur, fz, hv, r⟩
      · exact absurd hz hl0
      · exact ⟨g, cap, cur, fz, hv, r⟩
    have c1 : w.drew.cell? ⟨b, pre.length + 1, none⟩ = some (.slice (some ⟨g, 0, none⟩) l.length cap) := by
      have : w.drew.heap[b]? = some (.cells (pre ++ p :: (.slice (some ⟨g, 0, none⟩) l.length cap) :: post).toArray T (0, 0)) := hbk
      rw [Lib.cell_of_heap this]; simp
    have hSD : (Builtin.unsafeSliceData_ #[24] 135 #[.slice (some ⟨g, 0, none⟩) l.length cap]).run Tryz.prog w.drew = .ok (.pointer (some ⟨g, 0, none⟩)) w.drew :=
      Lib.run_unsafeSliceData_row _ _ _ _ _ _ (by omega)
    have hUS : (Builtin.unsafeString_ #[135, 3] 9 #[.pointer (some ⟨g, 0, none⟩), .int .i64 l.length]).run Tryz.prog w.drew = .ok (.string ⟨l.toArray⟩) (w.drew.freeze ⟨g, 0, none⟩ l.length) := by
      refine Lib.run_unsafeString_row w.drew 135 3 9 5 Tryz.underlying135 cells8 g cur.size (by have hg' : w.drew.heap[g]? = some (.cells cur 5 fz) := hg; simp [World.shape?, hg']) l h0 (by omega) (by unfold maxLen at hcm; omega) ?_
      intro j x hx
      have := hown.cells (g := g) rfl j (.int .u8 x.toNat) (by simp [Lib.byteCells, hx])
      exact this
    go_enter Tryz.func77, Tryz.ntmps77
    go_wp2
    go_region
    all_goals (go_wp2; go_ret; exact ⟨rfl, Lib.below_freeze (Below.drew (Below.refl B w)) (p := ⟨g, 0, none⟩) hbg _⟩)

/-! ### a builder beside other work -/
theorem Bld.alloc {T : TypeId} {B b : Nat} {pre post : List Value} {bs : List UInt8} {w : World} (h : Bld T B b pre post bs w) (o : Obj) : Bld T B b pre post bs (w.alloc o) := by
  obtain ⟨hB, hT, p, v, hp, hb, hown, he⟩ := h
  exact ⟨hB, hT, p, v, hp, (Lib.alloc_old w o b (lt_of_heap hb)).trans hb, hown.alloc o, he⟩
theorem ownsRowF_iterAt {w : World} {B : Nat} {v : Value} {n : Nat} {xs : List Value} (hown : w.ownsRowF B 5 1 v n xs) {k : Nat} {s : ByteArray} {pos : Nat} (hk : w.heap[k]? = some (.stringIter s pos)) (pos' : Nat) : (w.iterAt k s pos').ownsRowF B 5 1 v n xs := by
  refine ⟨hown.1, ?_⟩
  rcases hown.2 with hn | ⟨g, cap, cur, fz, hv, hbg, hg, rest⟩
  · exact .inl hn
  · have hkg : g ≠ k := by
      intro e1
      rw [e1, hk] at hg
      cases hg
    exact .inr ⟨g, cap, cur, fz, hv, hbg, (Lib.iterAt_other w k g s pos' hkg).trans hg, rest⟩
theorem Bld.iterAt {T : TypeId} {B b : Nat} {pre post : List Value} {bs : List UInt8} {w : World} (h : Bld T B b pre post bs w) {k : Nat} {s : ByteArray} {pos : Nat} (hk : w.heap[k]? = some (.stringIter s pos)) (pos' : Nat) : Bld T B b pre post bs (w.iterAt k s pos') := by
  obtain ⟨hB, hT, p, v, hp, hb, hown, he⟩ := h
  have hkb : b ≠ k := by
    intro e1
    rw [e1, hk] at hb
    cases hb
  exact ⟨hB, hT, p, v, hp, (Lib.iterAt_other w k b s pos' hkb).trans hb, ownsRowF_iterAt hown hk pos', he⟩
theorem Bld.below {T : TypeId} {B b : Nat} {pre post : List Value} {bs : List UInt8} {w w' : World} (h : Bld T B b pre post bs w) (hb' : Below w.heap.size w w') : Bld T B b pre post bs w' := by
  obtain ⟨hB, hT, p, v, hp, hb, hown, he⟩ := h
  refine ⟨hB, hT, p, v, hp, (hb'.block b (lt_of_heap hb)).trans hb, ⟨hown.1, ?_⟩, he⟩
  rcases hown.2 with hn | ⟨g, cap, cur, fz, hv, hbg, hg, rest⟩
  · exact .inl hn
  · exact .inr ⟨g, cap, cur, fz, hv, hbg, (hb'.block g (lt_of_heap hg)).trans hg, rest⟩
end Go.Proofs.YtjacoodfhkaioabGreatDoor
namespace Go.Proofs.YtjacoodfhkaioabGreatDoor
open Go.ChangeShapes Go.WideShapes Go.ChangeAt Go.RowKit Go.Shelf
set_option linter.unusedSimpArgs false
set_option linter.unusedVariables false
set_option maxRecDepth 2000

def hexD (n : Nat) : Nat := if n < 10 then 48 + n else 87 + n
def hex2 (r : Nat) : List Nat := if r < 16 then [hexD r] else [hexD (r / 16), hexD (r % 16)]

theorem digits_at : ∀ k : Fin 16, ((⟨#[48, 49, 50, 51, 52, 53, 54, 55, 56, 57, 97, 98, 99, 100, 101, 102, 103, 104, 105, 106, 107, 108, 109, 110, 111, 112, 113, 114, 115, 116, 117, 118, 119, 120, 121, 122]⟩ : ByteArray)[k.val]'(by have := k.isLt; show k.val < 36; omega)).toNat = hexD k.val := by decide +kernel
theorem and15n (r : Nat) (hr : r < 128) : bits .and .u64 (r : Int) 15 = ((r % 16 : Nat) : Int) := by
  have h := bits_and_u64_nat r 15 (by omega) (by decide)
  rw [show ((15 : Nat) : Int) = 15 from rfl] at h
  rw [h]
  congr 1
  exact Nat.and_two_pow_sub_one_eq_mod r 4
theorem hexD_lt (k : Nat) (h : k < 16) : hexD k < 128 := by unfold hexD; split <;> omega
theorem heap_set' {w : World} {b j : Nat} {cs : Array Value} {T : TypeId} (h : w.heap[b]? = some (.cells cs T (0, 0))) (q : Value) :
    (w.setCell ⟨b, j, none⟩ q).heap[b]? = some (.cells (cs.setIfInBounds j q) T (0, 0)) := by
  simp [World.setCell, Array.getElem?_modify, h]
theorem tabAt_below {g : Nat} {tab : List Nat} {w w' : World} (h : TabAt g tab w) (hb : Below w.heap.size w w') : TabAt g tab w' := fun j hj =>
  (hb.cell (World.block_lt_of_cell? _ _ (h j hj))).trans (h j hj)
theorem pow2_w (w : World) :
    Calls Tryz.prog 128 #[.int .i64 16] w fun e w' => e = .returned (.bool true) ∧ w = w' := by
  have h : bits .and .i64 16 15 = 0 := by decide +kernel
  go_enter Tryz.func128, Tryz.ntmps128
  go_wp2
  all_goals go_ret
  all_goals (refine ⟨?_, rfl⟩; simp [h])
set_option maxHeartbeats 1000000 in
set_option maxRecDepth 100000 in
theorem formatBits_w (r : Nat) (hr : r < 128) (w : World) (hT : TabAt 4 Lib.deBruijn64tab w) :
    Calls Tryz.prog 121 #[.slice none 0 0, .int .u64 (r : Int), .int .i64 16, .bool false, .bool false] w fun e w' => e = .returned (.tuple #[.slice none 0 0, .string ⟨(en (hex2 r)).toArray⟩]) ∧ Below w.heap.size w w' := by
  have hz : Lib.ctz 64 16 = 4 := by decide +kernel
  have hT1 : ∀ o, TabAt 4 Lib.deBruijn64tab (w.alloc o) := fun o => tabAt_below hT ((Below.refl w.heap.size w).alloc (Nat.le_refl _) o)
  go_enter Tryz.func121, Tryz.ntmps121
  go_wp2_with (first
    | (go_at_call 128; refine (pow2_w _).mono ?_; rintro e w1 ⟨rfl, rfl⟩)
    | (go_at_call 129; refine (trailing_w 16 (by decide) _ (fun _ => hT1 _)).mono ?_; rintro e w1 ⟨rfl, rfl⟩))
  go_loopw [1, 13] (fun u i wr => ∃ cs : Array Value, wr.heap[w.heap.size]? = some (.cells cs 160 (0, 0)) ∧ cs.size = 65 ∧ Below w.heap.size w wr ∧ Hid ((u = .int .u64 (r : Int) ∧ i = .int .i64 65) ∨ (16 ≤ r ∧ u = .int .u64 ((r / 16 : Nat) : Int) ∧ i = .int .i64 64 ∧ cs[64]? = some (.int .u8 (hexD (r % 16) : Int))))) (fun u _ _ => (intOf u).toNat)
  case atStart =>
    refine ⟨Tryz.zeroCells160, Go.heap_alloc_new w _, by decide +kernel, (Below.refl _ w).alloc (Nat.le_refl _) _, hid (Or.inl ⟨rfl, rfl⟩)⟩
  case round =>
    obtain ⟨cs, hblk, hcs, hbw, hor⟩ := hrel
    have cell : ∀ j, wr.cell? ⟨w.heap.size, j, none⟩ = cs[j]? := fun j => Lib.cell_of_heap hblk j
    have fz : ∀ j, wr.frozen? ⟨w.heap.size, j, none⟩ = false := fun j => Lib.frozen_of_heap hblk j
    rcases hor.out with ⟨rfl, rfl⟩ | ⟨h16, rfl, rfl, h64⟩
    · by_cases h16 : 16 ≤ r
      · have hand := and15n r hr
        obtain ⟨x, hx⟩ : ∃ x, cs[64]? = some x := ⟨cs[64]'(by omega), by simp [hcs]⟩
        have c64 := (cell 64).trans hx
        have f64 := fz 64
        have h16z : (16 : Int) ≤ (r : Int) := by omega
        have hdg := digits_at ⟨r % 16, by omega⟩
        go_wp2
        refine ⟨⟨_, heap_set' hblk _, by simpa using hcs, hbw.setCell (p := ⟨w.heap.size, 64, none⟩) (Nat.le_refl _) _, hid (Or.inr ⟨h16, by simp, rfl, ?_⟩)⟩, by simp [intOf]; omega⟩
        simp [hcs, hdg]
      · have h16z : (r : Int) < 16 := by omega
        obtain ⟨x, hx⟩ : ∃ x, cs[64]? = some x := ⟨cs[64]'(by omega), by simp [hcs]⟩
        have c64 := (cell 64).trans hx
        have f64 := fz 64
        have hdg := digits_at ⟨r, by omega⟩
        have hlt := hexD_lt r (by omega)
        have d0 := World.cell?_setCell_same wr ⟨w.heap.size, 64, none⟩ (.int .u8 (hexD r : Int)) c64
        have hcv : (convert 24 9 (.slice (some ⟨w.heap.size, 64, none⟩) 1 1)).run Tryz.prog (wr.setCell ⟨w.heap.size, 64, none⟩ (.int .u8 (hexD r : Int))) = .ok (.string ⟨#[(hexD r).toUInt8]⟩) (wr.setCell ⟨w.heap.size, 64, none⟩ (.int .u8 (hexD r : Int))) := by
          refine run_convert_bytes_back _ _ _ 5 ⟨w.heap.size, 64, none⟩ 1 [(hexD r).toUInt8] Tryz.underlying24 Tryz.underlying5 Tryz.underlying9 ?_
          intro j hj
          match j, hj with
          | 0, _ => simp only [List.getElem_cons_zero]; rw [toU _ (by omega)]; exact d0
        have hen : en (hex2 r) = [(hexD r).toUInt8] := by unfold hex2; rw [if_pos (by omega), en_one, e1_ascii _ hlt]
        go_wp2
        go_ret2
        exact ⟨by first | rfl | (rw [hen]; rfl), hbw.setCell (p := ⟨w.heap.size, 64, none⟩) (Nat.le_refl _) _⟩
    · have hrz : ((r / 16 : Nat) : Int) < 16 := by omega
      obtain ⟨x, hx⟩ : ∃ x, cs[63]? = some x := ⟨cs[63]'(by omega), by simp [hcs]⟩
      have c63 := (cell 63).trans hx
      have f63 := fz 63
      have hdg := digits_at ⟨r / 16, by omega⟩
      have hlt := hexD_lt (r / 16) (by omega)
      have hlt2 := hexD_lt (r % 16) (by omega)
      have d0 := World.cell?_setCell_same wr ⟨w.heap.size, 63, none⟩ (.int .u8 (hexD (r / 16) : Int)) c63
      have d1 : (wr.setCell ⟨w.heap.size, 63, none⟩ (.int .u8 (hexD (r / 16) : Int))).cell? ⟨w.heap.size, 64, none⟩ = some (.int .u8 (hexD (r % 16) : Int)) := by
        rw [World.cell?_setCell_other _ _ _ _ (by simp)]
        exact (cell 64).trans h64
      have hcv : (convert 24 9 (.slice (some ⟨w.heap.size, 63, none⟩) 2 2)).run Tryz.prog (wr.setCell ⟨w.heap.size, 63, none⟩ (.int .u8 (hexD (r / 16) : Int))) = .ok (.string ⟨#[(hexD (r / 16)).toUInt8, (hexD (r % 16)).toUInt8]⟩) (wr.setCell ⟨w.heap.size, 63, none⟩ (.int .u8 (hexD (r / 16) : Int))) := by
        refine run_convert_bytes_back _ _ _ 5 ⟨w.heap.size, 63, none⟩ 2 [(hexD (r / 16)).toUInt8, (hexD (r % 16)).toUInt8] Tryz.underlying24 Tryz.underlying5 Tryz.underlying9 ?_
        intro j hj
        match j, hj with
        | 0, _ => simp only [List.getElem_cons_zero]; rw [toU _ (by omega)]; exact d0
        | 1, _ => simp only [List.getElem_cons_succ, List.getElem_cons_zero]; rw [toU _ (by omega)]; exact d1
      have hen : en (hex2 r) = [(hexD (r / 16)).toUInt8, (hexD (r % 16)).toUInt8] := by
        unfold hex2; rw [if_neg (by omega)]; show e1 _ ++ (e1 _ ++ []) = _; rw [e1_ascii _ hlt, e1_ascii _ hlt2]; rfl
      go_wp2
      go_ret2
      exact ⟨by first | rfl | (rw [hen]; rfl), hbw.setCell (p := ⟨w.heap.size, 63, none⟩) (Nat.le_refl _) _⟩
theorem iformatInt_w (r : Nat) (hr : r < 128) (w : World) (hT : TabAt 4 Lib.deBruijn64tab w) :
    Calls Tryz.prog 112 #[.int .i64 (r : Int), .int .i64 16] w fun e w' => e = .returned (.string ⟨(en (hex2 r)).toArray⟩) ∧ Below w.heap.size w w' := by
  have h0 : ¬ (r : Int) < 0 := by omega
  go_enter Tryz.func112, Tryz.ntmps112
  go_wp2_with (go_at_call 121; refine (formatBits_w r hr _ hT).mono ?_; rintro e w1 ⟨rfl, hb⟩)
  go_ret
  exact ⟨rfl, hb⟩
theorem formatInt_w (r : Nat) (hr : r < 128) (w : World) (hT : TabAt 4 Lib.deBruijn64tab w) :
    Calls Tryz.prog 99 #[.int .i64 (r : Int), .int .i64 16] w fun e w' => e = .returned (.string ⟨(en (hex2 r)).toArray⟩) ∧ Below w.heap.size w w' := by
  go_enter Tryz.func99, Tryz.ntmps99
  go_wp2_with (go_at_call 112; refine (iformatInt_w r hr _ hT).mono ?_; rintro e w1 ⟨rfl, hb⟩)
  go_ret
  exact ⟨rfl, hb⟩
end Go.Proofs.YtjacoodfhkaioabGreatDoor
namespace Go.Proofs.YtjacoodfhkaioabGreatDoor
open Go.ChangeShapes Go.WideShapes Go.ChangeAt Go.RowKit Go.Shelf
set_option linter.unusedSimpArgs false
set_option linter.unusedVariables false
set_option maxRecDepth 2000

def escR (r : Nat) : List Nat :=
  if r = 39 ∨ r = 92 then [92, r] else if r = 10 then [92, 110] else if hiddenB r then 92 :: 120 :: (hex2 r ++ [59]) else [r]
def escs : List Nat → List Nat
  | [] => []
  | r :: t => escR r ++ escs t
def quoteR (rs : List Nat) : List Nat := 39 :: (escs rs ++ [39])
def quoteL (l : List UInt8) : List UInt8 := if Lib.validD l then (if plainB l then l else en (quoteR (sg l))) else []

theorem okR_ascii {r : Nat} (h : r < 128) : okR r := Or.inl (by omega)
theorem hex2_ascii (r : Nat) (h : r < 128) : ∀ x ∈ hex2 r, x < 128 := by
  intro x hx
  unfold hex2 at hx
  split at hx
  · simp at hx; subst hx; exact hexD_lt _ (by omega)
  · simp at hx
    rcases hx with rfl | rfl
    · exact hexD_lt _ (by omega)
    · exact hexD_lt _ (by omega)
theorem hidden_lt {r : Nat} (h : hiddenB r = true) : r < 128 := by simp [hiddenB] at h; omega
theorem okRs_escR (r : Nat) (h : okR r) : okRs (escR r) := by
  intro x hx
  unfold escR at hx
  split at hx
  · simp at hx; rcases hx with rfl | rfl
    · exact okR_ascii (by decide)
    · exact h
  · split at hx
    · simp at hx; rcases hx with rfl | rfl <;> exact okR_ascii (by decide)
    · split at hx
      · rename_i hh
        simp at hx
        rcases hx with rfl | rfl | hx | rfl
        · exact okR_ascii (by decide)
        · exact okR_ascii (by decide)
        · exact okR_ascii (hex2_ascii r (hidden_lt hh) x hx)
        · exact okR_ascii (by decide)
      · simp at hx; subst hx; exact h
theorem okRs_escs : ∀ rs, okRs rs → okRs (escs rs)
  | [], _ => okRs_nil
  | r :: t, h => okRs_append (okRs_escR r (okRs_cons h).1) (okRs_escs t (okRs_cons h).2)
theorem okRs_one {r : Nat} (h : okR r) : okRs [r] := fun x hx => by simp at hx; subst hx; exact h
theorem okRs_quoteR (rs : List Nat) (h : okRs rs) : okRs (quoteR rs) :=
  okRs_append (a := [39]) (okRs_one (okR_ascii (by decide))) (okRs_append (okRs_escs rs h) (okRs_one (okR_ascii (by decide))))
theorem e1_39 : e1 39 = [39] := by decide
theorem en_ascii : ∀ (l : List Nat), (∀ x ∈ l, x < 128) → en l = l.map (·.toUInt8)
  | [], _ => rfl
  | r :: t, h => by
    show e1 r ++ en t = _
    rw [e1_ascii r (h r (by simp)), en_ascii t (fun x hx => h x (by simp [hx]))]
    rfl
theorem en_length_le : ∀ l : List Nat, (en l).length ≤ 4 * l.length
  | [] => by simp [en]
  | r :: t => by
    have h1 := en_length_le t
    have h2 := (e1_length r).2
    simp only [en, List.length_append, List.length_cons]
    omega
theorem hex2_len (r : Nat) : 1 ≤ (hex2 r).length ∧ (hex2 r).length ≤ 2 := by unfold hex2; split <;> simp
theorem escR_len (r : Nat) : 1 ≤ (escR r).length ∧ (escR r).length ≤ 5 := by
  have := hex2_len r
  unfold escR; split
  · simp
  · split
    · simp
    · split
      · simp; omega
      · simp
theorem escs_len : ∀ rs : List Nat, (escs rs).length ≤ 5 * rs.length
  | [] => by simp [escs]
  | r :: t => by
    have := escs_len t
    have := escR_len r
    simp only [escs, List.length_append, List.length_cons]
    omega

theorem kept_of_below {e : TypeId} {b : Option Nat} {w w' : World} (h : Below w.heap.size w w') : Lib.OthersKept e b w w' := fun k o hk _ _ =>
  (h.block k (lt_of_heap hk)).trans hk
theorem tabAt_B {g B : Nat} {tab : List Nat} {w w' : World} (h : TabAt g tab w) (hg : g < B) (hb : Below B w w') : TabAt g tab w' := fun j hj =>
  (hb.cell (p := ⟨g, j, none⟩) hg).trans (h j hj)
theorem writeB_w (B b : Nat) (bs : List UInt8) (c : UInt8) (n : Int) (hn : (c.toNat : Int) = n) (w : World) (h : Bld 109 B b [] [] bs w) (hlen : bs.length + 1 ≤ 140737488355328) (hBw : B ≤ w.heap.size) :
    Calls Tryz.prog 75 #[.pointer (some ⟨b, 0, none⟩), .int .u8 n] w fun e w' => e = .returned .nilIface ∧ Bld 109 B b [] [] (bs ++ [c]) w' ∧ Below B w w' ∧ Lib.OthersKept 5 (some b) w w' := by
  subst hn
  exact writeByte_w _ B b [] [] bs c w h home0 hlen hBw
theorem writeS_w (B b : Nat) (bs : List UInt8) (s : ByteArray) (w : World) (h : Bld 109 B b [] [] bs w) (hs0 : s.data.toList ≠ []) (hlen : bs.length + s.size ≤ 140737488355328) (hBw : B ≤ w.heap.size) :
    Calls Tryz.prog 97 #[.pointer (some ⟨b, 0, none⟩), .string s] w fun e w' => e = .returned (.tuple #[.int .i64 s.size, .nilIface]) ∧ Bld 109 B b [] [] (bs ++ s.data.toList) w' ∧ Below B w w' ∧ Lib.OthersKept 5 (some b) w w' :=
  writeString_w _ B b [] [] bs s w h home0 hs0 hlen hBw
theorem writeR_w (B b : Nat) (bs : List UInt8) (r : Nat) (hr : r ≤ 1114111) (w : World) (h : Bld 109 B b [] [] bs w) (hlen : bs.length + 4 ≤ 140737488355328) (hBw : B ≤ w.heap.size) :
    Calls Tryz.prog 96 #[.pointer (some ⟨b, 0, none⟩), .int .i32 (r : Int)] w fun e w' => e = .returned (.tuple #[.int .i64 (e1 r).length, .nilIface]) ∧ Bld 109 B b [] [] (bs ++ e1 r) w' ∧ Below B w w' ∧ Lib.OthersKept 5 (some b) w w' :=
  writeRune_w _ B b [] [] bs r hr w h home0 hlen hBw

set_option maxHeartbeats 2000000 in
theorem writeSign_w (B b : Nat) (bs : List UInt8) (r : Nat) (hr : r ≤ 1114111) (w : World) (h : Bld 109 B b [] [] bs w) (hlen : bs.length + 8 ≤ 140737488355328) (hBw : B ≤ w.heap.size) (hg : 4 < B) (hT : TabAt 4 Lib.deBruijn64tab w) :
    Calls Tryz.prog 76 #[.pointer (some ⟨b, 0, none⟩), .int .i32 (r : Int)] w fun e w' => e = .returned (.tuple #[]) ∧ Bld 109 B b [] [] (bs ++ en (escR r)) w' ∧ Below B w w' ∧ Lib.OthersKept 5 (some b) w w' := by
  by_cases h1 : r = 39 ∨ r = 92
  · have hesc : en (escR r) = [92] ++ e1 r := by
      unfold escR; rw [if_pos h1]; show e1 92 ++ (e1 r ++ []) = _; rw [List.append_nil]; rfl
    have hz : ((r : Int) == 39) = true ∨ (((r : Int) == 39) = false ∧ ((r : Int) == 92) = true) := by
      rcases h1 with rfl | rfl
      · exact Or.inl rfl
      · exact Or.inr ⟨rfl, rfl⟩
    rw [hesc]
    rcases hz with hz | ⟨hz, hz2⟩
    all_goals
      go_enter Tryz.func76, Tryz.ntmps76
      go_wp2_with (go_at_call 75; refine (writeB_w B b bs 92 92 rfl _ h (by omega) hBw).mono ?_)
      rintro e w1 ⟨rfl, h1, b1, k1⟩
      go_wp2_with (go_at_call 96; refine (writeR_w B b _ r hr _ h1 (by simp; omega) (by have := b1.size; omega)).mono ?_)
      rintro e w2 ⟨rfl, h2, b2, k2⟩
      go_wp2
      go_end0
      exact ⟨rfl, by simpa using h2, b1.trans b2, k1.trans k2⟩
  · have a1 : ((r : Int) == 39) = false := by simp; omega
    have a2 : ((r : Int) == 92) = false := by simp; omega
    by_cases h2 : r = 10
    · have hesc : en (escR r) = [92, 110] := by subst h2; decide
      have a3 : ((r : Int) == 10) = true := by subst h2; rfl
      rw [hesc]
      go_enter Tryz.func76, Tryz.ntmps76
      go_wp2_with fail
      refine (writeS_w B b bs ⟨#[92, 110]⟩ _ h (by simp) (by have : (⟨#[92, 110]⟩ : ByteArray).size = 2 := rfl; omega) hBw).mono ?_
      rintro e w1 ⟨rfl, h1, b1, k1⟩
      go_wp2
      go_end0
      exact ⟨rfl, h1, b1, k1⟩
    · have a3 : ((r : Int) == 10) = false := by simp; omega
      cases hh : hiddenB r with
      | true =>
        have hlt := hidden_lt hh
        have hesc : en (escR r) = [92, 120] ++ (en (hex2 r) ++ [59]) := by
          unfold escR
          rw [if_neg h1, if_neg h2, if_pos hh]
          show e1 92 ++ (e1 120 ++ en (hex2 r ++ [59])) = _
          rw [en_append, en_one]
          rfl
        have hxl := hex2_len r
        have hxb : (en (hex2 r)).length ≤ 2 := by rw [en_ascii _ (hex2_ascii r hlt)]; simp; omega
        have hxn : en (hex2 r) ≠ [] := by
          intro e; rw [en_eq_nil] at e; rw [e] at hxl; simp at hxl
        have hxs : (⟨(en (hex2 r)).toArray⟩ : ByteArray).size = (en (hex2 r)).length := rfl
        rw [hesc]
        go_enter Tryz.func76, Tryz.ntmps76
        go_wp2_with (go_at_call 98; refine (hidden_w _ _).mono ?_; rintro e w1 ⟨rfl, rfl⟩)
        refine (writeS_w B b bs ⟨#[92, 120]⟩ _ h (by simp) (by have : (⟨#[92, 120]⟩ : ByteArray).size = 2 := rfl; omega) hBw).mono ?_
        rintro e w1 ⟨rfl, h1, b1, k1⟩
        have s1 := b1.size
        have hT1 := tabAt_B hT hg b1
        go_wp2_with (go_at_call 99; refine (formatInt_w r hlt _ hT1).mono ?_)
        rintro e w2 ⟨rfl, b2⟩
        have s2 := b2.size
        have h2 := h1.below b2
        go_wp2_with fail
        refine (writeS_w B b _ _ _ h2 hxn (by rw [hxs]; simp; omega) (by omega)).mono ?_
        rintro e w3 ⟨rfl, h3, b3, k3⟩
        have s3 := b3.size
        go_wp2_with (go_at_call 75; refine (writeB_w B b _ 59 59 rfl _ h3 (by simp; omega) (by omega)).mono ?_)
        rintro e w4 ⟨rfl, h4, b4, k4⟩
        go_wp2
        go_end0
        refine ⟨rfl, ?_, ((b1.trans (below_le b2 (by omega))).trans b3).trans b4, ((k1.trans (kept_of_below b2)).trans k3).trans k4⟩
        simpa using h4
      | false =>
        have hesc : en (escR r) = e1 r := by
          unfold escR
          rw [if_neg h1, if_neg h2, if_neg (by simp [hh]), en_one]
        rw [hesc]
        go_enter Tryz.func76, Tryz.ntmps76
        go_wp2_with (go_at_call 98; refine (hidden_w _ _).mono ?_; rintro e w1 ⟨rfl, rfl⟩)
        refine (writeR_w B b _ r hr _ h (by omega) hBw).mono ?_
        rintro e w2 ⟨rfl, h2, b2, k2⟩
        go_wp2
        go_end0
        exact ⟨rfl, h2, b2, k2⟩

/-- What the program finds in the library's tables. -/
def TabsQ (w : World) : Prop := Lib.Utf8Tabs 0 1 w ∧ TabAt 4 Lib.deBruijn64tab w
theorem TabsQ.below {w w' : World} (h : TabsQ w) (hb : Below w.heap.size w w') : TabsQ w' := ⟨Utf8Tabs_below h.1 hb, tabAt_below h.2 hb⟩
theorem TabsQ.lt {w : World} (h : TabsQ w) : 4 < w.heap.size := World.block_lt_of_cell? _ _ (h.2 0 (by decide))
theorem Bld.fresh (w : World) : Bld 109 w.heap.size w.heap.size [] [] [] (w.alloc (.cells #[.pointer none, .slice none 0 0] 109)) :=
  ⟨Nat.le_refl _, by decide, _, _, Or.inl rfl, Go.heap_alloc_new w _, World.ownsRowF_nil _ _ _ _, fun _ => rfl⟩

set_option maxHeartbeats 2000000 in
theorem quote_w (s : ByteArray) (w : World) (hs : s.size ≤ 1000000) (hT : TabsQ w) :
    Calls Tryz.prog 48 #[.string s] w fun e w' => e = .returned (.string ⟨(quoteL s.data.toList).toArray⟩) ∧ Below w.heap.size w w' := by
  obtain ⟨R, hR⟩ : ∃ R, quoteL s.data.toList = R := ⟨_, rfl⟩
  rw [hR]
  unfold quoteL at hR
  by_cases hv : Lib.validD s.data.toList = true
  · rw [if_pos hv] at hR
    by_cases hp : plainB s.data.toList = true
    · rw [if_pos hp] at hR
      subst hR
      go_enter Tryz.func48, Tryz.ntmps48
      go_wp2_with (go_at_call 16; refine (valid_w s _ (by omega) hT.1).mono ?_; rintro e w1 ⟨rfl, b1⟩)
      refine (plain_w s _).mono ?_
      rintro e w2 ⟨rfl, b2⟩
      go_wp2_with fail
      refine (sclone_w s _ (by omega)).mono ?_
      rintro e w3 ⟨rfl, b3⟩
      go_wp2
      go_ret
      have s1 := b1.size
      have s2 := b2.size
      exact ⟨by simp, (b1.trans (below_le b2 (by omega))).trans (below_le b3 (by omega))⟩
    · rw [if_neg hp] at hR
      have hp' : plainB s.data.toList = false := by simpa using hp
      go_enter Tryz.func48, Tryz.ntmps48
      go_wp2_with (go_at_call 16; refine (valid_w s _ (by omega) hT.1).mono ?_; rintro e w1 ⟨rfl, b1⟩)
      have s1 := b1.size
      have hT1 := hT.below b1
      refine (plain_w s _).mono ?_
      rintro e w2 ⟨rfl, b2⟩
      have s2 := b2.size
      have hT2 := hT1.below b2
      have hg := hT2.lt
      have B2 : Below w.heap.size w w2 := b1.trans (below_le b2 (by omega))
      clear hT1 hT b1 b2
      go_wp2_with fail
      refine (writeB_w w2.heap.size w2.heap.size [] 39 39 rfl _ (Bld.fresh w2) (by simp) (by simp)).mono ?_
      rintro e w3 ⟨rfl, h3, b3, k3⟩
      have s3 := b3.size
      have s2a : (w2.alloc (.cells #[.pointer none, .slice none 0 0] 109)).heap.size = w2.heap.size + 1 := by simp
      rw [s2a] at s3
      have B3 : Below w2.heap.size w2 w3 := ((Below.refl _ w2).alloc (Nat.le_refl _) _).trans b3
      go_wp2
      go_loopw [] (fun wr => ∃ (pos : Nat) (acc : List UInt8), Bld 109 w2.heap.size w2.heap.size [] [] acc wr ∧ wr.heap[w3.heap.size]? = some (.stringIter s pos) ∧ Below w2.heap.size w2 wr ∧ pos ≤ s.size + 4 ∧ acc.length ≤ 1 + 20 * pos ∧ Hid (acc ++ en (escs (sg (s.data.toList.drop pos))) = 39 :: en (escs (sg s.data.toList)))) (fun wr => s.size - wr.iterPos w3.heap.size)
      case atStart =>
        exact ⟨0, [39], h3.alloc _, World.iter_heap w3 s 0, B3.alloc (by omega) _, by omega, by simp, hid (by simp)⟩
      case round =>
        obtain ⟨pos, acc, hI, hit, hbw, hpz, hal, hH⟩ := hrel
        have hszr : w3.heap.size < wr.heap.size := lt_of_heap hit
        by_cases hp : pos < s.size
        · have hnx : ∀ ty, (Instr.next (.pointer (some ⟨w3.heap.size, 0, none⟩)) true ty).run Tryz.prog wr = _ := fun ty => Lib.run_next_any_at wr w3.heap.size s pos ty hit hp
          have hwd := Lib.width_pos s pos
          have hw4 : (Utf8.decode s pos).2 ≤ 4 := by
            rw [Lib.decode_at]
            rcases Lib.decodeN_shape (s.size - pos) (s.get! pos).toNat (s.get! (pos + 1)).toNat (s.get! (pos + 2)).toNat (s.get! (pos + 3)).toNat with ⟨_, e⟩ | ⟨_, _, _, _, e⟩ | ⟨_, _, _, _, _, _, e⟩ | ⟨_, _, _, _, _, _, _, e⟩ | e
            all_goals (rw [e]; dsimp only; omega)
          have hrl := Lib.rune_le s pos
          have hit2 := Lib.iterAt_heap wr w3.heap.size s pos (pos + (Utf8.decode s pos).2) hit
          have hbw2 := Lib.below_iterAt hbw (k := w3.heap.size) (by omega) s (pos + (Utf8.decode s pos).2)
          have hI2 := hI.iterAt hit (pos + (Utf8.decode s pos).2)
          have hsz2 : w2.heap.size ≤ (wr.iterAt w3.heap.size s (pos + (Utf8.decode s pos).2)).heap.size := by rw [Lib.iterAt_size]; omega
          have hTr := tabAt_B hT2.2 hg hbw2
          have hst : Hid (sg (s.data.toList.drop pos) = _) := hid (sg_at s pos hp)
          go_wp2_with fail
          refine (writeSign_w w2.heap.size w2.heap.size acc (Utf8.decode s pos).1 hrl _ hI2 (by omega) hsz2 hg hTr).mono ?_
          rintro e W1 ⟨rfl, h1, bb1, k1⟩
          go_wp2
          go_roundw
          case rel =>
            have hl5 := escR_len (Utf8.decode s pos).1
            have hl20 := en_length_le (escR (Utf8.decode s pos).1)
            refine ⟨pos + (Utf8.decode s pos).2, _, h1, k1.iter hit2 (by omega), hbw2.trans bb1, by omega, by rw [List.length_append]; omega, hid ?_⟩
            have h1 := hH.out
            rw [hst.out] at h1
            rw [← h1]
            simp [escs, en_append]
          case measure =>
            simp only [World.iterPos, k1.iter hit2 (by omega), hit]
            omega
        · have hnx : ∀ ty, (Instr.next (.pointer (some ⟨w3.heap.size, 0, none⟩)) true ty).run Tryz.prog wr = _ := fun ty => Lib.run_next_end_at wr w3.heap.size s pos ty hit hp
          have hacc := hH.out
          rw [sg_end s pos hp] at hacc
          simp only [escs, en, List.append_nil] at hacc
          go_wp2_with fail
          refine (writeB_w w2.heap.size w2.heap.size acc 39 39 rfl _ hI (by omega) (by omega)).mono ?_
          rintro e W1 ⟨rfl, h1, bb1, k1⟩
          go_wp2_with fail
          refine (string_w _ w2.heap.size w2.heap.size [] [] _ _ h1).mono ?_
          rintro e W2 ⟨rfl, bb2⟩
          go_wp2
          go_ret
          have hfin : R = 39 :: (en (escs (sg s.data.toList)) ++ [39]) := by
            rw [← hR]
            show e1 39 ++ en (escs (sg s.data.toList) ++ [39]) = _
            rw [en_append, en_one]; rfl
          rw [hfin]
          exact ⟨rfl, B2.trans (below_le ((hbw.trans bb1).trans bb2) (by omega))⟩
  · rw [if_neg hv] at hR
    subst hR
    have hv' : Lib.validD s.data.toList = false := by simpa using hv
    go_enter Tryz.func48, Tryz.ntmps48
    go_wp2_with (go_at_call 16; refine (valid_w s _ (by omega) hT.1).mono ?_; rintro e w1 ⟨rfl, b1⟩)
    go_ret
    exact ⟨rfl, b1⟩
end Go.Proofs.YtjacoodfhkaioabGreatDoor
namespace Go.Proofs.YtjacoodfhkaioabGreatDoor
open Go.ChangeShapes Go.WideShapes Go.ChangeAt Go.RowKit
set_option linter.unusedSimpArgs false
set_option linter.unusedVariables false
set_option maxRecDepth 2000
theorem infoR : (Tryz.prog.info? 23).map (fun i => (i.zero, i.size, i.bytes)) = some (some (.slice none 0 0), 1, 24) := by kernel_rfl
theorem fld5 (k : Int) (neg : Bool) (D : Value) (nm : ByteArray) (n : Int) (o : Option Addr) (a c : Nat) (B : Value) (w : World) : (Instr.field 26 (.agg #[.int .i64 k, .bool neg, D, .string nm, .int .i64 n, .slice o a c, B]) 5).run Tryz.prog w = .ok (.slice o a c) w := by kernel_rfl
structure Rw where
  o : Option Addr
  c : Nat
  l : List Tm
def Rw.val (r : Rw) : Value := .slice r.o r.l.length r.c
def flat : List Rw → List Tm
  | [] => []
  | r :: st => partsL r.l ++ flat st
def StOk (Z : Nat → Prop) (w : World) : Nat → List Rw → Prop
  | _, [] => True
  | e, r :: st => r.l ≠ [] ∧ r.l.length ≤ r.c ∧ TR Z w r.l r.o ∧ depL r.l ≤ e ∧ StOk Z w (e + 1) st
theorem StOk.zs {Z : Nat → Prop} {w w' : World} (hb : Zs Z w w') : ∀ (e : Nat) (st : List Rw), StOk Z w e st → StOk Z w' e st
  | _, [], _ => trivial
  | e, r :: st, h => ⟨h.1, h.2.1, TR.zs hb _ _ h.2.2.1, h.2.2.2.1, StOk.zs hb (e + 1) st h.2.2.2.2⟩
theorem own_take1 {w : World} {B : Nat} {e : TypeId} {g m cap : Nat} {xs : List Value} {x : Value} (h : w.ownsRow B e 1 (.slice (some ⟨g, 0, none⟩) (m + 1) cap) (m + 1) (xs ++ [x])) :
    w.ownsRow B e 1 (.slice (some ⟨g, 0, none⟩) m cap) m xs ∧ w.cell? ⟨g, m, none⟩ = some x ∧ B ≤ g ∧ g < w.heap.size ∧ m + 1 ≤ cap := by
  obtain ⟨h1, ⟨h2, _⟩ | ⟨g', cap', cur, h2, hB, hg, hn, hm, hs, ht⟩⟩ := h
  · simp at h2
  · simp only [Value.slice.injEq, Option.some.injEq, Addr.mk.injEq, and_true, true_and] at h2
    obtain ⟨rfl, rfl⟩ := h2
    have hl : xs.length = m := by simp at h1; omega
    have e1 : cur.toList.take (m * 1) = xs := by
      have := congrArg (List.take m) ht
      rw [List.take_take, Nat.min_eq_left (by omega)] at this
      rw [Nat.mul_one, this]
      simp [← hl]
    refine ⟨⟨by omega, .inr ⟨g, cap, cur, rfl, hB, hg, by omega, hm, hs, e1⟩⟩, ?_, hB, (Array.getElem?_eq_some_iff.1 hg).1, hn⟩
    have hc : w.cell? ⟨g, m, none⟩ = cur[m]? := by simp [World.cell?, hg]
    rw [hc, ← Array.getElem?_toList]
    have := congrArg (·[m]?) ht
    simp only [List.getElem?_take, Nat.mul_one] at this
    rw [if_pos (by omega)] at this
    rw [this, List.getElem?_append_right (by omega)]
    simp [hl]
theorem own_shape {w : World} {B : Nat} {e : TypeId} {v : Value} {m : Nat} {xs : List Value} (h : w.ownsRow B e 1 v m xs) : ∃ o cap, v = .slice o m cap ∧ (0 < m → ∃ g, o = some ⟨g, 0, none⟩) := by
  obtain ⟨h1, ⟨h2, rfl⟩ | ⟨g', cap', cur, h2, _⟩⟩ := h
  · exact ⟨none, 0, h2, fun h => by omega⟩
  · exact ⟨_, cap', h2, fun _ => ⟨g', rfl⟩⟩
theorem own_kept {w w' : World} {F : Nat → Prop} {B : Nat} {e : TypeId} {v : Value} {m : Nat} {xs : List Value} (h : w.ownsRow B e 1 v m xs) (hk : Kept F w w') (hF : ∀ k, F k → k < B) : w'.ownsRow B e 1 v m xs := by
  obtain ⟨h1, h2 | ⟨g', cap', cur, h2, hB, hg, rest⟩⟩ := h
  · exact ⟨h1, .inl h2⟩
  · exact ⟨h1, .inr ⟨g', cap', cur, h2, hB, (hk.block g' (Array.getElem?_eq_some_iff.1 hg).1 (fun hf => by have := hF _ hf; omega)).trans hg, rest⟩⟩
/-- a part without what its kind does not use: its row -/
theorem prV_row {Z : Nat → Prop} {w : World} {k : Int} {neg : Bool} {d : List Nat} {nm : ByteArray} {n : Int} {l : List Tm} {b : List Nat} {od ol ob : Option Addr} {cd cl cb : Nat} (hc : l.length ≤ cl) (hr : TR Z w l ol) :
    ∃ k' neg' od' ld' cd' nm' n' ok ck ob' lb' cb', prV k neg (.slice od d.length cd) nm n (.slice ol l.length cl) (.slice ob b.length cb) = tmV k' neg' (.slice od' ld' cd') nm' n' (.slice ok (Tm.mk k neg d nm n l b).kids.length ck) (.slice ob' lb' cb') ∧ (Tm.mk k neg d nm n l b).kids.length ≤ ck ∧ TR Z w (Tm.mk k neg d nm n l b).kids ok := by
  unfold prV Tm.kids
  by_cases h0 : k = 0
  · subst h0; exact ⟨_, _, _, _, _, _, _, none, 0, _, _, _, rfl, by simp, by simp [TR]⟩
  by_cases h1 : k = 1
  · subst h1; exact ⟨_, _, _, _, _, _, _, none, 0, _, _, _, rfl, by simp, by simp [TR]⟩
  by_cases h2 : k = 2
  · subst h2; exact ⟨_, _, _, _, _, _, _, none, 0, _, _, _, rfl, by simp, by simp [TR]⟩
  by_cases h3 : k = 3
  · subst h3; exact ⟨_, _, _, _, _, _, _, none, 0, _, _, _, rfl, by simp, by simp [TR]⟩
  by_cases h4 : k = 4
  · subst h4; exact ⟨_, _, _, _, _, _, _, ol, cl, _, _, _, rfl, by simpa using hc, by simpa using hr⟩
  by_cases h6 : k = 6
  · subst h6; exact ⟨_, _, _, _, _, _, _, ol, cl, _, _, _, rfl, by simpa using hc, by simpa using hr⟩
  by_cases h7 : k = 7
  · subst h7; exact ⟨_, _, _, _, _, _, _, none, 0, _, _, _, rfl, by simp, by simp [TR]⟩
  simp only [h0, h1, h2, h3, h4, h6, h7, if_false, or_self]
  exact ⟨_, _, _, _, _, _, _, none, 0, _, _, _, rfl, by simp, by simp [TR]⟩
end Go.Proofs.YtjacoodfhkaioabGreatDoor
