/- strings.Builder, in a block of its own or as a field of a struct: what its writers and its String do. -/
import Derived.Test.YtppfgcbigohkkaaDoorRunesCount
import Derived.Lib.FrozenHead2
import Derived.Lib.UnsafeStr
import Derived.Shelf.Strings.Builder1
namespace Go.Proofs.YtppfgcbigohkkaaDoor
open Go.ChangeShapes Go.WideShapes Go.ChangeAt Go.RowKit Go.Shelf
set_option linter.unusedSimpArgs false
set_option linter.unusedVariables false

/-- The builder lies in block b behind the cells 'pre', and holds bs. -/
def Bld (T : TypeId) (B b : Nat) (pre post : List Value) (bs : List UInt8) (w : World) : Prop :=
  B ≤ b ∧ T ≠ 5 ∧ ∃ p v, (p = .pointer none ∨ p = .pointer (some ⟨b, pre.length, none⟩)) ∧ w.heap[b]? = some (.cells (pre ++ p :: v :: post).toArray T (0, 0)) ∧ w.ownsRowF B 5 1 v bs.length (Lib.byteCells bs) ∧ (bs = [] → v = .slice none 0 0)

theorem set_at (pre post : List Value) (p q v : Value) : (pre ++ p :: v :: post).set pre.length q = pre ++ q :: v :: post := by
  simp
theorem set_at1 (pre post : List Value) (p q v : Value) : (pre ++ p :: v :: post).set (pre.length + 1) q = pre ++ p :: q :: post := by
  rw [List.set_append_right _ _ (by omega)]
  have : pre.length + 1 - pre.length = 1 := by omega
  rw [this]; rfl
theorem heap_set {w : World} {b j : Nat} {cs : List Value} {T : TypeId} (h : w.heap[b]? = some (.cells cs.toArray T (0, 0))) (q : Value) :
    (w.setCell ⟨b, j, none⟩ q).heap[b]? = some (.cells (cs.set j q).toArray T (0, 0)) := by
  simp [World.setCell, Array.getElem?_modify, h]
theorem own_set {w : World} {B b j : Nat} {cs : List Value} {T : TypeId} {v : Value} {n : Nat} {xs : List Value} (h : w.heap[b]? = some (.cells cs.toArray T (0, 0))) (hT : T ≠ 5) (hown : w.ownsRowF B 5 1 v n xs) (q : Value) :
    (w.setCell ⟨b, j, none⟩ q).ownsRowF B 5 1 v n xs :=
  hown.kept (row := some b) ⟨rfl, rfl, rfl, by simp [World.setCell], fun k _ hk => Below.heap_setCell _ _ _ _ (fun e => hk (by simp [e]))⟩ (Or.inr (Lib.ownBlock_neF hown h hT))
theorem lt_of_heap {w : World} {b : Nat} {x : Obj} (h : w.heap[b]? = some x) : b < w.heap.size := (Array.getElem?_eq_some_iff.1 h).1

theorem info8 : (Tryd.prog.info? 5).map (fun i => (i.zero, i.size, i.bytes)) = some (some (.int .u8 0), 1, 1) := by kernel_rfl
theorem sizeBuilder : (Tryd.prog.info? 48).map (·.size) = some 2 := by kernel_rfl
/-- Where a builder can lie: alone, or as the second field of the struct 'quoted'. -/
def Home (T : TypeId) (o n : Nat) : Prop := liesAt Tryd.prog Tryd.prog.depth T (n / Tryd.prog.cellsOf T) o 48 1 = true
theorem home0 : Home 48 0 2 := by unfold Home; kernel_rfl
theorem home1 : Home 59 1 6 := by unfold Home; kernel_rfl

set_option maxHeartbeats 1000000 in
set_option maxRecDepth 100000 in
theorem copyCheck_used (b o : Nat) (w : World) (h0 : w.cell? ⟨b, o, none⟩ = some (.pointer (some ⟨b, o, none⟩))) :
    Calls Tryd.prog 55 #[.pointer (some ⟨b, o, none⟩)] w fun e w' => e = .returned (.tuple #[]) ∧ w' = w := by
  obtain ⟨j, hj, _⟩ := Option.map_eq_some_iff.1 sizeBuilder
  go_enter Tryd.func55, Tryd.ntmps55
  go_wp2
  rw [Lib.run_neq_ptr_same w _ Tryd.underlying46 hj]
  go_wp2
  go_end0
  exact ⟨rfl, rfl⟩

set_option maxHeartbeats 1000000 in
set_option maxRecDepth 100000 in
theorem copyCheck_fresh (T : TypeId) (b o n : Nat) (w : World) (h0 : w.cell? ⟨b, o, none⟩ = some (.pointer none)) (hsh : w.shape? b = some (T, n)) (ho : o < n) (hl : Home T o n) (hfz : w.frozen? ⟨b, o, none⟩ = false) :
    Calls Tryd.prog 55 #[.pointer (some ⟨b, o, none⟩)] w fun e w' => e = .returned (.tuple #[]) ∧ w' = w.setCell ⟨b, o, none⟩ (.pointer (some ⟨b, o, none⟩)) := by
  obtain ⟨j, hj, hjs⟩ := Option.map_eq_some_iff.1 sizeBuilder
  have hr1 := World.cell?_setCell_same w ⟨b, o, none⟩ (.pointer (some ⟨b, o, none⟩)) h0
  go_enter Tryd.func55, Tryd.ntmps55
  go_wp2
  rw [Lib.run_to_unsafe w ⟨b, o, none⟩ Tryd.underlying46 Tryd.underlying76 hj (by rw [hjs]; decide) hsh ho]
  simp only [Result.andThen]
  rw [Oper.upon_value]
  go_wp2
  rw [run_callFunc_extern Tryd.func64 (by kernel_rfl) (by kernel_rfl) (by kernel_rfl) (e := Extern.AbiNoEscape.same) (by kernel_rfl)]
  rw [Lib.run_noEscape]
  simp only [Result.andThen]
  rw [Oper.upon_value]
  go_wp2
  rw [Lib.run_from_unsafe w ⟨b, o, none⟩ Tryd.underlying76 Tryd.underlying46 hj hsh hl]
  simp only [Result.andThen]
  rw [Oper.upon_value]
  go_wp2
  go_end0
  exact ⟨rfl, rfl⟩

/-- copyCheck: behind it the builder knows its own place. -/
theorem copyCheck_w (T : TypeId) (B b : Nat) (pre post : List Value) (bs : List UInt8) (w : World) (h : Bld T B b pre post bs w) (hl : Home T pre.length (pre.length + 2 + post.length)) :
    Calls Tryd.prog 55 #[.pointer (some ⟨b, pre.length, none⟩)] w fun e w' => e = .returned (.tuple #[]) ∧
      (∃ v, w'.heap[b]? = some (.cells (pre ++ (.pointer (some ⟨b, pre.length, none⟩)) :: v :: post).toArray T (0, 0)) ∧ w'.ownsRowF B 5 1 v bs.length (Lib.byteCells bs)) ∧ Below B w w' ∧ Lib.OthersKept 5 (some b) w w' := by
  obtain ⟨hB, hT, p, v, hp, hb, hown, _⟩ := h
  have hc : w.cell? ⟨b, pre.length, none⟩ = some p := by rw [Lib.cell_of_heap hb]; simp
  rcases hp with rfl | rfl
  · have hsh : w.shape? b = some (T, pre.length + 2 + post.length) := by simp [World.shape?, hb]; omega
    refine (copyCheck_fresh T b pre.length _ w hc hsh (by omega) hl (Lib.frozen_of_heap hb _)).mono ?_
    rintro e w' ⟨rfl, rfl⟩
    refine ⟨rfl, ⟨v, ?_, own_set hb hT hown _⟩, (Below.refl B w).setCell (p := ⟨b, pre.length, none⟩) hB _, (Lib.OthersKept.refl _ _ w).setCell ⟨b, pre.length, none⟩ rfl _⟩
    rw [heap_set hb, set_at]
  · refine (copyCheck_used b pre.length w hc).mono ?_
    rintro e w' ⟨rfl, rfl⟩
    exact ⟨rfl, ⟨v, hb, hown⟩, Below.refl B _, Lib.OthersKept.refl _ _ _⟩

/-- What a writer's last store leaves. -/
theorem Bld.put {T : TypeId} {B b : Nat} {pre post : List Value} {v v' : Value} {bs : List UInt8} {w : World} (hB : B ≤ b) (hT : T ≠ 5)
    (hb : w.heap[b]? = some (.cells (pre ++ (.pointer (some ⟨b, pre.length, none⟩)) :: v :: post).toArray T (0, 0))) (hown : w.ownsRowF B 5 1 v' bs.length (Lib.byteCells bs)) (hn : bs ≠ []) :
    Bld T B b pre post bs (w.setCell ⟨b, pre.length + 1, none⟩ v') :=
  ⟨hB, hT, _, v', Or.inr rfl, by rw [heap_set hb, set_at1], own_set hb hT hown _, fun e => absurd e hn⟩
theorem byteCells_one (c : UInt8) : Lib.byteCells [c] = [.int .u8 (c.toNat : Int)] := by simp [Lib.byteCells]

set_option maxHeartbeats 2000000 in
set_option maxRecDepth 100000 in
theorem writeByte_w (T : TypeId) (B b : Nat) (pre post : List Value) (bs : List UInt8) (c : UInt8) (w : World) (h : Bld T B b pre post bs w) (hl : Home T pre.length (pre.length + 2 + post.length)) (hlen : bs.length + 1 ≤ 140737488355328) (hBw : B ≤ w.heap.size) :
    Calls Tryd.prog 38 #[.pointer (some ⟨b, pre.length, none⟩), .int .u8 (c.toNat : Int)] w fun e w' => e = .returned .nilIface ∧ Bld T B b pre post (bs ++ [c]) w' ∧ Below B w w' ∧ Lib.OthersKept 5 (some b) w w' := by
  obtain ⟨i0, hi, hz0, hz1, hz2⟩ := info_parts info8
  go_enter Tryd.func38, Tryd.ntmps38
  go_wp2_with (go_at_call 55; refine (copyCheck_w T B b pre post bs _ h hl).mono ?_)
  rintro e w1 ⟨rfl, ⟨v, hbk, hown⟩, hb1, hk1⟩
  obtain ⟨hB, hT, _⟩ := h
  have hne := Lib.ownBlock_neF hown hbk hT
  have c0 : w1.cell? ⟨b, pre.length, none⟩ = some (.pointer (some ⟨b, pre.length, none⟩)) := by rw [Lib.cell_of_heap hbk]; simp
  have c1 : w1.cell? ⟨b, pre.length + 1, none⟩ = some v := by rw [Lib.cell_of_heap hbk]; simp
  go_wp2_with (at_builtin; refine wpList_append_ownF _ rfl _ _ 38 rfl B 5 i0 (.int .u8 0) 1 1 Tryd.underlying38 hi hz0 hz1 hz2 rfl (by decide) _ _ _ rfl (hown.alloc _) ⟨w1.heap.size, 0, none⟩ 1 1 [.int .u8 (c.toNat : Int)] rfl rfl ?c1 ?c2 ?c3 ?c4 ?c5 ?_)
  case c1 =>
    intro j u hj
    match j, hj with
    | 0, hj => simp at hj; subst hj; simp [Addr.add]
  case c2 => intro u hu; simp at hu; subst hu; rfl
  case c3 => unfold maxLen; omega
  case c4 => omega
  case c5 => have := hb1.size; simp; omega
  intro v' w2 hown' hgrow _
  have hlt := lt_of_heap hbk
  have hb2 : w2.heap[b]? = some (.cells (pre ++ (.pointer (some ⟨b, pre.length, none⟩)) :: v :: post).toArray T (0, 0)) := by
    rw [hgrow.block b (by simp; omega) (fun e => hne e.symm), Lib.alloc_old w1 _ b hlt]
    exact hbk
  have d1 : w2.cell? ⟨b, pre.length + 1, none⟩ = some v := by rw [Lib.cell_of_heap hb2]; simp
  have f1 : w2.frozen? ⟨b, pre.length + 1, none⟩ = false := Lib.frozen_of_heap hb2 _
  obtain ⟨g, cap, rfl⟩ : ∃ g cap, v' = .slice (some ⟨g, 0, none⟩) (bs.length + 1) cap := by
    rcases hown'.2 with ⟨_, h0⟩ | ⟨g, cap, cur, fz, hv, _⟩
    · omega
    · exact ⟨g, cap, hv⟩
  go_wp2
  go_ret
  refine ⟨rfl, ?_, ?_, ((hk1.alloc _).grown hgrow (Lib.ownsRowF_kind (hown.alloc _))).setCell ⟨b, pre.length + 1, none⟩ rfl _⟩
  · exact Bld.put hB hT hb2 (bs := bs ++ [c]) (by rw [Lib.byteCells_append, byteCells_one]; simpa using hown') (by simp)
  · exact ((hb1.alloc (by have := hb1.size; omega) _).grown hgrow (by have := hb1.size; simp; omega) (fun k hk => (hown.lt k hk).1)).setCell (p := ⟨b, pre.length + 1, none⟩) hB _

set_option maxHeartbeats 2000000 in
set_option maxRecDepth 100000 in
theorem writeString_w (T : TypeId) (B b : Nat) (pre post : List Value) (bs : List UInt8) (s : ByteArray) (w : World) (h : Bld T B b pre post bs w) (hl : Home T pre.length (pre.length + 2 + post.length)) (hs0 : s.data.toList ≠ []) (hlen : bs.length + s.size ≤ 140737488355328) (hBw : B ≤ w.heap.size) :
    Calls Tryd.prog 57 #[.pointer (some ⟨b, pre.length, none⟩), .string s] w fun e w' => e = .returned (.tuple #[.int .i64 s.size, .nilIface]) ∧ Bld T B b pre post (bs ++ s.data.toList) w' ∧ Below B w w' ∧ Lib.OthersKept 5 (some b) w w' := by
  obtain ⟨i0, hi, hz0, hz1, hz2⟩ := info_parts info8
  go_enter Tryd.func57, Tryd.ntmps57
  go_wp2_with (go_at_call 55; refine (copyCheck_w T B b pre post bs _ h hl).mono ?_)
  rintro e w1 ⟨rfl, ⟨v, hbk, hown⟩, hb1, hk1⟩
  obtain ⟨hB, hT, _⟩ := h
  have hne := Lib.ownBlock_neF hown hbk hT
  have c0 : w1.cell? ⟨b, pre.length, none⟩ = some (.pointer (some ⟨b, pre.length, none⟩)) := by rw [Lib.cell_of_heap hbk]; simp
  have c1 : w1.cell? ⟨b, pre.length + 1, none⟩ = some v := by rw [Lib.cell_of_heap hbk]; simp
  go_wp2_with (at_builtin; refine Lib.wpList_append_own_stringF _ rfl _ _ 38 9 rfl B 5 i0 Tryd.underlying38 Tryd.underlying9 hi hz0 hz1 hz2 _ _ _ rfl hown s rfl ?c3 ?c4 ?c5 ?_)
  case c3 => unfold maxLen; omega
  case c4 => omega
  case c5 => have := hb1.size; omega
  intro v' w2 hown' hgrow _
  have hlt := lt_of_heap hbk
  have hb2 : w2.heap[b]? = some (.cells (pre ++ (.pointer (some ⟨b, pre.length, none⟩)) :: v :: post).toArray T (0, 0)) := by
    rw [hgrow.block b hlt (fun e => hne e.symm)]
    exact hbk
  have d1 : w2.cell? ⟨b, pre.length + 1, none⟩ = some v := by rw [Lib.cell_of_heap hb2]; simp
  have f1 : w2.frozen? ⟨b, pre.length + 1, none⟩ = false := Lib.frozen_of_heap hb2 _
  obtain ⟨ao, n', cap, rfl⟩ : ∃ ao n' cap, v' = .slice ao n' cap := by
    rcases hown'.2 with ⟨hv, _⟩ | ⟨g, cap, cur, fz, hv, _⟩
    · exact ⟨_, _, _, hv⟩
    · exact ⟨_, _, _, hv⟩
  go_wp2
  go_ret2
  refine ⟨rfl, ?_, ?_, (hk1.grown hgrow (Lib.ownsRowF_kind hown)).setCell ⟨b, pre.length + 1, none⟩ rfl _⟩
  · refine Bld.put hB hT hb2 (bs := bs ++ s.data.toList) ?_ (by simp [hs0])
    rw [Lib.byteCells_append]
    have e1 : Lib.byteCells s.data.toList = Lib.strCells s := by simp [Lib.byteCells, Lib.strCells]
    have e2 : (bs ++ s.data.toList).length = bs.length + s.size := by rw [List.length_append]; rfl
    rw [e1, e2]
    exact hown'
  · exact (hb1.grown hgrow (by have := hb1.size; omega) (fun k hk => (hown.lt k hk).1)).setCell (p := ⟨b, pre.length + 1, none⟩) hB _

set_option maxHeartbeats 2000000 in
set_option maxRecDepth 100000 in
theorem writeRune_w (T : TypeId) (B b : Nat) (pre post : List Value) (bs : List UInt8) (r : Nat) (hr : r ≤ 1114111) (w : World) (h : Bld T B b pre post bs w) (hl : Home T pre.length (pre.length + 2 + post.length)) (hlen : bs.length + 4 ≤ 140737488355328) (hBw : B ≤ w.heap.size) :
    Calls Tryd.prog 56 #[.pointer (some ⟨b, pre.length, none⟩), .int .i32 (r : Int)] w fun e w' => e = .returned (.tuple #[.int .i64 (e1 r).length, .nilIface]) ∧ Bld T B b pre post (bs ++ e1 r) w' ∧ Below B w w' ∧ Lib.OthersKept 5 (some b) w w' := by
  go_enter Tryd.func56, Tryd.ntmps56
  go_wp2_with (go_at_call 55; refine (copyCheck_w T B b pre post bs _ h hl).mono ?_)
  rintro e w1 ⟨rfl, ⟨v, hbk, hown⟩, hb1, hk1⟩
  obtain ⟨hB, hT, _⟩ := h
  have hne := Lib.ownBlock_neF hown hbk hT
  obtain ⟨ao, cap, rfl⟩ : ∃ ao cap, v = .slice ao bs.length cap := by
    rcases hown.2 with ⟨hv, h0⟩ | ⟨g, cap, cur, fz, hv, _⟩
    · exact ⟨none, 0, by rw [hv, h0]⟩
    · exact ⟨_, _, hv⟩
  have c1 : w1.cell? ⟨b, pre.length + 1, none⟩ = some (.slice ao bs.length cap) := by rw [Lib.cell_of_heap hbk]; simp
  have hle := Lib.runeCells_le (r : Int)
  go_wp2_with (go_at_call 65; refine (appendRune_w B _ _ _ (r : Int) (by omega) (by omega) _ hown (by omega) (by have := hb1.size; omega)).mono ?_)
  rintro e w2 ⟨v', rfl, hown', o, hgrow⟩
  have hlt := lt_of_heap hbk
  have hb2 : w2.heap[b]? = some (.cells (pre ++ (.pointer (some ⟨b, pre.length, none⟩)) :: (.slice ao bs.length cap) :: post).toArray T (0, 0)) := by
    rw [hgrow.block b (by simp; omega) (fun e => hne e.symm), Lib.alloc_old w1 _ b hlt]
    exact hbk
  have d1 : w2.cell? ⟨b, pre.length + 1, none⟩ = some (.slice ao bs.length cap) := by rw [Lib.cell_of_heap hb2]; simp
  have f1 : w2.frozen? ⟨b, pre.length + 1, none⟩ = false := Lib.frozen_of_heap hb2 _
  obtain ⟨g, cap', rfl⟩ : ∃ g cap', v' = .slice (some ⟨g, 0, none⟩) (bs.length + (Lib.runeCells r).length) cap' := by
    rcases hown'.2 with ⟨_, h0⟩ | ⟨g, cap, cur, fz, hv, _⟩
    · omega
    · exact ⟨g, cap, hv⟩
  have d2 : (w2.setCell ⟨b, pre.length + 1, none⟩ (.slice (some ⟨g, 0, none⟩) (bs.length + (Lib.runeCells r).length) cap')).cell? ⟨b, pre.length + 1, none⟩ = some (.slice (some ⟨g, 0, none⟩) (bs.length + (Lib.runeCells r).length) cap') := World.cell?_setCell_same _ _ _ d1
  go_wp2
  go_ret2
  have hrl : (Lib.runeCells r).length = (e1 r).length := Lib.runeCells_length r
  refine ⟨?_, ?_, ?_, ((hk1.alloc _).grown hgrow (Lib.ownsRowF_kind (hown.alloc _))).setCell ⟨b, pre.length + 1, none⟩ rfl _⟩
  · rw [hrl]
    congr 3
    go_num
  · refine Bld.put hB hT hb2 (bs := bs ++ e1 r) ?_ (by simp [e1_ne])
    rw [Lib.byteCells_append, show Lib.byteCells (e1 r) = Lib.runeCells (r : Int) from Lib.byteCells_encodeRune r, List.length_append, ← hrl]
    exact hown'
  · exact ((hb1.alloc (by have := hb1.size; omega) _).grown hgrow (by have := hb1.size; simp; omega) (fun k hk => (hown.lt k hk).1)).setCell (p := ⟨b, pre.length + 1, none⟩) hB _

theorem cells8 : Tryd.prog.cellsOf 5 = 1 := by kernel_rfl
set_option maxHeartbeats 2000000 in
set_option maxRecDepth 100000 in
theorem string_w (T : TypeId) (B b : Nat) (pre post : List Value) (l : List UInt8) (w : World) (h : Bld T B b pre post l w) :
    Calls Tryd.prog 40 #[.pointer (some ⟨b, pre.length, none⟩)] w fun e w' => e = .returned (.string ⟨l.toArray⟩) ∧ Below B w w' := by
  obtain ⟨hB, hT, p, v, hp, hbk, hown, hemp⟩ := h
  by_cases h0 : l = []
  · subst h0
    obtain rfl := hemp rfl
    have c1 : w.drew.cell? ⟨b, pre.length + 1, none⟩ = some (.slice none 0 0) := by
      have : w.drew.heap[b]? = some (.cells (pre ++ p :: (.slice none 0 0) :: post).toArray T (0, 0)) := hbk
      rw [Lib.cell_of_heap this]; simp
    have hSD : (Builtin.unsafeSliceData_ #[38] 74 #[.slice none 0 0]).run Tryd.prog w.drew = .ok (.pointer none) w.drew := rfl
    have hUS : (Builtin.unsafeString_ #[74, 3] 9 #[.pointer none, .int .i64 0]).run Tryd.prog w.drew = .ok (.string .empty) w.drew := Lib.run_unsafeString_none w.drew _ _ _ none
    go_enter Tryd.func40, Tryd.ntmps40
    go_wp2
    go_region
    all_goals (go_wp2; go_ret; exact ⟨rfl, Below.drew (Below.refl B w)⟩)
  · have hl0 : l.length ≠ 0 := by simpa using h0
    obtain ⟨g, cap, cur, fz, rfl, hbg, hg, hfz, hnc, hcm, hcs, htake⟩ : ∃ g cap cur fz, v = .slice (some ⟨g, 0, none⟩) l.length cap ∧ B ≤ g ∧ w.heap[g]? = some (.cells cur 5 fz) ∧ fz.2 ≤ l.length * 1 ∧ l.length ≤ cap ∧ cap ≤ maxLen ∧ cur.size = cap * 1 ∧ cur.toList.take (l.length * 1) = Lib.byteCells l := by
      rcases hown.2 with ⟨_, hz⟩ | ⟨g, cap, cur, fz, hv, r⟩
      · exact absurd hz hl0
      · exact ⟨g, cap, cur, fz, hv, r⟩
    have c1 : w.drew.cell? ⟨b, pre.length + 1, none⟩ = some (.slice (some ⟨g, 0, none⟩) l.length cap) := by
      have : w.drew.heap[b]? = some (.cells (pre ++ p :: (.slice (some ⟨g, 0, none⟩) l.length cap) :: post).toArray T (0, 0)) := hbk
      rw [Lib.cell_of_heap this]; simp
    have hSD : (Builtin.unsafeSliceData_ #[38] 74 #[.slice (some ⟨g, 0, none⟩) l.length cap]).run Tryd.prog w.drew = .ok (.pointer (some ⟨g, 0, none⟩)) w.drew :=
      Lib.run_unsafeSliceData_row _ _ _ _ _ _ (by omega)
    have hUS : (Builtin.unsafeString_ #[74, 3] 9 #[.pointer (some ⟨g, 0, none⟩), .int .i64 l.length]).run Tryd.prog w.drew = .ok (.string ⟨l.toArray⟩) (w.drew.freeze ⟨g, 0, none⟩ l.length) := by
      refine Lib.run_unsafeString_row w.drew 74 3 9 5 Tryd.underlying74 cells8 g cur.size (by have hg' : w.drew.heap[g]? = some (.cells cur 5 fz) := hg; simp [World.shape?, hg']) l h0 (by omega) (by unfold maxLen at hcm; omega) ?_
      intro j x hx
      have := hown.cells (g := g) rfl j (.int .u8 x.toNat) (by simp [Lib.byteCells, hx])
      exact this
    go_enter Tryd.func40, Tryd.ntmps40
    go_wp2
    go_region
    all_goals (go_wp2; go_ret; exact ⟨rfl, Lib.below_freeze (Below.drew (Below.refl B w)) (p := ⟨g, 0, none⟩) hbg _⟩)

/-! ### a builder beside other work -/
theorem Bld.alloc {T : TypeId} {B b : Nat} {pre post : List Value} {bs : List UInt8} {w : World} (h : Bld T B b pre post bs w) (o : Obj) : Bld T B b pre post bs (w.alloc o) := by
  obtain ⟨hB, hT, p, v, hp, hb, hown, he⟩ := h
  exact ⟨hB, hT, p, v, hp, (Lib.alloc_old w o b (lt_of_heap hb)).trans hb, hown.alloc o, he⟩
theorem ownsRowF_iterAt {w : World} {B : Nat} {v : Value} {n : Nat} {xs : List Value} (hown : w.ownsRowF B 5 1 v n xs) {k : Nat} {s : ByteArray} {pos : Nat} (hk : w.heap[k]? = some (.stringIter s pos)) (pos' : Nat) : (w.iterAt k s pos').ownsRowF B 5 1 v n xs := by
  refine ⟨hown.1, ?_⟩
  rcases hown.2 with hn | ⟨g, cap, cur, fz, hv, hbg, hg, rest⟩
  · exact .inl hn
  · have hkg : g ≠ k := by
      intro e1
      rw [e1, hk] at hg
      cases hg
    exact .inr ⟨g, cap, cur, fz, hv, hbg, (Lib.iterAt_other w k g s pos' hkg).trans hg, rest⟩
theorem Bld.iterAt {T : TypeId} {B b : Nat} {pre post : List Value} {bs : List UInt8} {w : World} (h : Bld T B b pre post bs w) {k : Nat} {s : ByteArray} {pos : Nat} (hk : w.heap[k]? = some (.stringIter s pos)) (pos' : Nat) : Bld T B b pre post bs (w.iterAt k s pos') := by
  obtain ⟨hB, hT, p, v, hp, hb, hown, he⟩ := h
  have hkb : b ≠ k := by
    intro e1
    rw [e1, hk] at hb
    cases hb
  exact ⟨hB, hT, p, v, hp, (Lib.iterAt_other w k b s pos' hkb).trans hb, ownsRowF_iterAt hown hk pos', he⟩
theorem Bld.below {T : TypeId} {B b : Nat} {pre post : List Value} {bs : List UInt8} {w w' : World} (h : Bld T B b pre post bs w) (hb' : Below w.heap.size w w') : Bld T B b pre post bs w' := by
  obtain ⟨hB, hT, p, v, hp, hb, hown, he⟩ := h
  refine ⟨hB, hT, p, v, hp, (hb'.block b (lt_of_heap hb)).trans hb, ⟨hown.1, ?_⟩, he⟩
  rcases hown.2 with hn | ⟨g, cap, cur, fz, hv, hbg, hg, rest⟩
  · exact .inl hn
  · exact .inr ⟨g, cap, cur, fz, hv, hbg, (hb'.block g (lt_of_heap hg)).trans hg, rest⟩
end Go.Proofs.YtppfgcbigohkkaaDoor
