/- What package arena's row, Words and Cut answer. -/
import Derived.Test.YtdabigekdnibhaaArenaOps
import Derived.Deep.RegionHeld3
import Derived.Deep.RegionLaw
import Derived.Deep.CutRange
namespace Go.Proofs.Ytdabigekdnibhaa
open Go.ChangeShapes Go.WideShapes Go.ChangeAt Go.RowKit
set_option linter.unusedSimpArgs false
set_option linter.unusedVariables false
set_option maxRecDepth 2000

/-- words somewhere in memory -/
def LiesW (o : Option Addr) (l : List Int) (w : World) : Prop := ∀ (j : Nat) (x : Int), l[j]? = some x → ∃ a, o = some a ∧ w.cell? (a.add j) = some (.int .u64 x)
theorem LiesW.below {o : Option Addr} {l : List Int} {w w' : World} (h : LiesW o l w) (hb : Below w.heap.size w w') : LiesW o l w' := fun j x hx => by
  obtain ⟨a, ha, hc⟩ := h j x hx
  exact ⟨a, ha, (hb.cell (World.block_lt_of_cell? _ _ hc)).trans hc⟩
theorem Blk.lies {b : Nat} {l r : List Int} {w : World} (h : Blk b (l ++ r) w) : LiesW (some ⟨b, 0, none⟩) l w := fun j x hx => by
  have hj := (List.getElem?_eq_some_iff.1 hx).1
  refine ⟨_, rfl, ?_⟩
  rw [addr_add, Nat.zero_add]
  exact h.cell (by rw [List.getElem?_append_left hj]; exact hx)
theorem splice_zeros {l : List Int} {n : Nat} (h : l.length ≤ n) : splice (ws (List.replicate n 0)) 0 (ws l) = ws (l ++ List.replicate (n - l.length) 0) := by
  unfold splice
  rw [List.take_zero, List.nil_append, ws_append, Nat.zero_add, ws_length]
  congr 1
  simp [ws]
theorem oneSz : (Try.prog.info? 28).map (·.size) = some 1 := by kernel_rfl
set_option maxHeartbeats 1000000 in
theorem row_w (n : Nat) (o : Option Addr) (l : List Int) (c : Nat) (w : World) (hn : n ≤ 1048576) (hl : l.length ≤ n) (hL : LiesW o l w) :
    Calls Try.prog 31 #[.int .i64 (n : Int), .slice o l.length c] w fun e w' => e = .returned (.slice (some ⟨w.heap.size, 0, none⟩) n n) ∧ Blk w.heap.size (l ++ List.replicate (n - l.length) 0) w' ∧ Below w.heap.size w w' := by
  have hmk := run_make_row' (P := Try.prog) 35 28 (.int .u64 0) 8 Try.underlying35 infoW rfl .i64 .i64 n (by omega) (by omega) w
  obtain ⟨W, hW⟩ : ∃ W, W = w.alloc (.cells (madeCells #[.int .u64 0] n) 28) := ⟨_, rfl⟩
  have bW : Below w.heap.size w W := by rw [hW]; exact (Below.refl _ w).alloc (Nat.le_refl _) _
  have kW : Blk w.heap.size (List.replicate n 0) W := by rw [hW]; exact Blk.made w n
  rw [← hW] at hmk
  have hLW := hL.below bW
  have hs := splice_zeros hl
  have hmin : (ws l).length = Nat.min l.length n := by rw [ws_length]; exact (Nat.min_eq_left hl).symm
  have hsp := hid hs
  have hp : Hid (0 < (ws l).length → some (⟨w.heap.size, 0, none⟩ : Addr) = some ⟨w.heap.size, 0, none⟩ ∧ ∃ ad, o = some ad ∧ ∀ j v, (ws l)[j]? = some v → W.cell? (ad.add j) = some v) := by
    intro h
    refine ⟨rfl, ?_⟩
    have h0 : 0 < l.length := by rw [← ws_length]; exact h
    obtain ⟨a, rfl, _⟩ := hLW 0 l[0] (by simp)
    refine ⟨a, rfl, fun j v hv => ?_⟩
    obtain ⟨x, hx, rfl⟩ := ws_get hv
    obtain ⟨a', e, hc⟩ := hLW j x hx
    injection e with e; subst e
    exact hc
  have hq : Hid (0 + (ws l).length ≤ (ws (List.replicate n 0)).length) := by
    have : 0 + (ws l).length ≤ (ws (List.replicate n 0)).length := by rw [ws_length, ws_length, List.length_replicate]; omega
    exact this
  have hm := hid hmin
  clear hs hW hmin
  go_enter Try.func31, Try.ntmps31
  go_wp2_with (refine wpList_copy_splice rfl _ _ _ _ rfl 28 Try.underlying35 oneSz (some ⟨w.heap.size, 0, none⟩) o n n l.length c rfl rfl w.heap.size 0 (ws (List.replicate n 0)) 28 kW (ws l) hm.out hp.out hq.out (ws_one _) w.heap.size w bW (Nat.le_refl _) ?_)
  intro w2 HG HB
  have hG : Blk w.heap.size (l ++ List.replicate (n - l.length) 0) w2 := by
    unfold Blk
    rw [← hsp.out]
    exact HG
  clear HG kW
  go_wp2
  all_goals go_ret
  all_goals exact ⟨rfl, hG, HB⟩
set_option maxHeartbeats 1000000 in
theorem words_w (g : Nat) (F : Nat → Prop) (l : List Int) (n : Nat) (w : World) (h : Arn g F l n w) : Calls Try.prog 25 #[.pointer (some ⟨g, 0, none⟩)] w fun e w' => ∃ b, e = .returned (.slice (some ⟨b, 0, none⟩) l.length l.length) ∧ w.heap.size ≤ b ∧ Blk b l w' ∧ Below w.heap.size w w' := by
  have h0 := h
  obtain ⟨b, ⟨c0, c1, f0, f1⟩, hR, hne, hl, hn, p0, p1, p3⟩ := h
  have hLl := Blk.lies hR
  have hlz : (l.length : Int) ≤ 1048576 := by omega
  have hln : (l.length : Int) ≤ (n : Int) := by omega
  clear hR
  go_enter Try.func25, Try.ntmps25
  go_wp2_with fail
  go_region_held3 (fun w' => w'.cell? ⟨g, 0, none⟩ = some (.slice (some ⟨b, 0, none⟩) n n) ∧ w'.cell? ⟨g, 1, none⟩ = some (.int .i64 (l.length : Int))) (first | go_keep) (first | (go_at_call 31; refine (row_w l.length (some ⟨b, 0, none⟩) l n _ (by omega) (Nat.le_refl _) (hLl.below (below_drewN w 1))).mono ?_; rintro e w2 ⟨rfl, hG, hB⟩; have hG' : Blk w.heap.size l w2 := (by simpa using hG); have c0' : w2.cell? ⟨g, 0, none⟩ = some (.slice (some ⟨b, 0, none⟩) n n) := (hB.cell (World.block_lt_of_cell? _ _ c0)).trans c0; have c1' : w2.cell? ⟨g, 1, none⟩ = some (.int .i64 (l.length : Int)) := (hB.cell (World.block_lt_of_cell? _ _ c1)).trans c1))
  go_wp2
  all_goals go_ret
  all_goals exact ⟨w.heap.size, rfl, Nat.le_refl _, hG', (below_drewN w 1).trans hB⟩
/-- clear(s), s a part of a block that is known whole, as a step of a region that draws its order -/
theorem step_clear {ops : Array Oper} {o : Oper} {a : Act} {w : World} {K : Act → World → Prop} {Q : Exit → Act → World → Prop} {E : Prop} (hgd : o.guard = none) (s : Operand)
    (ho : o.op = .call { callee := .builtin .clear, args := #[s], argTypes := #[35] }) (sp : Option Addr) (m c : Nat) (hs : a.eval s = .slice sp m c) (b off : Nat) (L : List Int) (hg : Blk b L w) (hpos : 0 < m → sp = some ⟨b, off, none⟩) (hfit : off + m ≤ L.length)
    (hK : ∀ w', Hid (Blk b (L.take off ++ (List.replicate m 0 ++ L.drop (off + m))) w') → Kept (fun k => k = b) w w' → K (a.put o.dst (.tuple #[])) w') :
    if Region.wanted o (yielded ops a.tmps) = true then Oper.wp Try.prog o a w K Q else E := by
  have hw : Region.wanted o (yielded ops a.tmps) = true := by simp [Region.wanted, hgd]
  rw [if_pos hw]
  obtain ⟨i, hi, hz, hsz, hb⟩ := info_parts infoW
  by_cases h0 : m = 0
  · subst h0
    have hrun : (Builtin.clear_ #[35] o.type #[.slice sp 0 c]).run Try.prog w = .ok (.tuple #[]) w := by
      cases sp <;> simp [Builtin.clear_, run_underlying Try.underlying35, zeroValue, typeInfo, hi, hz, Builtin.zeroCells, storeCells]
    unfold Oper.wp
    simp [execOp, ho, resolve, invoke, builtin, hs, hrun, Result.andThen]
    refine hK w ?_ (Kept.refl _ _)
    show Blk _ _ _
    simp only [List.replicate_zero, List.nil_append, Nat.add_zero, List.take_append_drop]
    exact hg
  · obtain rfl := hpos (by omega)
    have hzc : (Builtin.zeroCells (Value.int IntKind.u64 0).cells m).toList = ws (List.replicate m 0) := by
      simp [Builtin.zeroCells, ws, Value.cells]
      apply List.ext_getElem
      · simp
      · intro i h1 h2
        simp [Nat.mod_one]
    have hst := run_storeCells_at Try.prog b off 28 (ws (List.replicate m 0)) 0 (ws L).toArray w hg (by simp [ws_length]; omega) (ws_one _)
    simp only [Nat.add_zero] at hst
    obtain ⟨q, rfl⟩ : ∃ q, m = q + 1 := ⟨m - 1, by omega⟩
    have hrun : (Builtin.clear_ #[35] o.type #[.slice (some ⟨b, off, none⟩) (q + 1) c]).run Try.prog w = .ok (.tuple #[]) (w.setRow b (((ws L).toArray.toList.take off) ++ ws (List.replicate (q + 1) 0) ++ ((ws L).toArray.toList.drop (off + (ws (List.replicate (q + 1) 0)).length))).toArray) := by
      simp [Builtin.clear_, run_underlying Try.underlying35, zeroValue, typeInfo, hi, hz, hzc, hst]
    unfold Oper.wp
    simp only [execOp, ho, resolve, invoke, builtin, hs, hrun, Result.andThen, Sem.run_bind, Sem.run_pure, Result.andThen_ok, List.map_toArray, List.map_cons, List.map_nil]
    refine hK _ ?_ ⟨rfl, rfl, rfl, by simp [World.setRow], fun k hk hn => setRow_other w b k _ hn⟩
    show Blk _ _ _
    unfold Blk
    rw [setRow_heap w b _ _ _ _ hg]
    congr 3
    simp only [List.toList_toArray, ws_length, List.length_replicate, ws_append, List.append_assoc]
    simp [ws, List.map_take, List.map_drop]
end Go.Proofs.Ytdabigekdnibhaa
