/- What each function of the reference's memory answers, but Objects. -/
import Derived.Test.YtdabigekdnibhaaArenaCut2
namespace Go.Proofs.Ytdabigekdnibhaa
open Go.ChangeShapes Go.WideShapes Go.ChangeAt Go.RowKit
set_option linter.unusedSimpArgs false
set_option linter.unusedVariables false
set_option maxRecDepth 2000

theorem RowW.set {q c j : Nat} {l : List Int} {x : Int} {w : World} (h : RowW (.slice (some ⟨q, 0, none⟩) l.length c) l w) (hj : j < l.length) : RowW (.slice (some ⟨q, 0, none⟩) l.length c) (l.set j x) (w.setCell ⟨q, j, none⟩ (.int .u64 x)) := by
  obtain ⟨h1, ⟨e, _⟩ | ⟨g, cap, cur, e, hg, hc, hn, hm, hs, ht⟩⟩ := h
  · cases e
  · cases e
    have hlen : (l.set j x).length = l.length := List.length_set
    refine ⟨by rw [ws_length, hlen, Nat.mul_one], .inr ⟨q, c, cur.setIfInBounds j (.int .u64 x), by rw [hlen], hg, ?_, by rw [hlen]; exact hn, hm, by rw [Array.size_setIfInBounds]; exact hs, ?_⟩⟩
    · simp [World.setCell, Array.getElem?_modify, hc]
    · rw [hlen]
      have e2 : (cur.setIfInBounds j (Value.int IntKind.u64 x)).toList = cur.toList.set j (.int .u64 x) := by simp
      rw [e2, List.take_set, ht]
      simp [ws, List.map_set]
theorem RowW.frozen {q c : Nat} {l : List Int} {w : World} (h : RowW (.slice (some ⟨q, 0, none⟩) l.length c) l w) (j : Nat) : w.frozen? ⟨q, j, none⟩ = false := by
  obtain ⟨h1, ⟨e, _⟩ | ⟨g, cap, cur, e, hg, hc, hn, hm, hs, ht⟩⟩ := h
  · cases e
  · cases e
    simp [World.frozen?, hc]
theorem RowW.cellq {q c j : Nat} {l : List Int} {x : Int} {w : World} (h : RowW (.slice (some ⟨q, 0, none⟩) l.length c) l w) (hj : l[j]? = some x) : w.cell? ⟨q, j, none⟩ = some (.int .u64 x) := by
  obtain ⟨o, c', e, _, hc⟩ := h.shape
  obtain ⟨a, rfl, hx⟩ := hc j x hj
  cases e
  rwa [addr_add, Nat.zero_add] at hx
theorem RowW.sort {v : Value} {l : List Int} {w : World} (h : RowW v l w) : (v = .slice none 0 0 ∧ l = []) ∨ ∃ q c, v = .slice (some ⟨q, 0, none⟩) l.length c ∧ l.length ≤ c ∧ c ≤ maxLen := by
  obtain ⟨h1, ⟨rfl, h2⟩ | ⟨g, cap, cur, rfl, hg, hc, hn, hm, rest⟩⟩ := h
  · exact .inl ⟨rfl, List.eq_nil_of_length_eq_zero h2⟩
  · exact .inr ⟨g, cap, rfl, hn, hm⟩
theorem RowW.cut {q c u : Nat} {l : List Int} {w : World} (h : RowW (.slice (some ⟨q, 0, none⟩) l.length c) l w) (hu : u ≤ l.length) : RowW (.slice (some ⟨q, 0, none⟩) u c) (l.take u) w := by
  obtain ⟨h1, ⟨e, _⟩ | ⟨g, cap, cur, e, hg, hc, hn, hm, hs, ht⟩⟩ := h
  · cases e
  · cases e
    have hlen : (l.take u).length = u := by rw [List.length_take]; omega
    refine ⟨by rw [ws_length, hlen, Nat.mul_one], .inr ⟨q, c, cur, by rw [hlen], hg, hc, by rw [hlen]; omega, hm, hs, ?_⟩⟩
    rw [hlen]
    rw [Nat.mul_one] at ht ⊢
    have : cur.toList.take u = (cur.toList.take l.length).take u := by rw [List.take_take]; congr 1; omega
    rw [this, ht]
    simp [ws, List.map_take]
theorem mm_new (w : World) (n : Nat) (hn : n ≤ 1048576) : Mm w.heap.size (fun k => k = w.heap.size) [] n (w.alloc (.cells #[.slice none 0 0, .int .i64 (n : Int)] 49)) :=
  ⟨.slice none 0 0, Box.new w _ _ _, World.ownsRow_nil _ _ _ _, by simp [Value.ownBlock], Nat.zero_le _, hn, rfl, by simp [Value.ownBlock], fun k hk => by simp; omega⟩
theorem rnew_w (s : Int) (w : World) : Calls Try.prog 16 #[.int .i64 s] w fun e w' => ∃ g, e = .returned (.pointer (some ⟨g, 0, none⟩)) ∧ ∃ F, Mm g F [] (newN s) w' ∧ (∀ k, F k → w.heap.size ≤ k) ∧ Below w.heap.size w w' := by
  by_cases h0 : s < 0 ∨ 1048576 < s
  · have e : newN s = 0 := by unfold newN; rw [if_neg (by omega)]
    have hM := mm_new w 0 (by omega)
    simp only [Int.ofNat_zero, Int.natCast_zero, Int.ofNat_eq_natCast, Int.cast_ofNat_Int] at hM
    rw [e]
    rcases h0 with h0 | h0
    all_goals go_enter Try.func16, Try.ntmps16
    all_goals go_wp2
    all_goals go_ret
    all_goals exact ⟨_, rfl, _, hM, fun k hk => by omega, (Below.refl _ w).alloc (Nat.le_refl _) _⟩
  · obtain ⟨n, rfl⟩ := Int.eq_ofNat_of_zero_le (show 0 ≤ s by omega)
    have hM := mm_new w n (by omega)
    have e : newN (n : Int) = n := by unfold newN; rw [if_pos (by omega)]; omega
    rw [e]
    clear e
    have h1 : ¬ (n : Int) < 0 := by omega
    have h2 : ¬ 1048576 < (n : Int) := by omega
    clear h0
    go_enter Try.func16, Try.ntmps16
    go_wp2
    all_goals go_ret
    all_goals exact ⟨_, rfl, _, hM, fun k hk => by omega, (Below.refl _ w).alloc (Nat.le_refl _) _⟩
theorem rget_w (g : Nat) (F : Nat → Prop) (l : List Int) (n : Nat) (i : Int) (w : World) (h : Mm g F l n w) : Calls Try.prog 20 #[.pointer (some ⟨g, 0, none⟩), .int .i64 i] w fun e w' => e = .returned (.tuple #[.int .u64 (getV l i), .bool (inB l i)]) ∧ w' = w := by
  obtain ⟨v, ⟨c0, c1, f0, f1⟩, hR, hne, hl, hn, p0, p1, p3⟩ := h
  obtain ⟨o, c, rfl, hc, hL⟩ := hR.shape
  cases hB : inB l i
  · have e : getV l i = 0 := by unfold getV; rw [hB]; rfl
    rw [e]
    have hh : i < 0 ∨ (¬ i < 0 ∧ (l.length : Int) ≤ i) := by unfold inB at hB; have := of_decide_eq_false hB; omega
    clear hB e hL hR
    rcases hh with h1 | ⟨h1, h2⟩
    all_goals go_enter Try.func20, Try.ntmps20
    all_goals go_wp2
    all_goals go_ret2
    all_goals exact ⟨rfl, rfl⟩
  · have hi : 0 ≤ i ∧ i < (l.length : Int) := by unfold inB at hB; exact of_decide_eq_true hB
    obtain ⟨j, rfl⟩ := Int.eq_ofNat_of_zero_le hi.1
    have hj : j < l.length := by omega
    obtain ⟨y, hy⟩ : ∃ y, l[j]? = some y := ⟨l[j], by simp⟩
    obtain ⟨a, rfl, hca⟩ := hL j y hy
    have e : getV l (j : Int) = y := by unfold getV; rw [hB]; simp [List.getD, hy]
    rw [e]
    have h1 : ¬ (j : Int) < 0 := by omega
    have h2 : ¬ (l.length : Int) ≤ (j : Int) := by omega
    have h3 : (j : Int) < (l.length : Int) := by omega
    clear e hB hL hR hy hi
    go_enter Try.func20, Try.ntmps20
    go_wp2
    all_goals go_ret2
    all_goals exact ⟨rfl, rfl⟩
theorem mm_set {g : Nat} {F : Nat → Prop} {l : List Int} {n q c j : Nat} {x : Int} {w : World} (hB : Box g (.slice (some ⟨q, 0, none⟩) l.length c) (.int .i64 (n : Int)) w) (hR : RowW (.slice (some ⟨q, 0, none⟩) l.length c) l w) (hne : (Value.slice (some ⟨q, 0, none⟩) l.length c).ownBlock ≠ some g) (hl : l.length ≤ n) (hn : n ≤ 1048576) (p0 : F g) (p1 : ∀ k, (Value.slice (some ⟨q, 0, none⟩) l.length c).ownBlock = some k → F k) (p3 : ∀ k, F k → k < w.heap.size) (hj : j < l.length) :
    Mm g F (l.set j x) n (w.setCell ⟨q, j, none⟩ (.int .u64 x)) ∧ Kept F w (w.setCell ⟨q, j, none⟩ (.int .u64 x)) := by
  have hk : Kept (fun k => k = q) w (w.setCell ⟨q, j, none⟩ (.int .u64 x)) := Kept.of_set (F := fun k => k = q) (p := ⟨q, j, none⟩) w rfl _
  have hqg : g ≠ q := fun e => hne (by simp [Value.ownBlock, e])
  have hlen : (l.set j x).length = l.length := List.length_set
  refine ⟨⟨.slice (some ⟨q, 0, none⟩) l.length c, hB.of_block (hk.block g hB.lt hqg), ?_, hne, by rw [hlen]; exact hl, hn, p0, p1, fun k hk => by simpa using p3 k hk⟩, hk.mono fun k e => p1 k (by simp [Value.ownBlock, e])⟩
  have := hR.set (x := x) hj
  exact this
theorem rset_w (g : Nat) (F : Nat → Prop) (l : List Int) (n : Nat) (i x : Int) (w : World) (h : Mm g F l n w) : Calls Try.prog 19 #[.pointer (some ⟨g, 0, none⟩), .int .i64 i, .int .u64 x] w fun e w' => e = .returned (.bool (inB l i)) ∧ Mm g F (setL l i x) n w' ∧ Kept F w w' := by
  have h0 := h
  obtain ⟨v, hBx, hR, hne, hl, hn, p0, p1, p3⟩ := h
  have hBx0 := hBx
  obtain ⟨c0, c1, f0, f1⟩ := hBx0
  cases hB : inB l i
  · obtain ⟨o, c, rfl, hc, hL⟩ := hR.shape
    have e : setL l i x = l := by unfold setL; rw [hB]; rfl
    rw [e]
    have hh : i < 0 ∨ (¬ i < 0 ∧ (l.length : Int) ≤ i) := by unfold inB at hB; have := of_decide_eq_false hB; omega
    clear hB e hL hR hBx
    rcases hh with h1 | ⟨h1, h2⟩
    all_goals go_enter Try.func19, Try.ntmps19
    all_goals go_wp2
    all_goals go_ret
    all_goals exact ⟨rfl, h0, Kept.refl _ _⟩
  · have hi : 0 ≤ i ∧ i < (l.length : Int) := by unfold inB at hB; exact of_decide_eq_true hB
    obtain ⟨j, rfl⟩ := Int.eq_ofNat_of_zero_le hi.1
    have hj : j < l.length := by omega
    rcases hR.sort with ⟨_, rfl⟩ | ⟨q, c, rfl, hc, hm⟩
    · simp at hj
    have e : setL l (j : Int) x = l.set j x := by unfold setL; rw [hB]; simp
    obtain ⟨y, hy⟩ : ∃ y, l[j]? = some y := ⟨l[j], by simp⟩
    have hcq := hR.cellq hy
    have hfq := hR.frozen j
    have hA := mm_set (F := F) (x := x) hBx hR hne hl hn p0 p1 p3 hj
    rw [e]
    have h1 : ¬ (j : Int) < 0 := by omega
    have h2 : ¬ (l.length : Int) ≤ (j : Int) := by omega
    have h3 : (j : Int) < (l.length : Int) := by omega
    clear e hB hR hBx h0 hy hi
    go_enter Try.func19, Try.ntmps19
    go_wp2
    all_goals go_ret
    all_goals exact ⟨rfl, hA.1, hA.2⟩
theorem mm_take {g : Nat} {F : Nat → Prop} {l : List Int} {n k : Nat} {v v' : Value} {w w2 : World} (hB : Box g v (.int .i64 (n : Int)) w) (hn : n ≤ 1048576) (p0 : F g) (p1 : ∀ k, v.ownBlock = some k → F k) (p3 : ∀ k, F k → k < w.heap.size) (hne : v.ownBlock ≠ some g) (hk : l.length + k ≤ n)
    (hR : RowW v' (l ++ List.replicate k 0) w2) (hG : w.grownBy w2 v.ownBlock) (hv : v'.ownBlock = v.ownBlock ∨ v'.ownBlock = some w.heap.size) :
    Mm g (fun k => F k ∨ k = w.heap.size ∧ v'.ownBlock = some w.heap.size) (l ++ List.replicate k 0) n (w2.setCell ⟨g, 0, none⟩ v') ∧ Kept F w (w2.setCell ⟨g, 0, none⟩ v') ∧ Box g v (.int .i64 (n : Int)) w2 := by
  have hg := hB.lt
  have hB2 : Box g v (.int .i64 (n : Int)) w2 := hB.of_block (hG.block g hg (fun e => hne e.symm))
  have hK2 : Kept (fun k => k = g) w2 (w2.setCell ⟨g, 0, none⟩ v') := Kept.of_set (F := fun k => k = g) (p := ⟨g, 0, none⟩) w2 rfl _
  have hne2 : v'.ownBlock ≠ some g := by
    rcases hv with e | e
    · rw [e]; exact hne
    · rw [e]; intro e2; injection e2 with e2; omega
  have hsz := hK2.size
  have hsz2 := hG.size
  refine ⟨⟨v', hB2.set0 _, hR.of_block (fun k e => hK2.block k (hR.lt k e) (fun e2 => hne2 (e2 ▸ e))), hne2, by simp; omega, hn, .inl p0, fun k e => ?_, fun k hk => ?_⟩, (Kept.of_grown hG p1).trans (hK2.mono fun k e => e ▸ p0), hB2⟩
  · rcases hv with e1 | e1
    · exact .inl (p1 k (by rw [← e1]; exact e))
    · rw [e1] at e; injection e with e; exact .inr ⟨e.symm, e1⟩
  · rcases hk with hk | ⟨rfl, e⟩
    · have := p3 k hk; omega
    · have := hR.lt _ e; omega
set_option maxHeartbeats 1000000 in
theorem rtake_w (g : Nat) (F : Nat → Prop) (l : List Int) (n : Nat) (k : Int) (w : World) (h : Mm g F l n w) : Calls Try.prog 17 #[.pointer (some ⟨g, 0, none⟩), .int .i64 k] w fun e w' => e = .returned (.tuple #[.int .i64 (takeV l n k), .bool (takeB l n k)]) ∧ ∃ F', Mm g F' (takeL l n k) n w' ∧ Kept F w w' ∧ ∀ k, F' k → F k ∨ w.heap.size ≤ k := by
  have h0 := h
  obtain ⟨v, hBx, hR, hne, hl, hn, p0, p1, p3⟩ := h
  obtain ⟨o, c, rfl, hc, _⟩ := hR.shape
  have hBx0 := hBx
  obtain ⟨c0, c1, f0, f1⟩ := hBx0
  have hlz : (l.length : Int) ≤ 1048576 := by omega
  have hnz : (n : Int) ≤ 1048576 := by omega
  have hwd : IntKind.i64.wrap ((n : Int) - (l.length : Int)) = (n : Int) - (l.length : Int) := by rw [IntKind.wrap_i64]; omega
  cases hB : takeB l n k
  · have e1 : takeV l n k = 0 := by unfold takeV; rw [hB]; rfl
    have e2 : takeL l n k = l := by unfold takeL; rw [hB]; rfl
    rw [e1, e2]
    clear e1 e2
    have hh : k < 0 ∨ (¬ k < 0 ∧ (n : Int) - (l.length : Int) < k) := by
      unfold takeB at hB
      have := of_decide_eq_false hB
      omega
    clear hB hBx hR
    rcases hh with h1 | ⟨h1, h2⟩
    all_goals go_enter Try.func17, Try.ntmps17
    all_goals go_wp2_with fail
    all_goals go_quiet (fail)
    all_goals go_wp2
    all_goals go_ret2
    all_goals exact ⟨rfl, F, h0.below (below_drewN _ _), Kept.of_below (below_drewN _ _), fun k hk => .inl hk⟩
  · have hk : 0 ≤ k ∧ k ≤ (n : Int) - (l.length : Int) := by unfold takeB at hB; exact of_decide_eq_true hB
    obtain ⟨j, rfl⟩ := Int.eq_ofNat_of_zero_le hk.1
    have e1 : takeV l n (j : Int) = (l.length : Int) := by unfold takeV; rw [hB]; rfl
    have e2 : takeL l n (j : Int) = l ++ List.replicate j 0 := by unfold takeL; rw [hB]; simp
    rw [e1, e2]
    have h1 : ¬ (j : Int) < 0 := by omega
    have h2 : ¬ (n : Int) - (l.length : Int) < (j : Int) := by omega
    have hlj : l.length + j ≤ n := by omega
    clear e1 e2 hB h0 hk
    go_enter Try.func17, Try.ntmps17
    go_wp2_with fail
    go_quiet (fail)
    obtain ⟨v', w2, hr, hR2, hG, hv⟩ := append_zeros (w.drewN nq) 35 (.slice o l.length c) l j (RowW.of_block hR (fun _ _ => rfl)) (by omega)
    have hd := below_drewN w nq
    have hQ := mm_take (F := F) (w := w.drewN nq) (hBx.of_block rfl) hn p0 p1 p3 hne hlj hR2 hG hv
    obtain ⟨d0, d1, d2, d3⟩ := id hQ.2.2
    have hQH := hid hQ
    obtain ⟨o2, c2, rfl, _, _⟩ := hR2.shape
    obtain ⟨m2, hm2⟩ : ∃ m2, (l ++ List.replicate j 0).length = m2 := ⟨_, rfl⟩
    rw [hm2] at hr hQH
    clear hBx hR hG hv hQ hR2 hm2
    go_wp2_with (at_builtin; refine Lib.wpList_append_run _ rfl _ _ _ _ rfl _ _ rfl rfl _ _ hr ?_)
    all_goals go_ret2
    all_goals exact ⟨rfl, _, hQH.out.1, (Kept.of_below hd).trans hQH.out.2.1, fun k hk => hk.imp id (fun e => by have := e.1; simp at this; omega)⟩
theorem mm_cut {g : Nat} {F : Nat → Prop} {l : List Int} {n u s : Nat} {v v' : Value} {w : World} (hB : Box g v (.int .i64 (n : Int)) w) (hs : s ≤ 1048576) (hus : u ≤ s) (hu : u ≤ l.length) (p0 : F g) (p1 : ∀ k, v.ownBlock = some k → F k) (p3 : ∀ k, F k → k < w.heap.size) (hne : v.ownBlock ≠ some g) (e : v'.ownBlock = v.ownBlock) (hR : RowW v' (l.take u) w) :
    Mm g F (l.take u) s ((w.setCell ⟨g, 0, none⟩ v').setCell ⟨g, 1, none⟩ (.int .i64 (s : Int))) ∧ Kept F w ((w.setCell ⟨g, 0, none⟩ v').setCell ⟨g, 1, none⟩ (.int .i64 (s : Int))) := by
  have hK2 : Kept (fun k => k = g) w (w.setCell ⟨g, 0, none⟩ v') := Kept.of_set (F := fun k => k = g) (p := ⟨g, 0, none⟩) w rfl _
  have hK3 : Kept (fun k => k = g) (w.setCell ⟨g, 0, none⟩ v') ((w.setCell ⟨g, 0, none⟩ v').setCell ⟨g, 1, none⟩ (.int .i64 (s : Int))) := Kept.of_set (F := fun k => k = g) (p := ⟨g, 1, none⟩) _ rfl _
  have hK4 := hK2.trans hK3
  refine ⟨⟨v', (hB.set0 _).set1 _, hR.of_block (fun k e2 => hK4.block k (hR.lt k e2) (fun e3 => hne (by rw [← e, e2, e3]))), by rw [e]; exact hne, by rw [List.length_take]; omega, hs, p0, fun k e2 => p1 k (by rw [← e]; exact e2), fun k hk => by simpa using p3 k hk⟩, hK4.mono fun k e => e ▸ p0⟩
set_option maxHeartbeats 1000000 in
theorem rcut_w (g : Nat) (F : Nat → Prop) (l : List Int) (n : Nat) (u s : Int) (w : World) (h : Mm g F l n w) : Calls Try.prog 22 #[.pointer (some ⟨g, 0, none⟩), .int .i64 u, .int .i64 s] w fun e w' => e = .returned (.bool (cutB l u s)) ∧ Mm g F (cutL l u s) (cutN l n u s) w' ∧ Kept F w w' := by
  have h0 := h
  obtain ⟨v, hBx, hR, hne, hl, hn, p0, p1, p3⟩ := h
  have hBx0 := hBx
  obtain ⟨c0, c1, f0, f1⟩ := hBx0
  have hlz : (l.length : Int) ≤ 1048576 := by omega
  cases hC : cutB l u s
  · obtain ⟨o, c, rfl, hc, _⟩ := hR.shape
    have e1 : cutL l u s = l := by unfold cutL; rw [hC]; rfl
    have e2 : cutN l n u s = n := by unfold cutN; rw [hC]; rfl
    rw [e1, e2]
    have hh : u < 0 ∨ (¬ u < 0 ∧ (l.length : Int) < u) ∨ (¬ u < 0 ∧ ¬ (l.length : Int) < u ∧ s < u) ∨ (¬ u < 0 ∧ ¬ (l.length : Int) < u ∧ ¬ s < u ∧ 1048576 < s) := by
      unfold cutB at hC
      have := of_decide_eq_false hC
      omega
    clear hC e1 e2 hBx hR
    rcases hh with h1 | ⟨h1, h2⟩ | ⟨h1, h2, h3⟩ | ⟨h1, h2, h3, h4⟩
    all_goals go_enter Try.func22, Try.ntmps22
    all_goals go_wp2
    all_goals go_ret
    all_goals exact ⟨rfl, h0, Kept.refl _ _⟩
  · have hh : 0 ≤ u ∧ u ≤ (l.length : Int) ∧ u ≤ s ∧ s ≤ 1048576 := by unfold cutB at hC; exact of_decide_eq_true hC
    obtain ⟨u, rfl⟩ := Int.eq_ofNat_of_zero_le hh.1
    obtain ⟨s, rfl⟩ := Int.eq_ofNat_of_zero_le (show 0 ≤ s by omega)
    have e1 : cutL l (u : Int) (s : Int) = l.take u := by unfold cutL; rw [hC]; simp
    have e2 : cutN l n (u : Int) (s : Int) = s := by unfold cutN; rw [hC]; simp
    rw [e1, e2]
    have h1 : ¬ (u : Int) < 0 := by omega
    have h2 : ¬ (l.length : Int) < (u : Int) := by omega
    have h3 : ¬ (s : Int) < (u : Int) := by omega
    have h4 : ¬ 1048576 < (s : Int) := by omega
    have hu : u ≤ l.length := by omega
    have hus : u ≤ s := by omega
    have hs : s ≤ 1048576 := by omega
    clear hC e1 e2 h0 hh
    rcases hR.sort with ⟨rfl, rfl⟩ | ⟨q, c, rfl, hc, hm⟩
    · obtain rfl : u = 0 := by simpa using hu
      have hA := hid (mm_cut (F := F) (v' := .slice none 0 0) hBx hs hus hu p0 p1 p3 hne rfl hR)
      clear hR hBx
      go_enter Try.func22, Try.ntmps22
      go_wp2
      all_goals go_ret
      all_goals exact ⟨rfl, hA.out.1, hA.out.2⟩
    · have hA := hid (mm_cut (F := F) (v' := .slice (some ⟨q, 0, none⟩) u c) hBx hs hus hu p0 p1 p3 hne rfl (hR.cut hu))
      have h5 : (u : Int) ≤ (c : Int) := by omega
      clear hR hBx
      go_enter Try.func22, Try.ntmps22
      go_wp2
      all_goals go_ret
      all_goals exact ⟨rfl, hA.out.1, hA.out.2⟩
end Go.Proofs.Ytdabigekdnibhaa
