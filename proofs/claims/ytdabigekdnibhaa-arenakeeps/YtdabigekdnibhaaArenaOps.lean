/- What each function of package arena answers, but Cut and Objects. -/
import Derived.Test.YtdabigekdnibhaaArenaKit
namespace Go.Proofs.Ytdabigekdnibhaa
open Go.ChangeShapes Go.WideShapes Go.ChangeAt Go.RowKit
set_option linter.unusedSimpArgs false
set_option linter.unusedVariables false
set_option maxRecDepth 2000

/-- how many words New makes -/
def newN (s : Int) : Nat := if 0 ≤ s ∧ s ≤ 1048576 then s.toNat else 0
/-- is it a place of l? -/
def inB (l : List Int) (i : Int) : Bool := decide (0 ≤ i ∧ i < (l.length : Int))
def getV (l : List Int) (i : Int) : Int := if inB l i then l.getD i.toNat 0 else 0
def setL (l : List Int) (i x : Int) : List Int := if inB l i then l.set i.toNat x else l
def takeB (l : List Int) (n : Nat) (k : Int) : Bool := decide (0 ≤ k ∧ k ≤ (n : Int) - (l.length : Int))
def takeV (l : List Int) (n : Nat) (k : Int) : Int := if takeB l n k then (l.length : Int) else 0
def takeL (l : List Int) (n : Nat) (k : Int) : List Int := if takeB l n k then l ++ List.replicate k.toNat 0 else l
def cutB (l : List Int) (u s : Int) : Bool := decide (0 ≤ u ∧ u ≤ (l.length : Int) ∧ u ≤ s ∧ s ≤ 1048576)
def cutL (l : List Int) (u s : Int) : List Int := if cutB l u s then l.take u.toNat else l
def cutN (l : List Int) (n : Nat) (u s : Int) : Nat := if cutB l u s then s.toNat else n

theorem arn_new {w w1 w2 : World} {n : Nat} (hn : n ≤ 1048576) (e1 : w1 = w.alloc (.cells (madeCells #[.int .u64 0] n) 28)) (e2 : w2 = w1.alloc (.cells #[.slice (some ⟨w.heap.size, 0, none⟩) n n, .int .i64 0] 58)) :
    Arn (w.heap.size + 1) (fun k => k = w.heap.size + 1 ∨ k = w.heap.size) [] n w2 ∧ Below w.heap.size w w2 := by
  have hB := Blk.made w n
  rw [← e1] at hB
  have hs : w1.heap.size = w.heap.size + 1 := by rw [e1]; simp
  have hs2 : w2.heap.size = w1.heap.size + 1 := by rw [e2]; simp
  have b1 : Below w1.heap.size w1 w2 := by rw [e2]; exact (Below.refl _ w1).alloc (Nat.le_refl _) _
  have b0 : Below w.heap.size w w1 := by rw [e1]; exact (Below.refl _ w).alloc (Nat.le_refl _) _
  rw [← hs]
  refine ⟨⟨w.heap.size, ?_, ?_, by omega, Nat.zero_le _, hn, .inl rfl, .inr rfl, fun k hk => by omega⟩, b0.trans (below_le b1 (by omega))⟩
  · rw [e2]; exact Box.new w1 _ _ _
  · simp only [List.nil_append, List.length_nil, Nat.sub_zero]
    exact hB.of_block (b1.block _ (by omega))
theorem new_w (s : Int) (w : World) : Calls Try.prog 8 #[.int .i64 s] w fun e w' => ∃ g, e = .returned (.pointer (some ⟨g, 0, none⟩)) ∧ ∃ F, Arn g F [] (newN s) w' ∧ (∀ k, F k → w.heap.size ≤ k) ∧ Below w.heap.size w w' := by
  have hmk := run_make_row' (P := Try.prog) 35 28 (.int .u64 0) 8 Try.underlying35 infoW rfl .i64 .i64
  by_cases h0 : s < 0 ∨ 1048576 < s
  · have hm0 := hmk 0 (by omega) (by omega) w
    clear hmk
    simp only [Int.ofNat_zero, Int.natCast_zero, Int.ofNat_eq_natCast, Int.cast_ofNat_Int] at hm0
    have e : newN s = 0 := by unfold newN; rw [if_neg (by omega)]
    rw [e]
    rcases h0 with h0 | h0
    all_goals go_enter Try.func8, Try.ntmps8
    all_goals go_wp2
    all_goals go_ret
    all_goals (obtain ⟨a, b⟩ := arn_new (w := w) (n := 0) (by omega) rfl rfl; exact ⟨_, rfl, _, a, fun k hk => by rcases hk with rfl | rfl <;> omega, b⟩)
  · obtain ⟨n, rfl⟩ := Int.eq_ofNat_of_zero_le (show 0 ≤ s by omega)
    have hm0 := hmk n (by omega) (by omega) w
    have hn : n ≤ 1048576 := by omega
    have e : newN (n : Int) = n := by unfold newN; rw [if_pos (by omega)]; omega
    rw [e]
    clear e hmk
    have h1 : ¬ (n : Int) < 0 := by omega
    have h2 : ¬ 1048576 < (n : Int) := by omega
    clear h0
    go_enter Try.func8, Try.ntmps8
    go_wp2
    all_goals go_ret
    all_goals (obtain ⟨a, b⟩ := arn_new (w := w) hn rfl rfl; exact ⟨_, rfl, _, a, fun k hk => by rcases hk with rfl | rfl <;> omega, b⟩)
theorem used_w (g : Nat) (F : Nat → Prop) (l : List Int) (n : Nat) (w : World) (h : Arn g F l n w) : Calls Try.prog 23 #[.pointer (some ⟨g, 0, none⟩)] w fun e w' => e = .returned (.int .i64 (l.length : Int)) ∧ w' = w := by
  obtain ⟨b, ⟨c0, c1, f0, f1⟩, hR, hne, hl, hn, p0, p1, p3⟩ := h
  go_enter Try.func23, Try.ntmps23
  go_wp2
  all_goals go_ret
  all_goals exact ⟨rfl, rfl⟩
theorem size_w (g : Nat) (F : Nat → Prop) (l : List Int) (n : Nat) (w : World) (h : Arn g F l n w) : Calls Try.prog 15 #[.pointer (some ⟨g, 0, none⟩)] w fun e w' => e = .returned (.int .i64 (n : Int)) ∧ w' = w := by
  obtain ⟨b, ⟨c0, c1, f0, f1⟩, hR, hne, hl, hn, p0, p1, p3⟩ := h
  go_enter Try.func15, Try.ntmps15
  go_wp2
  all_goals go_ret
  all_goals exact ⟨rfl, rfl⟩
theorem uses_w (g : Nat) (F : Nat → Prop) (l : List Int) (n : Nat) (i : Int) (w : World) (h : Arn g F l n w) : Calls Try.prog 28 #[.pointer (some ⟨g, 0, none⟩), .int .i64 i] w fun e w' => e = .returned (.bool (inB l i)) ∧ w' = w := by
  obtain ⟨b, ⟨c0, c1, f0, f1⟩, hR, hne, hl, hn, p0, p1, p3⟩ := h
  by_cases h0 : 0 ≤ i
  · have e : inB l i = decide (i < (l.length : Int)) := by unfold inB; simp [h0]
    rw [e]
    go_enter Try.func28, Try.ntmps28
    go_wp2
    all_goals go_ret
    all_goals exact ⟨rfl, rfl⟩
  · have e : inB l i = false := by unfold inB; simp [h0]
    rw [e]
    go_enter Try.func28, Try.ntmps28
    go_wp2
    all_goals go_ret
    all_goals exact ⟨rfl, rfl⟩
theorem get_w (g : Nat) (F : Nat → Prop) (l : List Int) (n : Nat) (i : Int) (w : World) (h : Arn g F l n w) : Calls Try.prog 10 #[.pointer (some ⟨g, 0, none⟩), .int .i64 i] w fun e w' => e = .returned (.tuple #[.int .u64 (getV l i), .bool (inB l i)]) ∧ w' = w := by
  have c := uses_w g F l n i w h
  obtain ⟨b, ⟨c0, c1, f0, f1⟩, hR, hne, hl, hn, p0, p1, p3⟩ := h
  cases hB : inB l i
  · have e : getV l i = 0 := by unfold getV; rw [hB]; rfl
    rw [e]
    rw [hB] at c
    clear hB e
    go_enter Try.func10, Try.ntmps10
    go_wp2_with fail
    refine c.mono ?_
    rintro e w1 ⟨rfl, rfl⟩
    go_wp2
    all_goals go_ret2
    all_goals exact ⟨rfl, rfl⟩
  · have hi : 0 ≤ i ∧ i < (l.length : Int) := by unfold inB at hB; exact of_decide_eq_true hB
    obtain ⟨j, rfl⟩ := Int.eq_ofNat_of_zero_le hi.1
    have hj : j < l.length := by omega
    obtain ⟨y, hy⟩ : ∃ y, l[j]? = some y := ⟨l[j], by simp⟩
    have e : getV l (j : Int) = y := by unfold getV; rw [hB]; simp [List.getD, hy]
    have hc := hR.cell (j := j) (x := y) (by rw [List.getElem?_append_left hj]; exact hy)
    clear hy
    rw [hB] at c
    rw [e]
    have hjn : (j : Int) < (n : Int) := by omega
    clear e hB hR
    go_enter Try.func10, Try.ntmps10
    go_wp2_with fail
    refine c.mono ?_
    rintro e w1 ⟨rfl, rfl⟩
    go_wp2
    all_goals go_ret2
    all_goals exact ⟨rfl, rfl⟩
theorem arn_set {g : Nat} {F : Nat → Prop} {l : List Int} {n b j : Nat} {x : Int} {w : World} (hB : Box g (.slice (some ⟨b, 0, none⟩) n n) (.int .i64 (l.length : Int)) w) (hR : Blk b (l ++ List.replicate (n - l.length) 0) w) (hne : b ≠ g) (hl : l.length ≤ n) (hn : n ≤ 1048576) (p0 : F g) (p1 : F b) (p3 : ∀ k, F k → k < w.heap.size) (hj : j < l.length) :
    Arn g F (l.set j x) n (w.setCell ⟨b, j, none⟩ (.int .u64 x)) := by
  have hk : Kept (fun k => k = b) w (w.setCell ⟨b, j, none⟩ (.int .u64 x)) := Kept.of_set (F := fun k => k = b) (p := ⟨b, j, none⟩) w rfl _
  refine ⟨b, ?_, ?_, hne, by rw [List.length_set]; exact hl, hn, p0, p1, fun k hk => by simpa using p3 k hk⟩
  · rw [List.length_set]
    exact hB.of_block (hk.block g hB.lt (fun e => hne e.symm))
  · have := hR.set j x
    rw [List.set_append_left _ _ hj] at this
    rw [List.length_set]
    exact this
theorem set_w (g : Nat) (F : Nat → Prop) (l : List Int) (n : Nat) (i x : Int) (w : World) (h : Arn g F l n w) : Calls Try.prog 18 #[.pointer (some ⟨g, 0, none⟩), .int .i64 i, .int .u64 x] w fun e w' => e = .returned (.bool (inB l i)) ∧ Arn g F (setL l i x) n w' ∧ Kept F w w' := by
  have c := uses_w g F l n i w h
  have h0 := h
  obtain ⟨b, hBx, hR, hne, hl, hn, p0, p1, p3⟩ := h
  have hBx0 := hBx
  obtain ⟨c0, c1, f0, f1⟩ := hBx0
  cases hB : inB l i
  · have e : setL l i x = l := by unfold setL; rw [hB]; rfl
    rw [e]
    rw [hB] at c
    clear hB e
    go_enter Try.func18, Try.ntmps18
    go_wp2_with fail
    refine c.mono ?_
    rintro e w1 ⟨rfl, rfl⟩
    go_wp2
    all_goals go_ret
    all_goals exact ⟨rfl, h0, Kept.refl _ _⟩
  · have hi : 0 ≤ i ∧ i < (l.length : Int) := by unfold inB at hB; exact of_decide_eq_true hB
    obtain ⟨j, rfl⟩ := Int.eq_ofNat_of_zero_le hi.1
    have hj : j < l.length := by omega
    have e : setL l (j : Int) x = l.set j x := by unfold setL; rw [hB]; simp
    obtain ⟨y, hy⟩ : ∃ y, l[j]? = some y := ⟨l[j], by simp⟩
    have hc := hR.cell (j := j) (x := y) (by rw [List.getElem?_append_left hj]; exact hy)
    clear hy
    have hf := hR.frozen j
    have hA := arn_set (F := F) (x := x) hBx hR hne hl hn p0 p1 p3 hj
    have hK : Kept F w (w.setCell ⟨b, j, none⟩ (.int .u64 x)) := Kept.of_set w p1 _
    rw [hB] at c
    rw [e]
    have hjn : (j : Int) < (n : Int) := by omega
    clear e hB hR hBx h0
    go_enter Try.func18, Try.ntmps18
    go_wp2_with fail
    refine c.mono ?_
    rintro e w1 ⟨rfl, rfl⟩
    go_wp2
    all_goals go_ret
    all_goals exact ⟨rfl, hA, hK⟩
theorem arn_take {g : Nat} {F : Nat → Prop} {l : List Int} {n b k : Nat} {w : World} (hB : Box g (.slice (some ⟨b, 0, none⟩) n n) (.int .i64 (l.length : Int)) w) (hR : Blk b (l ++ List.replicate (n - l.length) 0) w) (hne : b ≠ g) (hn : n ≤ 1048576) (p0 : F g) (p1 : F b) (p3 : ∀ k, F k → k < w.heap.size) (hk : l.length + k ≤ n) :
    Arn g F (l ++ List.replicate k 0) n (w.setCell ⟨g, 1, none⟩ (.int .i64 ((l.length : Int) + (k : Int)))) := by
  have hK : Kept (fun k => k = g) w (w.setCell ⟨g, 1, none⟩ (.int .i64 ((l.length : Int) + (k : Int)))) := Kept.of_set (F := fun k => k = g) (p := ⟨g, 1, none⟩) w rfl _
  refine ⟨b, ?_, ?_, hne, by simp; omega, hn, p0, p1, fun k hk => by simpa using p3 k hk⟩
  · have e : (((l ++ List.replicate k 0).length : Nat) : Int) = (l.length : Int) + (k : Int) := by simp
    rw [e]
    exact hB.set1 _
  · have := hR.of_block (hK.block b hR.lt (fun e => hne e))
    rw [List.length_append, List.length_replicate, List.append_assoc, List.replicate_append_replicate]
    rw [show k + (n - (l.length + k)) = n - l.length by omega]
    exact this
theorem take_w (g : Nat) (F : Nat → Prop) (l : List Int) (n : Nat) (k : Int) (w : World) (h : Arn g F l n w) : Calls Try.prog 9 #[.pointer (some ⟨g, 0, none⟩), .int .i64 k] w fun e w' => e = .returned (.tuple #[.int .i64 (takeV l n k), .bool (takeB l n k)]) ∧ Arn g F (takeL l n k) n w' ∧ Kept F w w' := by
  have h0 := h
  obtain ⟨b, hBx, hR, hne, hl, hn, p0, p1, p3⟩ := h
  have hBx0 := hBx
  obtain ⟨c0, c1, f0, f1⟩ := hBx0
  have hlz : (l.length : Int) ≤ 1048576 := by omega
  have hnz : (n : Int) ≤ 1048576 := by omega
  have hwd : IntKind.i64.wrap ((n : Int) - (l.length : Int)) = (n : Int) - (l.length : Int) := by rw [IntKind.wrap_i64]; omega
  cases hB : takeB l n k
  · have e1 : takeV l n k = 0 := by unfold takeV; rw [hB]; rfl
    have e2 : takeL l n k = l := by unfold takeL; rw [hB]; rfl
    rw [e1, e2]
    clear e1 e2
    have hh : k < 0 ∨ (¬ k < 0 ∧ (n : Int) - (l.length : Int) < k) := by
      unfold takeB at hB
      have := of_decide_eq_false hB
      omega
    clear hB hBx hR
    rcases hh with h1 | ⟨h1, h2⟩
    · go_enter Try.func9, Try.ntmps9
      go_wp2_with fail
      go_quiet (fail)
      go_wp2
      all_goals go_ret2
      all_goals exact ⟨rfl, h0.below (below_drewN _ _), Kept.of_below (below_drewN _ _)⟩
    · go_enter Try.func9, Try.ntmps9
      go_wp2_with fail
      go_quiet (fail)
      go_wp2
      all_goals go_ret2
      all_goals exact ⟨rfl, h0.below (below_drewN _ _), Kept.of_below (below_drewN _ _)⟩
  · have hk : 0 ≤ k ∧ k ≤ (n : Int) - (l.length : Int) := by unfold takeB at hB; exact of_decide_eq_true hB
    obtain ⟨j, rfl⟩ := Int.eq_ofNat_of_zero_le hk.1
    have e1 : takeV l n (j : Int) = (l.length : Int) := by unfold takeV; rw [hB]; rfl
    have e2 : takeL l n (j : Int) = l ++ List.replicate j 0 := by unfold takeL; rw [hB]; simp
    rw [e1, e2]
    have h1 : ¬ (j : Int) < 0 := by omega
    have h2 : ¬ (n : Int) - (l.length : Int) < (j : Int) := by omega
    have hw : IntKind.i64.wrap ((l.length : Int) + (j : Int)) = (l.length : Int) + (j : Int) := by rw [IntKind.wrap_i64]; omega
    have hA : ∀ nq, Arn g F (l ++ List.replicate j 0) n ((w.drewN nq).setCell ⟨g, 1, none⟩ (.int .i64 ((l.length : Int) + (j : Int)))) := fun nq =>
      arn_take (w := w.drewN nq) (hBx.of_block rfl) (hR.of_block rfl) hne hn p0 p1 p3 (by omega)
    have hK : ∀ nq, Kept F w ((w.drewN nq).setCell ⟨g, 1, none⟩ (.int .i64 ((l.length : Int) + (j : Int)))) := fun nq =>
      (Kept.of_below (below_drewN _ _)).trans (Kept.of_set (w.drewN nq) p0 _)
    clear e1 e2 hB hBx hR h0 hk
    go_enter Try.func9, Try.ntmps9
    go_wp2_with fail
    go_quiet (fail)
    go_wp2
    all_goals go_ret2
    all_goals exact ⟨rfl, hA _, hK _⟩
end Go.Proofs.Ytdabigekdnibhaa
