/- What Cut of package arena answers. -/
import Derived.Test.YtdabigekdnibhaaArenaCut
namespace Go.Proofs.Ytdabigekdnibhaa
open Go.ChangeShapes Go.WideShapes Go.ChangeAt Go.RowKit
set_option linter.unusedSimpArgs false
set_option linter.unusedVariables false
set_option maxRecDepth 2000

theorem take_zeros {l : List Int} {n u : Nat} (hu : u ≤ l.length) (hl : l.length ≤ n) :
    (l ++ List.replicate (n - l.length) 0).take u ++ (List.replicate (l.length - u) 0 ++ (l ++ List.replicate (n - l.length) 0).drop (u + (l.length - u))) = l.take u ++ List.replicate (n - (l.take u).length) 0 := by
  rw [List.take_append_of_le_length hu, show u + (l.length - u) = l.length by omega, List.drop_left, List.replicate_append_replicate, List.length_take]
  congr 2; omega
theorem arn_clear {g : Nat} {F : Nat → Prop} {l : List Int} {n b u : Nat} {w w2 : World} (hB : Box g (.slice (some ⟨b, 0, none⟩) n n) (.int .i64 (l.length : Int)) w) (hne : b ≠ g) (hl : l.length ≤ n) (hn : n ≤ 1048576) (p0 : F g) (p1 : F b) (p3 : ∀ k, F k → k < w.heap.size) (hu : u ≤ l.length)
    (hR : Hid (Blk b ((l ++ List.replicate (n - l.length) 0).take u ++ (List.replicate (l.length - u) 0 ++ (l ++ List.replicate (n - l.length) 0).drop (u + (l.length - u)))) w2)) (hK : Kept (fun k => k = b) w w2) :
    Arn g F (l.take u) n (w2.setCell ⟨g, 1, none⟩ (.int .i64 (u : Int))) ∧ Kept F w (w2.setCell ⟨g, 1, none⟩ (.int .i64 (u : Int))) := by
  have hR2 := hR.out
  rw [take_zeros hu hl] at hR2
  have hB2 := hB.of_block (hK.block g hB.lt (fun e => hne e.symm))
  have hK2 : Kept (fun k => k = g) w2 (w2.setCell ⟨g, 1, none⟩ (.int .i64 (u : Int))) := Kept.of_set (F := fun k => k = g) (p := ⟨g, 1, none⟩) w2 rfl _
  have hlen : ((l.take u).length : Int) = (u : Int) := by rw [List.length_take]; omega
  refine ⟨⟨b, ?_, hR2.of_block (hK2.block b hR2.lt hne), hne, by rw [List.length_take]; omega, hn, p0, p1, fun k hk => Nat.lt_of_lt_of_le (p3 k hk) (Nat.le_trans hK.size hK2.size)⟩, (hK.mono fun k e => e ▸ p1).trans (hK2.mono fun k e => e ▸ p0)⟩
  rw [hlen]
  exact hB2.set1 _
theorem arn_row {g : Nat} {F : Nat → Prop} {l : List Int} {n b u s : Nat} {w w2 : World} (hB : Box g (.slice (some ⟨b, 0, none⟩) n n) (.int .i64 (l.length : Int)) w) (hn : s ≤ 1048576) (p0 : F g) (p3 : ∀ k, F k → k < w.heap.size) (hu : u ≤ l.length) (hus : u ≤ s)
    (hR : Blk w.heap.size (l.take u ++ List.replicate (s - (l.take u).length) 0) w2) (hK : Below w.heap.size w w2) :
    Arn g (fun k => F k ∨ k = w.heap.size) (l.take u) s ((w2.setCell ⟨g, 0, none⟩ (.slice (some ⟨w.heap.size, 0, none⟩) s s)).setCell ⟨g, 1, none⟩ (.int .i64 (u : Int))) ∧ Kept F w ((w2.setCell ⟨g, 0, none⟩ (.slice (some ⟨w.heap.size, 0, none⟩) s s)).setCell ⟨g, 1, none⟩ (.int .i64 (u : Int))) := by
  have hg := hB.lt
  have hB2 := hB.of_block (hK.block g hg)
  have hK2 : Kept (fun k => k = g) w2 (w2.setCell ⟨g, 0, none⟩ (.slice (some ⟨w.heap.size, 0, none⟩) s s)) := Kept.of_set (F := fun k => k = g) (p := ⟨g, 0, none⟩) w2 rfl _
  have hK3 : Kept (fun k => k = g) (w2.setCell ⟨g, 0, none⟩ (.slice (some ⟨w.heap.size, 0, none⟩) s s)) ((w2.setCell ⟨g, 0, none⟩ (.slice (some ⟨w.heap.size, 0, none⟩) s s)).setCell ⟨g, 1, none⟩ (.int .i64 (u : Int))) := Kept.of_set (F := fun k => k = g) (p := ⟨g, 1, none⟩) _ rfl _
  have hK4 := hK2.trans hK3
  have hlen : ((l.take u).length : Int) = (u : Int) := by rw [List.length_take]; omega
  have hlt := hR.lt
  refine ⟨⟨w.heap.size, ?_, hR.of_block (hK4.block _ hlt (by omega)), by omega, by rw [List.length_take]; omega, hn, .inl p0, .inr rfl, fun k hk => ?_⟩, (Kept.of_below hK).trans (hK4.mono fun k e => e ▸ p0)⟩
  · rw [hlen]
    exact (hB2.set0 _).set1 _
  · have := hK4.size
    rcases hk with hk | rfl
    · have := p3 k hk; have := hK.size; omega
    · omega
set_option maxHeartbeats 1000000 in
theorem cut_w (g : Nat) (F : Nat → Prop) (l : List Int) (n : Nat) (u s : Int) (w : World) (h : Arn g F l n w) : Calls Try.prog 21 #[.pointer (some ⟨g, 0, none⟩), .int .i64 u, .int .i64 s] w fun e w' => e = .returned (.bool (cutB l u s)) ∧ ∃ F', Arn g F' (cutL l u s) (cutN l n u s) w' ∧ Kept F w w' ∧ ∀ k, F' k → F k ∨ w.heap.size ≤ k := by
  have h0 := h
  obtain ⟨b, hBx, hR, hne, hl, hn, p0, p1, p3⟩ := h
  have hBx0 := hBx
  obtain ⟨c0, c1, f0, f1⟩ := hBx0
  have hlz : (l.length : Int) ≤ 1048576 := by omega
  have hnz : (n : Int) ≤ 1048576 := by omega
  cases hC : cutB l u s
  · have e1 : cutL l u s = l := by unfold cutL; rw [hC]; rfl
    have e2 : cutN l n u s = n := by unfold cutN; rw [hC]; rfl
    rw [e1, e2]
    have hh : u < 0 ∨ (¬ u < 0 ∧ (l.length : Int) < u) ∨ (¬ u < 0 ∧ ¬ (l.length : Int) < u ∧ s < u) ∨ (¬ u < 0 ∧ ¬ (l.length : Int) < u ∧ ¬ s < u ∧ 1048576 < s) := by
      unfold cutB at hC
      have := of_decide_eq_false hC
      omega
    clear hC e1 e2 hBx hR
    rcases hh with h1 | ⟨h1, h2⟩ | ⟨h1, h2, h3⟩ | ⟨h1, h2, h3, h4⟩
    all_goals go_enter Try.func21, Try.ntmps21
    all_goals go_wp2
    all_goals go_ret
    all_goals exact ⟨rfl, F, h0, Kept.refl _ _, fun k hk => .inl hk⟩
  · have hh : 0 ≤ u ∧ u ≤ (l.length : Int) ∧ u ≤ s ∧ s ≤ 1048576 := by unfold cutB at hC; exact of_decide_eq_true hC
    obtain ⟨u, rfl⟩ := Int.eq_ofNat_of_zero_le hh.1
    obtain ⟨s, rfl⟩ := Int.eq_ofNat_of_zero_le (show 0 ≤ s by omega)
    have e1 : cutL l (u : Int) (s : Int) = l.take u := by unfold cutL; rw [hC]; simp
    have e2 : cutN l n (u : Int) (s : Int) = s := by unfold cutN; rw [hC]; simp
    rw [e1, e2]
    have h1 : ¬ (u : Int) < 0 := by omega
    have h2 : ¬ (l.length : Int) < (u : Int) := by omega
    have h3 : ¬ (s : Int) < (u : Int) := by omega
    have h4 : ¬ 1048576 < (s : Int) := by omega
    have hu : u ≤ l.length := by omega
    have hus : u ≤ s := by omega
    have hs : s ≤ 1048576 := by omega
    clear hC e1 e2 h0 hh
    by_cases hsn : s = n
    · subst hsn
      have hA : ∀ w2, Hid (Blk b ((l ++ List.replicate (s - l.length) 0).take u ++ (List.replicate (l.length - u) 0 ++ (l ++ List.replicate (s - l.length) 0).drop (u + (l.length - u)))) w2) → Kept (fun k => k = b) w w2 → _ := fun w2 q1 q2 => arn_clear (F := F) hBx hne hl hn p0 p1 p3 hu q1 q2
      have hAH := hid hA
      clear hA
      have hfit : u + (l.length - u) ≤ (l ++ List.replicate (s - l.length) 0).length := by simp; omega
      have hF := hid hfit
      have hlu : (u : Int) ≤ (l.length : Int) := by omega
      have hls : (l.length : Int) ≤ (s : Int) := by omega
      have hRH := hid hR
      clear hfit hR
      by_cases hux : u = s
      · subst hux
        have hlu2 : l.length = u := by omega
        have hlu3 := hid hlu2
        clear hlu2
        go_enter Try.func21, Try.ntmps21
        go_wp2
        go_region_law (refine step_clear rfl (.tmp 46) rfl (some ⟨b, 0, none⟩) (l.length - u) 0 (by simp [Act.eval, Act.put]; omega) b u _ (Blk.of_block hRH.out rfl) (fun e => by have := hlu3.out; omega) hF.out ?_; intro w2 q1 q2)
        all_goals (
          have hQ := hAH.out _ q1 (Kept.trans (Kept.of_below (below_drewN w 1)) q2)
          have hb2 := hBx.of_block (q2.block g hBx.lt (fun e => hne e.symm))
          obtain ⟨d0, d1, d2, d3⟩ := hb2
          go_wp2
          go_ret
          exact ⟨rfl, F, hQ.1, hQ.2, fun k hk => .inl hk⟩)
      · have hux2 : (u : Int) < (s : Int) := by omega
        have hux3 : u < s := by omega
        go_enter Try.func21, Try.ntmps21
        go_wp2
        go_region_law (refine step_clear rfl (.tmp 46) rfl (some ⟨b, u, none⟩) (l.length - u) (s - u) (by simp [Act.eval, Act.put]; omega) b u _ (Blk.of_block hRH.out rfl) (fun _ => rfl) hF.out ?_; intro w2 q1 q2)
        all_goals (
          have hQ := hAH.out _ q1 (Kept.trans (Kept.of_below (below_drewN w 1)) q2)
          have hb2 := hBx.of_block (q2.block g hBx.lt (fun e => hne e.symm))
          obtain ⟨d0, d1, d2, d3⟩ := hb2
          go_wp2
          go_ret
          exact ⟨rfl, F, hQ.1, hQ.2, fun k hk => .inl hk⟩)
    · have hsz : ((s : Int) == (n : Int)) = false := by simp; omega
      have hlu : (u : Int) ≤ (l.length : Int) := by omega
      have hlun : (u : Int) ≤ (n : Int) := by omega
      have hT : (l.take u).length = u := by rw [List.length_take]; omega
      have hLl : LiesW (some ⟨b, 0, none⟩) (l.take u) w := by
        intro j x hx
        rw [List.getElem?_take] at hx
        split at hx
        · exact Blk.lies hR j x hx
        · simp at hx
      have c := row_w s (some ⟨b, 0, none⟩) (l.take u) n w hs (by omega) hLl
      rw [hT] at c
      have hA := fun w2 q1 q2 => arn_row (w2 := w2) hBx hs p0 p3 hu hus q1 q2
      rw [hT] at hA
      have hAH := hid hA
      clear hA hR hT hsn
      go_enter Try.func21, Try.ntmps21
      go_wp2_with fail
      refine c.mono ?_
      rintro e w2 ⟨rfl, hG, hB⟩
      have hQ := hAH.out w2 hG hB
      have hb2 := hBx.of_block (hB.block g hBx.lt)
      obtain ⟨d0, d1, d2, d3⟩ := hb2
      go_wp2
      all_goals go_ret
      all_goals exact ⟨rfl, _, hQ.1, hQ.2, fun k hk => hk.imp id (fun e => by omega)⟩
end Go.Proofs.Ytdabigekdnibhaa
