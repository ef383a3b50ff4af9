/- Unquote of package runes: for every text what the signs say. -/
import Derived.Test.YtppfgcbigohkkaaDoorRunesUnq
namespace Go.Proofs.YtppfgcbigohkkaaDoor
open Go.ChangeShapes Go.WideShapes Go.ChangeAt Go.RowKit Go.Shelf
set_option linter.unusedSimpArgs false
set_option linter.unusedVariables false

theorem Bld.set {T : TypeId} {B b : Nat} {pre post : List Value} {bs : List UInt8} {w : World} (h : Bld T B b pre post bs w) (j : Nat) (q : Value) (pre' post' : List Value)
    (hs : ∀ p v, (pre ++ p :: v :: post).set j q = pre' ++ p :: v :: post') (hl : pre'.length = pre.length) : Bld T B b pre' post' bs (w.setCell ⟨b, j, none⟩ q) := by
  obtain ⟨hB, hT, p, v, hp, hb, hown, he⟩ := h
  exact ⟨hB, hT, p, v, by rw [hl]; exact hp, by rw [heap_set hb, hs], own_set hb hT hown _, he⟩
theorem Bld.cell {T : TypeId} {B b : Nat} {pre post : List Value} {bs : List UInt8} {w : World} (h : Bld T B b pre post bs w) (j : Nat) (x : Value)
    (hx : ∀ p v, (pre ++ p :: v :: post)[j]? = some x) : w.cell? ⟨b, j, none⟩ = some x := by
  obtain ⟨hB, hT, p, v, hp, hb, hown, he⟩ := h
  rw [Lib.cell_of_heap hb]; simpa using hx p v
theorem Bld.fz {T : TypeId} {B b : Nat} {pre post : List Value} {bs : List UInt8} {w : World} (h : Bld T B b pre post bs w) (j : Nat) : w.frozen? ⟨b, j, none⟩ = false := by
  obtain ⟨hB, hT, p, v, hp, hb, hown, he⟩ := h
  exact Lib.frozen_of_heap hb _

/-- The struct 'quoted' in block b: the part, the signs read, the escape's number and its digits. -/
def Qd (B b part : Nat) (out : List Nat) (num dig : Nat) (w : World) : Prop :=
  Bld 59 B b [.int .i64 (part : Int)] [.int .i64 (out.length : Int), .int .i32 (num : Int), .int .i64 (dig : Int)] (en out) w
def Q5 (B b : Nat) (t : Nat × Nat × List Nat × Nat × Nat) (w : World) : Prop := t.1 = 0 → Qd B b t.2.1 t.2.2.1 t.2.2.2.1 t.2.2.2.2 w

theorem digit_w (r : Nat) (w : World) (hr : r ≤ 1114111) :
    Calls Tryd.prog 67 #[.int .i32 (r : Int)] w fun e w' => e = .returned (.tuple #[.int .i32 (if digV r = 16 then 0 else (digV r : Int)), .bool (!decide (digV r = 16))]) ∧ w = w' := by
  obtain ⟨D, hD⟩ : ∃ D, digV r = D := ⟨_, rfl⟩
  rw [hD]
  unfold digV at hD
  by_cases h1 : 48 ≤ r ∧ r ≤ 57
  · rw [if_pos h1] at hD
    have a1 : (48 : Int) ≤ (r : Int) := by omega
    have a2 : (r : Int) ≤ 57 := by omega
    have e1 : ¬ D = 16 := by omega
    have e2 : (r : Int) - 48 = (D : Int) := by omega
    go_enter Tryd.func67, Tryd.ntmps67
    go_wp2
    all_goals go_ret2
    all_goals (refine ⟨?_, rfl⟩; simp [e1])
  · rw [if_neg h1] at hD
    by_cases h2 : 97 ≤ r ∧ r ≤ 102
    · rw [if_pos h2] at hD
      have a1 : (97 : Int) ≤ (r : Int) := by omega
      have a2 : (r : Int) ≤ 102 := by omega
      have a3 : (57 : Int) < (r : Int) := by omega
      have e1 : ¬ D = 16 := by omega
      have e2 : (r : Int) - 97 + 10 = (D : Int) := by omega
      go_enter Tryd.func67, Tryd.ntmps67
      go_wp2
      all_goals go_ret2
      all_goals (refine ⟨?_, rfl⟩; simp [e1])
    · rw [if_neg h2] at hD
      by_cases h3 : 65 ≤ r ∧ r ≤ 70
      · rw [if_pos h3] at hD
        have a1 : (65 : Int) ≤ (r : Int) := by omega
        have a2 : (r : Int) ≤ 70 := by omega
        have a3 : (57 : Int) < (r : Int) := by omega
        have a4 : ¬ (97 : Int) ≤ (r : Int) := by omega
        have e1 : ¬ D = 16 := by omega
        have e2 : (r : Int) - 65 + 10 = (D : Int) := by omega
        go_enter Tryd.func67, Tryd.ntmps67
        go_wp2
        all_goals go_ret2
        all_goals (refine ⟨?_, rfl⟩; simp [e1])
      · rw [if_neg h3] at hD
        subst hD
        go_enter Tryd.func67, Tryd.ntmps67
        go_wp2
        all_goals first
          | (exfalso; omega)
          | (go_ret2; refine ⟨?_, rfl⟩; simp)

set_option maxHeartbeats 2000000 in
theorem add_w (B b part : Nat) (out : List Nat) (num dig r : Nat) (hr : r ≤ 1114111) (w : World) (h : Qd B b part out num dig w) (hlen : out.length ≤ 255) (hBw : B ≤ w.heap.size) :
    Calls Tryd.prog 62 #[.pointer (some ⟨b, 0, none⟩), .int .i32 (r : Int)] w fun e w' => e = .returned (.int .i64 ((addQ 255 out num dig r).1 : Int)) ∧ Q5 B b (addQ 255 out num dig r) w' ∧ Below B w w' ∧ Lib.OthersKept 5 (some b) w w' := by
  have c3 := Bld.cell h 3 _ (fun _ _ => rfl)
  have f3 := Bld.fz h 3
  have c0 := Bld.cell h 0 _ (fun _ _ => rfl)
  obtain ⟨hB, _⟩ := id h
  by_cases hl : out.length = 255
  · have e : addQ 255 out num dig r = (3, 0, out, num, dig) := by unfold addQ; rw [if_pos hl]
    have hlz : ((out.length : Int) == 255) = true := by simp; omega
    rw [e]
    go_enter Tryd.func62, Tryd.ntmps62
    go_wp2
    go_ret
    exact ⟨rfl, fun h => by simp at h, Below.refl _ _, Lib.OthersKept.refl _ _ _⟩
  · have e : addQ 255 out num dig r = (0, 0, out ++ [r], num, dig) := by unfold addQ; rw [if_neg hl]
    have hlz : ((out.length : Int) == 255) = false := by simp; omega
    rw [e]
    have hen4 := en_length_le out
    have h2 : Bld 59 B b [.int .i64 (part : Int)] [.int .i64 ((out.length : Int) + 1), .int .i32 (num : Int), .int .i64 (dig : Int)] (en out) (w.setCell ⟨b, 3, none⟩ (.int .i64 ((out.length : Int) + 1))) :=
      Bld.set h 3 _ _ _ (fun _ _ => rfl) rfl
    go_enter Tryd.func62, Tryd.ntmps62
    go_wp2_with fail
    refine (writeRune_w _ B b [.int .i64 (part : Int)] [.int .i64 ((out.length : Int) + 1), .int .i32 (num : Int), .int .i64 (dig : Int)] (en out) r hr _ h2 home1 (by omega) (by simpa [World.setCell] using hBw)).mono ?_
    rintro e w2 ⟨rfl, h3, b3, k3⟩
    have d0 := Bld.cell h3 0 _ (fun _ _ => rfl)
    have g0 := Bld.fz h3 0
    go_wp2
    go_ret
    refine ⟨rfl, fun _ => ?_, ?_, ?_⟩
    · have h4 := Bld.set h3 0 (.int .i64 0) [.int .i64 0] [.int .i64 ((out.length : Int) + 1), .int .i32 (num : Int), .int .i64 (dig : Int)] (fun _ _ => rfl) rfl
      show Bld _ B b _ [.int .i64 ((out ++ [r]).length : Int), _, _] (en (out ++ [r])) _
      rw [en_append, en_one]
      have el : ((out ++ [r]).length : Int) = (out.length : Int) + 1 := by simp
      rw [el]
      exact h4
    · exact (((Below.refl B w).setCell (p := ⟨b, 3, none⟩) hB _).trans b3).setCell (p := ⟨b, 0, none⟩) hB _
    · exact (((Lib.OthersKept.refl _ _ w).setCell ⟨b, 3, none⟩ rfl _).trans k3).setCell ⟨b, 0, none⟩ rfl _

set_option maxHeartbeats 2000000 in
theorem takeEscape_w (B b : Nat) (out : List Nat) (num dig r : Nat) (hr : r ≤ 1114111) (w : World) (h : Qd B b 1 out num dig w) (hlen : out.length ≤ 255) (hBw : B ≤ w.heap.size) :
    Calls Tryd.prog 60 #[.pointer (some ⟨b, 0, none⟩), .int .i32 (r : Int)] w fun e w' => e = .returned (.int .i64 ((escQ 255 out num dig r).1 : Int)) ∧ Q5 B b (escQ 255 out num dig r) w' ∧ Below B w w' ∧ Lib.OthersKept 5 (some b) w w' := by
  have c0 := Bld.cell h 0 _ (fun _ _ => rfl)
  have c4 := Bld.cell h 4 _ (fun _ _ => rfl)
  have c5 := Bld.cell h 5 _ (fun _ _ => rfl)
  have f0 := Bld.fz h 0
  have f4 := Bld.fz h 4
  have f5 := Bld.fz h 5
  obtain ⟨hB, _⟩ := id h
  by_cases h1 : r = 39 ∨ r = 92
  · have e : escQ 255 out num dig r = addQ 255 out num dig r := by unfold escQ; rw [if_pos h1]
    have ca := add_w B b 1 out num dig r hr w h hlen hBw
    rw [e]
    have hz : ((r : Int) == 39) = true ∨ (((r : Int) == 39) = false ∧ ((r : Int) == 92) = true) := by
      rcases h1 with rfl | rfl
      · exact Or.inl rfl
      · exact Or.inr ⟨rfl, rfl⟩
    rcases hz with hz | ⟨hz, hz2⟩
    all_goals
      go_enter Tryd.func60, Tryd.ntmps60
      go_wp2_with fail
      refine ca.mono ?_
      rintro e w1 ⟨rfl, q1, b1, k1⟩
      go_wp2
      go_ret
      exact ⟨rfl, q1, b1, k1⟩
  · have a1 : ((r : Int) == 39) = false := by simp; omega
    have a2 : ((r : Int) == 92) = false := by simp; omega
    by_cases h2 : r = 110
    · have e : escQ 255 out num dig r = addQ 255 out num dig 10 := by unfold escQ; rw [if_neg h1, if_pos h2]
      have ca := add_w B b 1 out num dig 10 (by omega) w h hlen hBw
      have a3 : ((r : Int) == 110) = true := by subst h2; rfl
      rw [e]
      go_enter Tryd.func60, Tryd.ntmps60
      go_wp2_with fail
      refine ca.mono ?_
      rintro e w1 ⟨rfl, q1, b1, k1⟩
      go_wp2
      go_ret
      exact ⟨rfl, q1, b1, k1⟩
    · have a3 : ((r : Int) == 110) = false := by simp; omega
      by_cases h3 : r = 120
      · have e : escQ 255 out num dig r = (0, 2, out, 0, 0) := by unfold escQ; rw [if_neg h1, if_neg h2, if_pos h3]
        have a4 : ((r : Int) == 120) = true := by subst h3; rfl
        rw [e]
        go_enter Tryd.func60, Tryd.ntmps60
        go_wp2
        go_ret
        refine ⟨rfl, fun _ => ?_, (((Below.refl B w).setCell (p := ⟨b, 0, none⟩) hB _).setCell (p := ⟨b, 4, none⟩) hB _).setCell (p := ⟨b, 5, none⟩) hB _, (((Lib.OthersKept.refl _ _ w).setCell ⟨b, 0, none⟩ rfl _).setCell ⟨b, 4, none⟩ rfl _).setCell ⟨b, 5, none⟩ rfl _⟩
        exact Bld.set (Bld.set (Bld.set h 0 (.int .i64 2) [.int .i64 2] [.int .i64 (out.length : Int), .int .i32 (num : Int), .int .i64 (dig : Int)] (fun _ _ => rfl) rfl) 4 (.int .i32 0) [.int .i64 2] [.int .i64 (out.length : Int), .int .i32 0, .int .i64 (dig : Int)] (fun _ _ => rfl) rfl) 5 (.int .i64 0) [.int .i64 2] [.int .i64 (out.length : Int), .int .i32 0, .int .i64 0] (fun _ _ => rfl) rfl
      · have e : escQ 255 out num dig r = (4, 1, out, num, dig) := by unfold escQ; rw [if_neg h1, if_neg h2, if_neg h3]
        have a4 : ((r : Int) == 120) = false := by simp; omega
        rw [e]
        go_enter Tryd.func60, Tryd.ntmps60
        go_wp2
        go_ret
        exact ⟨rfl, fun h => by simp at h, Below.refl _ _, Lib.OthersKept.refl _ _ _⟩

theorem or4 (n d : Nat) (hn : n < 1048576) (hd : d < 16) : bits .or .i32 ((n : Int) * 16) (d : Int) = ((n * 16 + d : Nat) : Int) := by
  have := bits_join .i32 31 (by decide) wraps_i32 4 ((n : Int) * 16) (d : Int) (by omega) (by omega) (by omega) (by omega) (by omega) (by omega)
  rw [this]; omega
theorem pow16_lt {num dig : Nat} (h : num < 16 ^ dig) (hd : dig < 6) : num < 1048576 := by
  have : 16 ^ dig ≤ 16 ^ 5 := Nat.pow_le_pow_right (by decide) (by omega)
  have e : (16 : Nat) ^ 5 = 1048576 := by decide
  omega
theorem pow16_le {num dig : Nat} (h : num < 16 ^ dig) (hd : dig ≤ 6) : num < 16777216 := by
  have : 16 ^ dig ≤ 16 ^ 6 := Nat.pow_le_pow_right (by decide) (by omega)
  have e : (16 : Nat) ^ 6 = 16777216 := by decide
  omega
set_option maxHeartbeats 2000000 in
theorem takeNumber_w (B b : Nat) (out : List Nat) (num dig r : Nat) (hr : r ≤ 1114111) (w : World) (h : Qd B b 2 out num dig w) (hlen : out.length ≤ 255) (hBw : B ≤ w.heap.size) (hnum : num < 16 ^ dig) (hdig : dig ≤ 6) :
    Calls Tryd.prog 61 #[.pointer (some ⟨b, 0, none⟩), .int .i32 (r : Int)] w fun e w' => e = .returned (.int .i64 ((numQ 255 out num dig r).1 : Int)) ∧ Q5 B b (numQ 255 out num dig r) w' ∧ Below B w w' ∧ Lib.OthersKept 5 (some b) w w' := by
  have c4 := Bld.cell h 4 _ (fun _ _ => rfl)
  have c5 := Bld.cell h 5 _ (fun _ _ => rfl)
  have f4 := Bld.fz h 4
  have f5 := Bld.fz h 5
  obtain ⟨hB, _⟩ := id h
  have hnl := pow16_le hnum hdig
  by_cases h1 : r = 59
  · have a1 : ((r : Int) == 59) = true := by subst h1; rfl
    by_cases h2 : dig = 0
    · have e : numQ 255 out num dig r = (4, 2, out, num, dig) := by unfold numQ; rw [if_pos h1, if_pos (Or.inl h2)]
      have a2 : ((dig : Int) == 0) = true := by subst h2; rfl
      rw [e]
      go_enter Tryd.func61, Tryd.ntmps61
      go_wp2
      go_ret
      exact ⟨rfl, fun h => by simp at h, Below.refl _ _, Lib.OthersKept.refl _ _ _⟩
    · have a2 : ((dig : Int) == 0) = false := by simp; omega
      cases hv : vR num with
      | false =>
        have e : numQ 255 out num dig r = (4, 2, out, num, dig) := by unfold numQ; rw [if_pos h1, if_pos (Or.inr hv)]
        have cv := validRune_w (num : Int) w
        rw [show Lib.validRune (num : Int) = false from hv] at cv
        rw [e]
        go_enter Tryd.func61, Tryd.ntmps61
        go_wp2_with fail
        refine cv.mono ?_
        rintro e w1 ⟨rfl, rfl⟩
        go_wp2
        go_ret
        exact ⟨rfl, fun h => by simp at h, Below.refl _ _, Lib.OthersKept.refl _ _ _⟩
      | true =>
        have e : numQ 255 out num dig r = addQ 255 out num dig num := by unfold numQ; rw [if_pos h1, if_neg (by simp [h2, hv])]
        have cv := validRune_w (num : Int) w
        rw [show Lib.validRune (num : Int) = true from hv] at cv
        have hle : num ≤ 1114111 := by
          unfold vR Lib.validRune at hv
          simp at hv; omega
        have ca := add_w B b 2 out num dig num hle w h hlen hBw
        rw [e]
        go_enter Tryd.func61, Tryd.ntmps61
        go_wp2_with fail
        refine cv.mono ?_
        rintro e w1 ⟨rfl, rfl⟩
        go_wp2_with fail
        refine ca.mono ?_
        rintro e w2 ⟨rfl, q1, b1, k1⟩
        go_wp2
        go_ret
        exact ⟨rfl, q1, b1, k1⟩
  · have a1 : ((r : Int) == 59) = false := by simp; omega
    have cd := digit_w r w hr
    by_cases h2 : digV r = 16
    · have e : numQ 255 out num dig r = (4, 2, out, num, dig) := by unfold numQ; rw [if_neg h1, if_pos (Or.inl h2)]
      rw [e]
      rw [h2] at cd
      go_enter Tryd.func61, Tryd.ntmps61
      go_wp2_with fail
      refine cd.mono ?_
      rintro e w1 ⟨rfl, rfl⟩
      go_wp2
      go_ret
      exact ⟨rfl, fun h => by simp at h, Below.refl _ _, Lib.OthersKept.refl _ _ _⟩
    · rw [if_neg h2, show (!decide (digV r = 16)) = true by simp [h2]] at cd
      have hd16 : digV r < 16 := by
        unfold digV at h2 ⊢
        split at h2
        · rw [if_pos (by assumption)]; omega
        · rw [if_neg (by assumption)]
          split at h2
          · rw [if_pos (by assumption)]; omega
          · rw [if_neg (by assumption)]
            split at h2
            · rw [if_pos (by assumption)]; omega
            · exact absurd rfl h2
      by_cases h3 : dig = 6
      · have e : numQ 255 out num dig r = (4, 2, out, num, dig) := by unfold numQ; rw [if_neg h1, if_pos (Or.inr h3)]
        have a3 : ((dig : Int) == 6) = true := by subst h3; rfl
        rw [e]
        go_enter Tryd.func61, Tryd.ntmps61
        go_wp2_with fail
        refine cd.mono ?_
        rintro e w1 ⟨rfl, rfl⟩
        go_wp2
        go_ret
        exact ⟨rfl, fun h => by simp at h, Below.refl _ _, Lib.OthersKept.refl _ _ _⟩
      · have e : numQ 255 out num dig r = (0, 2, out, num * 16 + digV r, dig + 1) := by unfold numQ; rw [if_neg h1, if_neg (by simp [h2, h3])]
        have a3 : ((dig : Int) == 6) = false := by simp; omega
        have hn5 := pow16_lt hnum (by omega)
        obtain ⟨d, hd⟩ : ∃ d, digV r = d := ⟨_, rfl⟩
        rw [hd] at cd e hd16
        have hor := or4 num d hn5 hd16
        rw [e]
        go_enter Tryd.func61, Tryd.ntmps61
        go_wp2_with fail
        refine cd.mono ?_
        rintro e w1 ⟨rfl, rfl⟩
        go_wp2
        go_ret
        refine ⟨rfl, fun _ => ?_, ((Below.refl B w).setCell (p := ⟨b, 4, none⟩) hB _).setCell (p := ⟨b, 5, none⟩) hB _, ((Lib.OthersKept.refl _ _ w).setCell ⟨b, 4, none⟩ rfl _).setCell ⟨b, 5, none⟩ rfl _⟩
        have h4 := Bld.set (Bld.set h 4 (.int .i32 ((num : Int) * 16 + (d : Int))) [.int .i64 2] [.int .i64 (out.length : Int), .int .i32 ((num : Int) * 16 + (d : Int)), .int .i64 (dig : Int)] (fun _ _ => rfl) rfl) 5 (.int .i64 ((dig : Int) + 1)) [.int .i64 2] [.int .i64 (out.length : Int), .int .i32 ((num : Int) * 16 + (d : Int)), .int .i64 ((dig : Int) + 1)] (fun _ _ => rfl) rfl
        show Bld _ B b [.int .i64 ((2 : Nat) : Int)] [.int .i64 (out.length : Int), .int .i32 ((num * 16 + d : Nat) : Int), .int .i64 ((dig + 1 : Nat) : Int)] (en out) _
        rw [show ((num * 16 + d : Nat) : Int) = (num : Int) * 16 + (d : Int) by omega, show ((dig + 1 : Nat) : Int) = (dig : Int) + 1 by omega]
        exact h4

set_option maxHeartbeats 2000000 in
theorem take_w (B b part : Nat) (out : List Nat) (num dig r : Nat) (hr : r ≤ 1114111) (w : World) (h : Qd B b part out num dig w) (hpart : part ≤ 2) (hlen : out.length ≤ 255) (hBw : B ≤ w.heap.size) (hnum : num < 16 ^ dig) (hdig : dig ≤ 6) :
    Calls Tryd.prog 45 #[.pointer (some ⟨b, 0, none⟩), .int .i32 (r : Int)] w fun e w' => e = .returned (.int .i64 ((takeQ 255 part out num dig r).1 : Int)) ∧ Q5 B b (takeQ 255 part out num dig r) w' ∧ Below B w w' ∧ Lib.OthersKept 5 (some b) w w' := by
  have c0 := Bld.cell h 0 _ (fun _ _ => rfl)
  have f0 := Bld.fz h 0
  obtain ⟨hB, _⟩ := id h
  by_cases p1 : part = 1
  · subst p1
    have e : takeQ 255 1 out num dig r = escQ 255 out num dig r := by unfold takeQ; rw [if_pos rfl]
    have ca := takeEscape_w B b out num dig r hr w h hlen hBw
    rw [e]
    go_enter Tryd.func45, Tryd.ntmps45
    go_wp2_with fail
    refine ca.mono ?_
    rintro e w1 ⟨rfl, q1, b1, k1⟩
    go_wp2
    go_ret
    exact ⟨rfl, q1, b1, k1⟩
  · by_cases p2 : part = 2
    · subst p2
      have e : takeQ 255 2 out num dig r = numQ 255 out num dig r := by unfold takeQ; rw [if_neg (by decide), if_pos rfl]
      have ca := takeNumber_w B b out num dig r hr w h hlen hBw hnum hdig
      rw [e]
      go_enter Tryd.func45, Tryd.ntmps45
      go_wp2_with fail
      refine ca.mono ?_
      rintro e w1 ⟨rfl, q1, b1, k1⟩
      go_wp2
      go_ret
      exact ⟨rfl, q1, b1, k1⟩
    · obtain rfl : part = 0 := by omega
      have ch := hidden_w r w
      cases hh : hiddenB r with
      | true =>
        have e : takeQ 255 0 out num dig r = (4, 0, out, num, dig) := by unfold takeQ; rw [if_neg (by decide), if_neg (by decide), if_pos hh]
        rw [hh] at ch
        rw [e]
        go_enter Tryd.func45, Tryd.ntmps45
        go_wp2_with fail
        refine ch.mono ?_
        rintro e w1 ⟨rfl, rfl⟩
        go_wp2
        go_ret
        exact ⟨rfl, fun h => by simp at h, Below.refl _ _, Lib.OthersKept.refl _ _ _⟩
      | false =>
        rw [hh] at ch
        by_cases h2 : r = 92
        · have e : takeQ 255 0 out num dig r = (0, 1, out, num, dig) := by unfold takeQ; rw [if_neg (by decide), if_neg (by decide), if_neg (by simp [hh]), if_pos h2]
          have a2 : ((r : Int) == 92) = true := by subst h2; rfl
          rw [e]
          clear h2
          go_enter Tryd.func45, Tryd.ntmps45
          go_wp2_with fail
          refine ch.mono ?_
          rintro e w1 ⟨rfl, rfl⟩
          go_wp2
          go_ret
          refine ⟨rfl, fun _ => ?_, (Below.refl B w).setCell (p := ⟨b, 0, none⟩) hB _, (Lib.OthersKept.refl _ _ w).setCell ⟨b, 0, none⟩ rfl _⟩
          exact Bld.set h 0 (.int .i64 1) [.int .i64 1] _ (fun _ _ => rfl) rfl
        · have e : takeQ 255 0 out num dig r = addQ 255 out num dig r := by unfold takeQ; rw [if_neg (by decide), if_neg (by decide), if_neg (by simp [hh]), if_neg h2]
          have a2 : ((r : Int) == 92) = false := by simp; omega
          have ca := add_w B b 0 out num dig r hr w h hlen hBw
          rw [e]
          go_enter Tryd.func45, Tryd.ntmps45
          go_wp2_with fail
          refine ch.mono ?_
          rintro e w1 ⟨rfl, rfl⟩
          go_wp2_with fail
          refine ca.mono ?_
          rintro e w1 ⟨rfl, q1, b1, k1⟩
          go_wp2
          go_ret
          exact ⟨rfl, q1, b1, k1⟩

/-- What stays true of the state. -/
theorem takeQ_inv (part : Nat) (out : List Nat) (num dig r : Nat) (hlen : out.length ≤ 255) (hnum : num < 16 ^ dig) (hdig : dig ≤ 6) (h0 : (takeQ 255 part out num dig r).1 = 0) :
    (takeQ 255 part out num dig r).2.1 ≤ 2 ∧ (takeQ 255 part out num dig r).2.2.1.length ≤ 255 ∧ (takeQ 255 part out num dig r).2.2.2.1 < 16 ^ (takeQ 255 part out num dig r).2.2.2.2 ∧ (takeQ 255 part out num dig r).2.2.2.2 ≤ 6 := by
  have ha : ∀ x, (addQ 255 out num dig x).1 = 0 → (addQ 255 out num dig x).2.1 ≤ 2 ∧ (addQ 255 out num dig x).2.2.1.length ≤ 255 ∧ (addQ 255 out num dig x).2.2.2.1 < 16 ^ (addQ 255 out num dig x).2.2.2.2 ∧ (addQ 255 out num dig x).2.2.2.2 ≤ 6 := by
    intro x hx
    unfold addQ at hx ⊢
    by_cases hl : out.length = 255
    · rw [if_pos hl] at hx; simp at hx
    · rw [if_neg hl]; simp; exact ⟨by omega, hnum, hdig⟩
  unfold takeQ at h0 ⊢
  split
  · rename_i h1
    rw [if_pos h1] at h0
    unfold escQ at h0 ⊢
    split
    · rename_i h2; rw [if_pos h2] at h0; exact ha _ h0
    · rename_i h2
      rw [if_neg h2] at h0
      split
      · rename_i h3; rw [if_pos h3] at h0; exact ha _ h0
      · rename_i h3
        rw [if_neg h3] at h0
        split
        · exact ⟨by simp, by simpa using hlen, by simp, by simp⟩
        · rename_i h4; rw [if_neg h4] at h0; simp at h0
  · rename_i h1
    rw [if_neg h1] at h0
    split
    · rename_i h2
      rw [if_pos h2] at h0
      unfold numQ at h0 ⊢
      split
      · rename_i h3
        rw [if_pos h3] at h0
        split
        · rename_i h4; rw [if_pos h4] at h0; simp at h0
        · rename_i h4; rw [if_neg h4] at h0; exact ha _ h0
      · rename_i h3
        rw [if_neg h3] at h0
        split
        · rename_i h4; rw [if_pos h4] at h0; simp at h0
        · rename_i h4
          have hd : digV r < 16 := by
            have h5 : digV r ≠ 16 := fun e => h4 (Or.inl e)
            unfold digV at h5 ⊢
            split
            · omega
            · split
              · omega
              · split
                · omega
                · rename_i a b c; rw [if_neg a, if_neg b, if_neg c] at h5; omega
          refine ⟨by simp, by simpa using hlen, ?_, ?_⟩
          · simp only [Nat.pow_succ]; omega
          · simp; omega
    · rename_i h2
      rw [if_neg h2] at h0
      split
      · rename_i h3; rw [if_pos h3] at h0; simp at h0
      · rename_i h3
        rw [if_neg h3] at h0
        split
        · exact ⟨by simp, by simpa using hlen, by simpa using hnum, by simpa using hdig⟩
        · rename_i h4; rw [if_neg h4] at h0; exact ha _ h0
end Go.Proofs.YtppfgcbigohkkaaDoor
