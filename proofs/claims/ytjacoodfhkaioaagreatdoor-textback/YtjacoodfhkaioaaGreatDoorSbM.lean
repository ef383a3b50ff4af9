/- Texts of mine, one behind the other: RunesUnq, RunesRead, RunesUnquote, TextRd6, TextRd7. -/
import Derived.Test.YtjacoodfhkaioaaGreatDoorSbE
import Derived.Test.YtjacoodfhkaioaaGreatDoorSbK
import Derived.Test.YtjacoodfhkaioaaGreatDoorSbL
import Derived.Test.YtjacoodfhkaioaaGreatDoorSbH
import Derived.Test.YtjacoodfhkaioaaGreatDoorSbJ
import Derived.Test.YtjacoodfhkaioaaGreatDoorSbI
namespace Go.Proofs.YtjacoodfhkaioaaGreatDoor
open Go.Lib
set_option linter.unusedSimpArgs false
set_option linter.unusedVariables false
set_option maxRecDepth 2000

def digV (r : Nat) : Nat := if 48 ≤ r ∧ r ≤ 57 then r - 48 else if 97 ≤ r ∧ r ≤ 102 then r - 87 else if 65 ≤ r ∧ r ≤ 70 then r - 55 else 16
def vR (n : Nat) : Bool := Lib.validRune (n : Int)
def addQ (L : Nat) (out : List Nat) (num dig r : Nat) : Nat × Nat × List Nat × Nat × Nat := if out.length = L then (3, 0, out, num, dig) else (0, 0, out ++ [r], num, dig)
def escQ (L : Nat) (out : List Nat) (num dig r : Nat) : Nat × Nat × List Nat × Nat × Nat :=
  if r = 39 ∨ r = 92 then addQ L out num dig r else if r = 110 then addQ L out num dig 10 else if r = 120 then (0, 2, out, 0, 0) else (4, 1, out, num, dig)
def numQ (L : Nat) (out : List Nat) (num dig r : Nat) : Nat × Nat × List Nat × Nat × Nat :=
  if r = 59 then (if dig = 0 ∨ vR num = false then (4, 2, out, num, dig) else addQ L out num dig num)
  else if digV r = 16 ∨ dig = 6 then (4, 2, out, num, dig) else (0, 2, out, num * 16 + digV r, dig + 1)
/-- One sign between the quotes: what is wrong (0: nothing), and the state behind it. -/
def takeQ (L part : Nat) (out : List Nat) (num dig r : Nat) : Nat × Nat × List Nat × Nat × Nat :=
  if part = 1 then escQ L out num dig r else if part = 2 then numQ L out num dig r
  else if hiddenB r then (4, 0, out, num, dig) else if r = 92 then (0, 1, out, num, dig) else addQ L out num dig r
def runQ (L : Nat) : Nat → List Nat → Nat → Nat → List Nat → Nat × List Nat × List Nat
  | _, _, _, _, [] => (2, [], [])
  | part, out, num, dig, r :: t =>
    if part = 0 ∧ r = 39 then (0, out, t)
    else if (takeQ L part out num dig r).1 = 0 then runQ L (takeQ L part out num dig r).2.1 (takeQ L part out num dig r).2.2.1 (takeQ L part out num dig r).2.2.2.1 (takeQ L part out num dig r).2.2.2.2 t
    else ((takeQ L part out num dig r).1, [], [])

theorem runQ_step (L part : Nat) (out : List Nat) (num dig r : Nat) (t : List Nat) (p' : Nat) (o' : List Nat) (n' d' : Nat) (h : ¬ (part = 0 ∧ r = 39)) (ht : takeQ L part out num dig r = (0, p', o', n', d')) :
    runQ L part out num dig (r :: t) = runQ L p' o' n' d' t := by
  rw [runQ, if_neg h, ht]; simp
theorem addQ_ok (L : Nat) (out : List Nat) (num dig r : Nat) (h : out.length < L) : addQ L out num dig r = (0, 0, out ++ [r], num, dig) := by
  unfold addQ; rw [if_neg (by omega)]
theorem digV_hexD (k : Nat) (h : k < 16) : digV (hexD k) = k := by
  unfold digV hexD
  by_cases h1 : k < 10
  · rw [if_pos h1, if_pos (by omega)]; omega
  · rw [if_neg h1, if_neg (by omega), if_pos (by omega)]; omega
theorem hexD_ne (k : Nat) (h : k < 16) : hexD k ≠ 59 ∧ hexD k ≠ 39 := by
  unfold hexD; split <;> omega
theorem vR_small (r : Nat) (h : r < 128) : vR r = true := by
  unfold vR Lib.validRune; simp; omega
/-- The digits of an escape, read. -/
theorem runQ_hex (L : Nat) (out : List Nat) (r : Nat) (t : List Nat) (hr : r < 128) (hl : out.length < L) : runQ L 2 out 0 0 (hex2 r ++ 59 :: t) = runQ L 0 (out ++ [r]) r (hex2 r).length t := by
  unfold hex2
  by_cases h : r < 16
  · rw [if_pos h]
    have hne := hexD_ne r h
    have hd := digV_hexD r h
    show runQ L 2 out 0 0 (hexD r :: 59 :: t) = _
    rw [runQ_step L 2 out 0 0 (hexD r) (59 :: t) 2 out r 1 (by omega) (by
      unfold takeQ numQ; rw [if_neg (by omega), if_pos rfl, if_neg hne.1, if_neg (by omega), hd]; simp)]
    rw [runQ_step L 2 out r 1 59 t 0 (out ++ [r]) r 1 (by omega) (by
      unfold takeQ numQ; rw [if_neg (by omega), if_pos rfl, if_pos rfl, if_neg (by rw [vR_small r hr]; simp), addQ_ok _ _ _ _ _ hl])]
    rfl
  · rw [if_neg h]
    have h1 : r / 16 < 16 := by omega
    have h2 : r % 16 < 16 := by omega
    have ha := hexD_ne _ h1
    have hb := hexD_ne _ h2
    have da := digV_hexD _ h1
    have db := digV_hexD _ h2
    show runQ L 2 out 0 0 (hexD (r / 16) :: hexD (r % 16) :: 59 :: t) = _
    rw [runQ_step L 2 out 0 0 (hexD (r / 16)) (hexD (r % 16) :: 59 :: t) 2 out (r / 16) 1 (by omega) (by
      unfold takeQ numQ; rw [if_neg (by omega), if_pos rfl, if_neg ha.1, if_neg (by omega), da]; simp)]
    rw [runQ_step L 2 out (r / 16) 1 (hexD (r % 16)) (59 :: t) 2 out r 2 (by omega) (by
      unfold takeQ numQ; rw [if_neg (by omega), if_pos rfl, if_neg hb.1, if_neg (by omega), db]; congr 4; omega)]
    rw [runQ_step L 2 out r 2 59 t 0 (out ++ [r]) r 2 (by omega) (by
      unfold takeQ numQ; rw [if_neg (by omega), if_pos rfl, if_pos rfl, if_neg (by rw [vR_small r hr]; simp), addQ_ok _ _ _ _ _ hl])]
    rfl
theorem runQ_esc (L : Nat) (out : List Nat) (num dig r : Nat) (t : List Nat) (hl : out.length < L) : ∃ n d, runQ L 0 out num dig (escR r ++ t) = runQ L 0 (out ++ [r]) n d t := by
  unfold escR
  have hback : ∀ u, runQ L 0 out num dig (92 :: u) = runQ L 1 out num dig u := fun u =>
    runQ_step L 0 out num dig 92 u 1 out num dig (by omega) (by unfold takeQ; rw [if_neg (by omega), if_neg (by omega), if_neg (by decide), if_pos rfl])
  by_cases h1 : r = 39 ∨ r = 92
  · rw [if_pos h1]
    refine ⟨num, dig, ?_⟩
    show runQ L 0 out num dig (92 :: r :: t) = _
    rw [hback, runQ_step L 1 out num dig r t 0 (out ++ [r]) num dig (by omega) (by
      unfold takeQ escQ; rw [if_pos rfl, if_pos h1, addQ_ok _ _ _ _ _ hl])]
  · rw [if_neg h1]
    by_cases h2 : r = 10
    · rw [if_pos h2]
      refine ⟨num, dig, ?_⟩
      show runQ L 0 out num dig (92 :: 110 :: t) = _
      rw [hback, runQ_step L 1 out num dig 110 t 0 (out ++ [10]) num dig (by omega) (by
        unfold takeQ escQ; rw [if_pos rfl, if_neg (by omega), if_pos rfl, addQ_ok _ _ _ _ _ hl]), h2]
    · rw [if_neg h2]
      cases hh : hiddenB r with
      | true =>
        refine ⟨r, (hex2 r).length, ?_⟩
        rw [if_pos rfl]
        show runQ L 0 out num dig (92 :: 120 :: ((hex2 r ++ [59]) ++ t)) = _
        rw [hback, runQ_step L 1 out num dig 120 _ 2 out 0 0 (by omega) (by
          unfold takeQ escQ; rw [if_pos rfl, if_neg (by omega), if_neg (by omega), if_pos rfl]), List.append_assoc]
        exact runQ_hex L out r t (hidden_lt hh) hl
      | false =>
        refine ⟨num, dig, ?_⟩
        rw [if_neg (by simp)]
        show runQ L 0 out num dig (r :: t) = _
        exact runQ_step L 0 out num dig r t 0 (out ++ [r]) num dig (by omega) (by
          unfold takeQ; rw [if_neg (by omega), if_neg (by omega), hh, if_neg (by simp), if_neg (by omega), addQ_ok _ _ _ _ _ hl])
/-- A name that was quoted is read as it was, whatever stands behind it. -/
theorem runQ_back (L : Nat) : ∀ (rs out : List Nat) (num dig : Nat) (t : List Nat), out.length + rs.length ≤ L → runQ L 0 out num dig (escs rs ++ 39 :: t) = (0, out ++ rs, t)
  | [], out, num, dig, t, _ => by
    show runQ L 0 out num dig (39 :: t) = _
    rw [runQ, if_pos ⟨rfl, rfl⟩]; simp
  | r :: rs, out, num, dig, t, h => by
    simp only [List.length_cons] at h
    show runQ L 0 out num dig ((escR r ++ escs rs) ++ 39 :: t) = _
    rw [List.append_assoc]
    obtain ⟨n, d, e⟩ := runQ_esc L out num dig r (escs rs ++ 39 :: t) (by omega)
    rw [e, runQ_back L rs (out ++ [r]) n d t (by simp; omega)]
    simp
/-! ### a quoted name's own signs -/
theorem bare_seen (r : Nat) (f : Bool) (h : bareB r f = true) : hiddenB r = false ∧ r ≠ 39 ∧ r < 128 := by
  unfold bareB at h
  unfold hiddenB
  simp at h ⊢
  omega
end Go.Proofs.YtjacoodfhkaioaaGreatDoor
namespace Go.Proofs.YtjacoodfhkaioaaGreatDoor
open Go.ChangeShapes Go.WideShapes Go.ChangeAt Go.RowKit Go.Shelf
set_option linter.unusedSimpArgs false
set_option linter.unusedVariables false
set_option maxRecDepth 2000

theorem Bld.set {T : TypeId} {B b : Nat} {pre post : List Value} {bs : List UInt8} {w : World} (h : Bld T B b pre post bs w) (j : Nat) (q : Value) (pre' post' : List Value)
    (hs : ∀ p v, (pre ++ p :: v :: post).set j q = pre' ++ p :: v :: post') (hl : pre'.length = pre.length) : Bld T B b pre' post' bs (w.setCell ⟨b, j, none⟩ q) := by
  obtain ⟨hB, hT, p, v, hp, hb, hown, he⟩ := h
  exact ⟨hB, hT, p, v, by rw [hl]; exact hp, by rw [heap_set hb, hs], sown_set hb hT hown _, he⟩
theorem Bld.cell {T : TypeId} {B b : Nat} {pre post : List Value} {bs : List UInt8} {w : World} (h : Bld T B b pre post bs w) (j : Nat) (x : Value)
    (hx : ∀ p v, (pre ++ p :: v :: post)[j]? = some x) : w.cell? ⟨b, j, none⟩ = some x := by
  obtain ⟨hB, hT, p, v, hp, hb, hown, he⟩ := h
  rw [Lib.cell_of_heap hb]; simpa using hx p v
theorem Bld.fz {T : TypeId} {B b : Nat} {pre post : List Value} {bs : List UInt8} {w : World} (h : Bld T B b pre post bs w) (j : Nat) : w.frozen? ⟨b, j, none⟩ = false := by
  obtain ⟨hB, hT, p, v, hp, hb, hown, he⟩ := h
  exact Lib.frozen_of_heap hb _

/-- The struct 'quoted' in block b: the part, the signs read, the escape's number and its digits. -/
def Qd (B b part : Nat) (out : List Nat) (num dig : Nat) (w : World) : Prop :=
  Bld 178 B b [.int .i64 (part : Int)] [.int .i64 (out.length : Int), .int .i32 (num : Int), .int .i64 (dig : Int)] (en out) w
def Q5 (B b : Nat) (t : Nat × Nat × List Nat × Nat × Nat) (w : World) : Prop := t.1 = 0 → Qd B b t.2.1 t.2.2.1 t.2.2.2.1 t.2.2.2.2 w

theorem digit_w (r : Nat) (w : World) (hr : r ≤ 1114111) :
    Calls Tryz.prog 163 #[.int .i32 (r : Int)] w fun e w' => e = .returned (.tuple #[.int .i32 (if digV r = 16 then 0 else (digV r : Int)), .bool (!decide (digV r = 16))]) ∧ w = w' := by
  obtain ⟨D, hD⟩ : ∃ D, digV r = D := ⟨_, rfl⟩
  rw [hD]
  unfold digV at hD
  by_cases h1 : 48 ≤ r ∧ r ≤ 57
  · rw [if_pos h1] at hD
    have a1 : (48 : Int) ≤ (r : Int) := by omega
    have a2 : (r : Int) ≤ 57 := by omega
    have e1 : ¬ D = 16 := by omega
    have e2 : (r : Int) - 48 = (D : Int) := by omega
    go_enter Tryz.func163, Tryz.ntmps163
    go_wp2
    all_goals go_ret2
    all_goals (refine ⟨?_, rfl⟩; simp [e1])
  · rw [if_neg h1] at hD
    by_cases h2 : 97 ≤ r ∧ r ≤ 102
    · rw [if_pos h2] at hD
      have a1 : (97 : Int) ≤ (r : Int) := by omega
      have a2 : (r : Int) ≤ 102 := by omega
      have a3 : (57 : Int) < (r : Int) := by omega
      have e1 : ¬ D = 16 := by omega
      have e2 : (r : Int) - 97 + 10 = (D : Int) := by omega
      go_enter Tryz.func163, Tryz.ntmps163
      go_wp2
      all_goals go_ret2
      all_goals (refine ⟨?_, rfl⟩; simp [e1])
    · rw [if_neg h2] at hD
      by_cases h3 : 65 ≤ r ∧ r ≤ 70
      · rw [if_pos h3] at hD
        have a1 : (65 : Int) ≤ (r : Int) := by omega
        have a2 : (r : Int) ≤ 70 := by omega
        have a3 : (57 : Int) < (r : Int) := by omega
        have a4 : ¬ (97 : Int) ≤ (r : Int) := by omega
        have e1 : ¬ D = 16 := by omega
        have e2 : (r : Int) - 65 + 10 = (D : Int) := by omega
        go_enter Tryz.func163, Tryz.ntmps163
        go_wp2
        all_goals go_ret2
        all_goals (refine ⟨?_, rfl⟩; simp [e1])
      · rw [if_neg h3] at hD
        subst hD
        go_enter Tryz.func163, Tryz.ntmps163
        go_wp2
        all_goals first
          | (exfalso; omega)
          | (go_ret2; refine ⟨?_, rfl⟩; simp)

set_option maxHeartbeats 2000000 in
theorem add_w (B b part : Nat) (out : List Nat) (num dig r : Nat) (hr : r ≤ 1114111) (w : World) (h : Qd B b part out num dig w) (hlen : out.length ≤ 255) (hBw : B ≤ w.heap.size) :
    Calls Tryz.prog 158 #[.pointer (some ⟨b, 0, none⟩), .int .i32 (r : Int)] w fun e w' => e = .returned (.int .i64 ((addQ 255 out num dig r).1 : Int)) ∧ Q5 B b (addQ 255 out num dig r) w' ∧ Below B w w' ∧ Lib.OthersKept 5 (some b) w w' := by
  have c3 := Bld.cell h 3 _ (fun _ _ => rfl)
  have f3 := Bld.fz h 3
  have c0 := Bld.cell h 0 _ (fun _ _ => rfl)
  obtain ⟨hB, _⟩ := id h
  by_cases hl : out.length = 255
  · have e : addQ 255 out num dig r = (3, 0, out, num, dig) := by unfold addQ; rw [if_pos hl]
    have hlz : ((out.length : Int) == 255) = true := by simp; omega
    rw [e]
    go_enter Tryz.func158, Tryz.ntmps158
    go_wp2
    go_ret
    exact ⟨rfl, fun h => by simp at h, Below.refl _ _, Lib.OthersKept.refl _ _ _⟩
  · have e : addQ 255 out num dig r = (0, 0, out ++ [r], num, dig) := by unfold addQ; rw [if_neg hl]
    have hlz : ((out.length : Int) == 255) = false := by simp; omega
    rw [e]
    have hen4 := en_length_le out
    have h2 : Bld 178 B b [.int .i64 (part : Int)] [.int .i64 ((out.length : Int) + 1), .int .i32 (num : Int), .int .i64 (dig : Int)] (en out) (w.setCell ⟨b, 3, none⟩ (.int .i64 ((out.length : Int) + 1))) :=
      Bld.set h 3 _ _ _ (fun _ _ => rfl) rfl
    go_enter Tryz.func158, Tryz.ntmps158
    go_wp2_with fail
    refine (writeRune_w _ B b [.int .i64 (part : Int)] [.int .i64 ((out.length : Int) + 1), .int .i32 (num : Int), .int .i64 (dig : Int)] (en out) r hr _ h2 home1 (by omega) (by simpa [World.setCell] using hBw)).mono ?_
    rintro e w2 ⟨rfl, h3, b3, k3⟩
    have d0 := Bld.cell h3 0 _ (fun _ _ => rfl)
    have g0 := Bld.fz h3 0
    go_wp2
    go_ret
    refine ⟨rfl, fun _ => ?_, ?_, ?_⟩
    · have h4 := Bld.set h3 0 (.int .i64 0) [.int .i64 0] [.int .i64 ((out.length : Int) + 1), .int .i32 (num : Int), .int .i64 (dig : Int)] (fun _ _ => rfl) rfl
      show Bld _ B b _ [.int .i64 ((out ++ [r]).length : Int), _, _] (en (out ++ [r])) _
      rw [en_append, en_one]
      have el : ((out ++ [r]).length : Int) = (out.length : Int) + 1 := by simp
      rw [el]
      exact h4
    · exact (((Below.refl B w).setCell (p := ⟨b, 3, none⟩) hB _).trans b3).setCell (p := ⟨b, 0, none⟩) hB _
    · exact (((Lib.OthersKept.refl _ _ w).setCell ⟨b, 3, none⟩ rfl _).trans k3).setCell ⟨b, 0, none⟩ rfl _

set_option maxHeartbeats 2000000 in
theorem takeEscape_w (B b : Nat) (out : List Nat) (num dig r : Nat) (hr : r ≤ 1114111) (w : World) (h : Qd B b 1 out num dig w) (hlen : out.length ≤ 255) (hBw : B ≤ w.heap.size) :
    Calls Tryz.prog 156 #[.pointer (some ⟨b, 0, none⟩), .int .i32 (r : Int)] w fun e w' => e = .returned (.int .i64 ((escQ 255 out num dig r).1 : Int)) ∧ Q5 B b (escQ 255 out num dig r) w' ∧ Below B w w' ∧ Lib.OthersKept 5 (some b) w w' := by
  have c0 := Bld.cell h 0 _ (fun _ _ => rfl)
  have c4 := Bld.cell h 4 _ (fun _ _ => rfl)
  have c5 := Bld.cell h 5 _ (fun _ _ => rfl)
  have f0 := Bld.fz h 0
  have f4 := Bld.fz h 4
  have f5 := Bld.fz h 5
  obtain ⟨hB, _⟩ := id h
  by_cases h1 : r = 39 ∨ r = 92
  · have e : escQ 255 out num dig r = addQ 255 out num dig r := by unfold escQ; rw [if_pos h1]
    have ca := add_w B b 1 out num dig r hr w h hlen hBw
    rw [e]
    have hz : ((r : Int) == 39) = true ∨ (((r : Int) == 39) = false ∧ ((r : Int) == 92) = true) := by
      rcases h1 with rfl | rfl
      · exact Or.inl rfl
      · exact Or.inr ⟨rfl, rfl⟩
    rcases hz with hz | ⟨hz, hz2⟩
    all_goals
      go_enter Tryz.func156, Tryz.ntmps156
      go_wp2_with fail
      refine ca.mono ?_
      rintro e w1 ⟨rfl, q1, b1, k1⟩
      go_wp2
      go_ret
      exact ⟨rfl, q1, b1, k1⟩
  · have a1 : ((r : Int) == 39) = false := by simp; omega
    have a2 : ((r : Int) == 92) = false := by simp; omega
    by_cases h2 : r = 110
    · have e : escQ 255 out num dig r = addQ 255 out num dig 10 := by unfold escQ; rw [if_neg h1, if_pos h2]
      have ca := add_w B b 1 out num dig 10 (by omega) w h hlen hBw
      have a3 : ((r : Int) == 110) = true := by subst h2; rfl
      rw [e]
      go_enter Tryz.func156, Tryz.ntmps156
      go_wp2_with fail
      refine ca.mono ?_
      rintro e w1 ⟨rfl, q1, b1, k1⟩
      go_wp2
      go_ret
      exact ⟨rfl, q1, b1, k1⟩
    · have a3 : ((r : Int) == 110) = false := by simp; omega
      by_cases h3 : r = 120
      · have e : escQ 255 out num dig r = (0, 2, out, 0, 0) := by unfold escQ; rw [if_neg h1, if_neg h2, if_pos h3]
        have a4 : ((r : Int) == 120) = true := by subst h3; rfl
        rw [e]
        go_enter Tryz.func156, Tryz.ntmps156
        go_wp2
        go_ret
        refine ⟨rfl, fun _ => ?_, (((Below.refl B w).setCell (p := ⟨b, 0, none⟩) hB _).setCell (p := ⟨b, 4, none⟩) hB _).setCell (p := ⟨b, 5, none⟩) hB _, (((Lib.OthersKept.refl _ _ w).setCell ⟨b, 0, none⟩ rfl _).setCell ⟨b, 4, none⟩ rfl _).setCell ⟨b, 5, none⟩ rfl _⟩
        exact Bld.set (Bld.set (Bld.set h 0 (.int .i64 2) [.int .i64 2] [.int .i64 (out.length : Int), .int .i32 (num : Int), .int .i64 (dig : Int)] (fun _ _ => rfl) rfl) 4 (.int .i32 0) [.int .i64 2] [.int .i64 (out.length : Int), .int .i32 0, .int .i64 (dig : Int)] (fun _ _ => rfl) rfl) 5 (.int .i64 0) [.int .i64 2] [.int .i64 (out.length : Int), .int .i32 0, .int .i64 0] (fun _ _ => rfl) rfl
      · have e : escQ 255 out num dig r = (4, 1, out, num, dig) := by unfold escQ; rw [if_neg h1, if_neg h2, if_neg h3]
        have a4 : ((r : Int) == 120) = false := by simp; omega
        rw [e]
        go_enter Tryz.func156, Tryz.ntmps156
        go_wp2
        go_ret
        exact ⟨rfl, fun h => by simp at h, Below.refl _ _, Lib.OthersKept.refl _ _ _⟩

theorem or4 (n d : Nat) (hn : n < 1048576) (hd : d < 16) : bits .or .i32 ((n : Int) * 16) (d : Int) = ((n * 16 + d : Nat) : Int) := by
  have := bits_join .i32 31 (by decide) wraps_i32 4 ((n : Int) * 16) (d : Int) (by omega) (by omega) (by omega) (by omega) (by omega) (by omega)
  rw [this]; omega
theorem pow16_lt {num dig : Nat} (h : num < 16 ^ dig) (hd : dig < 6) : num < 1048576 := by
  have : 16 ^ dig ≤ 16 ^ 5 := Nat.pow_le_pow_right (by decide) (by omega)
  have e : (16 : Nat) ^ 5 = 1048576 := by decide
  omega
theorem pow16_le {num dig : Nat} (h : num < 16 ^ dig) (hd : dig ≤ 6) : num < 16777216 := by
  have : 16 ^ dig ≤ 16 ^ 6 := Nat.pow_le_pow_right (by decide) (by omega)
  have e : (16 : Nat) ^ 6 = 16777216 := by decide
  omega
set_option maxHeartbeats 2000000 in
theorem takeNumber_w (B b : Nat) (out : List Nat) (num dig r : Nat) (hr : r ≤ 1114111) (w : World) (h : Qd B b 2 out num dig w) (hlen : out.length ≤ 255) (hBw : B ≤ w.heap.size) (hnum : num < 16 ^ dig) (hdig : dig ≤ 6) :
    Calls Tryz.prog 157 #[.pointer (some ⟨b, 0, none⟩), .int .i32 (r : Int)] w fun e w' => e = .returned (.int .i64 ((numQ 255 out num dig r).1 : Int)) ∧ Q5 B b (numQ 255 out num dig r) w' ∧ Below B w w' ∧ Lib.OthersKept 5 (some b) w w' := by
  have c4 := Bld.cell h 4 _ (fun _ _ => rfl)
  have c5 := Bld.cell h 5 _ (fun _ _ => rfl)
  have f4 := Bld.fz h 4
  have f5 := Bld.fz h 5
  obtain ⟨hB, _⟩ := id h
  have hnl := pow16_le hnum hdig
  by_cases h1 : r = 59
  · have a1 : ((r : Int) == 59) = true := by subst h1; rfl
    by_cases h2 : dig = 0
    · have e : numQ 255 out num dig r = (4, 2, out, num, dig) := by unfold numQ; rw [if_pos h1, if_pos (Or.inl h2)]
      have a2 : ((dig : Int) == 0) = true := by subst h2; rfl
      rw [e]
      go_enter Tryz.func157, Tryz.ntmps157
      go_wp2
      go_ret
      exact ⟨rfl, fun h => by simp at h, Below.refl _ _, Lib.OthersKept.refl _ _ _⟩
    · have a2 : ((dig : Int) == 0) = false := by simp; omega
      cases hv : vR num with
      | false =>
        have e : numQ 255 out num dig r = (4, 2, out, num, dig) := by unfold numQ; rw [if_pos h1, if_pos (Or.inr hv)]
        have cv := validRune_w (num : Int) w
        rw [show Lib.validRune (num : Int) = false from hv] at cv
        rw [e]
        go_enter Tryz.func157, Tryz.ntmps157
        go_wp2_with fail
        refine cv.mono ?_
        rintro e w1 ⟨rfl, rfl⟩
        go_wp2
        go_ret
        exact ⟨rfl, fun h => by simp at h, Below.refl _ _, Lib.OthersKept.refl _ _ _⟩
      | true =>
        have e : numQ 255 out num dig r = addQ 255 out num dig num := by unfold numQ; rw [if_pos h1, if_neg (by simp [h2, hv])]
        have cv := validRune_w (num : Int) w
        rw [show Lib.validRune (num : Int) = true from hv] at cv
        have hle : num ≤ 1114111 := by
          unfold vR Lib.validRune at hv
          simp at hv; omega
        have ca := add_w B b 2 out num dig num hle w h hlen hBw
        rw [e]
        go_enter Tryz.func157, Tryz.ntmps157
        go_wp2_with fail
        refine cv.mono ?_
        rintro e w1 ⟨rfl, rfl⟩
        go_wp2_with fail
        refine ca.mono ?_
        rintro e w2 ⟨rfl, q1, b1, k1⟩
        go_wp2
        go_ret
        exact ⟨rfl, q1, b1, k1⟩
  · have a1 : ((r : Int) == 59) = false := by simp; omega
    have cd := digit_w r w hr
    by_cases h2 : digV r = 16
    · have e : numQ 255 out num dig r = (4, 2, out, num, dig) := by unfold numQ; rw [if_neg h1, if_pos (Or.inl h2)]
      rw [e]
      rw [h2] at cd
      go_enter Tryz.func157, Tryz.ntmps157
      go_wp2_with fail
      refine cd.mono ?_
      rintro e w1 ⟨rfl, rfl⟩
      go_wp2
      go_ret
      exact ⟨rfl, fun h => by simp at h, Below.refl _ _, Lib.OthersKept.refl _ _ _⟩
    · rw [if_neg h2, show (!decide (digV r = 16)) = true by simp [h2]] at cd
      have hd16 : digV r < 16 := by
        unfold digV at h2 ⊢
        split at h2
        · rw [if_pos (by assumption)]; omega
        · rw [if_neg (by assumption)]
          split at h2
          · rw [if_pos (by assumption)]; omega
          · rw [if_neg (by assumption)]
            split at h2
            · rw [if_pos (by assumption)]; omega
            · exact absurd rfl h2
      by_cases h3 : dig = 6
      · have e : numQ 255 out num dig r = (4, 2, out, num, dig) := by unfold numQ; rw [if_neg h1, if_pos (Or.inr h3)]
        have a3 : ((dig : Int) == 6) = true := by subst h3; rfl
        rw [e]
        go_enter Tryz.func157, Tryz.ntmps157
        go_wp2_with fail
        refine cd.mono ?_
        rintro e w1 ⟨rfl, rfl⟩
        go_wp2
        go_ret
        exact ⟨rfl, fun h => by simp at h, Below.refl _ _, Lib.OthersKept.refl _ _ _⟩
      · have e : numQ 255 out num dig r = (0, 2, out, num * 16 + digV r, dig + 1) := by unfold numQ; rw [if_neg h1, if_neg (by simp [h2, h3])]
        have a3 : ((dig : Int) == 6) = false := by simp; omega
        have hn5 := pow16_lt hnum (by omega)
        obtain ⟨d, hd⟩ : ∃ d, digV r = d := ⟨_, rfl⟩
        rw [hd] at cd e hd16
        have hor := or4 num d hn5 hd16
        rw [e]
        go_enter Tryz.func157, Tryz.ntmps157
        go_wp2_with fail
        refine cd.mono ?_
        rintro e w1 ⟨rfl, rfl⟩
        go_wp2
        go_ret
        refine ⟨rfl, fun _ => ?_, ((Below.refl B w).setCell (p := ⟨b, 4, none⟩) hB _).setCell (p := ⟨b, 5, none⟩) hB _, ((Lib.OthersKept.refl _ _ w).setCell ⟨b, 4, none⟩ rfl _).setCell ⟨b, 5, none⟩ rfl _⟩
        have h4 := Bld.set (Bld.set h 4 (.int .i32 ((num : Int) * 16 + (d : Int))) [.int .i64 2] [.int .i64 (out.length : Int), .int .i32 ((num : Int) * 16 + (d : Int)), .int .i64 (dig : Int)] (fun _ _ => rfl) rfl) 5 (.int .i64 ((dig : Int) + 1)) [.int .i64 2] [.int .i64 (out.length : Int), .int .i32 ((num : Int) * 16 + (d : Int)), .int .i64 ((dig : Int) + 1)] (fun _ _ => rfl) rfl
        show Bld _ B b [.int .i64 ((2 : Nat) : Int)] [.int .i64 (out.length : Int), .int .i32 ((num * 16 + d : Nat) : Int), .int .i64 ((dig + 1 : Nat) : Int)] (en out) _
        rw [show ((num * 16 + d : Nat) : Int) = (num : Int) * 16 + (d : Int) by omega, show ((dig + 1 : Nat) : Int) = (dig : Int) + 1 by omega]
        exact h4

set_option maxHeartbeats 2000000 in
theorem take_w (B b part : Nat) (out : List Nat) (num dig r : Nat) (hr : r ≤ 1114111) (w : World) (h : Qd B b part out num dig w) (hpart : part ≤ 2) (hlen : out.length ≤ 255) (hBw : B ≤ w.heap.size) (hnum : num < 16 ^ dig) (hdig : dig ≤ 6) :
    Calls Tryz.prog 152 #[.pointer (some ⟨b, 0, none⟩), .int .i32 (r : Int)] w fun e w' => e = .returned (.int .i64 ((takeQ 255 part out num dig r).1 : Int)) ∧ Q5 B b (takeQ 255 part out num dig r) w' ∧ Below B w w' ∧ Lib.OthersKept 5 (some b) w w' := by
  have c0 := Bld.cell h 0 _ (fun _ _ => rfl)
  have f0 := Bld.fz h 0
  obtain ⟨hB, _⟩ := id h
  by_cases p1 : part = 1
  · subst p1
    have e : takeQ 255 1 out num dig r = escQ 255 out num dig r := by unfold takeQ; rw [if_pos rfl]
    have ca := takeEscape_w B b out num dig r hr w h hlen hBw
    rw [e]
    go_enter Tryz.func152, Tryz.ntmps152
    go_wp2_with fail
    refine ca.mono ?_
    rintro e w1 ⟨rfl, q1, b1, k1⟩
    go_wp2
    go_ret
    exact ⟨rfl, q1, b1, k1⟩
  · by_cases p2 : part = 2
    · subst p2
      have e : takeQ 255 2 out num dig r = numQ 255 out num dig r := by unfold takeQ; rw [if_neg (by decide), if_pos rfl]
      have ca := takeNumber_w B b out num dig r hr w h hlen hBw hnum hdig
      rw [e]
      go_enter Tryz.func152, Tryz.ntmps152
      go_wp2_with fail
      refine ca.mono ?_
      rintro e w1 ⟨rfl, q1, b1, k1⟩
      go_wp2
      go_ret
      exact ⟨rfl, q1, b1, k1⟩
    · obtain rfl : part = 0 := by omega
      have ch := hidden_w r w
      cases hh : hiddenB r with
      | true =>
        have e : takeQ 255 0 out num dig r = (4, 0, out, num, dig) := by unfold takeQ; rw [if_neg (by decide), if_neg (by decide), if_pos hh]
        rw [hh] at ch
        rw [e]
        go_enter Tryz.func152, Tryz.ntmps152
        go_wp2_with fail
        refine ch.mono ?_
        rintro e w1 ⟨rfl, rfl⟩
        go_wp2
        go_ret
        exact ⟨rfl, fun h => by simp at h, Below.refl _ _, Lib.OthersKept.refl _ _ _⟩
      | false =>
        rw [hh] at ch
        by_cases h2 : r = 92
        · have e : takeQ 255 0 out num dig r = (0, 1, out, num, dig) := by unfold takeQ; rw [if_neg (by decide), if_neg (by decide), if_neg (by simp [hh]), if_pos h2]
          have a2 : ((r : Int) == 92) = true := by subst h2; rfl
          rw [e]
          clear h2
          go_enter Tryz.func152, Tryz.ntmps152
          go_wp2_with fail
          refine ch.mono ?_
          rintro e w1 ⟨rfl, rfl⟩
          go_wp2
          go_ret
          refine ⟨rfl, fun _ => ?_, (Below.refl B w).setCell (p := ⟨b, 0, none⟩) hB _, (Lib.OthersKept.refl _ _ w).setCell ⟨b, 0, none⟩ rfl _⟩
          exact Bld.set h 0 (.int .i64 1) [.int .i64 1] _ (fun _ _ => rfl) rfl
        · have e : takeQ 255 0 out num dig r = addQ 255 out num dig r := by unfold takeQ; rw [if_neg (by decide), if_neg (by decide), if_neg (by simp [hh]), if_neg h2]
          have a2 : ((r : Int) == 92) = false := by simp; omega
          have ca := add_w B b 0 out num dig r hr w h hlen hBw
          rw [e]
          go_enter Tryz.func152, Tryz.ntmps152
          go_wp2_with fail
          refine ch.mono ?_
          rintro e w1 ⟨rfl, rfl⟩
          go_wp2_with fail
          refine ca.mono ?_
          rintro e w1 ⟨rfl, q1, b1, k1⟩
          go_wp2
          go_ret
          exact ⟨rfl, q1, b1, k1⟩

/-- What stays true of the state. -/
theorem takeQ_inv (part : Nat) (out : List Nat) (num dig r : Nat) (hlen : out.length ≤ 255) (hnum : num < 16 ^ dig) (hdig : dig ≤ 6) (h0 : (takeQ 255 part out num dig r).1 = 0) :
    (takeQ 255 part out num dig r).2.1 ≤ 2 ∧ (takeQ 255 part out num dig r).2.2.1.length ≤ 255 ∧ (takeQ 255 part out num dig r).2.2.2.1 < 16 ^ (takeQ 255 part out num dig r).2.2.2.2 ∧ (takeQ 255 part out num dig r).2.2.2.2 ≤ 6 := by
  have ha : ∀ x, (addQ 255 out num dig x).1 = 0 → (addQ 255 out num dig x).2.1 ≤ 2 ∧ (addQ 255 out num dig x).2.2.1.length ≤ 255 ∧ (addQ 255 out num dig x).2.2.2.1 < 16 ^ (addQ 255 out num dig x).2.2.2.2 ∧ (addQ 255 out num dig x).2.2.2.2 ≤ 6 := by
    intro x hx
    unfold addQ at hx ⊢
    by_cases hl : out.length = 255
    · rw [if_pos hl] at hx; simp at hx
    · rw [if_neg hl]; simp; exact ⟨by omega, hnum, hdig⟩
  unfold takeQ at h0 ⊢
  split
  · rename_i h1
    rw [if_pos h1] at h0
    unfold escQ at h0 ⊢
    split
    · rename_i h2; rw [if_pos h2] at h0; exact ha _ h0
    · rename_i h2
      rw [if_neg h2] at h0
      split
      · rename_i h3; rw [if_pos h3] at h0; exact ha _ h0
      · rename_i h3
        rw [if_neg h3] at h0
        split
        · exact ⟨by simp, by simpa using hlen, by simp, by simp⟩
        · rename_i h4; rw [if_neg h4] at h0; simp at h0
  · rename_i h1
    rw [if_neg h1] at h0
    split
    · rename_i h2
      rw [if_pos h2] at h0
      unfold numQ at h0 ⊢
      split
      · rename_i h3
        rw [if_pos h3] at h0
        split
        · rename_i h4; rw [if_pos h4] at h0; simp at h0
        · rename_i h4; rw [if_neg h4] at h0; exact ha _ h0
      · rename_i h3
        rw [if_neg h3] at h0
        split
        · rename_i h4; rw [if_pos h4] at h0; simp at h0
        · rename_i h4
          have hd : digV r < 16 := by
            have h5 : digV r ≠ 16 := fun e => h4 (Or.inl e)
            unfold digV at h5 ⊢
            split
            · omega
            · split
              · omega
              · split
                · omega
                · rename_i a b c; rw [if_neg a, if_neg b, if_neg c] at h5; omega
          refine ⟨by simp, by simpa using hlen, ?_, ?_⟩
          · simp only [Nat.pow_succ]; omega
          · simp; omega
    · rename_i h2
      rw [if_neg h2] at h0
      split
      · rename_i h3; rw [if_pos h3] at h0; simp at h0
      · rename_i h3
        rw [if_neg h3] at h0
        split
        · exact ⟨by simp, by simpa using hlen, by simpa using hnum, by simpa using hdig⟩
        · rename_i h4; rw [if_neg h4] at h0; exact ha _ h0
end Go.Proofs.YtjacoodfhkaioaaGreatDoor
namespace Go.Proofs.YtjacoodfhkaioaaGreatDoor
open Go.ChangeShapes Go.WideShapes Go.ChangeAt Go.RowKit Go.Shelf
set_option linter.unusedSimpArgs false
set_option linter.unusedVariables false
set_option maxRecDepth 2000

def bareLen : Bool → List Nat → Nat
  | _, [] => 0
  | f, r :: t => if bareB r f then 1 + bareLen false t else 0
def bareQ (l : List UInt8) : Nat × List UInt8 × Nat :=
  if 255 < bareLen true (sg l) then (3, [], 0) else if bareLen true (sg l) = 0 then (4, [], 0) else (0, l.take (bareLen true (sg l)), bareLen true (sg l))
/-- What stands behind the first quote, read. -/
def quotQ (n : Nat) (t : List Nat) : Nat × List UInt8 × Nat :=
  if (runQ 255 0 [] 0 0 t).1 = 0 then (0, en (runQ 255 0 [] 0 0 t).2.1, n - (en (runQ 255 0 [] 0 0 t).2.2).length) else ((runQ 255 0 [] 0 0 t).1, [], 0)
def unqQ (l : List UInt8) : Nat × List UInt8 × Nat :=
  if Lib.validD l then (if Lib.hasPrefix l [39] then quotQ l.length (sg (l.drop 1)) else bareQ l) else (4, [], 0)
def val3 (q : Nat × List UInt8 × Nat) : Value := .tuple #[.string ⟨q.2.1.toArray⟩, .int .i64 (q.2.2 : Int), .int .i64 (q.1 : Int)]

theorem tail_list (s : ByteArray) : (s.extract 1 s.size).data.toList = s.data.toList.drop 1 := by
  rw [ByteArray.data_extract, Array.toList_extract, List.extract_eq_take_drop]
  rw [List.take_of_length_le]
  rw [List.length_drop]
  exact Nat.le_refl _

set_option maxHeartbeats 4000000 in
theorem readQuoted_w (s : ByteArray) (w : World) (h1 : 1 ≤ s.size) (hs : s.size ≤ 1000000) (hv : Lib.validD (s.data.toList.drop 1) = true) :
    Calls Tryz.prog 133 #[.string s] w fun e w' => e = .returned (val3 (quotQ s.size (sg (s.data.toList.drop 1)))) ∧ Below w.heap.size w w' := by
  obtain ⟨R, hR⟩ : ∃ R, runQ 255 0 [] 0 0 (sg (s.data.toList.drop 1)) = R := ⟨_, rfl⟩
  obtain ⟨Z, hZ⟩ : ∃ Z, quotQ s.size (sg (s.data.toList.drop 1)) = Z := ⟨_, rfl⟩
  rw [hZ]
  have hZR : Hid (Z = if R.1 = 0 then (0, en R.2.1, s.size - (en R.2.2).length) else (R.1, [], 0)) := hid (by rw [← hZ]; unfold quotQ; rw [hR])
  clear hZ
  have h1z : (1 : Int) ≤ (s.size : Int) := by omega
  obtain ⟨X, hX⟩ : ∃ X, s.extract 1 s.size = X := ⟨_, rfl⟩
  have xX : X.data.toList = s.data.toList.drop 1 := by rw [← hX]; exact tail_list s
  have zX : X.size + 1 = s.size := by
    have : X.data.toList.length = s.size - 1 := by rw [xX, List.length_drop]; rfl
    have e : X.data.toList.length = X.size := rfl
    omega
  rw [← xX] at hR hv
  clear xX
  go_enter Tryz.func133, Tryz.ntmps133
  go_wp2
  go_loopw [] (fun wr => ∃ (pos part num dig : Nat) (out : List Nat), Qd w.heap.size w.heap.size part out num dig wr ∧ wr.heap[w.heap.size + 1]? = some (.stringIter X pos) ∧ Below w.heap.size w wr ∧ part ≤ 2 ∧ out.length ≤ 255 ∧ num < 16 ^ dig ∧ dig ≤ 6 ∧ pos ≤ X.size ∧ Hid (Lib.validD (X.data.toList.drop pos) = true) ∧ Hid (runQ 255 part out num dig (sg (X.data.toList.drop pos)) = R)) (fun wr => X.size - wr.iterPos (w.heap.size + 1))
  case atStart =>
    refine ⟨0, 0, 0, 0, [], ?_, ?_, ?_, by omega, by simp, by simp, by omega, by omega, hid (by simpa using hv), hid (by simpa using hR)⟩
    · have hf : Bld 178 w.heap.size w.heap.size [.int .i64 0] [.int .i64 0, .int .i32 0, .int .i64 0] [] (w.alloc (.cells #[.int .i64 0, .pointer none, .slice none 0 0, .int .i64 0, .int .i32 0, .int .i64 0] 178)) :=
        ⟨Nat.le_refl _, by decide, _, _, Or.inl rfl, Go.heap_alloc_new w _, World.ownsRowF_nil _ _ _ _, fun _ => rfl⟩
      exact hf.alloc _
    · have := World.iter_heap (w.alloc (.cells #[.int .i64 0, .pointer none, .slice none 0 0, .int .i64 0, .int .i32 0, .int .i64 0] 178)) X 0
      simpa using this
    · exact ((Below.refl _ w).alloc (Nat.le_refl _) _).alloc (by simp) _
  case round =>
    obtain ⟨pos, part, num, dig, out, hI, hit, hbw, hpart, hout, hnum, hdig, hpX, hvv, hH⟩ := hrel
    clear hv
    have hszr : w.heap.size + 1 < wr.heap.size := lt_of_heap hit
    by_cases hp : pos < X.size
    · have hnx : ∀ ty, (Instr.next (.pointer (some ⟨w.heap.size + 1, 0, none⟩)) true ty).run Tryz.prog wr = _ := fun ty => Lib.run_next_any_at wr (w.heap.size + 1) X pos ty hit hp
      have hwd := Lib.width_pos X pos
      have hrl := Lib.rune_le X pos
      have hA := valid_at X pos hp hvv.out
      have hst : Hid (sg (X.data.toList.drop pos) = _) := hid (sg_at X pos hp)
      obtain ⟨r, hr⟩ : ∃ r, (Utf8.decode X pos).1 = r := ⟨_, rfl⟩
      rw [hr] at hnx hrl
      have hit2 := Lib.iterAt_heap wr (w.heap.size + 1) X pos (pos + (Utf8.decode X pos).2) hit
      have hbw2 := Lib.below_iterAt hbw (k := w.heap.size + 1) (by omega) X (pos + (Utf8.decode X pos).2)
      have hI2 := Bld.iterAt hI hit (pos + (Utf8.decode X pos).2)
      have hsz2 : w.heap.size ≤ (wr.iterAt (w.heap.size + 1) X (pos + (Utf8.decode X pos).2)).heap.size := by rw [Lib.iterAt_size]; omega
      have c0 := Bld.cell hI2 0 _ (fun _ _ => rfl)
      by_cases hend : part = 0 ∧ r = 39
      · obtain ⟨rfl, h39⟩ := hend
        have a1 : ((r : Int) == 39) = true := by rw [h39]; rfl
        have hRes : Hid (R = (0, out, sg (X.data.toList.drop (pos + (Utf8.decode X pos).2)))) := hid (by
          rw [← hH.out, hst.out, hr, runQ, if_pos ⟨rfl, h39⟩])
        have hw1 : (Utf8.decode X pos).2 = 1 := by rw [← hA.2.1, hr, h39]; rfl
        have hlen : (en (sg (X.data.toList.drop (pos + (Utf8.decode X pos).2)))).length = X.size - (pos + 1) := by
          rw [en_of_valid hA.1, List.length_drop, hw1]; rfl
        clear h39 hw1
        go_wp2_with fail
        refine (string_w _ w.heap.size w.heap.size [.int .i64 ((0 : Nat) : Int)] [.int .i64 (out.length : Int), .int .i32 (num : Int), .int .i64 (dig : Int)] (en out) _ hI2).mono ?_
        rintro e w2 ⟨rfl, b2⟩
        go_wp2
        refine bodyPost_ret (v := val3 (0, en out, pos + 2)) ?_ rfl ⟨?_, hbw2.trans b2⟩
        · simp [results, Tryz.results133, go_sem, val3]
          try omega
        · rw [hZR.out, hRes.out]
          simp only [if_true]
          rw [hlen]
          have : s.size - (X.size - (pos + 1)) = pos + 2 := by omega
          rw [this]
      · have hne : ¬ (part = 0 ∧ r = 39) := hend
        have ht : Hid (R = if (takeQ 255 part out num dig r).1 = 0 then runQ 255 (takeQ 255 part out num dig r).2.1 (takeQ 255 part out num dig r).2.2.1 (takeQ 255 part out num dig r).2.2.2.1 (takeQ 255 part out num dig r).2.2.2.2 (sg (X.data.toList.drop (pos + (Utf8.decode X pos).2))) else ((takeQ 255 part out num dig r).1, [], [])) := hid (by
          rw [← hH.out, hst.out, hr, runQ, if_neg hne])
        have ct := take_w w.heap.size w.heap.size part out num dig r hrl _ hI2 hpart hout hsz2 hnum hdig
        have hinv := takeQ_inv part out num dig r hout hnum hdig
        have htest : (((part : Int) == 0) = false) ∨ (((part : Int) == 0) = true ∧ ((r : Int) == 39) = false) := by
          by_cases h0 : part = 0
          · right
            refine ⟨by simp [h0], ?_⟩
            have : ¬ r = 39 := fun e => hne ⟨h0, e⟩
            simp; omega
          · left; simp [h0]
        generalize takeQ 255 part out num dig r = T at *
        obtain ⟨te, tp, tout, tn, td⟩ := T
        simp only [] at ct hinv ht
        by_cases hte : te = 0
        · subst hte
          obtain ⟨i1, i2, i3, i4⟩ := hinv rfl
          rcases htest with t1 | ⟨t1, t2⟩
          all_goals
            go_wp2_with fail
            refine ct.mono ?_
            rintro e w2 ⟨rfl, q2, b2, k2⟩
            have hq := q2 rfl
            have hit3 := k2.iter hit2 (by omega)
            go_wp2
            go_roundw
            case rel =>
              refine ⟨pos + (Utf8.decode X pos).2, tp, tn, td, tout, hq, hit3, hbw2.trans b2, i1, i2, i3, i4, hA.2.2, hid hA.1, hid ?_⟩
              have := ht.out
              simp only [if_true] at this
              exact this.symm
            case measure =>
              simp only [World.iterPos, hit3, hit]
              omega
        · have htz : ((te : Int) == 0) = false := by simp; omega
          have hRes : Hid (R = (te, [], [])) := hid (by rw [ht.out, if_neg hte])
          rcases htest with t1 | ⟨t1, t2⟩
          all_goals
            go_wp2_with fail
            refine ct.mono ?_
            rintro e w2 ⟨rfl, q2, b2, k2⟩
            go_wp2
            refine bodyPost_ret (v := val3 (te, [], 0)) ?_ rfl ⟨?_, hbw2.trans b2⟩
            · simp [results, Tryz.results133, go_sem, val3]
            · rw [hZR.out, hRes.out]; simp only []; rw [if_neg hte]
    · have hnx : ∀ ty, (Instr.next (.pointer (some ⟨w.heap.size + 1, 0, none⟩)) true ty).run Tryz.prog wr = _ := fun ty => Lib.run_next_end_at wr (w.heap.size + 1) X pos ty hit hp
      have hRes : Hid (R = (2, [], [])) := hid (by
        rw [← hH.out, sg_end X pos hp]
        rfl)
      go_wp2
      refine bodyPost_ret (v := val3 (2, [], 0)) ?_ rfl ⟨?_, hbw⟩
      · simp [results, Tryz.results133, go_sem, val3]
      · rw [hZR.out, hRes.out]; rfl

theorem width1 (s : ByteArray) (pos : Nat) (h : pos < s.size) (hr : (Utf8.decode s pos).1 < 128) : (Utf8.decode s pos).2 = 1 := by
  by_cases ha : (s[pos]'h).toNat < 128
  · rw [decode_ascii s pos h ha]
  · have := (decode_high s pos h (by omega)).1
    omega
theorem head_list (s : ByteArray) (n : Nat) : (s.extract 0 n).data.toList = s.data.toList.take n := by
  rw [ByteArray.data_extract, Array.toList_extract, List.extract_eq_take_drop]; simp
theorem bytes_eq' (s : ByteArray) : (⟨s.data.toList.toArray⟩ : ByteArray) = s := by cases s; simp
set_option maxHeartbeats 4000000 in
theorem readBare_w (s : ByteArray) (w : World) (hs : s.size ≤ 1000000) :
    Calls Tryz.prog 134 #[.string s] w fun e w' => e = .returned (val3 (bareQ s.data.toList)) ∧ Below w.heap.size w w' := by
  obtain ⟨Z, hZ⟩ : ∃ Z, bareQ s.data.toList = Z := ⟨_, rfl⟩
  rw [hZ]
  have hZR : Hid (Z = if 255 < bareLen true (sg s.data.toList) then (3, [], 0) else if bareLen true (sg s.data.toList) = 0 then (4, [], 0) else (0, s.data.toList.take (bareLen true (sg s.data.toList)), bareLen true (sg s.data.toList))) := hid (by rw [← hZ]; rfl)
  clear hZ
  go_enter Tryz.func134, Tryz.ntmps134
  go_wp2
  go_loopw [5] (fun n wr => ∃ (pos : Nat), n = .int .i64 (pos : Int) ∧ wr.heap[w.heap.size]? = some (.stringIter s pos) ∧ Below w.heap.size w wr ∧ pos ≤ 255 ∧ pos ≤ s.size ∧ Hid (pos + bareLen (decide (pos = 0)) (sg (s.data.toList.drop pos)) = bareLen true (sg s.data.toList))) (fun _ wr => s.size - wr.iterPos w.heap.size)
  case atStart => exact ⟨0, rfl, (iter_fresh (Below.refl _ w) s).1, (iter_fresh (Below.refl _ w) s).2, by omega, by omega, hid (by simp)⟩
  case round =>
    obtain ⟨pos, rfl, hit, hbw, hp5, hps, hH⟩ := hrel
    by_cases hp : pos < s.size
    · have hnx : ∀ ty, (Instr.next (.pointer (some ⟨w.heap.size, 0, none⟩)) true ty).run Tryz.prog wr = _ := fun ty => Lib.run_next_any_at wr w.heap.size s pos ty hit hp
      have hwd := Lib.width_pos s pos
      have hit2 := Lib.iterAt_heap wr w.heap.size s pos (pos + (Utf8.decode s pos).2) hit
      have hbw2 := Lib.below_iterAt hbw (k := w.heap.size) (Nat.le_refl _) s (pos + (Utf8.decode s pos).2)
      have hst : Hid (sg (s.data.toList.drop pos) = _) := hid (sg_at s pos hp)
      have hfi : (!decide ((0:Int) < (pos : Int))) = decide (pos = 0) := by rw [Bool.eq_iff_iff]; simp
      have cb := bare_w (Utf8.decode s pos).1 (pos : Int) (wr.iterAt w.heap.size s (pos + (Utf8.decode s pos).2))
      rw [hfi] at cb
      cases hbb : bareB (Utf8.decode s pos).1 (decide (pos = 0)) with
      | true =>
        rw [hbb] at cb
        have hlt := (bare_seen _ _ hbb).2.2
        have hw1 : Hid ((Utf8.decode s pos).2 = 1) := hid (width1 s pos hp hlt)
        have hH2 : Hid (pos + 1 + bareLen false (sg (s.data.toList.drop (pos + 1))) = bareLen true (sg s.data.toList)) := hid (by
          have h1 := hH.out
          rw [hst.out, bareLen, if_pos hbb, hw1.out] at h1
          omega)
        by_cases h5 : pos = 255
        · have h5z : ((pos : Int) == 255) = true := by rw [h5]; rfl
          have hRes : Hid (Z = (3, [], 0)) := hid (by rw [hZR.out, if_pos (by have := hH2.out; omega)])
          clear h5
          go_wp2_with fail
          refine cb.mono ?_
          rintro e w1 ⟨rfl, rfl⟩
          go_wp2
          refine bodyPost_ret (v := val3 (3, [], 0)) ?_ rfl ⟨?_, hbw2⟩
          · simp [results, Tryz.results134, go_sem, val3]
          · rw [hRes.out]
        · have h5z : ((pos : Int) == 255) = false := by simp; omega
          go_wp2_with fail
          refine cb.mono ?_
          rintro e w1 ⟨rfl, rfl⟩
          go_wp2
          go_roundw
          case rel =>
            have hd : decide (pos + 1 = 0) = false := by simp
            refine ⟨pos + 1, by go_num, ?_, hbw2, by omega, by omega, hid (by rw [hd]; exact hH2.out)⟩
            rw [← hw1.out]; exact hit2
          case measure =>
            simp only [World.iterPos, hit2, hit]
            omega
      | false =>
        rw [hbb] at cb
        have hn : bareLen true (sg s.data.toList) = pos := by
          have h1 := hH.out
          rw [hst.out, bareLen, if_neg (by simp [hbb])] at h1
          omega
        go_wp2_with fail
        refine cb.mono ?_
        rintro e w1 ⟨rfl, rfl⟩
        (
                have hbl : bareLen true (sg s.data.toList) = pos := hn
                by_cases h0 : pos = 0
                · have h0z : ((pos : Int) == 0) = true := by rw [h0]; rfl
                  have hRes : Hid (Z = (4, [], 0)) := hid (by rw [hZR.out, hbl, if_neg (by omega), if_pos h0])
                  clear h0 hbl hn
                  go_wp2
                  refine bodyPost_ret (v := val3 (4, [], 0)) ?_ rfl ⟨?_, hbw2⟩
                  · simp [results, Tryz.results134, go_sem, val3]
                  · rw [hRes.out]
                · have h0z : ((pos : Int) == 0) = false := by simp; omega
                  have hRes : Hid (Z = (0, s.data.toList.take pos, pos)) := hid (by rw [hZR.out, hbl, if_neg (by omega), if_neg h0])
                  have hext : (⟨(s.data.toList.take pos).toArray⟩ : ByteArray) = s.extract 0 pos := by rw [← head_list, bytes_eq']
                  clear hbl hn
                  have hpz : (pos : Int) ≤ (s.size : Int) := by omega
                  go_wp2_with fail
                  refine (sclone_w (s.extract 0 pos) _ (by
                              have : (s.extract 0 pos).data.toList.length ≤ s.size := by rw [head_list, List.length_take]; exact Nat.le_trans (Nat.min_le_right _ _) (Nat.le_refl _)
                              have e : (s.extract 0 pos).data.toList.length = (s.extract 0 pos).size := rfl
                              omega)).mono ?_
                  rintro e w9 ⟨rfl, b9⟩
                  go_wp2
                  refine bodyPost_ret (v := val3 (0, s.data.toList.take pos, pos)) ?_ rfl ⟨?_, (hbw2).trans (below_le b9 (hbw2).size)⟩
                  · simp [results, Tryz.results134, go_sem, val3, hext]
                  · rw [hRes.out])
    · have hnx : ∀ ty, (Instr.next (.pointer (some ⟨w.heap.size, 0, none⟩)) true ty).run Tryz.prog wr = _ := fun ty => Lib.run_next_end_at wr w.heap.size s pos ty hit hp
      have hn : bareLen true (sg s.data.toList) = pos := by
          have h1 := hH.out
          rw [sg_end s pos hp] at h1
          simp only [bareLen] at h1
          omega
      (
              have hbl : bareLen true (sg s.data.toList) = pos := hn
              by_cases h0 : pos = 0
              · have h0z : ((pos : Int) == 0) = true := by rw [h0]; rfl
                have hRes : Hid (Z = (4, [], 0)) := hid (by rw [hZR.out, hbl, if_neg (by omega), if_pos h0])
                clear h0 hbl hn
                go_wp2
                refine bodyPost_ret (v := val3 (4, [], 0)) ?_ rfl ⟨?_, hbw⟩
                · simp [results, Tryz.results134, go_sem, val3]
                · rw [hRes.out]
              · have h0z : ((pos : Int) == 0) = false := by simp; omega
                have hRes : Hid (Z = (0, s.data.toList.take pos, pos)) := hid (by rw [hZR.out, hbl, if_neg (by omega), if_neg h0])
                have hext : (⟨(s.data.toList.take pos).toArray⟩ : ByteArray) = s.extract 0 pos := by rw [← head_list, bytes_eq']
                clear hbl hn
                have hpz : (pos : Int) ≤ (s.size : Int) := by omega
                go_wp2_with fail
                refine (sclone_w (s.extract 0 pos) _ (by
                            have : (s.extract 0 pos).data.toList.length ≤ s.size := by rw [head_list, List.length_take]; exact Nat.le_trans (Nat.min_le_right _ _) (Nat.le_refl _)
                            have e : (s.extract 0 pos).data.toList.length = (s.extract 0 pos).size := rfl
                            omega)).mono ?_
                rintro e w9 ⟨rfl, b9⟩
                go_wp2
                refine bodyPost_ret (v := val3 (0, s.data.toList.take pos, pos)) ?_ rfl ⟨?_, (hbw).trans (below_le b9 (hbw).size)⟩
                · simp [results, Tryz.results134, go_sem, val3, hext]
                · rw [hRes.out])

set_option maxHeartbeats 1000000 in
theorem unquote_w (s : ByteArray) (w : World) (hs : s.size ≤ 1000000) (hT : TabsQ w) :
    Calls Tryz.prog 106 #[.string s] w fun e w' => e = .returned (val3 (unqQ s.data.toList)) ∧ Below w.heap.size w w' := by
  obtain ⟨Z, hZ⟩ : ∃ Z, unqQ s.data.toList = Z := ⟨_, rfl⟩
  rw [hZ]
  unfold unqQ at hZ
  cases hv : Lib.validD s.data.toList with
  | false =>
    rw [hv, if_neg (by simp)] at hZ
    go_enter Tryz.func106, Tryz.ntmps106
    go_wp2_with fail
    refine (valid_w s _ (by omega) hT.1).mono ?_
    rintro e w1 ⟨rfl, b1⟩
    go_wp2
    refine bodyPost_ret (v := val3 (4, [], 0)) ?_ rfl ⟨?_, b1⟩
    · simp [results, Tryz.results106, go_sem, val3]
    · rw [← hZ]
  | true =>
    rw [hv, if_pos rfl] at hZ
    cases hp : Lib.hasPrefix s.data.toList [39] with
    | true =>
      rw [hp, if_pos rfl] at hZ
      obtain ⟨t, ht⟩ : ∃ t, s.data.toList = 39 :: t := by
        unfold Lib.hasPrefix at hp
        cases hl : s.data.toList with
        | nil => rw [hl] at hp; simp at hp
        | cons x t =>
          rw [hl] at hp
          simp at hp
          exact ⟨t, by rw [hp]⟩
      have h1 : 1 ≤ s.size := by
        have e : s.data.toList.length = s.size := rfl
        rw [← e, ht]; simp
      have hvt : Lib.validD (s.data.toList.drop 1) = true := by
        rw [ht] at hv ⊢
        rw [Lib.validD_cons 39 t (by decide)] at hv
        simpa using hv
      have cq := readQuoted_w s
      rw [show s.data.toList.length = s.size from rfl] at hZ
      rw [hZ] at cq
      clear ht hZ
      go_enter Tryz.func106, Tryz.ntmps106
      go_wp2_with fail
      refine (valid_w s _ (by omega) hT.1).mono ?_
      rintro e w1 ⟨rfl, b1⟩
      go_wp2_with fail
      refine (hasPrefix_w s ⟨#[39]⟩ _).mono ?_
      rintro e w2 ⟨rfl, rfl⟩
      go_wp2_with fail
      refine (cq _ h1 hs hvt).mono ?_
      rintro e w3 ⟨rfl, b3⟩
      unfold val3
      go_wp2
      refine bodyPost_ret (v := val3 Z) ?_ rfl ⟨rfl, b1.trans (below_le b3 b1.size)⟩
      simp [results, Tryz.results106, go_sem, val3]
    | false =>
      rw [hp, if_neg (by simp)] at hZ
      have cq := readBare_w s
      rw [hZ] at cq
      go_enter Tryz.func106, Tryz.ntmps106
      go_wp2_with fail
      refine (valid_w s _ (by omega) hT.1).mono ?_
      rintro e w1 ⟨rfl, b1⟩
      go_wp2_with fail
      refine (hasPrefix_w s ⟨#[39]⟩ _).mono ?_
      rintro e w2 ⟨rfl, rfl⟩
      go_wp2_with fail
      refine (cq _ hs).mono ?_
      rintro e w3 ⟨rfl, b3⟩
      unfold val3
      go_wp2
      refine bodyPost_ret (v := val3 Z) ?_ rfl ⟨rfl, b1.trans (below_le b3 b1.size)⟩
      simp [results, Tryz.results106, go_sem, val3]
end Go.Proofs.YtjacoodfhkaioaaGreatDoor
namespace Go.Proofs.YtjacoodfhkaioaaGreatDoor
open Go.ChangeShapes Go.WideShapes Go.ChangeAt Go.RowKit Go.Shelf
set_option linter.unusedSimpArgs false
set_option linter.unusedVariables false
set_option maxRecDepth 2000

theorem takeQ_len (L part : Nat) (out : List Nat) (num dig r : Nat) : (takeQ L part out num dig r).1 = 0 → out.length ≤ L → (takeQ L part out num dig r).2.2.1.length ≤ L := by
  intro h hl
  unfold takeQ escQ numQ addQ at *
  repeat' split at h
  all_goals (first | (simp_all; done) | (simp_all; omega))
theorem runQ_len (L : Nat) : ∀ (t : List Nat) (part : Nat) (out : List Nat) (num dig : Nat), out.length ≤ L → (runQ L part out num dig t).2.1.length ≤ L
  | [], _, _, _, _, _ => by simp [runQ]
  | r :: t, part, out, num, dig, hl => by
    unfold runQ
    split
    · exact hl
    · split
      · rename_i h
        exact runQ_len L t _ _ _ _ (takeQ_len L part out num dig r h hl)
      · simp
theorem en_le : ∀ l : List Nat, (en l).length ≤ 4 * l.length
  | [] => by simp [en]
  | r :: l => by
    have h1 := e1_length r
    have h2 := en_le l
    have e : en (r :: l) = e1 r ++ en l := by rw [← en_one r, ← en_append]; rfl
    rw [e, List.length_append, List.length_cons]
    omega
theorem bareLen_le : ∀ (f : Bool) (l : List Nat), bareLen f l ≤ l.length
  | _, [] => by simp [bareLen]
  | f, r :: t => by
    have := bareLen_le false t
    unfold bareLen
    split
    · rw [List.length_cons]; omega
    · omega
theorem unq_sizes (l : List UInt8) (hl : l.length ≤ 5000) : (unqQ l).2.1.length ≤ 5000 ∧ (unqQ l).2.2 ≤ l.length := by
  unfold unqQ
  split
  · split
    · unfold quotQ
      split
      · have h1 := runQ_len 255 (sg (l.drop 1)) 0 [] 0 0 (by simp)
        have h2 := en_le (runQ 255 0 [] 0 0 (sg (l.drop 1))).2.1
        simp only []
        omega
      · simp
    · unfold bareQ
      have h1 := bareLen_le true (sg l)
      have h2 := sg_le l
      split
      · simp
      · split
        · simp
        · simp only [List.length_take]
          omega
  · simp
theorem tl_ne {A Q : ByteArray} (h : A ≠ Q) : (A.toList == Q.toList) = false := by
  rw [ByteArray.toList_eq, ByteArray.toList_eq]
  have : A.data.toList ≠ Q.data.toList := fun e => h (ByteArray.ext (Array.toList_inj.1 e))
  exact beq_eq_false_iff_ne.2 this
def nameL (r : List UInt8) : Option Tm × List UInt8 :=
  if (unqQ (r.take (nearN r))).1 = 0 then
    (if r.take (unqQ (r.take (nearN r))).2.2 = quoteL (unqQ (r.take (nearN r))).2.1 then (some (atomT (bs (unqQ (r.take (nearN r))).2.1)), r.drop (unqQ (r.take (nearN r))).2.2) else (none, r))
  else (none, r)
theorem nearN_le (r : List UInt8) : (r.take (nearN r)).length ≤ 1277 := by
  unfold nearN
  split
  · rw [List.length_take]; omega
  · have := nearGo_le r 1277
    rw [List.length_take]; omega
set_option maxHeartbeats 2000000 in
theorem name_w (g : Nat) (r : List UInt8) (ov : Value) (w : World) (hr : r.length ≤ 1000000) (h : Rdr g r ov w) (h0 : ∀ b, r[0]? = some b → stB b.toNat = true) (hQ : TabsQ w) :
    Calls Tryz.prog 71 #[.pointer (some ⟨g, 0, none⟩)] w fun e w' => ∃ v, e = .returned v ∧ LeafV w.heap.size (nameL r).1 v w' ∧ Rdr g (nameL r).2 ov w' ∧ Kpt (fun b => b = g) w w' := by
  have c1 := near_w g r ov w hr h h0
  have hn := nearN_le r
  have hNr : (r.take (nearN r)).length ≤ r.length := by rw [List.length_take]; omega
  unfold nameL
  generalize r.take (nearN r) = N at *
  have c2 := unquote_w (bs N) w (by rw [bs_size]; omega) hQ
  rw [bs_list] at c2
  have hsz := unq_sizes N (by omega)
  unfold val3 at c2
  obtain ⟨U0, hU⟩ : ∃ U0, unqQ N = U0 := ⟨_, rfl⟩
  obtain ⟨E, X, SZ⟩ := U0
  rw [hU] at c2 hsz
  rw [hU]
  simp only [] at c2 hsz ⊢
  obtain ⟨hX, hS⟩ := hsz
  have hgl := h.lt
  by_cases hE : E = 0
  · subst hE
    rw [if_pos rfl]
    have hH := hid h
    have hex : (bs r).extract 0 SZ = bs (r.take SZ) := ex_take r SZ
    have hex2 : (bs r).extract SZ (bs r).size = bs (r.drop SZ) := ex_drop r SZ
    have hsz := bs_size r
    have hz1 : (SZ : Int) ≤ ((bs r).size : Int) := by omega
    have c3 := fun w' (hb : Below w.heap.size w w') => quote_w (bs X) w' (by rw [bs_size]; omega) (hQ.below hb)
    rw [bs_list] at c3
    have hXl : X.length ≤ 5000 := hX
    obtain ⟨A, hA⟩ : ∃ A, bs (r.take SZ) = A := ⟨_, rfl⟩
    obtain ⟨Q, hQ'⟩ : ∃ Q : ByteArray, ⟨(quoteL X).toArray⟩ = Q := ⟨_, rfl⟩
    obtain ⟨XB, hXB⟩ : ∃ XB, bs X = XB := ⟨_, rfl⟩
    rw [hA] at hex
    rw [hQ', hXB] at c3
    rw [hXB]
    rw [show (⟨X.toArray⟩ : ByteArray) = XB from hXB] at c2
    have hinj : (r.take SZ = quoteL X) ↔ A = Q := by
      rw [← hA, ← hQ']
      constructor
      · intro e; rw [e]; rfl
      · intro e
        have := congrArg (fun b : ByteArray => b.data.toList) e
        simpa [bs] using this
    clear hsz hU hX hS hn h h0 hA hQ'
    have hinH := hid hinj
    clear hinj
    by_cases hAQ : A = Q
    · rw [if_pos (hinH.out.2 hAQ)]
      have hcmp : (A.toList == Q.toList) = true := by rw [hAQ]; simp
      have hAQH := hid hAQ
      clear hAQ
      go_enter Tryz.func71, Tryz.ntmps71
      go_wp2_with fail
      refine c1.mono ?_
      rintro e w1 ⟨rfl, rfl⟩
      go_wp2_with fail
      refine c2.mono ?_
      rintro e w2 ⟨rfl, b2⟩
      obtain ⟨y0, y1, f0, f1⟩ := (hH.out.below b2).cells
      clear c1 c2
      go_upto_region 2 with fail
      go_region_held3 (fun w' => w'.cell? ⟨g, 0, none⟩ = some (.string (bs r))) (first | go_keep) (first | (go_at_call 82; refine (c3 _ ?_).mono ?_; (first | exact b2 | exact b2.drew); rintro e w3 ⟨rfl, b3⟩; have z0 : w3.cell? ⟨g, 0, none⟩ = some (.string (bs r)) := (b3.cell (World.block_lt_of_cell? _ _ y0)).trans y0))
      have b23 : Below w2.heap.size w2 w3 := ((Below.refl _ w2).drew).trans b3
      have bw3 : Below w1.heap.size w1 w3 := b2.trans (below_le b23 b2.size)
      have hR3 := hH.out.below bw3
      obtain ⟨u0, u1, q0, q1⟩ := hR3.cells
      obtain ⟨W4, hW4⟩ : ∃ W4, W4 = w3.setCell ⟨g, 0, none⟩ (.string (bs (r.drop SZ))) := ⟨_, rfl⟩
      have hR4 : Rdr g (r.drop SZ) ov W4 := by rw [hW4]; exact hR3.set0 _
      have hK4 : Kpt (fun b => b = g) w1 W4 := by rw [hW4]; exact (Kpt.of_below bw3).trans (Kpt.of_set (F := fun b => b = g) w3 (p := ⟨g, 0, none⟩) rfl _)
      have c4 := Atom_w XB W4 (by rw [← hXB, bs_size]; omega)
      rw [hW4] at c4
      have hR4H := hid hR4
      have hK4H := hid hK4
      have hW4H := hid hW4
      clear hR3 hR4 hK4 hW4 c3 hXB hAQH hinH
      go_wp2_with fail
      refine c4.mono ?_
      rw [← hW4H.out]
      rintro e w5 ⟨v5, rfl, hT5, b5⟩
      have hz5 := hid hK4H.out.size
      have hTT := hid (TV.mono (Z' := Zw w1.heap.size w5) (fun k hk hz => ⟨Nat.le_trans hz5.out hz.1, hz.2⟩) _ _ hT5)
      obtain ⟨k', neg', od', ld', cd', nm', n', ol', ll', cl', ob', lb', cb', rfl⟩ := hT5.form
      clear c4 hT5
      go_wp2
      go_ret
      exact ⟨_, rfl, ⟨_, rfl, hTT.out⟩, hR4H.out.below b5, hK4H.out.trans (Kpt.of_below b5)⟩
    · rw [if_neg (fun e => hAQ (hinH.out.1 e))]
      have hcmp : (A.toList == Q.toList) = false := tl_ne hAQ
      clear hAQ
      go_enter Tryz.func71, Tryz.ntmps71
      go_wp2_with fail
      refine c1.mono ?_
      rintro e w1 ⟨rfl, rfl⟩
      go_wp2_with fail
      refine c2.mono ?_
      rintro e w2 ⟨rfl, b2⟩
      obtain ⟨y0, y1, f0, f1⟩ := (hH.out.below b2).cells
      clear c1 c2
      go_upto_region 2 with fail
      go_region_held3 (fun w' => w'.cell? ⟨g, 0, none⟩ = some (.string (bs r))) (first | go_keep) (first | (go_at_call 82; refine (c3 _ ?_).mono ?_; (first | exact b2 | exact b2.drew); rintro e w3 ⟨rfl, b3⟩; have z0 : w3.cell? ⟨g, 0, none⟩ = some (.string (bs r)) := (b3.cell (World.block_lt_of_cell? _ _ y0)).trans y0))
      have b23 : Below w2.heap.size w2 w3 := ((Below.refl _ w2).drew).trans b3
      have bw3 : Below w1.heap.size w1 w3 := b2.trans (below_le b23 b2.size)
      have hRR := hid (hH.out.below bw3)
      have hKK := hid (Kpt.of_below (F := fun b => b = g) bw3)
      clear c3
      go_wp2
      go_ret
      exact ⟨_, rfl, rfl, hRR.out, hKK.out⟩
  · have hne : ((E : Int) != 0) = true := by simp [hE]
    have hEH := hid hE
    have hH := hid h
    clear hE hU hX hS hn h h0
    go_enter Tryz.func71, Tryz.ntmps71
    go_wp2_with fail
    refine c1.mono ?_
    rintro e w1 ⟨rfl, rfl⟩
    go_wp2_with fail
    refine c2.mono ?_
    rintro e w2 ⟨rfl, b2⟩
    have hbd : ∀ n, Below w1.heap.size w1 (w2.drewN n) := fun n => b2.trans (below_le (below_drewNv (Below.refl _ _) n) b2.size)
    clear c1 c2
    go_upto_region 2 with fail
    go_quiet (fail)
    all_goals go_wp2
    all_goals go_ret
    all_goals exact ⟨_, rfl, rfl, hH.out.below (hbd _), Kpt.of_below (hbd _)⟩
end Go.Proofs.YtjacoodfhkaioaaGreatDoor
namespace Go.Proofs.YtjacoodfhkaioaaGreatDoor
open Go.ChangeShapes Go.WideShapes Go.ChangeAt Go.RowKit Go.Shelf
set_option linter.unusedSimpArgs false
set_option linter.unusedVariables false
set_option maxRecDepth 2000

/-- bytes, from behind the signs that begin them; so many rounds at most -/
def binGo : Nat → List UInt8 → List Nat → Option Tm × List UInt8
  | 0, r, _ => (none, r)
  | k + 1, r, acc =>
    if skB 62 r then (if skB 62 (skR 62 r) then (some (binT acc), skR 62 (skR 62 r)) else (none, skR 62 (skR 62 r)))
    else if acc ≠ [] ∧ skB 44 r = false then (none, r)
    else
      if nmB 255 ((if acc = [] then r else skR 44 r).takeWhile digB) then binGo k ((if acc = [] then r else skR 44 r).dropWhile digB) (acc ++ [(nmN 255 ((if acc = [] then r else skR 44 r).takeWhile digB)).toNat])
      else (none, (if acc = [] then r else skR 44 r).dropWhile digB)
theorem skR_no {c : UInt8} {r : List UInt8} (h : skB c r = false) : skR c r = r := by
  unfold skB at h
  unfold skR
  rw [if_neg]
  intro e
  rw [e] at h
  simp at h
theorem skR_le (c : UInt8) (r : List UInt8) : (skR c r).length ≤ r.length := by
  unfold skR
  split
  · simp
  · exact Nat.le_refl _
theorem pE_nil : pE [] ≠ 0 := by decide
/-- a number takes a digit at least, and is not below 0 -/
theorem nm_pos {m : Int} {r : List UInt8} (h : nmB m (r.takeWhile digB) = true) : (r.dropWhile digB).length < r.length := by
  have e := List.takeWhile_append_dropWhile (p := digB) (l := r)
  have e2 := congrArg List.length e
  rw [List.length_append] at e2
  have : (r.takeWhile digB).length ≠ 0 := by
    intro h0
    rw [List.eq_nil_of_length_eq_zero h0] at h
    unfold nmB at h
    simp only [Bool.and_eq_true, beq_iff_eq] at h
    exact pE_nil h.1.1
  omega
theorem pneg_digs (r : List UInt8) : pneg (r.takeWhile digB) = false := by
  unfold pneg
  cases hr : r.takeWhile digB with
  | nil => rfl
  | cons x t =>
    have hx : digB x = true := by
      have hm : x ∈ r.takeWhile digB := by rw [hr]; simp
      exact List.all_eq_true.1 List.all_takeWhile x hm
    have hne : (45 == x) = false := by
      cases he : (45 == x) with
      | false => rfl
      | true =>
        have : x = 45 := (beq_iff_eq.1 he).symm
        subst this
        exact absurd hx (by decide)
    show List.isPrefixOf [45] (x :: t) = false
    simp [List.isPrefixOf, hne]
theorem nm_range {m : Int} {l : List UInt8} (hl : pneg l = false) (h : nmB m l = true) : 0 ≤ nmN m l ∧ nmN m l ≤ m := by
  unfold nmN
  rw [if_pos h]
  unfold nmB at h
  simp only [Bool.and_eq_true, beq_iff_eq, decide_eq_true_eq] at h
  obtain ⟨⟨h1, h2⟩, h3⟩ := h
  refine ⟨?_, h3⟩
  unfold smlN
  rw [if_pos h2]
  unfold pZ
  rw [if_pos h1, hl]
  simp [sv]
def restLen (g : Nat) (w : World) : Nat :=
  match w.cell? ⟨g, 0, none⟩ with
  | some (.string s) => s.size
  | _ => 0
theorem Rdr.len {g : Nat} {r : List UInt8} {ov : Value} {w : World} (h : Rdr g r ov w) : restLen g w = r.length := by
  unfold restLen
  rw [h.cells.1]
  exact bs_size r
theorem own_lsB {w : World} {B : Nat} {o : Option Addr} {n c : Nat} {b : List Nat} (h : w.ownsRow B 5 1 (.slice o n c) n (bts b)) (hL : Lm 256 b) : LsB (Low w) o b w := by
  refine ⟨?_, hL⟩
  intro j u hu
  have hlt := World.ownsRow.lt h
  have hcs := @World.ownsRow.cells _ _ _ _ _ _ _ h
  have h1 := h.1
  rcases h.2 with ⟨e, h0⟩ | ⟨q, c', cur, e, hq, hc, hn, hm, _⟩
  · have : (bts b).length = 0 := by rw [h1]; omega
    rw [List.eq_nil_of_length_eq_zero this] at hu
    simp at hu
  · injection e with e1 e2 e3
    subst e1
    exact ⟨_, rfl, (hlt q rfl).2, hcs rfl j u hu⟩
theorem Kpt.own {F : Nat → Prop} {w w' : World} {B : Nat} {e : TypeId} {v : Value} {n : Nat} {xs : List Value} (hk : Kpt F w w') (h : w.ownsRow B e 1 v n xs) (hF : ∀ k, B ≤ k → ¬ F k) : w'.ownsRow B e 1 v n xs :=
  own_of h (fun k hk' => hk.block k (World.ownsRow.lt h k hk').2 (hF k (World.ownsRow.lt h k hk').1))
end Go.Proofs.YtjacoodfhkaioaaGreatDoor
