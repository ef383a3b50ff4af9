/- New, Len, Name, Find of package atoms; Find of the reference. -/
import Derived.Test.YtibgdncfahffpaaDoorAtomsKit
import Derived.WalkKit
namespace Go.Proofs.YtibgdncfahffpaaDoor
open Go.ChangeShapes Go.WideShapes Go.ChangeAt Go.RowKit Go.Maps
set_option linter.unusedSimpArgs false
set_option linter.unusedVariables false
theorem hid' {p : Prop} (h : p) : Hid p := h
theorem toList_inj {a b : ByteArray} (h : a.toList = b.toList) : a = b := by
  rw [ByteArray.toList_eq, ByteArray.toList_eq] at h
  cases a; cases b; simp at h; subst h; rfl
theorem str_ne {a b : ByteArray} (h : a ≠ b) : (a.toList == b.toList) = false := by
  rw [beq_eq_false_iff_ne]
  exact fun e => h (toList_inj e)
theorem Tab.new (w : World) : Tab w.heap.size (fun k => k = w.heap.size) [] (w.alloc (.cells #[.map none, .slice none 0 0] 46)) :=
  ⟨_, _, Box.new w _ _ _, World.ownsRow_nil _ _ _ _, by simp [Value.ownBlock], .inl ⟨rfl, rfl⟩, rfl, by simp [Value.ownBlock], by simp, fun k hk => by simp; omega⟩
theorem new_w (w : World) :
    Calls Tryd.prog 7 #[] w fun e w' => e = .returned (.pointer (some ⟨w.heap.size, 0, none⟩)) ∧ Tab w.heap.size (fun k => k = w.heap.size) [] w' ∧ w'.heap.size = w.heap.size + 1 ∧ Below w.heap.size w w' := by
  go_enter Tryd.func7, Tryd.ntmps7
  go_wp2
  go_ret
  exact ⟨rfl, Tab.new w, by simp, (Below.refl _ w).alloc (Nat.le_refl _) _⟩
theorem len_w (g : Nat) (F : Nat → Prop) (ns : List ByteArray) (w : World) (h : Tab g F ns w) :
    Calls Tryd.prog 12 #[.pointer (some ⟨g, 0, none⟩)] w fun e w' => e = .returned (.int .i64 (ns.length : Int)) ∧ w = w' := by
  obtain ⟨mv, sv, ⟨c0, c1, _, _⟩, hR, _⟩ := h
  obtain ⟨o, c, rfl, _⟩ := hR.shape
  go_enter Tryd.func12, Tryd.ntmps12
  go_wp2
  go_ret
  exact ⟨rfl, rfl⟩
/-- what Name answers -/
def nameS (ns : List ByteArray) (n : Int) : ByteArray := if 0 ≤ n then ns.getD n.toNat ByteArray.empty else ByteArray.empty
def nameB (ns : List ByteArray) (n : Int) : Bool := decide (0 ≤ n) && decide (n < (ns.length : Int))
set_option maxHeartbeats 1000000 in
theorem name_w (g : Nat) (F : Nat → Prop) (ns : List ByteArray) (n : Int) (w : World) (h : Tab g F ns w) :
    Calls Tryd.prog 9 #[.pointer (some ⟨g, 0, none⟩), .int .i64 n] w fun e w' => e = .returned (.tuple #[.string (nameS ns n), .bool (nameB ns n)]) ∧ w = w' := by
  obtain ⟨mv, sv, ⟨c0, c1, _, _⟩, hR, _⟩ := h
  obtain ⟨o, c, rfl, hc, hL⟩ := hR.shape
  by_cases h0 : n < 0
  · have e1 : nameS ns n = ByteArray.empty := by unfold nameS; rw [if_neg (by omega)]
    have e2 : nameB ns n = false := by unfold nameB; simp; omega
    rw [e1, e2]
    go_enter Tryd.func9, Tryd.ntmps9
    go_wp2
    go_ret2
    exact ⟨rfl, rfl⟩
  · by_cases h1 : n < (ns.length : Int)
    · obtain ⟨k, rfl⟩ := Int.eq_ofNat_of_zero_le (by omega : 0 ≤ n)
      have hk : k < ns.length := by omega
      obtain ⟨s, hs⟩ : ∃ s, ns[k]? = some s := ⟨ns[k], by simp⟩
      have e1 : nameS ns (k : Int) = s := by unfold nameS; simp [List.getD, hs]
      have e2 : nameB ns (k : Int) = true := by unfold nameB; simp; omega
      rw [e1, e2]
      clear e1 e2
      obtain ⟨a, rfl, hcell⟩ := hL k s hs
      clear hL hs
      have hge : ¬ (ns.length : Int) ≤ (k : Int) := by omega
      go_enter Tryd.func9, Tryd.ntmps9
      go_wp2
      go_ret2
      exact ⟨rfl, rfl⟩
    · have e1 : nameS ns n = ByteArray.empty := by
        unfold nameS; rw [if_pos (by omega)]; rw [List.getD, List.getElem?_eq_none (by omega)]; rfl
      have e2 : nameB ns n = false := by unfold nameB; simp; omega
      rw [e1, e2]
      have hge : (ns.length : Int) ≤ n := by omega
      go_enter Tryd.func9, Tryd.ntmps9
      go_wp2
      go_ret2
      exact ⟨rfl, rfl⟩
/-- what Find answers -/
def findN (ns : List ByteArray) (s : ByteArray) : Int := (((pos ns s).getD 0 : Nat) : Int)
def findB (ns : List ByteArray) (s : ByteArray) : Bool := (pos ns s).isSome
set_option maxHeartbeats 1000000 in
theorem find_w (g : Nat) (F : Nat → Prop) (ns : List ByteArray) (s : ByteArray) (w : World) (hs : s.size ≤ maxLen) (h : Tab g F ns w) :
    Calls Tryd.prog 10 #[.pointer (some ⟨g, 0, none⟩), .string s] w fun e w' => e = .returned (.tuple #[.int .i64 (findN ns s), .bool (findB ns s)]) ∧ w = w' := by
  obtain ⟨mv, sv, ⟨c0, c1, _, _⟩, hR, hne, hN, _⟩ := h
  have hkey : keyOf Tryd.prog 9 (.string s) = some (.string s.data.toList) := WideMaps.keyOf_string_mk Tryd.underlying9 hs
  rcases hN with ⟨rfl, rfl⟩ | ⟨bm, D, rfl, hM, hD⟩
  · have hnil := fun (w : World) => Maps.look_nil (w := w) true law Tryd.underlying44 (zeroE w) hkey
    go_enter Tryd.func10, Tryd.ntmps10
    go_wp2
    go_ret2
    exact ⟨rfl, rfl⟩
  · obtain ⟨hd1, hd2⟩ := hD s
    go_enter Tryd.func10, Tryd.ntmps10
    go_wp2_with (at_lookup; refine wpList_lookup_own_ok_int _ rfl _ _ 44 rfl 9 3 .i64 law Tryd.underlying44 Tryd.underlying3 (zeroE _) bm _ D rfl hM _ _ rfl hkey ?_; intro c hat hwc)
    go_ret2
    rw [hd2] at hat
    injection hat with hat
    injection hat with _ hat
    refine ⟨?_, rfl⟩
    unfold findN findB
    rw [hat]
    rfl
set_option maxHeartbeats 1000000 in
theorem rfind_w (g : Nat) (F : Nat → Prop) (ns : List ByteArray) (s : ByteArray) (w : World) (hl : ns.length ≤ 1000000) (h : Nam g F ns w) :
    Calls Tryd.prog 13 #[.pointer (some ⟨g, 0, none⟩), .string s] w fun e w' => e = .returned (.tuple #[.int .i64 (findN ns s), .bool (findB ns s)]) ∧ w = w' := by
  obtain ⟨sv, c0, _, hR, _⟩ := h
  obtain ⟨o, c, rfl, hc, hL⟩ := hR.shape
  obtain ⟨R1, hR1⟩ : ∃ R, findN ns s = R := ⟨_, rfl⟩
  obtain ⟨R2, hR2⟩ : ∃ R, findB ns s = R := ⟨_, rfl⟩
  rw [hR1, hR2]
  have HR := hid' (And.intro hR1 hR2)
  clear hR1 hR2
  go_enter Tryd.func13, Tryd.ntmps13
  go_wp2
  go_loopw [6] (fun v wr => ∃ k : Nat, v = .int .i64 (k : Int) ∧ k ≤ ns.length ∧ wr = w ∧ Hid (∀ j : Nat, j < k → ns[j]? ≠ some s)) (fun v _ => ns.length - (intOf v).toNat)
  case atStart => exact ⟨0, rfl, Nat.zero_le _, rfl, hid' (fun j hj => by omega)⟩
  case round =>
    obtain ⟨k, rfl, hk, rfl, hH⟩ := hrel
    by_cases hlt : k < ns.length
    · obtain ⟨x, hx⟩ : ∃ x, ns[k]? = some x := ⟨ns[k], by simp⟩
      obtain ⟨a, rfl, hcell⟩ := hL k x hx
      have hxx := hid' hx
      clear hx hL
      have hz : (k : Int) < (ns.length : Int) := by omega
      by_cases he : x = s
      · have hf : Hid (pos ns s = some k) := hid' (pos_first ns s k (he ▸ hxx.out) hH.out)
        subst he
        go_wp2
        go_ret2
        refine ⟨?_, rfl⟩
        have h1 := HR.out.1; have h2 := HR.out.2
        unfold findN at h1; unfold findB at h2
        rw [hf.out] at h1 h2
        rw [← h1, ← h2]; simp
      · have hbe : (x.toList == s.toList) = false := str_ne he
        go_wp2
        refine ⟨⟨k + 1, by go_num, by omega, trivial, hid' (fun j hj => ?_)⟩, by simp [intOf]; omega⟩
        by_cases hjk : j = k
        · subst hjk; rw [hxx.out]; intro e; injection e with e; exact he e
        · exact hH.out j (by omega)
    · have hf : Hid (pos ns s = none) := hid' (pos_none ns s (fun j => by
        by_cases hj : j < k
        · exact hH.out j hj
        · rw [List.getElem?_eq_none (by omega)]; simp))
      have hz : ¬ (k : Int) < (ns.length : Int) := by omega
      clear hL
      go_wp2
      go_ret2
      refine ⟨?_, rfl⟩
      have h1 := HR.out.1; have h2 := HR.out.2
      unfold findN at h1; unfold findB at h2
      rw [hf.out] at h1 h2
      rw [← h1, ← h2]; simp
end Go.Proofs.YtibgdncfahffpaaDoor
