/- may, May of the reference. -/
import Derived.Test.YtddbndachoofoaaDoorTermRMay5
namespace Go.Proofs.YtddbndachoofoaaDoor
open Go.ChangeShapes Go.WideShapes Go.ChangeAt Go.RowKit Go.Shelf
set_option linter.unusedSimpArgs false
set_option linter.unusedVariables false
theorem all_partsL : ∀ l : List Tm, (partsL l).all fairB = l.all (fun t => (parts t).all fairB)
  | [] => by simp [partsL]
  | t :: l => by simp [partsL, all_partsL l]
set_option maxHeartbeats 4000000 in
set_option maxRecDepth 8000 in
theorem loop4 (od : Option Addr) (cd : Nat) (ol : Option Addr) (cl : Nat) (ob : Option Addr) (cb : Nat) (w : World) (nm : ByteArray) (l : List Tm) (hn : nm.toList = []) (h255 : (l.length : Int) ≤ 255) (htR : TR (Low w) w l ol) (hTa : Hid (Tabs w))
    (hIH : Hid (∀ (t : Tm) (v : Value) (w' : World), t ∈ l → TV (Low w') w' t v → Tabs w' → May0 t v w')) : MayC 4 false od 0 cd nm 0 ol l.length cl ob 0 cb w (l.all (fun t => (parts t).all fairB)) := by
  obtain ⟨kX, hBX, hz0⟩ := bx1 w (.int .i64 4) (.bool false) (.slice od 0 cd) (.string nm) (.int .i64 0) (.slice ol l.length cl) (.slice ob 0 cb) 29
  obtain ⟨R, hR⟩ : ∃ R, l.all (fun t => (parts t).all fairB) = R := ⟨_, rfl⟩
  unfold MayC
  rw [hR]
  have hHR := hid hR
  clear hR
  go_enter Tryd.func52, Tryd.ntmps52
  simp only [List.append_eq, List.cons_append, List.nil_append]
  go_wp2_with fail
  generalize (w.alloc (.cells #[.int .i64 4, .bool false, .slice od 0 cd, .string nm, .int .i64 0, .slice ol l.length cl, .slice ob 0 cb] 29)) = W0 at *
  go_loopg [3] l.length (fun t v3 wr => ∃ i : Nat, t + i = l.length ∧ v3 = .int .i64 (i : Int) ∧ Hid (∀ j x, j < i → l[j]? = some x → (parts x).all fairB = true) ∧ Bx w.heap.size (.int .i64 4) (.bool false) (.slice od 0 cd) (.string nm) (.int .i64 0) (.slice ol l.length cl) (.slice ob 0 cb) wr ∧ Below w.heap.size w wr)
  case atStart => exact ⟨0, by omega, rfl, hid (fun j x hj => by omega), kX, hBX⟩
  case round =>
    obtain ⟨i, hti, rfl, hH, kr, hBr⟩ := hrel
    clear kX hBX
    obtain ⟨x0, x1, x2, x3, x4, x5, x6⟩ := kr.res
    by_cases hil : i = l.length
    · subst hil
      have hRt : R = true := by
        rw [← hHR.out, List.all_eq_true]
        intro x hx
        obtain ⟨j, hj, he⟩ := List.getElem_of_mem hx
        exact hH.out j x hj (by rw [List.getElem?_eq_getElem hj, he])
      subst hRt
      clear hHR
      go_wp2
      go_ret
      exact ⟨rfl, hBr⟩
    · have hil' : i < l.length := by omega
      have hii : ((i : Nat) : Int) < ((l.length : Nat) : Int) := by omega
      obtain ⟨t, ht⟩ : ∃ t, l[i]? = some t := ⟨l[i], by simp [hil']⟩
      obtain ⟨a, k', neg', od', ld', cd', nm', n', ol', ll', cl', ob', lb', cb', rfl, hTv', y0, y1, y2, y3, y4, y5, y6⟩ := htR.get ht hBr
      have hHt := hid ht
      have hI := hIH.out t _ wr (List.mem_of_getElem? ht) hTv' (hTa.out.below hBr)
      have hHI := hid hI
      clear ht hI hTv'
      go_wp2_with fail
      refine hHI.out.mono ?_
      rintro e w2 ⟨rfl, b2⟩
      have hB2 := below_and hBr (Nat.le_refl _) b2
      have k2 := kr.below b2
      obtain ⟨bb, hbb⟩ : ∃ bb, (parts t).all fairB = bb := ⟨_, rfl⟩
      rw [hbb]
      have hHb := hid hbb
      clear hbb hHI x0 x1 x2 x3 x4 x5 x6 y0 y1 y2 y3 y4 y5 y6 b2 hBr kr
      cases bb with
      | false =>
        have hRf : R = false := by
          rw [← hHR.out]
          cases hq : l.all (fun t => (parts t).all fairB) with
          | false => rfl
          | true =>
            rw [List.all_eq_true] at hq
            have := hq t (List.mem_of_getElem? hHt.out)
            rw [hHb.out] at this; simp at this
        subst hRf
        clear hHR
        go_wp2
        go_ret
        exact ⟨rfl, hB2⟩
      | true =>
        go_wp2
        go_roundg (l.length - (i + 1))
        case measure => omega
        case rel =>
          refine ⟨i + 1, by omega, by go_num, hid (fun j x hj hx => ?_), k2, hB2⟩
          rcases Nat.lt_or_ge j i with h | h
          · exact hH.out j x h hx
          · have : j = i := by omega
            subst this
            rw [hHt.out] at hx
            injection hx with hx; subst hx
            exact hHb.out
set_option maxHeartbeats 4000000 in
set_option maxRecDepth 8000 in
theorem loop6 (od : Option Addr) (cd : Nat) (ol : Option Addr) (cl : Nat) (ob : Option Addr) (cb : Nat) (w : World) (nm : ByteArray) (l : List Tm) (hn : nm.toList = []) (h2 : ((l.length : Int) != 2) = false) (h255 : (l.length : Int) ≤ 255) (htR : TR (Low w) w l ol) (hTa : Hid (Tabs w))
    (hIH : Hid (∀ (t : Tm) (v : Value) (w' : World), t ∈ l → TV (Low w') w' t v → Tabs w' → May0 t v w')) : MayC 6 false od 0 cd nm 0 ol l.length cl ob 0 cb w (l.all (fun t => (parts t).all fairB)) := by
  obtain ⟨kX, hBX, hz0⟩ := bx1 w (.int .i64 6) (.bool false) (.slice od 0 cd) (.string nm) (.int .i64 0) (.slice ol l.length cl) (.slice ob 0 cb) 29
  obtain ⟨R, hR⟩ : ∃ R, l.all (fun t => (parts t).all fairB) = R := ⟨_, rfl⟩
  unfold MayC
  rw [hR]
  have hHR := hid hR
  clear hR
  go_enter Tryd.func52, Tryd.ntmps52
  simp only [List.append_eq, List.cons_append, List.nil_append]
  go_wp2_with fail
  generalize (w.alloc (.cells #[.int .i64 6, .bool false, .slice od 0 cd, .string nm, .int .i64 0, .slice ol l.length cl, .slice ob 0 cb] 29)) = W0 at *
  go_loopg [3] l.length (fun t v3 wr => ∃ i : Nat, t + i = l.length ∧ v3 = .int .i64 (i : Int) ∧ Hid (∀ j x, j < i → l[j]? = some x → (parts x).all fairB = true) ∧ Bx w.heap.size (.int .i64 6) (.bool false) (.slice od 0 cd) (.string nm) (.int .i64 0) (.slice ol l.length cl) (.slice ob 0 cb) wr ∧ Below w.heap.size w wr)
  case atStart => exact ⟨0, by omega, rfl, hid (fun j x hj => by omega), kX, hBX⟩
  case round =>
    obtain ⟨i, hti, rfl, hH, kr, hBr⟩ := hrel
    clear kX hBX
    obtain ⟨x0, x1, x2, x3, x4, x5, x6⟩ := kr.res
    by_cases hil : i = l.length
    · subst hil
      have hRt : R = true := by
        rw [← hHR.out, List.all_eq_true]
        intro x hx
        obtain ⟨j, hj, he⟩ := List.getElem_of_mem hx
        exact hH.out j x hj (by rw [List.getElem?_eq_getElem hj, he])
      subst hRt
      clear hHR
      go_wp2
      go_ret
      exact ⟨rfl, hBr⟩
    · have hil' : i < l.length := by omega
      have hii : ((i : Nat) : Int) < ((l.length : Nat) : Int) := by omega
      obtain ⟨t, ht⟩ : ∃ t, l[i]? = some t := ⟨l[i], by simp [hil']⟩
      obtain ⟨a, k', neg', od', ld', cd', nm', n', ol', ll', cl', ob', lb', cb', rfl, hTv', y0, y1, y2, y3, y4, y5, y6⟩ := htR.get ht hBr
      have hHt := hid ht
      have hI := hIH.out t _ wr (List.mem_of_getElem? ht) hTv' (hTa.out.below hBr)
      have hHI := hid hI
      clear ht hI hTv'
      go_wp2_with fail
      refine hHI.out.mono ?_
      rintro e w2 ⟨rfl, b2⟩
      have hB2 := below_and hBr (Nat.le_refl _) b2
      have k2 := kr.below b2
      obtain ⟨bb, hbb⟩ : ∃ bb, (parts t).all fairB = bb := ⟨_, rfl⟩
      rw [hbb]
      have hHb := hid hbb
      clear hbb hHI x0 x1 x2 x3 x4 x5 x6 y0 y1 y2 y3 y4 y5 y6 b2 hBr kr
      cases bb with
      | false =>
        have hRf : R = false := by
          rw [← hHR.out]
          cases hq : l.all (fun t => (parts t).all fairB) with
          | false => rfl
          | true =>
            rw [List.all_eq_true] at hq
            have := hq t (List.mem_of_getElem? hHt.out)
            rw [hHb.out] at this; simp at this
        subst hRf
        clear hHR
        go_wp2
        go_ret
        exact ⟨rfl, hB2⟩
      | true =>
        go_wp2
        go_roundg (l.length - (i + 1))
        case measure => omega
        case rel =>
          refine ⟨i + 1, by omega, by go_num, hid (fun j x hj hx => ?_), k2, hB2⟩
          rcases Nat.lt_or_ge j i with h | h
          · exact hH.out j x h hx
          · have : j = i := by omega
            subst this
            rw [hHt.out] at hx
            injection hx with hx; subst hx
            exact hHb.out
set_option maxHeartbeats 4000000 in
set_option maxRecDepth 8000 in
theorem long4 (od : Option Addr) (cd : Nat) (ol : Option Addr) (ll cl : Nat) (ob : Option Addr) (cb : Nat) (w : World) (nm : ByteArray) (hn : nm.toList = []) (h255 : (255 : Int) < (ll : Int)) : MayC 4 false od 0 cd nm 0 ol ll cl ob 0 cb w false := by
  go_enter Tryd.func52, Tryd.ntmps52
  simp only [List.append_eq, List.cons_append, List.nil_append]
  go_wp2
  go_ret
  exact ⟨rfl, (Below.refl _ w).alloc (Nat.le_refl _) _⟩
set_option maxHeartbeats 4000000 in
set_option maxRecDepth 8000 in
theorem long6 (od : Option Addr) (cd : Nat) (ol : Option Addr) (ll cl : Nat) (ob : Option Addr) (cb : Nat) (w : World) (nm : ByteArray) (hn : nm.toList = []) (h2 : ((ll : Int) != 2) = true) : MayC 6 false od 0 cd nm 0 ol ll cl ob 0 cb w false := by
  go_enter Tryd.func52, Tryd.ntmps52
  simp only [List.append_eq, List.cons_append, List.nil_append]
  go_wp2
  go_ret
  exact ⟨rfl, (Below.refl _ w).alloc (Nat.le_refl _) _⟩
end Go.Proofs.YtddbndachoofoaaDoor
