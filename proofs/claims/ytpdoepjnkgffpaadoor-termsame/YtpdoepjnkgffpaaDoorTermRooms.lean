/- Rooms of the statements; terms that came in, opened; List of none. -/
import Derived.Test.YtpdoepjnkgffpaaDoorTermPartsM
import Derived.Test.YtpdoepjnkgffpaaDoorTermItems
namespace Go.Proofs.YtpdoepjnkgffpaaDoor
open Go.ChangeShapes Go.WideShapes Go.ChangeAt Go.ChangeMaps Go.RowKit Go.Shelf
set_option linter.unusedSimpArgs false
set_option linter.unusedVariables false
set_option maxRecDepth 2000
theorem open_terms {H : Type} {enc : TypeId × Value → H} {base : Nat} {w : World} {v : Value} {d : DataW H} {p : List MemPlace} (o0 : Value.okWide Tryd.prog w Reach.any base 22 v) (h0 : DataW.Trod enc Tryd.prog w 0 (fun _ => true) true 22 v d p) :
    ∃ (o : Option Addr) (l : List Tm) (c : Nat), v = .slice o l.length c ∧ TR (Low w) w l o ∧ l.length ≤ c := by
  obtain ⟨a, len, cap, rfl⟩ := okWide_slice Tryd.underlying22 o0
  obtain ⟨m, hm⟩ := h0
  rcases DataW.trod_slice Tryd.underlying22 hm with ⟨e, _⟩ | ⟨ad, len', cap', elems, rest, n, hn, e, _, _, hlc, _, hel, hall, _⟩
  · simp [Value.cells] at e
    obtain ⟨rfl, rfl, rfl⟩ := e
    exact ⟨none, [], 0, rfl, by unfold TR; trivial, by simp⟩
  · simp [Value.cells] at e
    obtain ⟨rfl, rfl, rfl⟩ := e
    rw [seven] at hall
    obtain ⟨l, hll, hR⟩ := rows_of (w := w) len ad (fun i hi => by
      have h1 := hall i hi
      rw [List.getElem?_eq_getElem (by omega)] at h1
      cases hc : w.cells? 0 (ad.add (i * 7)) 7 with
      | none => rw [hc] at h1; simp at h1
      | some cs' =>
        rw [hc] at h1
        simp only [Option.bind_some] at h1
        obtain ⟨T, k', neg', od', ld', cd', nm', n'', ol', ll', cl', ob', lb', cb', rfl, hT⟩ := open_cells n cs' _ h1
        obtain ⟨_, _, hcell⟩ := World.cells?_some hc
        have h0 := hcell 0 (by omega)
        rw [add_zero] at h0
        exact ⟨T, _, ⟨_, _, _, _, _, _, _, rfl, h0, hcell 1 (by omega), hcell 2 (by omega), hcell 3 (by omega), hcell 4 (by omega), hcell 5 (by omega), hcell 6 (by omega)⟩, hT⟩)
    exact ⟨some ad, l, cap, by rw [hll], hR, by omega⟩
def okRow (t : Tm) : Bool := roomB 40 8 t && mayB t
theorem TR.mem {Z : Nat → Prop} {w : World} : ∀ {l : List Tm} {o : Option Addr} {t : Tm}, TR Z w l o → t ∈ l → ∃ v, TV Z w t v
  | [], _, _, _, h => by simp at h
  | q :: l, o, t, h, hm => by
    unfold TR at h
    obtain ⟨a, v, _, _, _, hT, hR⟩ := h
    rcases List.mem_cons.1 hm with rfl | hm
    · exact ⟨v, hT⟩
    · exact TR.mem hR hm
set_option maxHeartbeats 2000000 in
set_option maxRecDepth 4000 in
theorem Rooms_w (most : Nat) (hm : most ≤ 1000) (l : List Tm) (o : Option Addr) (c : Nat) (w : World) (hTR : TR (Low w) w l o) (hTa : Tabs w) :
    Calls Tryd.prog 8 #[.slice o l.length c, .int .i64 (most : Int)] w fun e w' => e = .returned (.bool (decide (l.length ≤ most) && l.all okRow)) ∧ Below w.heap.size w w' := by
  obtain ⟨R, hR⟩ : ∃ R, (decide (l.length ≤ most) && l.all okRow) = R := ⟨_, rfl⟩
  rw [hR]
  have hHR := hid hR
  clear hR
  by_cases hl : most < l.length
  · have hl' : (most : Int) < (l.length : Int) := by omega
    have hRf : R = false := by rw [← hHR.out, decide_eq_false (by omega), Bool.false_and]
    subst hRf
    clear hHR
    go_enter Tryd.func8, Tryd.ntmps8
    go_wp2
    go_ret
    exact ⟨rfl, Below.refl _ _⟩
  have hl' : ¬ ((most : Int) < (l.length : Int)) := by omega
  have hHR2 : Hid (l.all okRow = R) := hid (by rw [← hHR.out, decide_eq_true (by omega), Bool.true_and])
  have hll : l.length ≤ 1000 := by omega
  clear hHR
  go_enter Tryd.func8, Tryd.ntmps8
  go_wp2_with fail
  clear hl hl'
  go_loopg [5] l.length (fun t v5 wr => ∃ i : Nat, t + i = l.length ∧ v5 = .int .i64 (i : Int) ∧ Hid (∀ j x, j < i → l[j]? = some x → okRow x = true) ∧ Below w.heap.size w wr)
  case atStart => exact ⟨0, by omega, rfl, hid (fun j x hj => by omega), Below.refl _ _⟩
  case round =>
    obtain ⟨i, hti, rfl, hH, hBr⟩ := hrel
    by_cases hil : i = l.length
    · subst hil
      have hRt : R = true := by
        rw [← hHR2.out, List.all_eq_true]
        intro x hx
        obtain ⟨j, hj, he⟩ := List.getElem_of_mem hx
        exact hH.out j x hj (by rw [List.getElem?_eq_getElem hj, he])
      subst hRt
      go_wp2
      go_ret
      exact ⟨rfl, hBr⟩
    · have hil' : i < l.length := by omega
      have hii : ((i : Nat) : Int) < ((l.length : Nat) : Int) := by omega
      obtain ⟨t, ht⟩ : ∃ t, l[i]? = some t := ⟨l[i], by simp [hil']⟩
      obtain ⟨a, k', neg', od', ld', cd', nm', n', ol', ll', cl', ob', lb', cb', rfl, hTv', y0, y1, y2, y3, y4, y5, y6⟩ := hTR.get ht hBr
      have hHt := hid ht
      have hRf : okRow t = false → R = false := fun hf => by
        rw [← hHR2.out]
        cases hq : l.all okRow with
        | false => rfl
        | true =>
          rw [List.all_eq_true] at hq
          have := hq t (List.mem_of_getElem? ht)
          rw [hf] at this; simp at this
      have hHf := hid hRf
      clear ht hRf
      go_wp2_with fail
      refine (Room_w 40 (by omega) (tsz t) t _ 8 _ (Nat.le_refl _) (by omega) (by omega) hTv').mono ?_
      rintro e w2 ⟨rfl, b2⟩
      have hB2 := below_and hBr (Nat.le_refl _) b2
      have hTv2 := tv_below hTv' b2
      obtain ⟨bb, hbb⟩ : ∃ bb, roomB 40 8 t = bb := ⟨_, rfl⟩
      rw [hbb]
      cases bb with
      | false =>
        have hRf2 : R = false := hHf.out (by simp [okRow, hbb])
        subst hRf2
        clear hbb y0 y1 y2 y3 y4 y5 y6 hHR2 hHf
        go_wp2
        go_ret
        exact ⟨rfl, hB2⟩
      | true =>
        obtain ⟨hokt, _⟩ := room_ok (by omega) t _ 8 hTv' hbb
        obtain ⟨a3, k3, neg3, od3, ld3, cd3, nm3, n3, ol3, ll3, cl3, ob3, lb3, cb3, ea, hTv3, z0, z1, z2, z3, z4, z5, z6⟩ := hTR.get hHt.out hB2
        injection ea with ea
        subst ea
        have hHbb := hid hbb
        have hHok := hid hokt
        clear hbb hokt y0 y1 y2 y3 y4 y5 y6 hTv' hTv2
        go_wp2_with fail
        refine (rMay_w t _ _ hHok.out hTv3 (hTa.below hB2)).mono ?_
        rintro e w3 ⟨rfl, b3⟩
        have hB3 := below_and hB2 (Nat.le_refl _) b3
        obtain ⟨mm, hmm⟩ : ∃ mm, mayB t = mm := ⟨_, rfl⟩
        rw [hmm]
        have hHm := hid hmm
        clear hmm z0 z1 z2 z3 z4 z5 z6 hTv3 hHok
        cases mm with
        | false =>
          have hRf2 : R = false := hHf.out (by simp [okRow, hHm.out])
          subst hRf2
          clear hHR2 hHf
          go_wp2
          go_ret
          exact ⟨rfl, hB3⟩
        | true =>
          go_wp2
          go_roundg (l.length - (i + 1))
          case measure => omega
          case rel =>
            refine ⟨i + 1, by omega, by go_num, hid (fun j x hj hx => ?_), hB3⟩
            rcases Nat.lt_or_ge j i with h | h
            · exact hH.out j x h hx
            · have : j = i := by omega
              subst this
              rw [hHt.out] at hx
              injection hx with hx; subst hx
              simp [okRow, hHbb.out, hHm.out]
end Go.Proofs.YtpdoepjnkgffpaaDoor
