/- limb, order, mags, plus, minus of the reference, on limbs. -/
import Derived.Test.YtddbndachoofoaaDoorBigAwake
namespace Go.Proofs.YtddbndachoofoaaDoor
open Go.ChangeShapes Go.WideShapes Go.ChangeAt Go.RowKit
set_option linter.unusedSimpArgs false
set_option linter.unusedVariables false
theorem Fr.block {B : Nat} {v : Value} {l : List Nat} {w : World} (h : Fr B v l w) : ∀ q, v.ownBlock = some q → B ≤ q := by
  intro q hq
  rcases h.shape with ⟨rfl, _⟩ | ⟨g, c, rfl⟩
  · simp [Value.ownBlock] at hq
  · simp only [Value.ownBlock, Option.some.injEq] at hq
    have := h.own.1
    omega
theorem gval_take_getD (b : Nat) (l : List Nat) (k : Nat) : gval b (l.take (k + 1)) = gval b (l.take k) + b ^ k * l.getD k 0 := by
  by_cases h : k < l.length
  · have e : l[k]? = some l[k] := by simp [h]
    rw [gval_take_succ b e, List.getD_eq_getElem?_getD, e]; rfl
  · rw [List.take_of_length_le (by omega), List.take_of_length_le (by omega), List.getD_eq_getElem?_getD, List.getElem?_eq_none (by omega)]; simp
theorem Lm.getD {b : Nat} (hb : 0 < b) {l : List Nat} (h : Lm b l) (k : Nat) : l.getD k 0 < b := by
  rw [List.getD_eq_getElem?_getD]
  cases e : l[k]? with
  | none => exact hb
  | some x => exact h.at e
theorem order_w (x y : Int) (w : World) : Calls Tryd.prog 66 #[.int .i64 x, .int .i64 y] w fun e w' => e = .returned (.int .i64 (cmpZ x y)) ∧ w' = w := by
  by_cases h1 : x < y
  · rw [cmpZ_lt h1]
    go_enter Tryd.func66, Tryd.ntmps66
    go_wp2
    go_ret
    exact ⟨rfl, rfl⟩
  · by_cases h2 : y < x
    · rw [cmpZ_gt h2]
      go_enter Tryd.func66, Tryd.ntmps66
      go_wp2
      go_ret
      exact ⟨rfl, rfl⟩
    · have : x = y := by omega
      subst this
      rw [cmpZ_eq]
      go_enter Tryd.func66, Tryd.ntmps66
      go_wp2
      go_ret
      exact ⟨rfl, rfl⟩
set_option maxHeartbeats 1000000 in
theorem mags_w (oa ob : Option Addr) (ca cb : Nat) (m n : Nat) (w : World) (za : (glim 4294967296 m).length ≤ 1000000) (zb : (glim 4294967296 n).length ≤ 1000000) (ha : Lies oa (glim 4294967296 m) w) (hb : Lies ob (glim 4294967296 n) w) :
    Calls Tryd.prog 75 #[.slice oa (glim 4294967296 m).length ca, .slice ob (glim 4294967296 n).length cb] w fun e w' => e = .returned (.int .i64 (cmpZ (m : Int) (n : Int))) ∧ Below w.heap.size w w' := by
  obtain ⟨R, hR⟩ : ∃ R, cmpZ (m : Int) (n : Int) = R := ⟨_, rfl⟩
  rw [hR]
  have hlen' := glim_cmp_len (m := m) (n := n)
  have hat := fun i x y => glim_cmp_at (m := m) (n := n) (i := i) (x := x) (y := y)
  have heq : glim 4294967296 m = glim 4294967296 n → R = 0 := fun e => by
    have := glim_inj (by omega) e
    subst this; rw [← hR, cmpZ_eq]
  rw [hR] at hlen' hat
  have hmX := lm_glim (b := 4294967296) (by omega) m
  have hmY := lm_glim (b := 4294967296) (by omega) n
  generalize glim 4294967296 m = X at *
  generalize glim 4294967296 n = Y at *
  have hlen := hid hlen'
  clear hlen' hR
  by_cases hl : X.length = Y.length
  · have hlz : ((X.length : Int) != (Y.length : Int)) = false := by simp only [bne_eq_false_iff_eq]; omega
    go_enter Tryd.func75, Tryd.ntmps75
    go_wp2
    clear hlz
    go_loopw [5] (fun i wr => ∃ (k : Nat), i = .int .i64 ((k : Int) - 1) ∧ k ≤ X.length ∧ Below w.heap.size w wr ∧ Hid (X.drop k = Y.drop k)) (fun i _ => (intOf i + 1).toNat)
    case atStart => exact ⟨X.length, by go_num, Nat.le_refl _, Below.refl _ _, hid (by rw [List.drop_of_length_le (by omega), List.drop_of_length_le (by omega)])⟩
    case round =>
      obtain ⟨k, rfl, hk, hbw, hH⟩ := hrel
      by_cases h0 : k = 0
      · subst h0
        have hz := heq (by simpa using hH.out)
        go_wp2
        go_ret
        exact ⟨by rw [hz]; rfl, hbw⟩
      · obtain ⟨j, rfl⟩ : ∃ j, k = j + 1 := ⟨k - 1, by omega⟩
        obtain ⟨x, hx⟩ : ∃ x, X[j]? = some x := ⟨X[j]'(by omega), by simp⟩
        obtain ⟨y, hy⟩ : ∃ y, Y[j]? = some y := ⟨Y[j]'(by omega), by simp⟩
        obtain ⟨a, rfl, cx⟩ := (ha.below hbw) j x hx
        obtain ⟨b, rfl, cy⟩ := (hb.below hbw) j y hy
        have e1 : (((j + 1 : Nat) : Int) - 1) = (j : Int) := by omega
        have hjx : (j : Int) < (X.length : Int) := by omega
        have hjy : (j : Int) < (Y.length : Int) := by omega
        rw [e1]
        by_cases hxy : x = y
        · subst hxy
          have hdn : Hid (X.drop j = Y.drop j) := hid (by
            rw [List.drop_eq_getElem_cons (by omega : j < X.length), List.drop_eq_getElem_cons (by omega : j < Y.length), hH.out]
            congr 1
            rw [List.getElem?_eq_getElem (by omega)] at hx hy
            injection hx with hx; injection hy with hy; rw [hx, hy])
          go_wp2
          go_quiet (fail)
          go_wp2
          go_roundw
          case rel => exact ⟨j, by go_num, by omega, below_drewNv hbw _, hdn⟩
          case measure => simp [intOf]
        · have hxz : ((x : Int) != (y : Int)) = true := by simp only [bne_iff_ne, ne_eq]; omega
          have hres := hid (hat j x y hl hH.out hx hy hxy)
          have hxm := hmX.at hx
          have hym := hmY.at hy
          have wx : wrap64 (x : Int) = (x : Int) := by unfold wrap64; omega
          have wy : wrap64 (y : Int) = (y : Int) := by unfold wrap64; omega
          clear hat heq
          go_wp2
          go_quiet (fail)
          have hbw' := below_drewNv hbw nq
          obtain ⟨a', ea, cx'⟩ := (ha.below hbw') j x hx
          obtain ⟨b', eb, cy'⟩ := (hb.below hbw') j y hy
          cases ea; cases eb
          clear cx cy hbw
          generalize wr.drewN nq = wq at *
          go_wp2
          go_quiet ((go_at_call 66; exact Calls.quiet_of_same (order_w _ _ _)))
          go_wp2
          go_ret
          exact ⟨by rw [hres.out]; rfl, below_drewNv hbw' _⟩
  · have hlz : ((X.length : Int) != (Y.length : Int)) = true := by simp only [bne_iff_ne, ne_eq]; omega
    go_enter Tryd.func75, Tryd.ntmps75
    go_wp2_with fail
    refine (order_w _ _ _).mono ?_
    rintro e w1 ⟨rfl, rfl⟩
    go_wp2
    go_ret
    exact ⟨by rw [hlen.out hl]; rfl, Below.refl _ _⟩
theorem Fr.push {B : Nat} {v' : Value} {L : List Nat} {x : Nat} {w : World} (h : w.ownsRow B 52 1 v' (L.length + 1) ((L.map fun (x : Nat) => Value.int .u32 (x : Int)) ++ [.int .u32 (x : Int)])) : Fr B v' (L ++ [x]) w := by
  unfold Fr
  simpa using h
theorem plus_step {b : Nat} {L la lb : List Nat} {cn : Nat} (hH : gval b L + b ^ L.length * cn = gval b (la.take L.length) + gval b (lb.take L.length)) (hb : b = 4294967296) {s : Nat} (hs : la.getD L.length 0 + lb.getD L.length 0 + cn = s) :
    gval b (L ++ [s % 4294967296]) + b ^ (L.length + 1) * (s / 4294967296) = gval b (la.take (L.length + 1)) + gval b (lb.take (L.length + 1)) := by
  subst hb
  rw [gval_append, gval_take_getD, gval_take_getD, pow_step]
  have := sum_step (P := 4294967296 ^ L.length) (S := gval 4294967296 L) (c := cn) (x := la.getD L.length 0) (y := lb.getD L.length 0) (s := s) (by omega) hH
  simpa [gval] using this
end Go.Proofs.YtddbndachoofoaaDoor
