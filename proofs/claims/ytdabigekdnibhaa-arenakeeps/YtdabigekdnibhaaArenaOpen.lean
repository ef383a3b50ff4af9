/- Words, bytes and deeds that came in, opened. -/
import Derived.Test.YtdabigekdnibhaaArenaLaw
import Derived.Lib.SmallJoins
import Derived.ChangeSlices
import Derived.ChangeArms
namespace Go.Proofs.Ytdabigekdnibhaa
open Go.ChangeShapes Go.WideShapes Go.ChangeAt Go.ChangeMaps Go.RowKit Go.Joins
set_option linter.unusedSimpArgs false
set_option linter.unusedVariables false
set_option maxRecDepth 2000
/-- bytes in memory -/
def LiesU (o : Option Addr) (l : List Nat) (w : World) : Prop := ∀ (j x : Nat), l[j]? = some x → ∃ a, o = some a ∧ w.cell? (a.add j) = some (.int .u8 (x : Int))
theorem LiesU.below {o : Option Addr} {l : List Nat} {w w' : World} (h : LiesU o l w) (hb : Below w.heap.size w w') : LiesU o l w' := fun j x hx => by
  obtain ⟨a, ha, hc⟩ := h j x hx
  exact ⟨a, ha, (hb.cell (World.block_lt_of_cell? _ _ hc)).trans hc⟩
theorem oneU : Try.prog.cellsOf 5 = 1 := by kernel_rfl
theorem oneW : Try.prog.cellsOf 28 = 1 := by kernel_rfl
theorem oneN : Try.prog.cellsOf 3 = 1 := by kernel_rfl
theorem fourD : Try.prog.cellsOf 45 = 4 := by kernel_rfl
theorem open_u8s {H : Type} {enc : TypeId × Value → H} {base : Nat} {w : World} {v : Value} {d : DataW H} {p : List MemPlace} (o0 : Value.okWide Try.prog w Reach.any base 55 v) (h0 : DataW.Trod enc Try.prog w 0 (fun _ => true) true 55 v d p) :
    ∃ (o : Option Addr) (l : List Nat) (c : Nat), v = .slice o l.length c ∧ LiesU o l w ∧ l.length ≤ c ∧ l.length ≤ maxLen ∧ ∀ x ∈ l, x < 256 := by
  obtain ⟨a, len, cap, rfl⟩ := okWide_slice Try.underlying55 o0
  obtain ⟨m, hm⟩ := h0
  rcases open_ints Try.underlying55 Try.underlying5 oneU hm with ⟨e, _⟩ | ⟨ad, len', cap', zs, e, _, hl, hc, hk, _, hx, hwf⟩
  · simp [Value.cells] at e
    obtain ⟨rfl, rfl, rfl⟩ := e
    exact ⟨none, [], 0, rfl, fun j s hs => by simp at hs, Nat.le_refl _, Nat.zero_le _, by simp⟩
  · simp [Value.cells] at e
    obtain ⟨rfl, rfl, rfl⟩ := e
    simp only [if_true] at hk
    have hbd : ∀ x ∈ zs, 0 ≤ x ∧ x < 256 := fun x hx => by
      have := hwf x hx
      simp [Lit.wf, IntKind.min, IntKind.max, IntKind.bits, IntKind.signed] at this
      omega
    have hll : ((zs.map Int.toNat).take len).length = len := by rw [List.length_take, List.length_map]; omega
    refine ⟨some ad, (zs.map Int.toNat).take len, cap, by rw [hll], fun j x hj => ⟨ad, rfl, ?_⟩, by omega, by omega, ?_⟩
    · rw [List.getElem?_take] at hj
      split at hj
      · rename_i hjl
        rw [List.getElem?_map] at hj
        cases hz : zs[j]? with
        | none => rw [hz] at hj; simp at hj
        | some z =>
          rw [hz] at hj
          simp only [Option.map_some, Option.some.injEq] at hj
          have hjz : j < zs.length := (List.getElem?_eq_some_iff.1 hz).1
          have hzz := hbd z (List.mem_of_getElem? hz)
          rw [hx j hjz]
          have : zs.getD j 0 = z := by simp [List.getD, hz]
          rw [this, ← hj]
          congr 2; omega
      · simp at hj
    · intro x hx
      have hx' := List.mem_of_mem_take hx
      obtain ⟨z, hz, rfl⟩ := List.mem_map.1 hx'
      have := hbd z hz
      omega
/-- integers in a row, opened -/
theorem open_row {H : Type} {enc : TypeId × Value → H} {w : World} {fuel : Nat} {t e : TypeId} {kd : IntKind} {v : Value} {x : DataW H × List MemPlace} (ht : Try.prog.underlying t = some (.slice e)) (he : Try.prog.underlying e = some (.int kd)) (hc : Try.prog.cellsOf e = 1) (h : DataW.trod enc Try.prog w 0 (fun _ => true) true fuel t [v] = some x) :
    ∃ (o : Option Addr) (zs : List Int) (c : Nat), v = .slice o zs.length c ∧ zs.length ≤ c ∧ (∀ (j : Nat) (z : Int), zs[j]? = some z → (∃ a, o = some a ∧ w.cell? (a.add j) = some (.int kd z)) ∧ (Lit.int kd z).wf = true) := by
  rcases open_ints ht he hc h with ⟨e1, _⟩ | ⟨a, len, cap, zs, e1, _, hlc, hcm, hzl, _, hcell, hwf⟩
  · simp only [List.cons.injEq, and_true] at e1
    subst e1
    exact ⟨none, [], 0, rfl, by simp, fun j z hz => by simp at hz⟩
  · simp only [List.cons.injEq, and_true] at e1
    subst e1
    simp only [if_true] at hzl
    have hll : (zs.take len).length = len := by rw [List.length_take]; omega
    refine ⟨some a, zs.take len, cap, by rw [hll], by omega, fun j z hz => ?_⟩
    rw [List.getElem?_take] at hz
    split at hz
    · have hjl : j < zs.length := (List.getElem?_eq_some_iff.1 hz).1
      refine ⟨⟨a, rfl, ?_⟩, hwf z (List.mem_of_getElem? hz)⟩
      rw [hcell j hjl]
      have : zs.getD j 0 = z := by simp [List.getD, hz]
      rw [this]
    · simp at hz
theorem open_words {H : Type} {enc : TypeId × Value → H} {base : Nat} {w : World} {v : Value} {d : DataW H} {p : List MemPlace} (o0 : Value.okWide Try.prog w Reach.any base 35 v) (h0 : DataW.Trod enc Try.prog w 0 (fun _ => true) true 35 v d p) :
    ∃ (o : Option Addr) (l : List Int) (c : Nat), v = .slice o l.length c ∧ LiesW o l w ∧ l.length ≤ c ∧ ∀ x ∈ l, (Lit.int .u64 x).wf = true := by
  obtain ⟨a, len, cap, rfl⟩ := okWide_slice Try.underlying35 o0
  obtain ⟨m, hm⟩ := h0
  obtain ⟨o, zs, c, e, hc, hz⟩ := open_row Try.underlying35 Try.underlying28 oneW hm
  refine ⟨o, zs, c, e, fun j x hx => (hz j x hx).1, hc, fun x hx => ?_⟩
  obtain ⟨j, hj⟩ := List.getElem?_of_mem hx
  exact (hz j x hj).2
/-- a deed: what is done, two numbers, a word -/
structure Deed where
  (d n m x : Int)
/-- deeds in memory -/
def LiesD (o : Option Addr) (l : List Deed) (w : World) : Prop := ∀ (j : Nat) (d : Deed), l[j]? = some d → ∃ a, o = some a ∧ w.cell? (a.add (j * 4)) = some (.int .i64 d.d) ∧ w.cell? ((a.add (j * 4)).add 1) = some (.int .i64 d.n) ∧ w.cell? ((a.add (j * 4)).add 2) = some (.int .i64 d.m) ∧ w.cell? ((a.add (j * 4)).add 3) = some (.int .u64 d.x)
theorem LiesD.below {o : Option Addr} {l : List Deed} {w w' : World} (h : LiesD o l w) (hb : Below w.heap.size w w') : LiesD o l w' := fun j x hx => by
  obtain ⟨a, ha, h0, h1, h2, h3⟩ := h j x hx
  exact ⟨a, ha, (hb.cell (World.block_lt_of_cell? _ _ h0)).trans h0, (hb.cell (World.block_lt_of_cell? _ _ h1)).trans h1, (hb.cell (World.block_lt_of_cell? _ _ h2)).trans h2, (hb.cell (World.block_lt_of_cell? _ _ h3)).trans h3⟩
theorem list4 {cs : List Value} (h : cs.length = 4) : ∃ c0 c1 c2 c3, cs = [c0, c1, c2, c3] := by
  match cs, h with
  | [c0, c1, c2, c3], _ => exact ⟨c0, c1, c2, c3, rfl⟩
theorem open_deeds {H : Type} {enc : TypeId × Value → H} {base : Nat} {w : World} {v : Value} {d : DataW H} {p : List MemPlace} (o0 : Value.okWide Try.prog w Reach.any base 41 v) (h0 : DataW.Trod enc Try.prog w 0 (fun _ => true) true 41 v d p) :
    ∃ (o : Option Addr) (l : List Deed) (c : Nat), v = .slice o l.length c ∧ LiesD o l w ∧ l.length ≤ c := by
  obtain ⟨a, len, cap, rfl⟩ := okWide_slice Try.underlying41 o0
  obtain ⟨m, hm⟩ := h0
  rcases DataW.trod_slice Try.underlying41 hm with ⟨e5, _⟩ | ⟨a, len, cap, elems, rest, m, hm, e5, _, _, hlc, _, hel, hall, _⟩
  · simp [Value.cells] at e5
    obtain ⟨rfl, rfl, rfl⟩ := e5
    exact ⟨none, [], 0, rfl, fun j s hs => by simp at hs, Nat.le_refl _⟩
  · simp [Value.cells] at e5
    obtain ⟨rfl, rfl, rfl⟩ := e5
    rw [fourD] at hall
    have hD : ∀ i, i < len → ∃ D : Deed, w.cell? (a.add (i * 4)) = some (.int .i64 D.d) ∧ w.cell? ((a.add (i * 4)).add 1) = some (.int .i64 D.n) ∧ w.cell? ((a.add (i * 4)).add 2) = some (.int .i64 D.m) ∧ w.cell? ((a.add (i * 4)).add 3) = some (.int .u64 D.x) := by
      intro i hi
      have h1 := hall i hi
      rw [List.getElem?_eq_getElem (by omega)] at h1
      cases hc : w.cells? 0 (a.add (i * 4)) 4 with
      | none => rw [hc] at h1; simp at h1
      | some cs' =>
        rw [hc] at h1
        simp only [Option.bind_some] at h1
        obtain ⟨xs, n, hfu, hx, hl, hlen, hf⟩ := DataW.trod_struct (fs := _) Try.underlying45 h1
        rw [fourD] at hl
        obtain ⟨c0, c1, c2, c3, rfl⟩ := list4 hl
        have hlen4 : xs.length = 4 := hlen
        match xs, hlen4 with
        | [y0, y1, y2, y3], _ =>
        have g0 : DataW.trod enc Try.prog w 0 (fun _ => true) true n 3 [c0] = some y0 := by have := hf 0 _ rfl; simpa [oneN, oneW] using this
        have g1 : DataW.trod enc Try.prog w 0 (fun _ => true) true n 3 [c1] = some y1 := by have := hf 1 _ rfl; simpa [oneN, oneW] using this
        have g2 : DataW.trod enc Try.prog w 0 (fun _ => true) true n 3 [c2] = some y2 := by have := hf 2 _ rfl; simpa [oneN, oneW] using this
        have g3 : DataW.trod enc Try.prog w 0 (fun _ => true) true n 28 [c3] = some y3 := by have := hf 3 _ rfl; simpa [oneN, oneW] using this
        obtain ⟨k0, e0, _, _⟩ := DataW.trod_int Try.underlying3 g0
        obtain ⟨k1, e1, _, _⟩ := DataW.trod_int Try.underlying3 g1
        obtain ⟨k2, e2, _, _⟩ := DataW.trod_int Try.underlying3 g2
        obtain ⟨k3, e3, _, _⟩ := DataW.trod_int Try.underlying28 g3
        simp only [List.cons.injEq, and_true] at e0 e1 e2 e3
        subst e0 e1 e2 e3
        obtain ⟨_, _, hcell⟩ := World.cells?_some hc
        have q0 := hcell 0 (by omega)
        have z : ∀ (a : Addr), a.add 0 = a := fun a => by unfold Addr.add; simp
        rw [z] at q0
        exact ⟨⟨k0, k1, k2, k3⟩, q0, hcell 1 (by omega), hcell 2 (by omega), hcell 3 (by omega)⟩
    have hE : ∀ n, n ≤ len → ∃ l : List Deed, l.length = n ∧ ∀ j D, l[j]? = some D → w.cell? (a.add (j * 4)) = some (.int .i64 D.d) ∧ w.cell? ((a.add (j * 4)).add 1) = some (.int .i64 D.n) ∧ w.cell? ((a.add (j * 4)).add 2) = some (.int .i64 D.m) ∧ w.cell? ((a.add (j * 4)).add 3) = some (.int .u64 D.x) := by
      intro n
      induction n with
      | zero => intro _; exact ⟨[], rfl, fun j D h => by simp at h⟩
      | succ n ih =>
        intro hn
        obtain ⟨l, hl, hL⟩ := ih (by omega)
        obtain ⟨D, hD⟩ := hD n (by omega)
        refine ⟨l ++ [D], by simp [hl], fun j E h => ?_⟩
        by_cases hj : j < l.length
        · rw [List.getElem?_append_left hj] at h
          exact hL j E h
        · rw [List.getElem?_append_right (by omega)] at h
          have hjl := (List.getElem?_eq_some_iff.1 h).1
          have : j = n := by simp at hjl; omega
          subst this
          rw [hl, Nat.sub_self] at h
          simp at h; subst h
          exact hD
    obtain ⟨l, hl, hL⟩ := hE len (Nat.le_refl _)
    exact ⟨some a, l, cap, by rw [hl], fun j D h => ⟨a, rfl, hL j D h⟩, by omega⟩
end Go.Proofs.Ytdabigekdnibhaa
