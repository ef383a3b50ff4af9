/- a term that came in, opened. -/
import Derived.Test.YtpdoepjnkgffpaaDoorTermCopyAll
import Derived.Test.YtpdoepjnkgffpaaDoorTermBigA
import Derived.Lib.SmallJoins
import Derived.ChangeSlices
import Derived.ChangeArms
namespace Go.Proofs.YtpdoepjnkgffpaaDoor
open Go.ChangeShapes Go.WideShapes Go.ChangeAt Go.ChangeMaps Go.RowKit
set_option linter.unusedSimpArgs false
set_option linter.unusedVariables false
set_option maxRecDepth 2000
theorem seven : Tryd.prog.cellsOf 31 = 7 := by kernel_rfl
theorem c8 : Tryd.prog.cellsOf 5 = 1 := by kernel_rfl
/-- integers in a row, opened -/
theorem open_row {H : Type} {enc : TypeId × Value → H} {w : World} {fuel : Nat} {t e : TypeId} {kd : IntKind} {v : Value} {x : DataW H × List MemPlace} (ht : Tryd.prog.underlying t = some (.slice e)) (he : Tryd.prog.underlying e = some (.int kd)) (hc : Tryd.prog.cellsOf e = 1) (h : DataW.trod enc Tryd.prog w 0 (fun _ => true) true fuel t [v] = some x) :
    ∃ (o : Option Addr) (zs : List Int) (c : Nat), v = .slice o zs.length c ∧ zs.length ≤ c ∧ (∀ (j : Nat) (z : Int), zs[j]? = some z → (∃ a, o = some a ∧ w.cell? (a.add j) = some (.int kd z)) ∧ (Lit.int kd z).wf = true) := by
  rcases open_ints ht he hc h with ⟨e1, _⟩ | ⟨a, len, cap, zs, e1, _, hlc, hcm, hzl, _, hcell, hwf⟩
  · simp only [List.cons.injEq, and_true] at e1
    subst e1
    exact ⟨none, [], 0, rfl, by simp, fun j z hz => by simp at hz⟩
  · simp only [List.cons.injEq, and_true] at e1
    subst e1
    simp only [if_true] at hzl
    have hll : (zs.take len).length = len := by rw [List.length_take]; omega
    refine ⟨some a, zs.take len, cap, by rw [hll], by omega, fun j z hz => ?_⟩
    rw [List.getElem?_take] at hz
    split at hz
    · have hjl : j < zs.length := (List.getElem?_eq_some_iff.1 hz).1
      refine ⟨⟨a, rfl, ?_⟩, hwf z (List.mem_of_getElem? hz)⟩
      rw [hcell j hjl]
      have : zs.getD j 0 = z := by simp [List.getD, hz]
      rw [this]
    · simp at hz
theorem row_nat {w : World} {o : Option Addr} {kd : IntKind} {B : Nat} {zs : List Int} (h : ∀ (j : Nat) (z : Int), zs[j]? = some z → (∃ a, o = some a ∧ w.cell? (a.add j) = some (.int kd z)) ∧ (Lit.int kd z).wf = true) (hw : ∀ z, (Lit.int kd z).wf = true → 0 ≤ z ∧ z < (B : Int)) :
    Ls (Low w) o ((zs.map Int.toNat).map fun (x : Nat) => Value.int kd (x : Int)) w ∧ Lm B (zs.map Int.toNat) := by
  refine ⟨fun j u hu => ?_, fun x hx => ?_⟩
  · simp only [List.getElem?_map] at hu
    cases hz : zs[j]? with
    | none => rw [hz] at hu; simp at hu
    | some z =>
      rw [hz] at hu
      simp only [Option.map_some, Option.some.injEq] at hu
      obtain ⟨⟨a, ha, hc⟩, hwf⟩ := h j z hz
      have := hw z hwf
      refine ⟨a, ha, by have := World.block_lt_of_cell? _ _ hc; rwa [block_add] at this, ?_⟩
      rw [hc, ← hu]
      congr 2
      omega
  · obtain ⟨z, hz, rfl⟩ := List.mem_map.1 hx
    obtain ⟨j, hj⟩ := List.getElem?_of_mem hz
    have := hw z (h j z hj).2
    omega
theorem wf32 (z : Int) (h : (Lit.int .u32 z).wf = true) : 0 ≤ z ∧ z < ((4294967296 : Nat) : Int) := by
  simp [Lit.wf, IntKind.min, IntKind.max, IntKind.bits, IntKind.signed] at h; omega
theorem wf8 (z : Int) (h : (Lit.int .u8 z).wf = true) : 0 ≤ z ∧ z < ((256 : Nat) : Int) := by
  simp [Lit.wf, IntKind.min, IntKind.max, IntKind.bits, IntKind.signed] at h; omega
theorem rows_of {w : World} (len : Nat) : ∀ (a : Addr), (∀ i, i < len → ∃ T v, At7 (a.add (i * 7)) v w ∧ TV (Low w) w T v) → ∃ l : List Tm, l.length = len ∧ TR (Low w) w l (some a) := by
  induction len with
  | zero => intro a _; exact ⟨[], rfl, by unfold TR; trivial⟩
  | succ n ih =>
    intro a h
    obtain ⟨T, v, hA, hT⟩ := h 0 (by omega)
    rw [Nat.zero_mul, add_zero] at hA
    obtain ⟨l, hl, hR⟩ := ih (a.add 7) (fun i hi => by
      obtain ⟨T, v, hA, hT⟩ := h (i + 1) (by omega)
      refine ⟨T, v, ?_, hT⟩
      rw [add_add]
      rw [show (i + 1) * 7 = 7 + i * 7 by omega] at hA
      exact hA)
    refine ⟨T :: l, by simp [hl], ?_⟩
    unfold TR
    exact ⟨a, v, rfl, hA.lt, hA, hT, hR⟩
theorem list7 {cs : List Value} (h : cs.length = 7) : ∃ c0 c1 c2 c3 c4 c5 c6, cs = [c0, c1, c2, c3, c4, c5, c6] := by
  match cs, h with
  | [c0, c1, c2, c3, c4, c5, c6], _ => exact ⟨c0, c1, c2, c3, c4, c5, c6, rfl⟩
theorem q1 : Tryd.prog.cellsOf 3 = 1 := by kernel_rfl
theorem q2 : Tryd.prog.cellsOf 4 = 1 := by kernel_rfl
theorem q3 : Tryd.prog.cellsOf 28 = 1 := by kernel_rfl
theorem q4 : Tryd.prog.cellsOf 9 = 1 := by kernel_rfl
theorem q5 : Tryd.prog.cellsOf 22 = 1 := by kernel_rfl
theorem q6 : Tryd.prog.cellsOf 29 = 1 := by kernel_rfl
theorem open_cells {H : Type} {enc : TypeId × Value → H} {w : World} : ∀ (fuel : Nat) (cs : List Value) (x : DataW H × List MemPlace), DataW.trod enc Tryd.prog w 0 (fun _ => true) true fuel 31 cs = some x →
    ∃ (T : Tm) (k : Int) (neg : Bool) (od : Option Addr) (ld cd : Nat) (nm : ByteArray) (n : Int) (ol : Option Addr) (ll cl : Nat) (ob : Option Addr) (lb cb : Nat), cs = [.int .i64 k, .bool neg, .slice od ld cd, .string nm, .int .i64 n, .slice ol ll cl, .slice ob lb cb] ∧ TV (Low w) w T (tmV k neg (.slice od ld cd) nm n (.slice ol ll cl) (.slice ob lb cb)) := by
  intro fuel
  induction fuel using Nat.strongRecOn with
  | _ fuel ih =>
    intro cs x h
    obtain ⟨xs, n, hfu, hx, hl, hlen, hf⟩ := DataW.trod_struct (fs := _) Tryd.underlying31 h
    rw [seven] at hl
    obtain ⟨c0, c1, c2, c3, c4, c5, c6, rfl⟩ := list7 hl
    have hlen7 : xs.length = 7 := hlen
    match xs, hlen7 with
    | [y0, y1, y2, y3, y4, y5, y6], _ =>
    have g0 : DataW.trod enc Tryd.prog w 0 (fun _ => true) true n 3 [c0] = some y0 := by have := hf 0 _ rfl; simpa [q1] using this
    have g1 : DataW.trod enc Tryd.prog w 0 (fun _ => true) true n 4 [c1] = some y1 := by have := hf 1 _ rfl; simpa [q2] using this
    have g2 : DataW.trod enc Tryd.prog w 0 (fun _ => true) true n 28 [c2] = some y2 := by have := hf 2 _ rfl; simpa [q3] using this
    have g3 : DataW.trod enc Tryd.prog w 0 (fun _ => true) true n 9 [c3] = some y3 := by have := hf 3 _ rfl; simpa [q4] using this
    have g4 : DataW.trod enc Tryd.prog w 0 (fun _ => true) true n 3 [c4] = some y4 := by have := hf 4 _ rfl; simpa [q1] using this
    have g5 : DataW.trod enc Tryd.prog w 0 (fun _ => true) true n 22 [c5] = some y5 := by have := hf 5 _ rfl; simpa [q5] using this
    have g6 : DataW.trod enc Tryd.prog w 0 (fun _ => true) true n 29 [c6] = some y6 := by have := hf 6 _ rfl; simpa [q6] using this
    clear hf hx
    obtain ⟨k, e0, _, _⟩ := DataW.trod_int Tryd.underlying3 g0
    obtain ⟨neg, e1, _⟩ := DataW.trod_bool Tryd.underlying4 g1
    obtain ⟨nm, e3, _, _⟩ := DataW.trod_string Tryd.underlying9 g3
    obtain ⟨n', e4, _, _⟩ := DataW.trod_int Tryd.underlying3 g4
    obtain ⟨od, zd, cd, e2, hcd, hzd⟩ := open_row Tryd.underlying28 Tryd.underlying42 one34 g2
    obtain ⟨ob, zb, cb, e6, hcb, hzb⟩ := open_row Tryd.underlying29 Tryd.underlying5 c8 g6
    obtain ⟨hLd, hMd⟩ := row_nat hzd wf32
    obtain ⟨hLb, hMb⟩ := row_nat hzb wf8
    simp only [List.cons.injEq, and_true] at e0 e1 e3 e4
    subst e0 e1 e2 e3 e4 e6
    have hL : ∃ (l : List Tm) (ol : Option Addr) (cl : Nat), c5 = .slice ol l.length cl ∧ l.length ≤ cl ∧ TR (Low w) w l ol := by
      rcases DataW.trod_slice Tryd.underlying22 g5 with ⟨e5, _⟩ | ⟨a, len, cap, elems, rest, m, hm, e5, _, _, hlc, _, hel, hall, _⟩
      · simp only [List.cons.injEq, and_true] at e5
        exact ⟨[], none, 0, e5, by simp, by unfold TR; trivial⟩
      · simp only [List.cons.injEq, and_true] at e5
        rw [seven] at hall
        obtain ⟨l, hll, hR⟩ := rows_of (w := w) len a (fun i hi => by
          have h1 := hall i hi
          rw [List.getElem?_eq_getElem (by omega)] at h1
          cases hc : w.cells? 0 (a.add (i * 7)) 7 with
          | none => rw [hc] at h1; simp at h1
          | some cs' =>
            rw [hc] at h1
            simp only [Option.bind_some] at h1
            obtain ⟨T, k', neg', od', ld', cd', nm', n'', ol', ll', cl', ob', lb', cb', rfl, hT⟩ := ih m (by omega) cs' _ h1
            obtain ⟨_, _, hcell⟩ := World.cells?_some hc
            have h0 := hcell 0 (by omega)
            rw [add_zero] at h0
            exact ⟨T, _, ⟨_, _, _, _, _, _, _, rfl, h0, hcell 1 (by omega), hcell 2 (by omega), hcell 3 (by omega), hcell 4 (by omega), hcell 5 (by omega), hcell 6 (by omega)⟩, hT⟩)
        exact ⟨l, some a, cap, by rw [hll]; exact e5, by omega, hR⟩
    obtain ⟨l, ol, cl, rfl, hcl, hR⟩ := hL
    refine ⟨.mk k neg (zd.map Int.toNat) nm n' l (zb.map Int.toNat), k, neg, od, zd.length, cd, nm, n', ol, l.length, cl, ob, zb.length, cb, rfl, ?_⟩
    unfold TV
    exact ⟨od, cd, ol, cl, ob, cb, by simp, hLd, by simpa using hcd, hMd, ⟨hLb, hMb⟩, by simpa using hcb, hcl, hR⟩
theorem open_term {H : Type} {enc : TypeId × Value → H} {base : Nat} {w : World} {v : Value} {d : DataW H} {p : List MemPlace} (o0 : Value.okWide Tryd.prog w Reach.any base 31 v) (h0 : DataW.Trod enc Tryd.prog w 0 (fun _ => true) true 31 v d p) : ∃ T, TV (Low w) w T v := by
  obtain ⟨fuel, hf⟩ := h0
  obtain ⟨cs, rfl, hsz⟩ := okWide_struct Tryd.underlying31 o0
  obtain ⟨T, k, neg, od, ld, cd, nm, n, ol, ll, cl, ob, lb, cb, e, hT⟩ := open_cells fuel _ _ hf
  refine ⟨T, ?_⟩
  have : cs = #[.int .i64 k, .bool neg, .slice od ld cd, .string nm, .int .i64 n, .slice ol ll cl, .slice ob lb cb] := by
    have h2 : (Value.agg cs).cells = cs := rfl
    rw [h2] at e
    exact Array.toList_inj.1 e
  subst this
  exact hT
end Go.Proofs.YtpdoepjnkgffpaaDoor
