/- What may be written in a copy. -/
import Derived.Test.YtpdoepjnkgffpaaDoorSameW
import Derived.Test.YtpdoepjnkgffpaaDoorRSame
import Derived.Test.YtpdoepjnkgffpaaDoorCpyW
import Derived.Test.YtpdoepjnkgffpaaDoorTermSmallAll
import Derived.Test.YtpdoepjnkgffpaaDoorOrdFacts
import Derived.Test.YtpdoepjnkgffpaaDoorTermCopyAll
import Derived.Test.YtpdoepjnkgffpaaDoorTermPartsM
namespace Go.Proofs.YtpdoepjnkgffpaaDoor
open Go.ChangeShapes Go.WideShapes Go.ChangeAt Go.ChangeMaps Go.RowKit Go.Shelf
set_option linter.unusedSimpArgs false
set_option linter.unusedVariables false
set_option maxRecDepth 2000
/-- cells in a row that may be written -/
def Wb (lo hi : Nat) (o : Option Addr) (n : Nat) (P : Value → Prop) (w : World) : Prop := ∀ j, j < n → ∃ a u, o = some a ∧ lo ≤ a.block ∧ a.block < hi ∧ (∀ i, w.frozen? ⟨a.block, i, none⟩ = false) ∧ w.cell? (a.add j) = some u ∧ P u
theorem Wb.zero {lo hi : Nat} {o : Option Addr} {P : Value → Prop} {w : World} : Wb lo hi o 0 P w := fun j h => by omega
theorem spot_none {w : World} {p : Addr} {v : Value} (h : w.cell? p = some v) : p = ⟨p.block, p.off, none⟩ := by
  cases p with | mk b o s =>
  cases s with
  | none => rfl
  | some q =>
    exfalso
    unfold World.cell? at h
    split at h <;> simp at h
theorem Wb.set {lo hi n : Nat} {o : Option Addr} {P : Value → Prop} {w : World} (h : Wb lo hi o n P w) (p : Addr) (x : Value) (hx : P x) (hp : p = ⟨p.block, p.off, none⟩) : Wb lo hi o n P (w.setCell p x) := fun j hj => by
  obtain ⟨a, u, h1, h2, h3, h4, h5, h6⟩ := h j hj
  have hf : ∀ i, (w.setCell p x).frozen? ⟨a.block, i, none⟩ = false := fun i => by
    have := World.frozen?_setCells p.block [x] p.off w ⟨a.block, i, none⟩
    rw [hp]
    exact this.trans (h4 i)
  by_cases e : p = a.add j
  · subst e
    exact ⟨a, x, h1, h2, h3, hf, World.cell?_setCell_same w _ x h5, hx⟩
  · exact ⟨a, u, h1, h2, h3, hf, (World.cell?_setCell_other w p _ x e).trans h5, h6⟩
theorem fr_any {w : World} {p : Addr} (h : ∀ i, w.frozen? ⟨p.block, i, none⟩ = false) : w.frozen? p = false := h p.off
theorem Wb.of_block {lo hi n : Nat} {o : Option Addr} {P : Value → Prop} {w w' : World} (h : Wb lo hi o n P w) (hb : ∀ k, lo ≤ k → k < hi → w'.heap[k]? = w.heap[k]?) : Wb lo hi o n P w' := fun j hj => by
  obtain ⟨a, u, h1, h2, h3, h4, h5, h6⟩ := h j hj
  refine ⟨a, u, h1, h2, h3, fun i => (World.frozen?_of_block (a := ⟨a.block, i, none⟩) (hb _ h2 h3)).trans (h4 i), ?_, h6⟩
  exact (World.cell?_of_block (a := a.add j) (by rw [block_add]; exact hb _ h2 h3)).trans h5
theorem put7_wb {lo hi n : Nat} {o : Option Addr} {w : World} (h : Wb lo hi o n (fun _ => True) w) (p : Addr) (hp : p = ⟨p.block, p.off, none⟩) (b0 b1 b2 b3 b4 b5 b6 : Value) : Wb lo hi o n (fun _ => True) (((((((w.setCell p b0).setCell ⟨p.block, p.off + 1, none⟩ b1).setCell ⟨p.block, p.off + 2, none⟩ b2).setCell ⟨p.block, p.off + 3, none⟩ b3).setCell ⟨p.block, p.off + 4, none⟩ b4).setCell ⟨p.block, p.off + 5, none⟩ b5).setCell ⟨p.block, p.off + 6, none⟩ b6) :=
  ((((((h.set p b0 trivial hp).set ⟨p.block, p.off + 1, none⟩ b1 trivial rfl).set ⟨p.block, p.off + 2, none⟩ b2 trivial rfl).set ⟨p.block, p.off + 3, none⟩ b3 trivial rfl).set ⟨p.block, p.off + 4, none⟩ b4 trivial rfl).set ⟨p.block, p.off + 5, none⟩ b5 trivial rfl).set ⟨p.block, p.off + 6, none⟩ b6 trivial rfl
theorem put7_kept {F : Nat → Prop} (w : World) (p : Addr) (hF : F p.block) (b0 b1 b2 b3 b4 b5 b6 : Value) : Kept F w (((((((w.setCell p b0).setCell ⟨p.block, p.off + 1, none⟩ b1).setCell ⟨p.block, p.off + 2, none⟩ b2).setCell ⟨p.block, p.off + 3, none⟩ b3).setCell ⟨p.block, p.off + 4, none⟩ b4).setCell ⟨p.block, p.off + 5, none⟩ b5).setCell ⟨p.block, p.off + 6, none⟩ b6) :=
  ((((((Kept.of_set w (p := p) hF b0).trans (Kept.of_set _ (p := ⟨p.block, p.off + 1, none⟩) hF b1)).trans (Kept.of_set _ (p := ⟨p.block, p.off + 2, none⟩) hF b2)).trans (Kept.of_set _ (p := ⟨p.block, p.off + 3, none⟩) hF b3)).trans (Kept.of_set _ (p := ⟨p.block, p.off + 4, none⟩) hF b4)).trans (Kept.of_set _ (p := ⟨p.block, p.off + 5, none⟩) hF b5)).trans (Kept.of_set _ (p := ⟨p.block, p.off + 6, none⟩) hF b6)
theorem wb_seven {lo hi n i : Nat} {o : Option Addr} {P : Value → Prop} {w : World} (h : Wb lo hi o (n * 7) P w) (hi' : i < n) :
    ∃ a u0 u1 u2 u3 u4 u5 u6, o = some a ∧ lo ≤ a.block ∧ a.block < hi ∧ (∀ i, w.frozen? ⟨a.block, i, none⟩ = false) ∧ w.cell? (a.add (i * 7)) = some u0 ∧ w.cell? ⟨(a.add (i * 7)).block, (a.add (i * 7)).off + 1, none⟩ = some u1 ∧ w.cell? ⟨(a.add (i * 7)).block, (a.add (i * 7)).off + 2, none⟩ = some u2 ∧ w.cell? ⟨(a.add (i * 7)).block, (a.add (i * 7)).off + 3, none⟩ = some u3 ∧ w.cell? ⟨(a.add (i * 7)).block, (a.add (i * 7)).off + 4, none⟩ = some u4 ∧ w.cell? ⟨(a.add (i * 7)).block, (a.add (i * 7)).off + 5, none⟩ = some u5 ∧ w.cell? ⟨(a.add (i * 7)).block, (a.add (i * 7)).off + 6, none⟩ = some u6 := by
  obtain ⟨a, u0, rfl, h2, h3, h4, h5, _⟩ := h (i * 7) (by omega)
  have q : ∀ m, 0 < m → m < 7 → ∃ u, w.cell? ⟨(a.add (i * 7)).block, (a.add (i * 7)).off + m, none⟩ = some u := fun m hm hm7 => by
    obtain ⟨a', u, e, _, _, _, hc, _⟩ := h (i * 7 + m) (by omega)
    obtain rfl := Option.some.inj e
    rw [← add_add] at hc
    refine ⟨u, ?_⟩
    have : (a.add (i * 7)).add m = ⟨(a.add (i * 7)).block, (a.add (i * 7)).off + m, none⟩ := by
      generalize a.add (i * 7) = b
      unfold Addr.add
      rw [if_neg (by omega)]
    rw [← this]; exact hc
  obtain ⟨u1, k1⟩ := q 1 (by omega) (by omega)
  obtain ⟨u2, k2⟩ := q 2 (by omega) (by omega)
  obtain ⟨u3, k3⟩ := q 3 (by omega) (by omega)
  obtain ⟨u4, k4⟩ := q 4 (by omega) (by omega)
  obtain ⟨u5, k5⟩ := q 5 (by omega) (by omega)
  obtain ⟨u6, k6⟩ := q 6 (by omega) (by omega)
  exact ⟨a, u0, u1, u2, u3, u4, u5, u6, rfl, h2, h3, h4, h5, k1, k2, k3, k4, k5, k6⟩
theorem copy_wb {S : Nat} {w : World} {A : Tm} {ck : Int} {cneg : Bool} {cod : Option Addr} {cld ccd : Nat} {cnm : ByteArray} {cn : Int} {col : Option Addr} {cll ccl : Nat} {cob : Option Addr} {clb ccb : Nat}
    (h : TV (Zw S w) w A (tmV ck cneg (.slice cod cld ccd) cnm cn (.slice col cll ccl) (.slice cob clb ccb))) (hf : fairB A = true) (ho : A.ok1) :
    Wb S w.heap.size col (cll * 7) (fun _ => True) w ∧ Wb S w.heap.size cob clb (fun u => ∃ x, u = .int .u8 x) w ∧ Wb S w.heap.size cod cld (fun u => ∃ x, u = .int .u32 x) w ∧ (0 < cll → clb = 0 ∧ cld = 0) ∧ (0 < clb → cld = 0) ∧ cll ≤ 1000000 ∧ clb ≤ 1000000 ∧ cld ≤ 1000000 := by
  have hl := prT_lean (fair_lean hf)
  cases A with | mk k neg d nm n l b =>
  obtain ⟨o1, o2, o3, o4, _⟩ := ho
  have hx : (0 < l.length → b.length = 0 ∧ d.length = 0) ∧ (0 < b.length → d.length = 0) := by
    by_cases h0 : k = 0
    · simp [prT, h0] at hl; simp [hl]
    by_cases h1 : k = 1
    · simp [prT, h1] at hl; simp [hl]
    by_cases h2 : k = 2
    · simp [prT, h2] at hl; simp [hl]
    by_cases h3 : k = 3
    · simp [prT, h3] at hl; simp [hl]
    by_cases h4 : k = 4
    · simp [prT, h4] at hl; simp [hl]
    by_cases h6 : k = 6
    · simp [prT, h6] at hl; simp [hl]
    by_cases h7 : k = 7
    · simp [prT, h7] at hl; simp [hl]
    simp [prT, h0, h1, h2, h3, h4, h6, h7] at hl
    simp [hl]
  unfold TV at h
  obtain ⟨od, cd, ol, cl, ob, cb, e, hD, _, _, ⟨hB, _⟩, _, _, hT⟩ := h
  simp only [tmV, Value.agg.injEq, Array.mk.injEq, List.cons.injEq, Value.slice.injEq, and_true] at e
  obtain ⟨_, _, ⟨rfl, rfl, _⟩, _, _, ⟨rfl, rfl, _⟩, ⟨rfl, rfl, _⟩⟩ := e
  obtain ⟨xs, hRC, hLc⟩ := hT.rc
  refine ⟨fun j hj => ?_, fun j hj => ?_, fun j hj => ?_, hx.1, hx.2, o3, o4, o1⟩
  · cases l with
    | nil => simp at hj
    | cons t q =>
      have hT2 := hT
      unfold TR at hT2
      obtain ⟨a, v, rfl, hZ, hA, _⟩ := hT2
      have hlen := hRC.len
      obtain ⟨u, hu⟩ : ∃ u, xs[j]? = some u := ⟨xs[j]'(by omega), by simp⟩
      obtain ⟨a', ha, hc⟩ := hLc j u hu
      obtain rfl := Option.some.inj ha
      exact ⟨a, u, rfl, hZ.1, hA.lt, hZ.2, hc, trivial⟩
  · obtain ⟨x, hx⟩ : ∃ x, b[j]? = some x := ⟨b[j]'(by omega), by simp⟩
    obtain ⟨a, ha, hZ, hc⟩ := hB j (.int .u8 (x : Int)) (by simp [bts, hx])
    exact ⟨a, _, ha, hZ.1, by have := World.block_lt_of_cell? _ _ hc; rwa [block_add] at this, hZ.2, hc, _, rfl⟩
  · obtain ⟨x, hx⟩ : ∃ x, d[j]? = some x := ⟨d[j]'(by omega), by simp⟩
    obtain ⟨a, ha, hZ, hc⟩ := hD j (.int .u32 (x : Int)) (by simp [lim, hx])
    exact ⟨a, _, ha, hZ.1, by have := World.block_lt_of_cell? _ _ hc; rwa [block_add] at this, hZ.2, hc, _, rfl⟩
end Go.Proofs.YtpdoepjnkgffpaaDoor
