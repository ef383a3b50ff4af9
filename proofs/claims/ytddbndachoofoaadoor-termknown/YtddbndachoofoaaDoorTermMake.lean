/- Copy, Int, Num, Atom of package term. -/
import Derived.Test.YtddbndachoofoaaDoorTermCopies
namespace Go.Proofs.YtddbndachoofoaaDoor
open Go.ChangeShapes Go.WideShapes Go.ChangeAt Go.RowKit Go.Shelf
set_option linter.unusedSimpArgs false
set_option linter.unusedVariables false
/-- a result in the block g -/
theorem Bx.res {g : Nat} {a0 a1 a2 a3 a4 a5 a6 : Value} {w : World} (h : Bx g a0 a1 a2 a3 a4 a5 a6 w) : w.cell? ⟨g, 0, none⟩ = some a0 ∧ w.cell? ⟨g, 1, none⟩ = some a1 ∧ w.cell? ⟨g, 2, none⟩ = some a2 ∧ w.cell? ⟨g, 3, none⟩ = some a3 ∧ w.cell? ⟨g, 4, none⟩ = some a4 ∧ w.cell? ⟨g, 5, none⟩ = some a5 ∧ w.cell? ⟨g, 6, none⟩ = some a6 := ⟨h.c0, h.c1, h.c2, h.c3, h.c4, h.c5, h.c6⟩
theorem zw_move {S S' : Nat} {w w' : World} {t : Tm} {v : Value} (h : TV (Zw S w) w t v) (hb : ∀ k, S ≤ k → k < w.heap.size → w'.heap[k]? = w.heap[k]?) (hS : S' ≤ S) : TV (Zw S' w') w' t v := by
  have h1 : TV (fun k => Zw S w k ∧ k < w.heap.size) w t v := TV.mono (fun k hk hz => ⟨hz, hk⟩) _ _ h
  have h2 := TV.zs (w' := w') (fun k hk => hb k hk.1.1 hk.2) _ _ h1
  refine TV.mono (fun k _ hz => ⟨Nat.le_trans hS hz.1.1, fun j => ?_⟩) _ _ h2
  have := World.frozen?_of_block (a := ⟨k, j, none⟩) (hb k hz.1.1 hz.2)
  exact this.trans (hz.1.2 j)
theorem zw_moveR {S S' : Nat} {w w' : World} {l : List Tm} {o : Option Addr} (h : TR (Zw S w) w l o) (hb : ∀ k, S ≤ k → k < w.heap.size → w'.heap[k]? = w.heap[k]?) (hS : S' ≤ S) : TR (Zw S' w') w' l o := by
  have h1 : TR (fun k => Zw S w k ∧ k < w.heap.size) w l o := TR.mono (fun k hk hz => ⟨hz, hk⟩) _ _ h
  have h2 := TR.zs (w' := w') (fun k hk => hb k hk.1.1 hk.2) _ _ h1
  refine TR.mono (fun k _ hz => ⟨Nat.le_trans hS hz.1.1, fun j => ?_⟩) _ _ h2
  have := World.frozen?_of_block (a := ⟨k, j, none⟩) (hb k hz.1.1 hz.2)
  exact this.trans (hz.1.2 j)
theorem tv_low {Z : Nat → Prop} {w : World} {t : Tm} {v : Value} (h : TV Z w t v) : TV (Low w) w t v := TV.mono (fun k hk _ => hk) _ _ h
theorem tv_below {w w' : World} {t : Tm} {v : Value} (h : TV (Low w) w t v) (hb : Below w.heap.size w w') : TV (Low w') w' t v := tv_low (TV.zs (fun k hk => hb.block k hk) _ _ h)
theorem tr_low {Z : Nat → Prop} {w : World} {l : List Tm} {o : Option Addr} (h : TR Z w l o) : TR (Low w) w l o := TR.mono (fun k hk _ => hk) _ _ h
theorem tr_below {w w' : World} {l : List Tm} {o : Option Addr} (h : TR (Low w) w l o) (hb : Below w.heap.size w w') : TR (Low w') w' l o := tr_low (TR.zs (fun k hk => hb.block k hk) _ _ h)
/-- one term in a row of one -/
theorem tr_one {w : World} {t : Tm} {k : Int} {neg : Bool} {od : Option Addr} {ld cd : Nat} {nm : ByteArray} {n : Int} {ol : Option Addr} {ll cl : Nat} {ob : Option Addr} {lb cb : Nat} {ty : TypeId} (h : TV (Low w) w t (tmV k neg (.slice od ld cd) nm n (.slice ol ll cl) (.slice ob lb cb))) :
    TR (Low (w.alloc (.cells #[.int .i64 k, .bool neg, .slice od ld cd, .string nm, .int .i64 n, .slice ol ll cl, .slice ob lb cb] ty))) (w.alloc (.cells #[.int .i64 k, .bool neg, .slice od ld cd, .string nm, .int .i64 n, .slice ol ll cl, .slice ob lb cb] ty)) [t] (some ⟨w.heap.size, 0, none⟩) := by
  have hb := (Below.refl w.heap.size w).alloc (Nat.le_refl _) (.cells #[.int .i64 k, .bool neg, .slice od ld cd, .string nm, .int .i64 n, .slice ol ll cl, .slice ob lb cb] ty)
  have kx := Bx.new w (.int .i64 k) (.bool neg) (.slice od ld cd) (.string nm) (.int .i64 n) (.slice ol ll cl) (.slice ob lb cb) ty
  unfold TR
  exact ⟨_, _, rfl, kx.lt, ⟨_, _, _, _, _, _, _, rfl, kx.c0, by rw [addr_add]; exact kx.c1, by rw [addr_add]; exact kx.c2, by rw [addr_add]; exact kx.c3, by rw [addr_add]; exact kx.c4, by rw [addr_add]; exact kx.c5, by rw [addr_add]; exact kx.c6⟩, tv_below h hb, by unfold TR; trivial⟩
set_option maxHeartbeats 1000000 in
theorem Copy_w (T : Tm) (v : Value) (w : World) (hlen : (parts T).length ≤ 500000) (hok : ∀ p ∈ parts T, p.ok1) (hT : TV (Low w) w T v) :
    Calls Tryd.prog 36 #[v] w fun e w' => ∃ v', e = .returned v' ∧ TV (Zw w.heap.size w') w' (cpT T) v' ∧ Below w.heap.size w w' := by
  obtain ⟨k, neg, od, ld, cd, nm, n, ol, ll, cl, ob, lb, cb, rfl⟩ := hT.form
  obtain ⟨kA, kB, hB0, hz0⟩ := bx2 w (.int .i64 k) (.bool neg) (.slice od ld cd) (.string nm) (.int .i64 n) (.slice ol ll cl) (.slice ob lb cb) (.int .i64 0) (.bool false) nilS (.string noS) (.int .i64 0) nilS nilS 29 29
  go_enter Tryd.func36, Tryd.ntmps36
  go_wp2_with fail
  generalize hW : ((w.alloc (.cells #[.int .i64 k, .bool neg, .slice od ld cd, .string nm, .int .i64 n, .slice ol ll cl, .slice ob lb cb] 29)).alloc (.cells #[.int .i64 0, .bool false, .slice none 0 0, .string { data := #[] }, .int .i64 0, .slice none 0 0, .slice none 0 0] 29)) = W0 at *
  clear hW
  have hT1 := tr_one (ty := 29) (tv_below hT hB0)
  have hB1 := hB0.alloc (by omega) (.cells #[.int .i64 k, .bool neg, .slice od ld cd, .string nm, .int .i64 n, .slice ol ll cl, .slice ob lb cb] 29)
  have kB1 := kB.below ((Below.refl _ W0).alloc (Nat.le_refl _) (.cells #[.int .i64 k, .bool neg, .slice od ld cd, .string nm, .int .i64 n, .slice ol ll cl, .slice ob lb cb] 29))
  have hz1 : (W0.alloc (.cells #[.int .i64 k, .bool neg, .slice od ld cd, .string nm, .int .i64 n, .slice ol ll cl, .slice ob lb cb] 29)).heap.size = w.heap.size + 3 := by simp [hz0]
  rw [hz0] at hT1
  generalize (W0.alloc (.cells #[.int .i64 k, .bool neg, .slice od ld cd, .string nm, .int .i64 n, .slice ol ll cl, .slice ob lb cb] 29)) = W1 at *
  refine (copies_w [T] _ _ _ (by simp) (by simpa [partsL] using hlen) (by simp) (by simpa [partsL] using hok) hT1).mono ?_
  rintro e w2 ⟨g', c', rfl, hR, _, b2⟩
  simp only [cpL] at hR
  unfold TR at hR
  obtain ⟨a, v2, ha, hZ, hA, hV, _⟩ := hR
  injection ha with ha
  subst ha
  obtain ⟨k2, neg2, od2, ld2, cd2, nm2, n2, ol2, ll2, cl2, ob2, lb2, cb2, rfl⟩ := hV.form
  obtain ⟨x0, x1, x2, x3, x4, x5, x6⟩ := hA.tm
  simp only [Nat.zero_add] at x1 x2 x3 x4 x5 x6
  have kB2 := kB1.below b2
  have hB2 := below_and hB1 (by omega) b2
  have hf := kB2.fr
  obtain ⟨f0, f1, f2, f3, f4, f5, f6, _⟩ := id kB2
  have hput := kB2.put (b0 := .int .i64 k2) (b1 := .bool neg2) (b2 := .slice od2 ld2 cd2) (b3 := .string nm2) (b4 := .int .i64 n2) (b5 := .slice ol2 ll2 cl2) (b6 := .slice ob2 lb2 cb2)
  have hon := only_put w2 (w.heap.size + 1) (.int .i64 k2) (.bool neg2) (.slice od2 ld2 cd2) (.string nm2) (.int .i64 n2) (.slice ol2 ll2 cl2) (.slice ob2 lb2 cb2)
  obtain ⟨r0, r1, r2, r3, r4, r5, r6⟩ := hput.res
  go_wp2
  refine bodyPost_ret (v := tmV k2 neg2 (.slice od2 ld2 cd2) nm2 n2 (.slice ol2 ll2 cl2) (.slice ob2 lb2 cb2)) (by simp [results, Tryd.results36, go_sem, r0, r1, r2, r3, r4, r5, r6]) rfl ⟨_, rfl, zw_move hV (fun k hk _ => hon.2.2 k (by omega)) (by omega), hB2.trans (hon.below (B := w.heap.size) (by omega))⟩
end Go.Proofs.YtddbndachoofoaaDoor
