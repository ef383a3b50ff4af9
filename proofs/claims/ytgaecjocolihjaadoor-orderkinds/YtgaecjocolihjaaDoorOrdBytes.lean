/- bytes.Compare. -/
import Derived.Test.YtgaecjocolihjaaDoorTermMem
import Derived.Test.YtgaecjocolihjaaDoorOrdMath
import Derived.Lib.BytesEntry
namespace Go.Proofs.YtgaecjocolihjaaDoor
open Go.ChangeShapes Go.WideShapes Go.ChangeAt Go.RowKit
set_option linter.unusedSimpArgs false
set_option linter.unusedVariables false
theorem bytesRun {Z : Nat → Prop} {o : Option Addr} {b : List Nat} {w : World} (c : Nat) (h : LsB Z o b w) : (Extern.Bytes.bytesOf (.slice o b.length c)).run Tryd.prog w = .ok ⟨(b.map UInt8.ofNat).toArray⟩ w := by
  cases o with
  | none =>
    have hb : b = [] := by
      cases b with
      | nil => rfl
      | cons x t => obtain ⟨a, ha, _⟩ := h.1 0 (.int .u8 (x : Int)) (by simp); simp at ha
    subst hb
    rfl
  | some a =>
    have hl := Lib.run_loadBytesX (P := Tryd.prog) w (b.map fun (x : Nat) => (x : Int)) a .empty (fun j x hj => by
      rw [List.getElem?_map, Option.map_eq_some_iff] at hj
      obtain ⟨y, hy, rfl⟩ := hj
      obtain ⟨a', ha, _, hc⟩ := h.1 j (.int .u8 (y : Int)) (by simp [hy])
      injection ha with ha; subst ha
      exact hc)
    rw [List.length_map] at hl
    show (Extern.Bytes.loadBytes a b.length .empty).run Tryd.prog w = _
    rw [hl]
    congr 1
    apply ByteArray.ext
    show (#[] : Array UInt8) ++ (Lib.bytesOf (b.map fun (x : Nat) => (x : Int))).toArray = _
    simp [Lib.bytesOf]
theorem cmpB_lex : ∀ a b : List Nat, Lm 256 a → Lm 256 b → Lib.compareBytes (a.map UInt8.ofNat) (b.map UInt8.ofNat) = lexZ a b
  | [], [], _, _ => rfl
  | [], _ :: _, _, _ => rfl
  | _ :: _, [], _, _ => rfl
  | x :: xs, y :: ys, ha, hb => by
    have hx : x < 256 := ha x (by simp)
    have hy : y < 256 := hb y (by simp)
    have ih := cmpB_lex xs ys (fun z hz => ha z (by simp [hz])) (fun z hz => hb z (by simp [hz]))
    have e1 : (UInt8.ofNat x < UInt8.ofNat y) ↔ x < y := by rw [UInt8.lt_iff_toNat_lt]; simp; omega
    have e2 : (UInt8.ofNat y < UInt8.ofNat x) ↔ y < x := by rw [UInt8.lt_iff_toNat_lt]; simp; omega
    simp only [List.map_cons, Lib.compareBytes, lexZ, e1, e2, ih, cmpZ]
    by_cases h1 : x < y
    · have : x ≠ y := by omega
      simp [h1, this]
    · by_cases h2 : y < x
      · have : x ≠ y := by omega
        simp [h1, h2, this]
      · have : x = y := by omega
        simp [this]
theorem compareRun {Z Z' : Nat → Prop} {oa ob : Option Addr} {a b : List Nat} {w : World} (ca cb : Nat) (ha : LsB Z oa a w) (hb : LsB Z' ob b w) :
    (Extern.BytealgCompare.compare #[.slice oa a.length ca, .slice ob b.length cb]).run Tryd.prog w = .ok (.int .i64 (lexZ a b)) w := by
  change Sem.run Tryd.prog (do pure (goInt (Extern.BytealgCompare.cmp (← Extern.Bytes.bytesOf (.slice oa a.length ca)) (← Extern.Bytes.bytesOf (.slice ob b.length cb))))) w = _
  simp only [Sem.run_bind, Sem.run_pure, bytesRun ca ha, bytesRun cb hb, Result.andThen]
  rw [Lib.cmp_eq]
  simp only [List.toList_toArray]
  rw [cmpB_lex a b ha.2 hb.2]
  rfl
set_option maxHeartbeats 1000000 in
set_option maxRecDepth 100000 in
theorem bytesCompare_w {Z Z' : Nat → Prop} {oa ob : Option Addr} {a b : List Nat} {w : World} (ca cb : Nat) (ha : LsB Z oa a w) (hb : LsB Z' ob b w) :
    Calls Tryd.prog 58 #[.slice oa a.length ca, .slice ob b.length cb] w fun e w' => e = .returned (.int .i64 (lexZ a b)) ∧ w' = w := by
  have hr := compareRun ca cb ha hb
  go_enter Tryd.func58, Tryd.ntmps58
  go_wp2
  rw [run_callFunc_extern Tryd.func71 (by kernel_rfl) (by kernel_rfl) (by kernel_rfl) (e := Extern.BytealgCompare.compare) (by kernel_rfl), hr]
  simp only [Result.andThen]
  rw [Oper.upon_value]
  go_wp2
  go_ret
  exact ⟨rfl, rfl⟩
end Go.Proofs.YtgaecjocolihjaaDoor
