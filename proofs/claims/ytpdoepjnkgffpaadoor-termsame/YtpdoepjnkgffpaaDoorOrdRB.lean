/- Compare of the reference. -/
import Derived.Test.YtpdoepjnkgffpaaDoorOrdTop
import Derived.Test.YtpdoepjnkgffpaaDoorTermRTree
namespace Go.Proofs.YtpdoepjnkgffpaaDoor
open Go.ChangeShapes Go.WideShapes Go.ChangeAt Go.ChangeMaps Go.RowKit Go.Shelf
set_option linter.unusedSimpArgs false
set_option linter.unusedVariables false
set_option maxRecDepth 2000
set_option maxHeartbeats 2000000 in
set_option maxRecDepth 4000 in
theorem rbytes_w (oa ob : Option Addr) (ca cb : Nat) (a b : List Nat) (w : World) (ha : a.length ≤ 1000000) (hb : b.length ≤ 1000000) (hra : LsB (Low w) oa a w) (hrb : LsB (Low w) ob b w) :
    Calls Tryd.prog 54 #[.slice oa a.length ca, .slice ob b.length cb] w fun e w' => e = .returned (.int .i64 (lexZ a b)) ∧ Below w.heap.size w w' := by
  obtain ⟨R, hR⟩ : ∃ R, lexZ a b = R := ⟨_, rfl⟩
  rw [hR]
  go_enter Tryd.func54, Tryd.ntmps54
  go_wp2
  go_loopw [5] (fun i wr => ∃ k : Nat, i = .int .i64 (k : Int) ∧ k ≤ a.length ∧ k ≤ b.length ∧ Below w.heap.size w wr ∧ Hid (lexZ (a.drop k) (b.drop k) = R)) (fun i _ => a.length - (intOf i).toNat)
  case atStart => exact ⟨0, rfl, by omega, by omega, Below.refl _ _, hid (by simpa using hR)⟩
  case round =>
    obtain ⟨k, rfl, hka, hkb, hbw, hH⟩ := hrel
    clear hR
    have ra := hra.zs (fun k hk => hbw.block k hk)
    have rb := hrb.zs (fun k hk => hbw.block k hk)
    by_cases h1 : k < a.length
    · have h1z : (k : Int) < (a.length : Int) := by omega
      by_cases h2 : k < b.length
      · have h2z : (k : Int) < (b.length : Int) := by omega
        obtain ⟨x, hx⟩ : ∃ x, a[k]? = some x := ⟨a[k], by simp [h1]⟩
        obtain ⟨y, hy⟩ : ∃ y, b[k]? = some y := ⟨b[k], by simp [h2]⟩
        obtain ⟨da', hda, _, cx⟩ := ra.1 k (.int .u8 (x : Int)) (by simp [hx])
        obtain ⟨db', hdb, _, cy⟩ := rb.1 k (.int .u8 (y : Int)) (by simp [hy])
        subst hda
        subst hdb
        have hx2 : x < 256 := hra.2 x (List.mem_of_getElem? hx)
        have hy2 : y < 256 := hrb.2 y (List.mem_of_getElem? hy)
        have da : Hid (a.drop k = x :: a.drop (k + 1)) := hid (by rw [List.drop_eq_getElem_cons h1]; congr 1; simpa [h1] using hx)
        have db : Hid (b.drop k = y :: b.drop (k + 1)) := hid (by rw [List.drop_eq_getElem_cons h2]; congr 1; simpa [h2] using hy)
        clear ra rb
        have Hx := hid hx
        have Hy := hid hy
        clear hx hy
        by_cases hxy : x = y
        · subst hxy
          go_wp2
          go_quiet (fail)
          go_wp2
          go_roundw
          case rel =>
            refine ⟨k + 1, by go_num, by omega, by omega, below_drewNv hbw _, hid ?_⟩
            rw [← hH.out, da.out, db.out, lexZ, if_pos rfl]
          case measure => simp [intOf]; omega
        · have hxz : ((x : Int) == (y : Int)) = false := by
            simp only [beq_eq_false_iff_ne, ne_eq]
            omega
          have hwx : IntKind.i64.wrap (x : Int) = (x : Int) := by rw [IntKind.wrap_i64]; omega
          have hwy : IntKind.i64.wrap (y : Int) = (y : Int) := by rw [IntKind.wrap_i64]; omega
          have hres : R = cmpZ (x : Int) (y : Int) := by rw [← hH.out, da.out, db.out, lexZ, if_neg hxy]
          go_wp2
          go_quiet (fail)
          have hbw' := below_drewNv hbw nq
          obtain ⟨e1, he1, _, cx'⟩ := (hra.zs (fun k hk => hbw'.block k hk)).1 k (.int .u8 (x : Int)) (by simp [Hx.out])
          obtain ⟨e2, he2, _, cy'⟩ := (hrb.zs (fun k hk => hbw'.block k hk)).1 k (.int .u8 (y : Int)) (by simp [Hy.out])
          injection he1 with he1
          injection he2 with he2
          subst he1
          subst he2
          clear cx cy hbw
          generalize wr.drewN nq = wq at *
          go_wp2
          go_quiet ((go_at_call 51; exact Calls.quiet_of_same (order_q _ _ _)))
          go_wp2
          go_ret
          exact ⟨by rw [hres]; rfl, below_drewNv hbw' _⟩
      · have h2z : ¬ (k : Int) < (b.length : Int) := by omega
        have hres : R = cmpZ (a.length : Int) (b.length : Int) := by
          rw [← hH.out, List.drop_eq_getElem_cons h1, show b.drop k = [] from List.drop_eq_nil_of_le (by omega)]
          unfold cmpZ; rw [if_neg (by omega), if_pos (by omega)]; rfl
        go_wp2_with fail
        refine (order_q _ _ _).mono ?_
        rintro e w1 ⟨rfl, rfl⟩
        go_wp2
        go_ret
        exact ⟨by rw [hres]; rfl, hbw⟩
    · have h1z : ¬ (k : Int) < (a.length : Int) := by omega
      have hres : R = cmpZ (a.length : Int) (b.length : Int) := by
        rw [← hH.out, List.drop_eq_nil_of_le (by omega)]
        unfold cmpZ
        by_cases h2 : k < b.length
        · rw [List.drop_eq_getElem_cons h2, if_pos (by omega)]; rfl
        · rw [List.drop_eq_nil_of_le (by omega), if_neg (by omega), if_neg (by omega)]; rfl
      go_wp2_with fail
      refine (order_q _ _ _).mono ?_
      rintro e w1 ⟨rfl, rfl⟩
      go_wp2
      go_ret
      exact ⟨by rw [hres]; rfl, hbw⟩

end Go.Proofs.YtpdoepjnkgffpaaDoor
