/- Texts of mine, one behind the other: TextRdI, TextRdJ, CpyTup, CpyList. -/
import Derived.Test.YtjacoodfhkaioaaGreatDoorSbS
import Derived.Test.YtjacoodfhkaioaaGreatDoorSbQ
import Derived.Test.YtjacoodfhkaioaaGreatDoorSbP
namespace Go.Proofs.YtjacoodfhkaioaaGreatDoor
open Go.ChangeShapes Go.WideShapes Go.ChangeAt Go.RowKit Go.Shelf
set_option linter.unusedSimpArgs false
set_option linter.unusedVariables false
set_option maxRecDepth 2000

/-- what Read answers: the fault, the term, the bytes that it takes -/
def rdE (s : List UInt8) : Int := if 65536 < s.length then 3 else if Lib.validD s = false then 4 else match (readL s).1 with | none => 10 | some T => if mayB T then 0 else 10
def rdT (s : List UInt8) : Option Tm := if rdE s = 0 then (readL s).1 else none
def rdN (s : List UInt8) : Nat := if rdE s = 0 then s.length - (readL s).2.length else 0
abbrev zV : Value := .agg #[.int .i64 0, .bool false, .slice none 0 0, .string ⟨#[]⟩, .int .i64 0, .slice none 0 0, .slice none 0 0]
def TmO (S : Nat) (w : World) (o : Option Tm) (v : Value) : Prop :=
  match o with
  | none => v = zV
  | some T => TV (ZnS S w) w T v
theorem tv_drew {S : Nat} {w : World} {T : Tm} {v : Value} (h : TV (ZnS S w) w T v) : TV (ZnS S w.drew) w.drew T v := by
  have k := TV.zs (Z := ZnS S w) (w := w) (w' := w.drew) (fun _ _ => rfl) T v h
  exact TV.mono (fun _ _ h => h) _ _ k
set_option maxHeartbeats 4000000 in
theorem Read_w (s : List UInt8) (w : World) (hT : TabX w) (hs : s.length ≤ 9000000000000000) :
    Calls Tryz.prog 11 #[.string (bs s)] w fun e w' => ∃ v, e = .returned (.tuple #[v, .int .i64 (rdN s : Int), .int .i64 (rdE s)]) ∧ TmO w.heap.size w' (rdT s) v ∧ Below w.heap.size w w' := by
  obtain ⟨W1, hW1⟩ : ∃ W1, W1 = w.alloc (.cells #[.int .i64 0, .bool false, .slice none 0 0, .string ⟨#[]⟩, .int .i64 0, .slice none 0 0, .slice none 0 0] 27) := ⟨_, rfl⟩
  have bW : Below w.heap.size w W1 := by rw [hW1]; exact (Below.refl _ w).alloc (Nat.le_refl _) _
  have hrb : W1.heap[w.heap.size]? = some (.cells #[.int .i64 0, .bool false, .slice none 0 0, .string ⟨#[]⟩, .int .i64 0, .slice none 0 0, .slice none 0 0] 27 (0, 0)) := by rw [hW1]; exact heap_alloc_new w _
  have hWs : W1.heap.size = w.heap.size + 1 := by rw [hW1]; simp
  have hW1H := hid hW1
  have hrbH := hid hrb
  have hbWH := hid bW
  obtain ⟨S, hS⟩ : ∃ S, bs s = S := ⟨_, rfl⟩
  have hSs : S.size = s.length := by rw [← hS]; exact bs_size s
  have hSl : S.data.toList = s := by rw [← hS]; exact bs_list s
  rw [hS]
  have hSH := hid hS
  obtain ⟨E, hE⟩ : ∃ E, rdE s = E := ⟨_, rfl⟩
  obtain ⟨N, hN⟩ : ∃ N, rdN s = N := ⟨_, rfl⟩
  obtain ⟨O, hO⟩ : ∃ O, rdT s = O := ⟨_, rfl⟩
  rw [hE, hN, hO]
  have hEH := hid hE
  have hNH := hid hN
  have hOH := hid hO
  unfold rdN at hNH
  unfold rdT at hOH
  rw [hE] at hNH hOH
  unfold rdE at hEH
  clear hS hE hN hO
  by_cases h1 : 65536 < s.length
  · have hgt : (65536 : Int) < (S.size : Int) := by omega
    have hE3 : E = 3 := by rw [← hEH.out, if_pos h1]
    subst hE3
    have hN0 : N = 0 := by rw [← hNH.out]; rfl
    have hO0 : O = none := by rw [← hOH.out]; rfl
    subst hN0 hO0
    obtain ⟨e0, e1, e2, e3, e4, e5, e6⟩ := cell7 hrb
    have efr : ∀ j, W1.frozen? ⟨w.heap.size, j, none⟩ = false := (res7 hrb).fr
    have hp7 := heap_put7 hrb (.int .i64 0) (.bool false) nilS (.string noS) (.int .i64 0) nilS nilS
    have hon := only_put W1 w.heap.size (.int .i64 0) (.bool false) nilS (.string noS) (.int .i64 0) nilS nilS
    obtain ⟨q0, q1, q2, q3, q4, q5, q6⟩ := cell7 hp7
    have hbF := hid (bW.trans (hon.below (B := w.heap.size) (Nat.le_refl _)))
    clear hp7 hon
    clear hEH hNH hOH hT hrb bW hWs hW1 hSs hSl hSH hs h1
    go_enter Tryz.func11, Tryz.ntmps11
    go_upto_region 1 with fail
    rw [← hW1H.out]
    go_wp2
    exact bodyPost_ret (v := .tuple #[zV, .int .i64 0, .int .i64 3]) (by simp [results, Tryz.results11, go_sem, q0, q1, q2, q3, q4, q5, q6]) rfl ⟨_, rfl, rfl, hbF.out⟩
  · have hgt : ¬ (65536 : Int) < (S.size : Int) := by omega
    rw [if_neg h1] at hEH
    have cv := valid_w S W1 (by omega) (hT.below bW).1.1
    rw [hSl] at cv
    have hTH := hid hT
    have hsl : s.length ≤ 65536 := by omega
    obtain ⟨V, hV⟩ : ∃ V, Lib.validD s = V := ⟨_, rfl⟩
    rw [hV] at cv hEH
    cases V with
    | false =>
      have hE4 : E = 4 := by rw [← hEH.out, if_pos rfl]
      subst hE4
      have hN0 : N = 0 := by rw [← hNH.out]; rfl
      have hO0 : O = none := by rw [← hOH.out]; rfl
      subst hN0 hO0
      clear hEH hNH hOH hT hrb bW hWs hW1 hSs hSl hSH hs h1 hV hTH
      go_enter Tryz.func11, Tryz.ntmps11
      go_upto_region 1 with fail
      rw [← hW1H.out]
      go_wp2_with fail
      refine cv.mono ?_
      rintro e w2 ⟨rfl, b2⟩
      have hrb2 := (b2.block _ (Array.getElem?_eq_some_iff.1 hrbH.out).1).trans hrbH.out
      have bW2 := hbWH.out.trans (below_le b2 hbWH.out.size)
      obtain ⟨e0, e1, e2, e3, e4, e5, e6⟩ := cell7 hrb2
      have efr : ∀ j, w2.frozen? ⟨w.heap.size, j, none⟩ = false := (res7 hrb2).fr
      have hp7 := heap_put7 hrb2 (.int .i64 0) (.bool false) nilS (.string noS) (.int .i64 0) nilS nilS
      have hon := only_put w2 w.heap.size (.int .i64 0) (.bool false) nilS (.string noS) (.int .i64 0) nilS nilS
      obtain ⟨q0, q1, q2, q3, q4, q5, q6⟩ := cell7 hp7
      have hbF := hid (bW2.trans (hon.below (B := w.heap.size) (Nat.le_refl _)))
      clear hp7 hon
      clear cv b2 hrb2 bW2
      go_wp2
      exact bodyPost_ret (v := .tuple #[zV, .int .i64 0, .int .i64 4]) (by simp [results, Tryz.results11, go_sem, q0, q1, q2, q3, q4, q5, q6]) rfl ⟨_, rfl, rfl, hbF.out⟩
    | true =>
      rw [if_neg (by simp)] at hEH
      have hgd := fun T (h : (readL s).1 = some T) => readL_gd (r := s) (by omega) h
      have hrl := readL_le s
      have hrd := fun w2 (hR : Rdr w2.heap.size s (.slice none 0 0) (w2.alloc (.cells #[.string S, .slice none 0 0] 53))) (hb : Below w.heap.size w w2) => read_w w2.heap.size s (w2.alloc (.cells #[.string S, .slice none 0 0] 53)) w hsl hR hV hT.1 hb.size (hb.alloc hb.size _)
      obtain ⟨RO, hRO⟩ : ∃ RO, (readL s).1 = RO := ⟨_, rfl⟩
      obtain ⟨RR, hRR⟩ : ∃ RR, (readL s).2 = RR := ⟨_, rfl⟩
      rw [hRO, hRR] at hrd
      rw [hRO] at hgd hEH hOH
      rw [hRR] at hrl hNH
      have hgdH := hid hgd
      have hrdH := hid hrd
      have hrlH := hid hrl
      have hSsH := hid hSs
      clear hgd hrd hrl hRO hRR hT hrb bW hWs hW1 hSl hs h1 hV hSs
      go_enter Tryz.func11, Tryz.ntmps11
      go_upto_region 1 with fail
      rw [← hW1H.out]
      go_wp2_with fail
      refine cv.mono ?_
      rintro e w2 ⟨rfl, b2⟩
      have hrb2' := hid ((b2.block _ (Array.getElem?_eq_some_iff.1 hrbH.out).1).trans hrbH.out)
      have bW2 := hid (hbWH.out.trans (below_le b2 hbWH.out.size))
      have hRn : Rdr w2.heap.size s (.slice none 0 0) (w2.alloc (.cells #[.string S, .slice none 0 0] 53)) := ⟨by rw [← hSH.out] ; exact heap_alloc_new w2 _⟩
      have cr := hrdH.out w2 hRn bW2.out
      clear cv b2 hRn hrdH
      go_wp2_with fail
      refine cr.mono ?_
      rintro e w3 ⟨v, rfl, hA, ⟨ov, hR⟩, hK⟩
      have hb3 : Hid (Below w.heap.size w w3) := hid ((bW2.out.alloc bW2.out.size _).trans (hK.below (by have := bW2.out.size; simp; omega) (fun k hk => by rw [hk]; exact bW2.out.size)))
      have hrb3 : Hid (w3.heap[w.heap.size]? = some (.cells #[.int .i64 0, .bool false, .slice none 0 0, .string ⟨#[]⟩, .int .i64 0, .slice none 0 0, .slice none 0 0] 27 (0, 0))) := hid (by
        have hl := (Array.getElem?_eq_some_iff.1 hrb2'.out).1
        exact (hK.block _ (by simp; omega) (fun e => by omega)).trans ((((Below.refl w2.heap.size w2).alloc (Nat.le_refl _) _).block _ hl).trans hrb2'.out))
      clear cr hK
      cases RO with
      | none =>
        subst hA
        have hE4 : E = 10 := by rw [← hEH.out]
        subst hE4
        have hN0 : N = 0 := by rw [← hNH.out]; rfl
        have hO0 : O = none := by rw [← hOH.out]; rfl
        subst hN0 hO0
        clear hEH hNH hOH hgdH hrlH hSsH hTH hR hrbH hrb2' hW1H bW2 hbWH
        go_upto_region 8 with fail
        generalize hWA : World.alloc w3 _ = WA
        have bA : Below w3.heap.size w3 WA := by rw [← hWA]; exact (Below.refl _ w3).alloc (Nat.le_refl _) _
        have hrb2 := (bA.block _ (Array.getElem?_eq_some_iff.1 hrb3.out).1).trans hrb3.out
        have bW2 := hb3.out.trans (below_le bA hb3.out.size)
        obtain ⟨e0, e1, e2, e3, e4, e5, e6⟩ := cell7 hrb2
        have efr : ∀ j, WA.frozen? ⟨w.heap.size, j, none⟩ = false := (res7 hrb2).fr
        have hp7 := heap_put7 hrb2 (.int .i64 0) (.bool false) nilS (.string noS) (.int .i64 0) nilS nilS
        have hon := only_put WA w.heap.size (.int .i64 0) (.bool false) nilS (.string noS) (.int .i64 0) nilS nilS
        obtain ⟨q0, q1, q2, q3, q4, q5, q6⟩ := cell7 hp7
        have hbF := hid (bW2.trans (hon.below (B := w.heap.size) (Nat.le_refl _)))
        clear hp7 hon
        clear bA hrb2 bW2 hWA
        go_wp2
        exact bodyPost_ret (v := .tuple #[zV, .int .i64 0, .int .i64 10]) (by simp [results, Tryz.results11, go_sem, q0, q1, q2, q3, q4, q5, q6]) rfl ⟨_, rfl, rfl, hbF.out⟩
      | some T =>
        obtain ⟨x, rfl, hTV⟩ := hA
        obtain ⟨hg, hD⟩ := hgdH.out T rfl
        obtain ⟨k, neg, od, ld, cd, nm, n, ol, ll, cl, ob, lb, cb, rfl⟩ := hTV.form
        obtain ⟨WA, hWA⟩ : ∃ WA, WA = w3.alloc (.cells #[.int .i64 k, .bool neg, .slice od ld cd, .string nm, .int .i64 n, .slice ol ll cl, .slice ob lb cb] 27) := ⟨_, rfl⟩
        have bA : Below w3.heap.size w3 WA := by rw [hWA]; exact (Below.refl _ w3).alloc (Nat.le_refl _) _
        have hxA : WA.heap[w3.heap.size]? = some (.cells #[.int .i64 k, .bool neg, .slice od ld cd, .string nm, .int .i64 n, .slice ol ll cl, .slice ob lb cb] 27 (0, 0)) := by rw [hWA]; exact heap_alloc_new w3 _
        obtain ⟨x0, x1, x2, x3, x4, x5, x6⟩ := cell7 hxA
        have hTV0 := hTV
        replace hTV : TV (Low w3) w3 T _ := TV.mono (fun q _ hq => hq.2) _ _ hTV
        have hTA := tv_below hTV bA
        have hTZ : Hid (TV (fun q => w.heap.size < q ∧ q < WA.heap.size) WA T (tmV k neg (.slice od ld cd) nm n (.slice ol ll cl) (.slice ob lb cb))) := hid (by
          refine TV.mono (fun q _ hq => ⟨?_, Nat.lt_of_lt_of_le hq.2 bA.size⟩) _ _ (TV.zs (fun q hq => bA.block q hq.2) _ _ hTV0)
          have h1 := hq.1
          have h2 := (Array.getElem?_eq_some_iff.1 hrb2'.out).1
          have h3 : (w2.alloc (.cells #[.string S, .slice none 0 0] 53)).heap.size = w2.heap.size + 1 := by simp
          omega)
        have bwA := hb3.out.trans (below_le bA hb3.out.size)
        have cm := May_w T _ WA hD hg hTA (hTH.out.below bwA).1.1
        obtain ⟨mb, hmb⟩ : ∃ mb, mayB T = mb := ⟨_, rfl⟩
        have hEb := hEH.out
        simp only at hEb
        rw [hmb] at cm hEb
        have hWAH := hid hWA
        have hxAH := hid hxA
        have hTAH := hid hTA
        have hEbH := hid hEb
        have bwAH := hid bwA
        have bAH := hid bA
        clear hTV0 hmb hEb hEH hTV hg hD hgdH hWA hxA hTA bwA bA
        go_upto_region 7 with fail
        rw [← hWAH.out]
        clear hWAH
        go_wp2_with fail
        refine cm.mono ?_
        rintro e w4 ⟨rfl, b4⟩
        have hrb2 := (b4.block _ (Nat.lt_of_lt_of_le (Array.getElem?_eq_some_iff.1 hrb3.out).1 bAH.out.size)).trans ((bAH.out.block _ (Array.getElem?_eq_some_iff.1 hrb3.out).1).trans hrb3.out)
        have bW2' := bwAH.out.trans (below_le b4 bwAH.out.size)
        have hx4 := (b4.block _ (Array.getElem?_eq_some_iff.1 hxAH.out).1).trans hxAH.out
        have hT4 := hid (tv_below hTAH.out b4)
        have hR4 := (hR.below bAH.out).below b4
        clear cm x0 x1 x2 x3 x4 x5 x6
        cases mb with
        | false =>
          have hE4 : E = 10 := by rw [← hEbH.out]; rfl
          subst hE4
          have hN0 : N = 0 := by rw [← hNH.out]; rfl
          have hO0 : O = none := by rw [← hOH.out]; rfl
          subst hN0 hO0
          have bW2 := bW2'
          obtain ⟨e0, e1, e2, e3, e4, e5, e6⟩ := cell7 hrb2
          have efr : ∀ j, w4.frozen? ⟨w.heap.size, j, none⟩ = false := (res7 hrb2).fr
          have hp7 := heap_put7 hrb2 (.int .i64 0) (.bool false) nilS (.string noS) (.int .i64 0) nilS nilS
          have hon := only_put w4 w.heap.size (.int .i64 0) (.bool false) nilS (.string noS) (.int .i64 0) nilS nilS
          obtain ⟨q0, q1, q2, q3, q4, q5, q6⟩ := cell7 hp7
          have hbF := hid (bW2.trans (hon.below (B := w.heap.size) (Nat.le_refl _)))
          clear hp7 hon
          clear hrb2 bW2 bW2' hx4 hT4 hR4 hR b4
          go_wp2
          exact bodyPost_ret (v := .tuple #[zV, .int .i64 0, .int .i64 10]) (by simp [results, Tryz.results11, go_sem, q0, q1, q2, q3, q4, q5, q6]) rfl ⟨_, rfl, rfl, hbF.out⟩
        | true =>
          have hE4 : E = 0 := by rw [← hEbH.out]; rfl
          subst hE4
          have hNz : ((S.size : Nat) : Int) - ((bs RR).size : Int) = (N : Int) := by
            have h1 := hNH.out
            rw [if_pos rfl] at h1
            have h2 := hrlH.out
            have h3 := hSsH.out
            rw [bs_size]
            omega
          have hO0 : O = some T := by rw [← hOH.out]; rfl
          subst hO0
          obtain ⟨x0, x1, x2, x3, x4, x5, x6⟩ := cell7 hx4
          obtain ⟨y0, y1, f0, f1⟩ := hR4.cells
          obtain ⟨RS, hRS⟩ : ∃ RS, bs RR = RS := ⟨_, rfl⟩
          rw [hRS] at y0 hNz
          have hNzH := hid hNz
          have hsz1 : (RS.size : Int) ≤ (S.size : Int) := by omega
          have hsz2 : (S.size : Int) ≤ 65536 := by have := hSsH.out; omega
          obtain ⟨e0, e1, e2, e3, e4, e5, e6⟩ := cell7 hrb2
          have efr : ∀ j, w4.frozen? ⟨w.heap.size, j, none⟩ = false := (res7 hrb2).fr
          have hp7 := heap_put7 hrb2 (.int .i64 k) (.bool neg) (.slice od ld cd) (.string nm) (.int .i64 n) (.slice ol ll cl) (.slice ob lb cb)
          have hon := only_put w4 w.heap.size (.int .i64 k) (.bool neg) (.slice od ld cd) (.string nm) (.int .i64 n) (.slice ol ll cl) (.slice ob lb cb)
          have hTF : Hid (TV (ZnS w.heap.size (((((((w4.setCell ⟨w.heap.size, 0, none⟩ (.int .i64 k)).setCell ⟨w.heap.size, 1, none⟩ (.bool neg)).setCell ⟨w.heap.size, 2, none⟩ (.slice od ld cd)).setCell ⟨w.heap.size, 3, none⟩ (.string nm)).setCell ⟨w.heap.size, 4, none⟩ (.int .i64 n)).setCell ⟨w.heap.size, 5, none⟩ (.slice ol ll cl)).setCell ⟨w.heap.size, 6, none⟩ (.slice ob lb cb)).drew) (((((((w4.setCell ⟨w.heap.size, 0, none⟩ (.int .i64 k)).setCell ⟨w.heap.size, 1, none⟩ (.bool neg)).setCell ⟨w.heap.size, 2, none⟩ (.slice od ld cd)).setCell ⟨w.heap.size, 3, none⟩ (.string nm)).setCell ⟨w.heap.size, 4, none⟩ (.int .i64 n)).setCell ⟨w.heap.size, 5, none⟩ (.slice ol ll cl)).setCell ⟨w.heap.size, 6, none⟩ (.slice ob lb cb)).drew T (tmV k neg (.slice od ld cd) nm n (.slice ol ll cl) (.slice ob lb cb))) := hid (tv_drew (tv_only (TV.zs (fun q hq => b4.block q hq.2) _ _ hTZ.out) (fun q hq => ⟨Nat.lt_of_lt_of_le hq.2 b4.size, by omega, Nat.le_of_lt hq.1⟩) hon))
          have hBF := hid ((bW2'.trans (hon.below (B := w.heap.size) (Nat.le_refl _))).drew)
          obtain ⟨q0, q1, q2, q3, q4, q5, q6⟩ := cell7 hp7
          have hne1 : w2.heap.size ≠ w.heap.size := by have := (Array.getElem?_eq_some_iff.1 hrbH.out).1; have := (Array.getElem?_eq_some_iff.1 hrb2'.out).1; omega
          have hne2 := hne1.symm
          clear hRS hNz hp7 hon hR4 hx4 hrb2 b4 bW2' hR
          go_wp2
          go_region
          go_wp2
          exact bodyPost_ret (v := .tuple #[tmV k neg (.slice od ld cd) nm n (.slice ol ll cl) (.slice ob lb cb), .int .i64 (N : Int), .int .i64 0]) (by simp [results, Tryz.results11, go_sem, q0, q1, q2, q3, q4, q5, q6, hNzH.out]) rfl ⟨_, rfl, hTF.out, hBF.out⟩
end Go.Proofs.YtjacoodfhkaioaaGreatDoor
namespace Go.Proofs.YtjacoodfhkaioaaGreatDoor
open Go.ChangeShapes Go.WideShapes Go.ChangeAt Go.RowKit Go.Shelf
set_option linter.unusedSimpArgs false
set_option linter.unusedVariables false
set_option maxRecDepth 2000

def paE (s : List UInt8) : Int := if rdE s = 0 then (if rdN s < s.length then 10 else 0) else rdE s
def paT (s : List UInt8) : Option Tm := if paE s = 0 then rdT s else none
theorem rd_some {s : List UInt8} (h : rdE s = 0) : ∃ T, rdT s = some T := by
  unfold rdT
  rw [if_pos h]
  unfold rdE at h
  split at h
  · simp at h
  · split at h
    · simp at h
    · cases hr : (readL s).1 with
      | none => rw [hr] at h; simp at h
      | some T => exact ⟨T, rfl⟩
theorem tmo_form {S : Nat} {w : World} {o : Option Tm} {v : Value} (h : TmO S w o v) : ∃ k neg od ld cd nm n ol ll cl ob lb cb, v = tmV k neg (.slice od ld cd) nm n (.slice ol ll cl) (.slice ob lb cb) := by
  cases o with
  | none => exact ⟨0, false, none, 0, 0, ⟨#[]⟩, 0, none, 0, 0, none, 0, 0, h⟩
  | some T => exact TV.form h
theorem tmo_bel {S S' : Nat} {w w' : World} {o : Option Tm} {v : Value} (h : TmO S w o v) (hb : Below w.heap.size w w') (hS : S' ≤ S) : TmO S' w' o v := by
  cases o with
  | none => exact h
  | some T => exact TV.mono (fun q _ hq => ⟨Nat.le_trans hS hq.1, Nat.lt_of_lt_of_le hq.2 hb.size⟩) _ _ (TV.zs (fun q hq => hb.block q hq.2) _ _ h)
theorem tmo_only {S S' g : Nat} {w w' : World} {o : Option Tm} {v : Value} (h : TmO S w o v) (ho : Only g w w') (hg : g < S) (hS : S' ≤ S) : TmO S' w' o v := by
  cases o with
  | none => exact h
  | some T => exact TV.mono (fun q _ hq => ⟨Nat.le_trans hS hq.1, by show q < w'.heap.size; rw [ho.2.1]; exact hq.2⟩) _ _ (TV.zs (fun q hq => ho.2.2 q (by have := hq.1; omega)) _ _ h)
set_option maxHeartbeats 4000000 in
theorem Parse_w (s : List UInt8) (w : World) (hT : TabX w) (hs : s.length ≤ 9000000000000000) :
    Calls Tryz.prog 10 #[.string (bs s)] w fun e w' => ∃ v, e = .returned (.tuple #[v, .int .i64 (paE s)]) ∧ TmO w.heap.size w' (paT s) v ∧ Below w.heap.size w w' := by
  obtain ⟨W1, hW1⟩ : ∃ W1, W1 = w.alloc (.cells #[.int .i64 0, .bool false, .slice none 0 0, .string ⟨#[]⟩, .int .i64 0, .slice none 0 0, .slice none 0 0] 27) := ⟨_, rfl⟩
  have bW : Below w.heap.size w W1 := by rw [hW1]; exact (Below.refl _ w).alloc (Nat.le_refl _) _
  have hrb : W1.heap[w.heap.size]? = some (.cells #[.int .i64 0, .bool false, .slice none 0 0, .string ⟨#[]⟩, .int .i64 0, .slice none 0 0, .slice none 0 0] 27 (0, 0)) := by rw [hW1]; exact heap_alloc_new w _
  have hWs : W1.heap.size = w.heap.size + 1 := by rw [hW1]; simp
  have cr := Read_w s W1 (hT.below bW) hs
  have hW1H := hid hW1
  have hrbH := hid hrb
  have hbWH := hid bW
  have hWsH := hid hWs
  obtain ⟨S, hS⟩ : ∃ S, bs s = S := ⟨_, rfl⟩
  have hSs : S.size = s.length := by rw [← hS]; exact bs_size s
  rw [hS] at cr
  rw [hS]
  obtain ⟨E, hE⟩ : ∃ E, rdE s = E := ⟨_, rfl⟩
  obtain ⟨N, hN⟩ : ∃ N, rdN s = N := ⟨_, rfl⟩
  obtain ⟨O, hO⟩ : ∃ O, rdT s = O := ⟨_, rfl⟩
  obtain ⟨E', hE'⟩ : ∃ E', paE s = E' := ⟨_, rfl⟩
  obtain ⟨O', hO'⟩ : ∃ O', paT s = O' := ⟨_, rfl⟩
  have hE2 := hE'
  have hO2 := hO'
  unfold paE at hE2
  unfold paT at hO2
  rw [hE, hN] at hE2
  rw [hE', hO] at hO2
  rw [hE', hO']
  rw [hE, hN, hO] at cr
  have hE2H := hid hE2
  have hO2H := hid hO2
  have hSsH := hid hSs
  clear hE hN hO hE' hO' hS hrb bW hWs hW1 hT hE2 hO2 hSs
  go_enter Tryz.func10, Tryz.ntmps10
  go_upto_region 1 with fail
  rw [← hW1H.out]
  go_wp2_with fail
  refine cr.mono ?_
  rintro e w2 ⟨v2, rfl, hV, b2⟩
  have hVH := hid hV
  obtain ⟨k, neg, od, ld, cd, nm, n, ol, ll, cl, ob, lb, cb, rfl⟩ := tmo_form hV
  obtain ⟨W5, hW5⟩ : ∃ W5, W5 = w2.alloc (.cells #[.int .i64 k, .bool neg, .slice od ld cd, .string nm, .int .i64 n, .slice ol ll cl, .slice ob lb cb] 27) := ⟨_, rfl⟩
  have bA : Below w2.heap.size w2 W5 := by rw [hW5]; exact (Below.refl _ w2).alloc (Nat.le_refl _) _
  have b5 : Below W1.heap.size W1 W5 := b2.trans (below_le bA b2.size)
  have hxA : W5.heap[w2.heap.size]? = some (.cells #[.int .i64 k, .bool neg, .slice od ld cd, .string nm, .int .i64 n, .slice ol ll cl, .slice ob lb cb] 27 (0, 0)) := by rw [hW5]; exact heap_alloc_new w2 _
  obtain ⟨x0, x1, x2, x3, x4, x5, x6⟩ := cell7 hxA
  have hW5H := hid hW5
  have hbAH := hid bA
  clear hV cr hW5 hxA bA b2 hW1H
  have hE2 := hE2H.out
  have hO2 := hO2H.out
  have hSs := hSsH.out
  by_cases h0 : E = 0
  · subst h0
    rw [if_pos rfl] at hE2
    by_cases h1 : N < s.length
    · rw [if_pos h1] at hE2
      subst hE2
      have hO0 : O' = none := by rw [← hO2]; rfl
      subst hO0
      have hz : (N : Int) < (S.size : Int) := by omega
      have hrb5 := (b5.block _ (Array.getElem?_eq_some_iff.1 hrbH.out).1).trans hrbH.out
      have bW5 := hbWH.out.trans (below_le b5 hbWH.out.size)
      obtain ⟨e0, e1, e2, e3, e4, e5, e6⟩ := cell7 hrb5
      have efr : ∀ j, W5.frozen? ⟨w.heap.size, j, none⟩ = false := (res7 hrb5).fr
      have hp7 := heap_put7 hrb5 (.int .i64 0) (.bool false) nilS (.string noS) (.int .i64 0) nilS nilS
      have hon := only_put W5 w.heap.size (.int .i64 0) (.bool false) nilS (.string noS) (.int .i64 0) nilS nilS
      obtain ⟨q0, q1, q2, q3, q4, q5, q6⟩ := cell7 hp7
      have hbF := hid (bW5.trans (hon.below (B := w.heap.size) (Nat.le_refl _)))
      clear hO2H hE2H hO2 h1 hSs hVH hp7 hon hrb5 bW5 hbAH b5
      go_upto_region 2 with fail
      rw [← hW5H.out]
      go_wp2
      exact bodyPost_ret (v := .tuple #[zV, .int .i64 10]) (by simp [results, Tryz.results10, go_sem, q0, q1, q2, q3, q4, q5, q6]) rfl ⟨_, rfl, rfl, hbF.out⟩
    · rw [if_neg h1] at hE2
      subst hE2
      rw [if_pos rfl] at hO2
      subst hO2
      have hz0 : ¬ (N : Int) < (S.size : Int) := by omega
      have hz : ((N : Int) < (S.size : Int)) = False := by simp only [hz0]
      clear hz0
      have hrb5 := (b5.block _ (Array.getElem?_eq_some_iff.1 hrbH.out).1).trans hrbH.out
      have bW5 := hbWH.out.trans (below_le b5 hbWH.out.size)
      obtain ⟨e0, e1, e2, e3, e4, e5, e6⟩ := cell7 hrb5
      have efr : ∀ j, W5.frozen? ⟨w.heap.size, j, none⟩ = false := (res7 hrb5).fr
      have hp7 := heap_put7 hrb5 (.int .i64 k) (.bool neg) (.slice od ld cd) (.string nm) (.int .i64 n) (.slice ol ll cl) (.slice ob lb cb)
      have hon := only_put W5 w.heap.size (.int .i64 k) (.bool neg) (.slice od ld cd) (.string nm) (.int .i64 n) (.slice ol ll cl) (.slice ob lb cb)
      obtain ⟨q0, q1, q2, q3, q4, q5, q6⟩ := cell7 hp7
      have hbF := hid (bW5.trans (hon.below (B := w.heap.size) (Nat.le_refl _)))
      have hTF : Hid (TmO w.heap.size (((((((W5.setCell ⟨w.heap.size, 0, none⟩ (.int .i64 k)).setCell ⟨w.heap.size, 1, none⟩ (.bool neg)).setCell ⟨w.heap.size, 2, none⟩ (.slice od ld cd)).setCell ⟨w.heap.size, 3, none⟩ (.string nm)).setCell ⟨w.heap.size, 4, none⟩ (.int .i64 n)).setCell ⟨w.heap.size, 5, none⟩ (.slice ol ll cl)).setCell ⟨w.heap.size, 6, none⟩ (.slice ob lb cb)) O (tmV k neg (.slice od ld cd) nm n (.slice ol ll cl) (.slice ob lb cb))) := hid (tmo_only (g := w.heap.size) (tmo_bel hVH.out hbAH.out (Nat.le_refl _)) hon (by have := hWsH.out; omega) (by have := hWsH.out; omega))
      clear hO2H hE2H h1 hSs hVH hp7 hon hrb5 bW5 hbAH b5
      go_upto_region 2 with fail
      rw [← hW5H.out]
      go_wp2
      exact bodyPost_ret (v := .tuple #[tmV k neg (.slice od ld cd) nm n (.slice ol ll cl) (.slice ob lb cb), .int .i64 0]) (by simp [results, Tryz.results10, go_sem, q0, q1, q2, q3, q4, q5, q6]) rfl ⟨_, rfl, hTF.out, hbF.out⟩
  · have h0b : (E != 0) = true := by simp [h0]
    rw [if_neg h0] at hE2
    subst hE2
    have hO0 : O' = none := by rw [← hO2, if_neg h0]
    subst hO0
    have hrb5 := (b5.block _ (Array.getElem?_eq_some_iff.1 hrbH.out).1).trans hrbH.out
    have bW5 := hbWH.out.trans (below_le b5 hbWH.out.size)
    obtain ⟨e0, e1, e2, e3, e4, e5, e6⟩ := cell7 hrb5
    have efr : ∀ j, W5.frozen? ⟨w.heap.size, j, none⟩ = false := (res7 hrb5).fr
    have hp7 := heap_put7 hrb5 (.int .i64 0) (.bool false) nilS (.string noS) (.int .i64 0) nilS nilS
    have hon := only_put W5 w.heap.size (.int .i64 0) (.bool false) nilS (.string noS) (.int .i64 0) nilS nilS
    obtain ⟨q0, q1, q2, q3, q4, q5, q6⟩ := cell7 hp7
    have hbF := hid (bW5.trans (hon.below (B := w.heap.size) (Nat.le_refl _)))
    clear hO2H hE2H hO2 hSs hVH hp7 hon hrb5 bW5 hbAH b5 h0
    go_upto_region 2 with fail
    rw [← hW5H.out]
    go_wp2
    exact bodyPost_ret (v := .tuple #[zV, .int .i64 E]) (by simp [results, Tryz.results10, go_sem, q0, q1, q2, q3, q4, q5, q6]) rfl ⟨_, rfl, rfl, hbF.out⟩
end Go.Proofs.YtjacoodfhkaioaaGreatDoor
namespace Go.Proofs.YtjacoodfhkaioaaGreatDoor
open Go.ChangeShapes Go.WideShapes Go.ChangeAt Go.ChangeMaps Go.RowKit Go.Shelf
set_option linter.unusedSimpArgs false
set_option linter.unusedVariables false
set_option maxRecDepth 2000
set_option maxHeartbeats 8000000 in
set_option maxRecDepth 8000 in
theorem rTuple_w (ls : List Tm) (o : Option Addr) (c : Nat) (w : World) (hl : ls.length ≤ 1000000) (hok : ∀ p ∈ partsL ls, p.ok1 ∧ fairB p = true) (hT : TR (Low w) w ls o) :
    Calls Tryz.prog 20 #[.slice o ls.length c] w fun e w' => ∃ v', e = .returned v' ∧ TV (Zb w.heap.size w') w' (tupT ls) v' ∧ Below w.heap.size w w' := by
  have htR := hid hT
  have hok2 := hid hok
  clear hT hok
  obtain ⟨kB, kG, hB0, hz0⟩ := bx2 w (.int .i64 0) (.bool false) nilS (.string noS) (.int .i64 0) nilS nilS (.int .i64 4) (.bool false) nilS (.string noS) (.int .i64 0) nilS nilS 27 27
  have hR00 : ((w.alloc (.cells zC 27)).alloc (.cells #[.int .i64 4, .bool false, nilS, .string noS, .int .i64 0, nilS, nilS] 27)).heap[w.heap.size]? = some (.cells zC 27 (0, 0)) := (((Below.refl _ _).alloc (Nat.le_refl _) _).block w.heap.size (by simp)).trans (heap_alloc_new w (.cells zC 27))
  have hG00 := heap_alloc_new (w.alloc (.cells zC 27)) (.cells #[.int .i64 4, .bool false, nilS, .string noS, .int .i64 0, nilS, nilS] 27)
  rw [World.size_alloc] at hG00
  obtain ⟨iT, hT1, hT2, hT3, hT4⟩ := info_parts infoT
  go_enter Tryz.func20, Tryz.ntmps20
  go_wp2_with fail
  generalize ((w.alloc (.cells #[.int .i64 0, .bool false, .slice none 0 0, .string { data := #[] }, .int .i64 0, .slice none 0 0, .slice none 0 0] 27)).alloc (.cells #[.int .i64 4, .bool false, .slice none 0 0, .string { data := #[] }, .int .i64 0, .slice none 0 0, .slice none 0 0] 27)) = W0 at *
  go_loopg [4] ls.length (fun t v4 wr => ∃ (i : Nat) (vL : Value) (xs : List Value), t + i = ls.length ∧ v4 = .int .i64 (i : Int) ∧ wr.heap[w.heap.size + 1]? = some (.cells #[.int .i64 4, .bool false, nilS, .string noS, .int .i64 0, vL, nilS] 27 (0, 0)) ∧ wr.heap[w.heap.size]? = some (.cells zC 27 (0, 0)) ∧ wr.ownsRow (w.heap.size + 2) 27 7 vL i xs ∧ RC (Zq (w.heap.size + 2) vL wr) wr (ls.take i) xs ∧ Below w.heap.size w wr ∧ w.heap.size + 2 ≤ wr.heap.size)
  case atStart => exact ⟨0, nilS, [], by omega, rfl, hG00, hR00, World.ownsRow_nil _ _ _ _, rfl, hB0, by omega⟩
  case round =>
    obtain ⟨i, vL, xs, hti, rfl, hgr, hRb, hOw, hRC, hbV, hsz⟩ := hrel
    clear hG00 hR00 hB0 kB kG hz0
    obtain ⟨oL, cL, rfl, hcL⟩ := own_sl hOw
    have kG2 := res7 hgr
    by_cases hil : i < ls.length
    · have hii : ((i : Nat) : Int) < ((ls.length : Nat) : Int) := by omega
      obtain ⟨t, ht⟩ : ∃ t, ls[i]? = some t := ⟨ls[i], by simp [hil]⟩
      obtain ⟨pa, pk, pneg, pod, pld, pcd, pnm, pn, pol, pll, pcl, pob, plb, pcb, hpa, hTp, y0, y1, y2, y3, y4, y5, y6⟩ := htR.out.get ht hbV
      subst hpa
      have hokt : ∀ p ∈ parts t, p.ok1 ∧ fairB p = true := fun p hp => hok2.out p (mem_partsL ht hp)
      have htk : Hid (ls.take (i + 1) = ls.take i ++ [t]) := hid (by rw [List.take_add_one, ht]; rfl)
      clear ht
      have dV5 : Below wr.heap.size wr wr.drew := (Below.refl _ wr).drew
      have hO3 : wr.drew.ownsRow (w.heap.size + 2) 27 7 (.slice oL i cL) i xs := own_blkS hOw (fun k hk => rfl)
      have hRC3 : RC (Zq (w.heap.size + 2) (.slice oL i cL) wr.drew) wr.drew (ls.take i) xs := RC.mono (fun k hk hz => hz) (RC.zs (Z := Zq (w.heap.size + 2) (.slice oL i cL) wr) (w := wr) (w' := wr.drew) (fun k hk => rfl) hRC)
      have hgr3 : wr.drew.heap[w.heap.size + 1]? = some (.cells #[.int .i64 4, .bool false, nilS, .string noS, .int .i64 0, .slice oL i cL, nilS] 27 (0, 0)) := hgr
      have hRb3 : wr.drew.heap[w.heap.size]? = some (.cells zC 27 (0, 0)) := hRb
      have hbV3 : Below w.heap.size w wr.drew := hbV.drew
      have hsz3 : w.heap.size + 2 ≤ wr.drew.heap.size := hsz
      have hTp3 := tv_below hTp dV5
      have hpl : pa.block < w.heap.size := by
        have h1 := htR.out
        cases ls with
        | nil => simp at hil
        | cons q qs =>
          unfold TR at h1
          obtain ⟨a, _, e, h2, _⟩ := h1
          injection e with e
          rw [e]; exact h2
      have hSk : Hid (∀ w' : World, (∀ k, k < w.heap.size → w'.heap[k]? = wr.drew.heap[k]?) → (w'.cell? (pa.add (i * 7)) = some (.int .i64 pk) ∧ w'.cell? ⟨(pa.add (i * 7)).block, (pa.add (i * 7)).off + 1, none⟩ = some (.bool pneg) ∧ w'.cell? ⟨(pa.add (i * 7)).block, (pa.add (i * 7)).off + 2, none⟩ = some (.slice pod pld pcd) ∧ w'.cell? ⟨(pa.add (i * 7)).block, (pa.add (i * 7)).off + 3, none⟩ = some (.string pnm) ∧ w'.cell? ⟨(pa.add (i * 7)).block, (pa.add (i * 7)).off + 4, none⟩ = some (.int .i64 pn) ∧ w'.cell? ⟨(pa.add (i * 7)).block, (pa.add (i * 7)).off + 5, none⟩ = some (.slice pol pll pcl) ∧ w'.cell? ⟨(pa.add (i * 7)).block, (pa.add (i * 7)).off + 6, none⟩ = some (.slice pob plb pcb))) := hid (fun w' hb => by
        have q : ∀ {a : Addr} {v : Value}, a.block = pa.block → wr.cell? a = some v → w'.cell? a = some v := fun e h => (World.cell?_of_block (hb _ (by rw [e]; omega))).trans h
        exact ⟨q (block_add _ _) y0, q (block_add _ _) y1, q (block_add _ _) y2, q (block_add _ _) y3, q (block_add _ _) y4, q (block_add _ _) y5, q (block_add _ _) y6⟩)
      have hS : Hid (∀ w', Below wr.drew.heap.size wr.drew w' → (w'.cell? (pa.add (i * 7)) = some (.int .i64 pk) ∧ w'.cell? ⟨(pa.add (i * 7)).block, (pa.add (i * 7)).off + 1, none⟩ = some (.bool pneg) ∧ w'.cell? ⟨(pa.add (i * 7)).block, (pa.add (i * 7)).off + 2, none⟩ = some (.slice pod pld pcd) ∧ w'.cell? ⟨(pa.add (i * 7)).block, (pa.add (i * 7)).off + 3, none⟩ = some (.string pnm) ∧ w'.cell? ⟨(pa.add (i * 7)).block, (pa.add (i * 7)).off + 4, none⟩ = some (.int .i64 pn) ∧ w'.cell? ⟨(pa.add (i * 7)).block, (pa.add (i * 7)).off + 5, none⟩ = some (.slice pol pll pcl) ∧ w'.cell? ⟨(pa.add (i * 7)).block, (pa.add (i * 7)).off + 6, none⟩ = some (.slice pob plb pcb))) := hid (fun w' hb => hSk.out w' (fun k hk => hb.block k (by omega)))
      clear hRC hOw hgr hRb hbV hsz hTp dV5 kG2 y0 y1 y2 y3 y4 y5 y6
      go_wp2_with fail
      refine wp_region_held_drew (S := fun w' => w'.cell? (pa.add (i * 7)) = some (.int .i64 pk) ∧ w'.cell? ⟨(pa.add (i * 7)).block, (pa.add (i * 7)).off + 1, none⟩ = some (.bool pneg) ∧ w'.cell? ⟨(pa.add (i * 7)).block, (pa.add (i * 7)).off + 2, none⟩ = some (.slice pod pld pcd) ∧ w'.cell? ⟨(pa.add (i * 7)).block, (pa.add (i * 7)).off + 3, none⟩ = some (.string pnm) ∧ w'.cell? ⟨(pa.add (i * 7)).block, (pa.add (i * 7)).off + 4, none⟩ = some (.int .i64 pn) ∧ w'.cell? ⟨(pa.add (i * 7)).block, (pa.add (i * 7)).off + 5, none⟩ = some (.slice pol pll pcl) ∧ w'.cell? ⟨(pa.add (i * 7)).block, (pa.add (i * 7)).off + 6, none⟩ = some (.slice pob plb pcb)) (by kernel_rfl) (by exact hS.out _ (Below.refl _ _)) (fun hHeld => ?_)
      generalize wr.drew = V5 at *
      refine wpAnyH_take (i := 0) (oi := _) (v := ?_) rfl (by kernel_rfl) (by kernel_rfl) (by kernel_rfl) (fun _ _ _ h => h) (Or.inl ⟨by rfl, ?_⟩) (by assumption) ?_
      rotate_left 1
      · (intro w hSw; (try dsimp only at hSw); go_simp; try with_reducible rfl)
      try simp (maxSteps := 10000000) only [List.getElem_toArray, List.getElem_cons_succ, List.getElem_cons_zero, Act.put, List.setIfInBounds_toArray, List.set_cons_zero, List.set_cons_succ]
      refine wpAnyH_take (i := 2) (oi := _) (v := ?_) rfl (by kernel_rfl) (by kernel_rfl) (by kernel_rfl) (fun _ _ _ h => h) (Or.inl ⟨by rfl, ?_⟩) (by assumption) ?_
      rotate_left 1
      · (intro w hSw; (try dsimp only at hSw); go_simp; try with_reducible rfl)
      try simp (maxSteps := 10000000) only [List.getElem_toArray, List.getElem_cons_succ, List.getElem_cons_zero, Act.put, List.setIfInBounds_toArray, List.set_cons_zero, List.set_cons_succ]
      refine wpAnyH_take (i := 3) (oi := _) (v := ?_) rfl (by kernel_rfl) (by kernel_rfl) (by kernel_rfl) (fun _ _ _ h => h) (Or.inl ⟨by rfl, ?_⟩) (by assumption) ?_
      rotate_left 1
      · (intro w hSw; (try dsimp only at hSw); go_simp; try with_reducible rfl)
      try simp (maxSteps := 10000000) only [List.getElem_toArray, List.getElem_cons_succ, List.getElem_cons_zero, Act.put, List.setIfInBounds_toArray, List.set_cons_zero, List.set_cons_succ]
      refine wpAnyH_take (i := 4) (oi := _) (v := ?_) rfl (by kernel_rfl) (by kernel_rfl) (by kernel_rfl) (fun _ _ _ h => h) (Or.inl ⟨by rfl, ?_⟩) (by assumption) ?_
      rotate_left 1
      · (intro w hSw; (try dsimp only at hSw); go_simp; try with_reducible rfl)
      try simp (maxSteps := 10000000) only [List.getElem_toArray, List.getElem_cons_succ, List.getElem_cons_zero, Act.put, List.setIfInBounds_toArray, List.set_cons_zero, List.set_cons_succ]
      refine wpAnyH_take (i := 5) (oi := _) (v := ?_) rfl (by kernel_rfl) (by kernel_rfl) (by kernel_rfl) (fun _ _ _ h => h) (Or.inl ⟨by rfl, ?_⟩) (by assumption) ?_
      rotate_left 1
      · (intro w hSw; (try dsimp only at hSw); go_simp; try with_reducible rfl)
      try simp (maxSteps := 10000000) only [List.getElem_toArray, List.getElem_cons_succ, List.getElem_cons_zero, Act.put, List.setIfInBounds_toArray, List.set_cons_zero, List.set_cons_succ]
      refine wpAnyH_at (m' := 6) (listed' := #[true, false, true, true, true, true, false, false, false, false, false]) (by kernel_rfl) (by kernel_rfl) ?_
      refine wpAnyH_name fun a0 ha0 => ?_
      refine wpAnyH_tt (A := fun s => ((a0.put (some 13) s.x1).put (some 18) s.x6).put (some 19) s.x7) (R := fun s w => Rap V5 (.slice oL i cL) t s.l1 s.l6 s.l7 s.x1 s.x6 s.x7 w) ?_ (fun s w h => h.ok) ?_ ?_ ?_ ?_ _ _ u13 u18 u19 ?_ ?_
      · kernel_rfl
      · intro s w' hR h0
        have hc : w'.cell? ⟨w.heap.size + 1, 5, none⟩ = some (.slice oL i cL) := (res7 (blk_on' hgr3 hR.bel)).c5
        refine wpOp_step rfl (fun K' hK => ?_)
        have hK' := shutO hK
        clear hK
        subst ha0
        simp only [Act.put, List.setIfInBounds_toArray, List.set_cons_zero, List.set_cons_succ]
        go_simp
        refine hK'.out _ _ ⟨_, ?_, hR.c1, hS.out _ hR.bel⟩
        rfl
      · intro s w' hR h0
        refine wpOp_step rfl (fun K' hK => ?_)
        have hK' := shutO hK
        clear hK
        subst ha0
        simp only [Act.put, List.setIfInBounds_toArray, List.set_cons_zero, List.set_cons_succ]
        go_simp
        refine (rCopy_w (tsz t) t _ _ (Nat.le_refl _) hokt (tv_below hTp3 hR.bel)).mono ?_
        rintro e w7 ⟨v7, rfl, hT7, b7⟩
        try go_simp
        refine hK'.out _ _ ⟨_, ?_, hR.c7 h0 hT7 b7, hS.out _ (hR.c7 h0 hT7 b7).bel⟩
        rfl
      · intro s w' hR h0 e7
        obtain ⟨l1, l7, l8, x1, x7, x8⟩ := s
        dsimp only at hR e7 h0
        obtain ⟨xk, xneg, xod, xld, xcd, xnm, xn, xol, xll, xcl, xob, xlb, xcb, hx7, _⟩ := hR.h7 e7
        subst hx7
        refine wpOp_step rfl (fun K' hK => ?_)
        have hK' := shutO hK
        clear hK
        subst ha0
        simp only [Act.put, List.setIfInBounds_toArray, List.set_cons_zero, List.set_cons_succ]
        go_simp
        refine hK'.out _ _ ⟨_, ?_, hR.c8 e7, hS.out _ (hR.c8 e7).bel⟩
        rfl
      · intro x1 x7 x8 w5 hR
        have hx1 := hR.h1 rfl
        obtain ⟨gn, xk, xneg, xod, xld, xcd, xnm, xn, xol, xll, xcl, xob, xlb, xcb, hx7, hT5, hx8, hgn, kgn⟩ := hR.h8 rfl
        have hb5 := hR.bel
        clear hR
        dsimp only at hx1 hx7 hx8
        subst hx1
        subst hx7
        subst hx8
        subst ha0
        try simp only [Act.put, List.setIfInBounds_toArray, List.set_cons_zero, List.set_cons_succ]
        have hO5 : w5.ownsRow (w.heap.size + 2) 27 7 (.slice oL i cL) i xs := own_blkS hO3 (fun k hk => hb5.block k (own_blk7 hO3 k hk).2)
        have hg5 := blk_on' hgr3 hb5
        have hcr : ∀ (j : Nat) (u : Value), ([.int .i64 xk, .bool xneg, .slice xod xld xcd, .string xnm, .int .i64 xn, .slice xol xll xcl, .slice xob xlb xcb] : List Value)[j]? = some u → w5.cell? ((⟨gn, 0, none⟩ : Addr).add j) = some u := by
          intro j u hj
          rw [addr_add, Nat.zero_add]
          simp only [World.cell?, kgn]
          simpa using hj
        have hone : ∀ u ∈ ([.int .i64 xk, .bool xneg, .slice xod xld xcd, .string xnm, .int .i64 xn, .slice xol xll xcl, .slice xob xlb xcb] : List Value), u.oneCell' = true := by
          intro u hu
          simp only [List.mem_cons, List.not_mem_nil, or_false] at hu
          rcases hu with rfl | rfl | rfl | rfl | rfl | rfl | rfl <;> rfl
        refine wpAnyH_ready (rs := [8]) (by kernel_rfl) (by simp) ?_
        refine AllReadyH.cons rfl (fun K hK => ?_) AllReadyH.nil
        refine step_append_lies _ rfl _ _ 24 rfl (w.heap.size + 2) 27 iT (.agg #[.int .i64 0, .bool false, .slice none 0 0, .string ⟨#[]⟩, .int .i64 0, .slice none 0 0, .slice none 0 0]) 7 112 Tryz.underlying24 hT1 hT2 hT3 hT4 rfl (by decide) (.slice oL i cL) i xs rfl hO5 ⟨gn, 0, none⟩ 1 1 [.int .i64 xk, .bool xneg, .slice xod xld xcd, .string xnm, .int .i64 xn, .slice xol xll xcl, .slice xob xlb xcb] rfl rfl hcr hone (by decide) (by unfold maxLen; omega) (by omega) (by have := hb5.size; omega) w5.heap.size rfl (fun g2 cap2 w2 hown hgrow hg2 hlt2 => ?_)
        have hgg : w2.heap[w.heap.size + 1]? = w5.heap[w.heap.size + 1]? := hgrow.block _ (by have := hb5.size; omega) (fun e => by have := (own_blk7 hO5 _ e.symm).1; omega)
        have hg5' := hgg.trans hg5
        obtain ⟨f0, f1, f2, f3, f4, f5, f6⟩ := (res7 hg5').res
        have ff := (res7 hg5').fr
        have q2 : ∀ k, k < V5.heap.size → Value.ownBlock (.slice oL i cL) ≠ some k → w2.heap[k]? = V5.heap[k]? := fun k hk hn => (hgrow.block k (by have := hb5.size; omega) (fun e => hn e.symm)).trans (hb5.block k hk)
        have qs2 := hSk.out w2 (fun k hk => q2 k (by omega) (fun e => by have := (own_blk7 hO5 k e).1; omega))
        refine hK.out _ _ ?_ (fun hHeld => ?_)
        · first | exact hS.out _ (by assumption) | exact qs3 | exact qs2
        clear hK K
        try simp (maxSteps := 10000000) only [List.getElem_toArray, List.getElem_cons_succ, List.getElem_cons_zero, Act.put, List.setIfInBounds_toArray, List.set_cons_zero, List.set_cons_succ]
        refine wpAnyH_take (i := 9) (oi := _) (v := ?_) rfl (by kernel_rfl) (by kernel_rfl) (by kernel_rfl) (fun _ _ _ h => h) (Or.inl ⟨by rfl, ?_⟩) (by assumption) ?_
        rotate_left 1
        · (intro w hSw; (try dsimp only at hSw); go_simp; try with_reducible rfl)
        try simp (maxSteps := 10000000) only [List.getElem_toArray, List.getElem_cons_succ, List.getElem_cons_zero, Act.put, List.setIfInBounds_toArray, List.set_cons_zero, List.set_cons_succ]
        refine wpAnyH_ready (rs := [10]) (by kernel_rfl) (by simp) ?_
        refine AllReadyH.cons rfl (fun K hK => ?_) AllReadyH.nil
        go_simp
        have on5 := only_set w2 (w.heap.size + 1) 5 (.slice (some ⟨g2, 0, none⟩) (i + 1) cap2)
        have hg6 : (w2.setCell ⟨w.heap.size + 1, 5, none⟩ (.slice (some ⟨g2, 0, none⟩) (i + 1) cap2)).heap[w.heap.size + 1]? = some (.cells #[.int .i64 4, .bool false, nilS, .string noS, .int .i64 0, .slice (some ⟨g2, 0, none⟩) (i + 1) cap2, nilS] 27 (0, 0)) := heap_setc hg5' _
        clear f0 f1 f2 f3 f4 f5 f6 ff
        generalize w2.setCell ⟨w.heap.size + 1, 5, none⟩ (.slice (some ⟨g2, 0, none⟩) (i + 1) cap2) = w3 at *
        have qs3 := hSk.out w3 (fun k hk => (on5.2.2 k (by omega)).trans (q2 k (by omega) (fun e => by have := (own_blk7 hO5 k e).1; omega)))
        try go_simp
        refine hK.out _ _ ?_ (fun hHeld => ?_)
        · first | exact hS.out _ (by assumption) | exact qs3 | exact qs2
        clear hK K
        try simp (maxSteps := 10000000) only [List.getElem_toArray, List.getElem_cons_succ, List.getElem_cons_zero, Act.put, List.setIfInBounds_toArray, List.set_cons_zero, List.set_cons_succ]
        refine wpAnyH_done (by kernel_rfl) ?_ _
        obtain ⟨hO6, hRC6⟩ := row_step hsz3 (by omega) hO3 hRC3 hb5 hT5 hgrow hg2 hown on5
        have hsz6 : w.heap.size + 2 ≤ w3.heap.size := by have := hb5.size; have := hgrow.size; have : w3.heap.size = w2.heap.size := on5.2.1; omega
        have hR6 : w3.heap[w.heap.size]? = some (.cells zC 27 (0, 0)) := (on5.2.2 _ (by omega)).trans ((q2 _ (by omega) (fun e => by have := (own_blk7 hO5 _ e).1; omega)).trans hRb3)
        have hb6 : Below w.heap.size w w3 := (((below_and' hbV3 hbV3.size hb5).trans (⟨hgrow.os, hgrow.tape, hgrow.output, hgrow.size, fun k hk => hgrow.block k (by have := hb5.size; have := hbV3.size; omega) (fun e => by have := (own_blk7 hO5 k e.symm).1; omega)⟩ : Below w.heap.size w5 w2)).trans (on5.below (B := w.heap.size) (by omega)))
        clear hO5 hg5 hcr hone hgrow hg2 hown hb5 hT5 q2 qs2 qs3 hgg hg5' kgn hSk hS on5 hlt2
        go_wp2
        go_roundg (ls.length - (i + 1))
        case measure => omega
        case rel => exact ⟨i + 1, _, _, by omega, by go_num, hg6, hR6, hO6, by rw [htk.out]; exact hRC6, hb6, hsz6⟩
      · subst ha0; rfl
      · exact ⟨Below.refl _ _, rfl, fun h => by simp at h, fun h => by simp at h, fun h => by simp at h⟩
    · have hi2 : i = ls.length := by omega
      subst hi2
      have hii : ¬ ((ls.length : Nat) : Int) < ((ls.length : Nat) : Int) := by omega
      have kB2 := res7 hRb
      obtain ⟨y0, y1, y2, y3, y4, y5, y6⟩ := kG2.res
      obtain ⟨z0, z1, z2, z3, z4, z5, z6⟩ := kB2.res
      have zf := kB2.fr
      have onR := only_put wr w.heap.size (.int .i64 4) (.bool false) nilS (.string noS) (.int .i64 0) (.slice oL ls.length cL) nilS
      obtain ⟨r0, r1, r2, r3, r4, r5, r6⟩ := (kB2.put (b0 := .int .i64 4) (b1 := .bool false) (b2 := nilS) (b3 := .string noS) (b4 := .int .i64 0) (b5 := .slice oL ls.length cL) (b6 := nilS)).res
      have hfin : TV (Zb w.heap.size (((((((wr.setCell ⟨w.heap.size, 0, none⟩ (.int .i64 4)).setCell ⟨w.heap.size, 1, none⟩ (.bool false)).setCell ⟨w.heap.size, 2, none⟩ nilS).setCell ⟨w.heap.size, 3, none⟩ (.string noS)).setCell ⟨w.heap.size, 4, none⟩ (.int .i64 0)).setCell ⟨w.heap.size, 5, none⟩ (.slice oL ls.length cL)).setCell ⟨w.heap.size, 6, none⟩ nilS)) (((((((wr.setCell ⟨w.heap.size, 0, none⟩ (.int .i64 4)).setCell ⟨w.heap.size, 1, none⟩ (.bool false)).setCell ⟨w.heap.size, 2, none⟩ nilS).setCell ⟨w.heap.size, 3, none⟩ (.string noS)).setCell ⟨w.heap.size, 4, none⟩ (.int .i64 0)).setCell ⟨w.heap.size, 5, none⟩ (.slice oL ls.length cL)).setCell ⟨w.heap.size, 6, none⟩ nilS) (tupT ls) (tmV 4 false nilS noS 0 (.slice oL ls.length cL) nilS) := by
        have hO2 := own_blkS hOw (fun k hk => onR.2.2 k (by have := (own_blk7 hOw k hk).1; omega))
        rw [List.take_length] at hRC
        have hR2 := RC.mono (Z' := Zb w.heap.size (((((((wr.setCell ⟨w.heap.size, 0, none⟩ (.int .i64 4)).setCell ⟨w.heap.size, 1, none⟩ (.bool false)).setCell ⟨w.heap.size, 2, none⟩ nilS).setCell ⟨w.heap.size, 3, none⟩ (.string noS)).setCell ⟨w.heap.size, 4, none⟩ (.int .i64 0)).setCell ⟨w.heap.size, 5, none⟩ (.slice oL ls.length cL)).setCell ⟨w.heap.size, 6, none⟩ nilS)) (fun k hk hz => ⟨by have := hz.1; omega, hk⟩) (hRC.zs (w' := (((((((wr.setCell ⟨w.heap.size, 0, none⟩ (.int .i64 4)).setCell ⟨w.heap.size, 1, none⟩ (.bool false)).setCell ⟨w.heap.size, 2, none⟩ nilS).setCell ⟨w.heap.size, 3, none⟩ (.string noS)).setCell ⟨w.heap.size, 4, none⟩ (.int .i64 0)).setCell ⟨w.heap.size, 5, none⟩ (.slice oL ls.length cL)).setCell ⟨w.heap.size, 6, none⟩ nilS)) (fun k hk => onR.2.2 k (by have := hk.1; omega)))
        unfold tupT TV
        exact ⟨none, 0, oL, cL, none, 0, rfl, Ls.nil _ _ _, by simp, Lm.nil _, LsB.nil _ _ _, by simp, hcL, own_trz hO2 hR2 (fun q _ hq hq2 => ⟨by omega, hq2⟩)⟩
      have hBF : Below w.heap.size w (((((((wr.setCell ⟨w.heap.size, 0, none⟩ (.int .i64 4)).setCell ⟨w.heap.size, 1, none⟩ (.bool false)).setCell ⟨w.heap.size, 2, none⟩ nilS).setCell ⟨w.heap.size, 3, none⟩ (.string noS)).setCell ⟨w.heap.size, 4, none⟩ (.int .i64 0)).setCell ⟨w.heap.size, 5, none⟩ (.slice oL ls.length cL)).setCell ⟨w.heap.size, 6, none⟩ nilS) := hbV.trans (onR.below (B := w.heap.size) (Nat.le_refl _))
      have HF := hid hfin
      have HBF := hid hBF
      clear hfin hBF onR hRC hOw
      go_wp2
      exact bodyPost_ret (v := tmV 4 false nilS noS 0 (.slice oL ls.length cL) nilS) (by simp [results, Tryz.results20, go_sem, r0, r1, r2, r3, r4, r5, r6]) rfl ⟨_, rfl, HF.out, HBF.out⟩
end Go.Proofs.YtjacoodfhkaioaaGreatDoor
namespace Go.Proofs.YtjacoodfhkaioaaGreatDoor
open Go.ChangeShapes Go.WideShapes Go.ChangeAt Go.ChangeMaps Go.RowKit Go.Shelf
set_option linter.unusedSimpArgs false
set_option linter.unusedVariables false
set_option maxRecDepth 2000
structure St_tl where
  l4 : Bool
  l5 : Bool
  x4 : Value
  x5 : Value
def St_tl.L (s : St_tl) : Array Bool := #[true, true, true, true, s.l4, s.l5, false, false, false]
def St_tl.n (s : St_tl) : Nat := (!s.l4).toNat + (!s.l5).toNat
def St_tl.ok (s : St_tl) : Bool := true
theorem wpAnyH_tl {P : Program} {md : Region.Mode} {ops : Array Oper} {Q : Exit → Act → World → Prop} {S : World → Prop} (A : St_tl → Act) (R : St_tl → World → Prop)
    (hmem0 : (bAll fun l4 => bAll fun l5 => (l4 && l5) || !(true) || (!(Region.ready md ops #[true, true, true, true, l4, l5, false, false, false]).isEmpty && (Region.ready md ops #[true, true, true, true, l4, l5, false, false, false]).all fun i => (i == 4 && !l4) || (i == 5 && !l5))) = true)
    (hord : ∀ s w, R s w → s.ok = true)
    (h4 : ∀ s w, R s w → s.l4 = false → wpOp P ops Q 4 (fun a' w' => ∃ x, a' = A { s with l4 := true, x4 := x } ∧ R { s with l4 := true, x4 := x } w' ∧ S w') (A s) w)
    (h5 : ∀ s w, R s w → s.l5 = false → wpOp P ops Q 5 (fun a' w' => ∃ x, a' = A { s with l5 := true, x5 := x } ∧ R { s with l5 := true, x5 := x } w' ∧ S w') (A s) w)
    (hdone : ∀ (x4 x5 : Value) w, R ⟨true, true, x4, x5⟩ w → wpAnyH P md ops Q S 3 #[true, true, true, true, true, true, false, false, false] (A ⟨true, true, x4, x5⟩) w)
    (w : World) (a : Act) (x4 x5 : Value) (ha : a = A ⟨false, false, x4, x5⟩) (hR : R ⟨false, false, x4, x5⟩ w) :
    wpAnyH P md ops Q S 5 #[true, true, true, true, false, false, false, false, false] a w := by
  have hmem : ∀ l4 l5 : Bool, (l4 && l5) = false → (true) = true → Region.ready md ops #[true, true, true, true, l4, l5, false, false, false] ≠ [] ∧ ∀ i ∈ Region.ready md ops #[true, true, true, true, l4, l5, false, false, false], (i = 4 ∧ l4 = false) ∨ (i = 5 ∧ l5 = false) := by
    intro l4 l5 he e1
    have h := (bAll_spec (bAll_spec hmem0 l4) l5)
    obtain ⟨r, hr⟩ : ∃ r, Region.ready md ops #[true, true, true, true, l4, l5, false, false, false] = r := ⟨_, rfl⟩
    rw [hr] at h ⊢
    rw [he, e1, Bool.not_true, Bool.false_or, Bool.false_or, Bool.and_eq_true] at h
    refine ⟨fun e => ?_, fun i hi => ?_⟩
    · rw [e] at h; simp at h
    · have h2 := List.all_eq_true.1 h.2 i hi
      simpa [or_assoc, and_assoc] using h2
  refine wpAnyH_inv (m := 3) St_tl.L A R St_tl.n ?_ ?_ ?_ 2 ⟨false, false, x4, x5⟩ w _ a rfl rfl ha hR
  · rintro ⟨l4, l5, y4, y5⟩ w hR hn
    refine (hmem l4 l5 ?_ (hord _ _ hR)).1
    clear hR
    revert hn
    cases l4 <;> cases l5 <;> simp [St_tl.n]
  · intro s w hR hn i hi
    have hm := (hmem s.l4 s.l5 (by
      clear hR hi
      revert hn
      rcases s with ⟨l4, l5, y4, y5⟩
      cases l4 <;> cases l5 <;> simp [St_tl.n]) (hord _ _ hR)).2 i hi
    rcases hm with ⟨rfl, e⟩ | ⟨rfl, e⟩
    · refine wpOp_mono (fun a' w' h => ?_) (h4 s w hR e)
      obtain ⟨x, k1, k2, k3⟩ := h
      exact ⟨_, by simp [St_tl.n, e]; try omega, rfl, k1, k2, k3⟩
    · refine wpOp_mono (fun a' w' h => ?_) (h5 s w hR e)
      obtain ⟨x, k1, k2, k3⟩ := h
      exact ⟨_, by simp [St_tl.n, e]; try omega, rfl, k1, k2, k3⟩
  · rintro ⟨l4, l5, y4, y5⟩ w hR hn
    have : l4 = true ∧ l5 = true := by
      revert hn
      cases l4 <;> cases l5 <;> simp [St_tl.n]
    obtain ⟨rfl, rfl⟩ := this
    exact hdone _ _ w hR

structure Rtl (V : World) (vK : Value) (t : Tm) (s : St_tl) (w : World) : Prop where
  bel : Below V.heap.size V w
  h4 : s.l4 = true → ∃ xk xneg xod xld xcd xnm xn xol xll xcl xob xlb xcb, s.x4 = tmV xk xneg (.slice xod xld xcd) xnm xn (.slice xol xll xcl) (.slice xob xlb xcb) ∧ TV (Zb V.heap.size w) w t (tmV xk xneg (.slice xod xld xcd) xnm xn (.slice xol xll xcl) (.slice xob xlb xcb))
  h5 : s.l5 = true → s.x5 = vK
theorem Rtl.c4 {V : World} {vK : Value} {t : Tm} {s : St_tl} {w w' : World} (h : Rtl V vK t s w) {v : Value} (hT : TV (Zb w.heap.size w') w' t v) (hb : Below w.heap.size w w') : Rtl V vK t { s with l4 := true, x4 := v } w' := by
  obtain ⟨xk, xneg, xod, xld, xcd, xnm, xn, xol, xll, xcl, xob, xlb, xcb, rfl⟩ := hT.form
  exact ⟨below_and' h.bel h.bel.size hb, fun _ => ⟨xk, xneg, xod, xld, xcd, xnm, xn, xol, xll, xcl, xob, xlb, xcb, rfl, TV.mono (fun k _ hk => ⟨Nat.le_trans h.bel.size hk.1, hk.2⟩) _ _ hT⟩, h.h5⟩
theorem Rtl.c5 {V : World} {vK : Value} {t : Tm} {s : St_tl} {w : World} (h : Rtl V vK t s w) : Rtl V vK t { s with l5 := true, x5 := vK } w := ⟨h.bel, h.h4, fun _ => rfl⟩
abbrev Zg (gt : Nat) (w : World) : Nat → Prop := fun k => gt < k ∧ k < w.heap.size
set_option maxHeartbeats 8000000 in
set_option maxRecDepth 8000 in
theorem rList_w (ls : List Tm) (o : Option Addr) (c : Nat) (w : World) (hl : ls.length ≤ 1000000) (hok : ∀ p ∈ partsL ls, p.ok1 ∧ fairB p = true) (hT : TR (Low w) w ls o) :
    Calls Tryz.prog 19 #[.slice o ls.length c] w fun e w' => ∃ v', e = .returned v' ∧ TV (Zb w.heap.size w') w' (listT ls) v' ∧ Below w.heap.size w w' := by
  have htR := hid hT
  have hok2 := hid hok
  clear hT hok
  have hR00 := heap_alloc_new w (.cells zC 27)
  have bR := (Below.refl w.heap.size w).alloc (Nat.le_refl _) (.cells zC 27)
  have hzR : (w.alloc (.cells zC 27)).heap.size = w.heap.size + 1 := by simp
  go_enter Tryz.func19, Tryz.ntmps19
  go_wp2_with fail
  generalize (w.alloc (.cells #[.int .i64 0, .bool false, .slice none 0 0, .string { data := #[] }, .int .i64 0, .slice none 0 0, .slice none 0 0] 27)) = W0 at *
  refine (rNil_w _).mono ?_
  rintro e w1 ⟨rfl, b1⟩
  have hR1 := blk_on' hR00 b1
  have B1 := below_and bR (Nat.le_refl _) b1
  have hz1 := b1.size
  have bN : Below w1.heap.size w1 (w1.alloc (.cells #[.int .i64 5, .bool false, nilS, .string noS, .int .i64 0, nilS, nilS] 27)) := (Below.refl _ _).alloc (Nat.le_refl _) _
  have hnw := heap_alloc_new w1 (.cells #[.int .i64 5, .bool false, nilS, .string noS, .int .i64 0, nilS, nilS] 27)
  have hR2 := blk_on' hR1 bN
  have B2 := below_and B1 (Nat.le_refl _) bN
  have hzN : (w1.alloc (.cells #[.int .i64 5, .bool false, nilS, .string noS, .int .i64 0, nilS, nilS] 27)).heap.size = w1.heap.size + 1 := by simp
  clear hR00 hR1 B1 b1 bR bN
  go_wp2_with fail
  generalize (w1.alloc (.cells #[.int .i64 5, .bool false, nilS, .string noS, .int .i64 0, nilS, nilS] 27)) = W1 at *
  obtain ⟨gt, hgt⟩ : ∃ gt, w1.heap.size = gt := ⟨_, rfl⟩
  rw [hgt] at hnw hzN hz1 ⊢
  clear hgt
  have hgw : w.heap.size < gt := by omega
  go_loopg [4] ls.length (fun t v4 wr => ∃ (kk : Int) (kneg : Bool) (kod : Option Addr) (kld kcd : Nat) (knm : ByteArray) (kn : Int) (kol : Option Addr) (kll kcl : Nat) (kob : Option Addr) (klb kcb : Nat), v4 = .int .i64 ((t : Int) - 1) ∧ t ≤ ls.length ∧ TV (Zg gt wr) wr (listT (ls.drop t)) (tmV kk kneg (.slice kod kld kcd) knm kn (.slice kol kll kcl) (.slice kob klb kcb)) ∧ wr.heap[gt]? = some (.cells #[.int .i64 kk, .bool kneg, .slice kod kld kcd, .string knm, .int .i64 kn, .slice kol kll kcl, .slice kob klb kcb] 27 (0, 0)) ∧ wr.heap[w.heap.size]? = some (.cells zC 27 (0, 0)) ∧ Below w.heap.size w wr)
  case atStart =>
    refine ⟨5, false, none, 0, 0, noS, 0, none, 0, 0, none, 0, 0, rfl, Nat.le_refl _, ?_, hnw, hR2, B2⟩
    rw [List.drop_of_length_le (Nat.le_refl _)]
    exact tv_flat 5 noS 0
  case round =>
    obtain ⟨kk, kneg, kod, kld, kcd, knm, kn, kol, kll, kcl, kob, klb, kcb, rfl, hgk, hV, hgr, hRb, hBr⟩ := hrel
    clear hnw hR2 B2 hzN hz1 hzR
    generalize gk = mm at *
    have hgl : gt < wr.heap.size := (Array.getElem?_eq_some_iff.1 hgr).1
    cases mm with
    | zero =>
      rw [List.drop_zero] at hV
      have kG2 := res7 hgr
      have kB2 := res7 hRb
      obtain ⟨y0, y1, y2, y3, y4, y5, y6⟩ := kG2.res
      obtain ⟨z0, z1, z2, z3, z4, z5, z6⟩ := kB2.res
      have zf := kB2.fr
      have onR := only_put wr w.heap.size (.int .i64 kk) (.bool kneg) (.slice kod kld kcd) (.string knm) (.int .i64 kn) (.slice kol kll kcl) (.slice kob klb kcb)
      obtain ⟨r0, r1, r2, r3, r4, r5, r6⟩ := (kB2.put (b0 := .int .i64 kk) (b1 := .bool kneg) (b2 := .slice kod kld kcd) (b3 := .string knm) (b4 := .int .i64 kn) (b5 := .slice kol kll kcl) (b6 := .slice kob klb kcb)).res
      have hfin : TV (Zb w.heap.size (((((((wr.setCell ⟨w.heap.size, 0, none⟩ (.int .i64 kk)).setCell ⟨w.heap.size, 1, none⟩ (.bool kneg)).setCell ⟨w.heap.size, 2, none⟩ (.slice kod kld kcd)).setCell ⟨w.heap.size, 3, none⟩ (.string knm)).setCell ⟨w.heap.size, 4, none⟩ (.int .i64 kn)).setCell ⟨w.heap.size, 5, none⟩ (.slice kol kll kcl)).setCell ⟨w.heap.size, 6, none⟩ (.slice kob klb kcb))) (((((((wr.setCell ⟨w.heap.size, 0, none⟩ (.int .i64 kk)).setCell ⟨w.heap.size, 1, none⟩ (.bool kneg)).setCell ⟨w.heap.size, 2, none⟩ (.slice kod kld kcd)).setCell ⟨w.heap.size, 3, none⟩ (.string knm)).setCell ⟨w.heap.size, 4, none⟩ (.int .i64 kn)).setCell ⟨w.heap.size, 5, none⟩ (.slice kol kll kcl)).setCell ⟨w.heap.size, 6, none⟩ (.slice kob klb kcb)) (listT ls) (tmV kk kneg (.slice kod kld kcd) knm kn (.slice kol kll kcl) (.slice kob klb kcb)) := TV.mono (fun k hk hz => ⟨by have := hz.1; omega, hk⟩) _ _ (TV.zs (w' := (((((((wr.setCell ⟨w.heap.size, 0, none⟩ (.int .i64 kk)).setCell ⟨w.heap.size, 1, none⟩ (.bool kneg)).setCell ⟨w.heap.size, 2, none⟩ (.slice kod kld kcd)).setCell ⟨w.heap.size, 3, none⟩ (.string knm)).setCell ⟨w.heap.size, 4, none⟩ (.int .i64 kn)).setCell ⟨w.heap.size, 5, none⟩ (.slice kol kll kcl)).setCell ⟨w.heap.size, 6, none⟩ (.slice kob klb kcb))) (fun k hk => onR.2.2 k (by have := hk.1; omega)) _ _ hV)
      have hBF : Below w.heap.size w (((((((wr.setCell ⟨w.heap.size, 0, none⟩ (.int .i64 kk)).setCell ⟨w.heap.size, 1, none⟩ (.bool kneg)).setCell ⟨w.heap.size, 2, none⟩ (.slice kod kld kcd)).setCell ⟨w.heap.size, 3, none⟩ (.string knm)).setCell ⟨w.heap.size, 4, none⟩ (.int .i64 kn)).setCell ⟨w.heap.size, 5, none⟩ (.slice kol kll kcl)).setCell ⟨w.heap.size, 6, none⟩ (.slice kob klb kcb)) := hBr.trans (onR.below (B := w.heap.size) (Nat.le_refl _))
      have HF := hid hfin
      have HBF := hid hBF
      clear hfin hBF onR hV
      go_wp2
      exact bodyPost_ret (v := tmV kk kneg (.slice kod kld kcd) knm kn (.slice kol kll kcl) (.slice kob klb kcb)) (by simp [results, Tryz.results19, go_sem, r0, r1, r2, r3, r4, r5, r6]) rfl ⟨_, rfl, HF.out, HBF.out⟩
    | succ m =>
      have hml : m < ls.length := by omega
      obtain ⟨t, ht⟩ : ∃ t, ls[m]? = some t := ⟨ls[m], by simp [hml]⟩
      obtain ⟨pa, pk, pneg, pod, pld, pcd, pnm, pn, pol, pll, pcl, pob, plb, pcb, hpa, hTp, y0, y1, y2, y3, y4, y5, y6⟩ := htR.out.get ht hBr
      subst hpa
      have hokt : ∀ p ∈ parts t, p.ok1 ∧ fairB p = true := fun p hp => hok2.out p (mem_partsL ht hp)
      have hdr := hid (drop_at ht)
      have hgeq : (0 : Int) ≤ (m : Int) := by omega
      rw [show (((m + 1 : Nat) : Int) - 1) = (m : Int) by omega]
      clear ht
      have dV5 : Below wr.heap.size wr wr.drew := (Below.refl _ wr).drew
      have hV3 : TV (Zg gt wr.drew) wr.drew (listT (ls.drop (m + 1))) (tmV kk kneg (.slice kod kld kcd) knm kn (.slice kol kll kcl) (.slice kob klb kcb)) := TV.mono (fun k hk hz => hz) _ _ (TV.zs (Z := Zg gt wr) (w := wr) (w' := wr.drew) (fun k hk => rfl) _ _ hV)
      have hgr3 : wr.drew.heap[gt]? = some (.cells #[.int .i64 kk, .bool kneg, .slice kod kld kcd, .string knm, .int .i64 kn, .slice kol kll kcl, .slice kob klb kcb] 27 (0, 0)) := hgr
      have hRb3 : wr.drew.heap[w.heap.size]? = some (.cells zC 27 (0, 0)) := hRb
      have hbV3 : Below w.heap.size w wr.drew := hBr.drew
      have hTp3 := tv_below hTp dV5
      have hgl3 : gt < wr.drew.heap.size := hgl
      have hpl : pa.block < w.heap.size := by
        have h1 := htR.out
        cases ls with
        | nil => simp at hml
        | cons q qs =>
          unfold TR at h1
          obtain ⟨a, _, e, h2, _⟩ := h1
          injection e with e
          rw [e]; exact h2
      have hSk : Hid (∀ w' : World, (∀ k, k < w.heap.size → w'.heap[k]? = wr.drew.heap[k]?) → (w'.cell? (pa.add (m * 7)) = some (.int .i64 pk) ∧ w'.cell? ⟨(pa.add (m * 7)).block, (pa.add (m * 7)).off + 1, none⟩ = some (.bool pneg) ∧ w'.cell? ⟨(pa.add (m * 7)).block, (pa.add (m * 7)).off + 2, none⟩ = some (.slice pod pld pcd) ∧ w'.cell? ⟨(pa.add (m * 7)).block, (pa.add (m * 7)).off + 3, none⟩ = some (.string pnm) ∧ w'.cell? ⟨(pa.add (m * 7)).block, (pa.add (m * 7)).off + 4, none⟩ = some (.int .i64 pn) ∧ w'.cell? ⟨(pa.add (m * 7)).block, (pa.add (m * 7)).off + 5, none⟩ = some (.slice pol pll pcl) ∧ w'.cell? ⟨(pa.add (m * 7)).block, (pa.add (m * 7)).off + 6, none⟩ = some (.slice pob plb pcb))) := hid (fun w' hb => by
        have q : ∀ {a : Addr} {v : Value}, a.block = pa.block → wr.cell? a = some v → w'.cell? a = some v := fun e h => (World.cell?_of_block (hb _ (by rw [e]; omega))).trans h
        exact ⟨q (block_add _ _) y0, q (block_add _ _) y1, q (block_add _ _) y2, q (block_add _ _) y3, q (block_add _ _) y4, q (block_add _ _) y5, q (block_add _ _) y6⟩)
      have hS : Hid (∀ w', Below wr.drew.heap.size wr.drew w' → (w'.cell? (pa.add (m * 7)) = some (.int .i64 pk) ∧ w'.cell? ⟨(pa.add (m * 7)).block, (pa.add (m * 7)).off + 1, none⟩ = some (.bool pneg) ∧ w'.cell? ⟨(pa.add (m * 7)).block, (pa.add (m * 7)).off + 2, none⟩ = some (.slice pod pld pcd) ∧ w'.cell? ⟨(pa.add (m * 7)).block, (pa.add (m * 7)).off + 3, none⟩ = some (.string pnm) ∧ w'.cell? ⟨(pa.add (m * 7)).block, (pa.add (m * 7)).off + 4, none⟩ = some (.int .i64 pn) ∧ w'.cell? ⟨(pa.add (m * 7)).block, (pa.add (m * 7)).off + 5, none⟩ = some (.slice pol pll pcl) ∧ w'.cell? ⟨(pa.add (m * 7)).block, (pa.add (m * 7)).off + 6, none⟩ = some (.slice pob plb pcb))) := hid (fun w' hb => hSk.out w' (fun k hk => hb.block k (by omega)))
      clear hV hgr hRb hBr hTp dV5 hgl y0 y1 y2 y3 y4 y5 y6
      go_wp2_with fail
      refine wp_region_held_drew (S := fun w' => w'.cell? (pa.add (m * 7)) = some (.int .i64 pk) ∧ w'.cell? ⟨(pa.add (m * 7)).block, (pa.add (m * 7)).off + 1, none⟩ = some (.bool pneg) ∧ w'.cell? ⟨(pa.add (m * 7)).block, (pa.add (m * 7)).off + 2, none⟩ = some (.slice pod pld pcd) ∧ w'.cell? ⟨(pa.add (m * 7)).block, (pa.add (m * 7)).off + 3, none⟩ = some (.string pnm) ∧ w'.cell? ⟨(pa.add (m * 7)).block, (pa.add (m * 7)).off + 4, none⟩ = some (.int .i64 pn) ∧ w'.cell? ⟨(pa.add (m * 7)).block, (pa.add (m * 7)).off + 5, none⟩ = some (.slice pol pll pcl) ∧ w'.cell? ⟨(pa.add (m * 7)).block, (pa.add (m * 7)).off + 6, none⟩ = some (.slice pob plb pcb)) (by kernel_rfl) (by exact hS.out _ (Below.refl _ _)) (fun hHeld => ?_)
      generalize wr.drew = V5 at *
      refine wpAnyH_take (i := 0) (oi := _) (v := ?_) rfl (by kernel_rfl) (by kernel_rfl) (by kernel_rfl) (fun _ _ _ h => h) (Or.inl ⟨by rfl, ?_⟩) (by assumption) ?_
      rotate_left 1
      · (intro w hSw; (try dsimp only at hSw); go_simp; try with_reducible rfl)
      try simp (maxSteps := 10000000) only [List.getElem_toArray, List.getElem_cons_succ, List.getElem_cons_zero, Act.put, List.setIfInBounds_toArray, List.set_cons_zero, List.set_cons_succ]
      refine wpAnyH_take (i := 1) (oi := _) (v := ?_) rfl (by kernel_rfl) (by kernel_rfl) (by kernel_rfl) (fun _ _ _ h => h) (Or.inl ⟨by rfl, ?_⟩) (by assumption) ?_
      rotate_left 1
      · (intro w hSw; (try dsimp only at hSw); go_simp; try with_reducible rfl)
      try simp (maxSteps := 10000000) only [List.getElem_toArray, List.getElem_cons_succ, List.getElem_cons_zero, Act.put, List.setIfInBounds_toArray, List.set_cons_zero, List.set_cons_succ]
      refine wpAnyH_take (i := 2) (oi := _) (v := ?_) rfl (by kernel_rfl) (by kernel_rfl) (by kernel_rfl) (fun _ _ _ h => h) (Or.inl ⟨by rfl, ?_⟩) (by assumption) ?_
      rotate_left 1
      · (intro w hSw; (try dsimp only at hSw); go_simp; try with_reducible rfl)
      try simp (maxSteps := 10000000) only [List.getElem_toArray, List.getElem_cons_succ, List.getElem_cons_zero, Act.put, List.setIfInBounds_toArray, List.set_cons_zero, List.set_cons_succ]
      refine wpAnyH_take (i := 3) (oi := _) (v := ?_) rfl (by kernel_rfl) (by kernel_rfl) (by kernel_rfl) (fun _ _ _ h => h) (Or.inl ⟨by rfl, ?_⟩) (by assumption) ?_
      rotate_left 1
      · (intro w hSw; (try dsimp only at hSw); go_simp; try with_reducible rfl)
      try simp (maxSteps := 10000000) only [List.getElem_toArray, List.getElem_cons_succ, List.getElem_cons_zero, Act.put, List.setIfInBounds_toArray, List.set_cons_zero, List.set_cons_succ]
      refine wpAnyH_at (m' := 5) (listed' := #[true, true, true, true, false, false, false, false, false]) (by kernel_rfl) (by kernel_rfl) ?_
      refine wpAnyH_name fun a0 ha0 => ?_
      refine wpAnyH_tl (A := fun s => (a0.put (some 17) s.x4).put (some 18) s.x5) (R := Rtl V5 (tmV kk kneg (.slice kod kld kcd) knm kn (.slice kol kll kcl) (.slice kob klb kcb)) t) ?_ (fun s w h => rfl) ?_ ?_ ?_ _ _ u17 u18 ?_ ?_
      · kernel_rfl
      · intro s w' hR h0
        refine wpOp_step rfl (fun K' hK => ?_)
        have hK' := shutO hK
        clear hK
        subst ha0
        simp only [Act.put, List.setIfInBounds_toArray, List.set_cons_zero, List.set_cons_succ]
        go_simp
        refine (rCopy_w (tsz t) t _ _ (Nat.le_refl _) hokt (tv_below hTp3 hR.bel)).mono ?_
        rintro e w7 ⟨v7, rfl, hT7, b7⟩
        try go_simp
        refine hK'.out _ _ ⟨_, ?_, hR.c4 hT7 b7, hS.out _ (hR.c4 hT7 b7).bel⟩
        rfl
      · intro s w' hR h0
        obtain ⟨g0, g1, g2, g3, g4, g5, g6⟩ := (res7 (blk_on' hgr3 hR.bel)).res
        refine wpOp_step rfl (fun K' hK => ?_)
        have hK' := shutO hK
        clear hK
        subst ha0
        simp only [Act.put, List.setIfInBounds_toArray, List.set_cons_zero, List.set_cons_succ]
        go_simp
        refine hK'.out _ _ ⟨_, ?_, hR.c5, hS.out _ hR.bel⟩
        rfl
      · intro x4 x5 w5 hR
        obtain ⟨xk, xneg, xod, xld, xcd, xnm, xn, xol, xll, xcl, xob, xlb, xcb, hx4, hT5⟩ := hR.h4 rfl
        have hx5 := hR.h5 rfl
        have hb5 := hR.bel
        clear hR
        dsimp only at hx4 hx5
        subst hx4
        subst hx5
        subst ha0
        try simp only [Act.put, List.setIfInBounds_toArray, List.set_cons_zero, List.set_cons_succ]
        refine wpAnyH_ready (rs := [6]) (by kernel_rfl) (by simp) ?_
        refine AllReadyH.cons rfl (fun K hK => ?_) AllReadyH.nil
        go_simp
        have bN : Below w5.heap.size w5 (w5.alloc (.cells #[.int .i64 xk, .bool xneg, .slice xod xld xcd, .string xnm, .int .i64 xn, .slice xol xll xcl, .slice xob xlb xcb, .int .i64 kk, .bool kneg, .slice kod kld kcd, .string knm, .int .i64 kn, .slice kol kll kcl, .slice kob klb kcb] 27)) := (Below.refl _ _).alloc (Nat.le_refl _) _
        have hnw := heap_alloc_new w5 (.cells #[.int .i64 xk, .bool xneg, .slice xod xld xcd, .string xnm, .int .i64 xn, .slice xol xll xcl, .slice xob xlb xcb, .int .i64 kk, .bool kneg, .slice kod kld kcd, .string knm, .int .i64 kn, .slice kol kll kcl, .slice kob klb kcb] 27)
        have b6 : Below V5.heap.size V5 (w5.alloc (.cells #[.int .i64 xk, .bool xneg, .slice xod xld xcd, .string xnm, .int .i64 xn, .slice xol xll xcl, .slice xob xlb xcb, .int .i64 kk, .bool kneg, .slice kod kld kcd, .string knm, .int .i64 kn, .slice kol kll kcl, .slice kob klb kcb] 27)) := below_and hb5 (Nat.le_refl _) bN
        generalize (w5.alloc (.cells #[.int .i64 xk, .bool xneg, .slice xod xld xcd, .string xnm, .int .i64 xn, .slice xol xll xcl, .slice xob xlb xcb, .int .i64 kk, .bool kneg, .slice kod kld kcd, .string knm, .int .i64 kn, .slice kol kll kcl, .slice kob klb kcb] 27)) = w6 at *
        have hg6 := blk_on' hgr3 b6
        obtain ⟨f0, f1, f2, f3, f4, f5, f6⟩ := (res7 hg6).res
        have ff := (res7 hg6).fr
        try go_simp
        refine hK.out _ _ ?_ (fun hHeld => ?_)
        · first | exact hS.out _ (by assumption) | exact qs3
        clear hK K
        try simp (maxSteps := 10000000) only [List.getElem_toArray, List.getElem_cons_succ, List.getElem_cons_zero, Act.put, List.setIfInBounds_toArray, List.set_cons_zero, List.set_cons_succ]
        refine wpAnyH_take (i := 7) (oi := _) (v := ?_) rfl (by kernel_rfl) (by kernel_rfl) (by kernel_rfl) (fun _ _ _ h => h) (Or.inl ⟨by rfl, ?_⟩) (by assumption) ?_
        rotate_left 1
        · (intro w hSw; (try dsimp only at hSw); go_simp; try with_reducible rfl)
        try simp (maxSteps := 10000000) only [List.getElem_toArray, List.getElem_cons_succ, List.getElem_cons_zero, Act.put, List.setIfInBounds_toArray, List.set_cons_zero, List.set_cons_succ]
        refine wpAnyH_ready (rs := [8]) (by kernel_rfl) (by simp) ?_
        refine AllReadyH.cons rfl (fun K hK => ?_) AllReadyH.nil
        go_simp
        have on7 := only_put w6 gt (.int .i64 6) (.bool false) nilS (.string noS) (.int .i64 0) (.slice (some ⟨w5.heap.size, 0, none⟩) 2 2) nilS
        have hg7 : (((((((w6.setCell ⟨gt, 0, none⟩ (.int .i64 6)).setCell ⟨gt, 1, none⟩ (.bool false)).setCell ⟨gt, 2, none⟩ nilS).setCell ⟨gt, 3, none⟩ (.string noS)).setCell ⟨gt, 4, none⟩ (.int .i64 0)).setCell ⟨gt, 5, none⟩ (.slice (some ⟨w5.heap.size, 0, none⟩) 2 2)).setCell ⟨gt, 6, none⟩ nilS).heap[gt]? = some (.cells #[.int .i64 6, .bool false, nilS, .string noS, .int .i64 0, .slice (some ⟨w5.heap.size, 0, none⟩) 2 2, nilS] 27 (0, 0)) := heap_put7 hg6 (.int .i64 6) (.bool false) nilS (.string noS) (.int .i64 0) (.slice (some ⟨w5.heap.size, 0, none⟩) 2 2) nilS
        clear f0 f1 f2 f3 f4 f5 f6 ff
        generalize (((((((w6.setCell ⟨gt, 0, none⟩ (.int .i64 6)).setCell ⟨gt, 1, none⟩ (.bool false)).setCell ⟨gt, 2, none⟩ nilS).setCell ⟨gt, 3, none⟩ (.string noS)).setCell ⟨gt, 4, none⟩ (.int .i64 0)).setCell ⟨gt, 5, none⟩ (.slice (some ⟨w5.heap.size, 0, none⟩) 2 2)).setCell ⟨gt, 6, none⟩ nilS) = w7 at *
        have qs3 := hSk.out w7 (fun k hk => (on7.2.2 k (by omega)).trans (b6.block k (by omega)))
        try go_simp
        refine hK.out _ _ ?_ (fun hHeld => ?_)
        · first | exact hS.out _ (by assumption) | exact qs3
        clear hK K
        try simp (maxSteps := 10000000) only [List.getElem_toArray, List.getElem_cons_succ, List.getElem_cons_zero, Act.put, List.setIfInBounds_toArray, List.set_cons_zero, List.set_cons_succ]
        refine wpAnyH_done (by kernel_rfl) ?_ _
        have hs5 := hb5.size
        have hs6 := bN.size
        have hs7 : w7.heap.size = w6.heap.size := on7.2.1
        have hn7 : w7.heap[w5.heap.size]? = some (.cells #[.int .i64 xk, .bool xneg, .slice xod xld xcd, .string xnm, .int .i64 xn, .slice xol xll xcl, .slice xob xlb xcb, .int .i64 kk, .bool kneg, .slice kod kld kcd, .string knm, .int .i64 kn, .slice kol kll kcl, .slice kob klb kcb] 27 (0, 0)) := (on7.2.2 _ (by omega)).trans hnw
        have hln : w5.heap.size < w6.heap.size := (Array.getElem?_eq_some_iff.1 hnw).1
        have tA : TV (Zg gt w7) w7 t (tmV xk xneg (.slice xod xld xcd) xnm xn (.slice xol xll xcl) (.slice xob xlb xcb)) := TV.mono (fun k hk hz => ⟨by have := hz.1; omega, hk⟩) _ _ (TV.zs (w' := w7) (fun k hk => (on7.2.2 k (by have := hk.1; omega)).trans (bN.block k hk.2)) _ _ hT5)
        have tB : TV (Zg gt w7) w7 (listT (ls.drop (m + 1))) (tmV kk kneg (.slice kod kld kcd) knm kn (.slice kol kll kcl) (.slice kob klb kcb)) := TV.mono (fun k hk hz => ⟨hz.1, hk⟩) _ _ (TV.zs (w' := w7) (fun k hk => (on7.2.2 k (by have := hk.1; omega)).trans (b6.block k hk.2)) _ _ hV3)
        have hfin : TV (Zg gt w7) w7 (listT (ls.drop m)) (tmV 6 false nilS noS 0 (.slice (some ⟨w5.heap.size, 0, none⟩) 2 2) nilS) := by
          rw [hdr.out]
          unfold listT consT TV
          exact ⟨none, 0, some ⟨w5.heap.size, 0, none⟩, 2, none, 0, rfl, Ls.nil _ _ _, by simp, Lm.nil _, LsB.nil _ _ _, by simp, by simp, tr_two tA tB hn7 ⟨by omega, by omega⟩⟩
        have hRb7 : w7.heap[w.heap.size]? = some (.cells zC 27 (0, 0)) := (on7.2.2 _ (by omega)).trans (blk_on' hRb3 b6)
        have hB7 : Below w.heap.size w w7 := (below_and' hbV3 hbV3.size b6).trans (on7.below (B := w.heap.size) (by omega))
        clear hnw hg6 bN b6 hb5 hT5 tA tB hS hSk qs3 on7 hgr3 hRb3 hbV3 hV3 hn7
        have hm5 : m ≤ 1000000 := by omega
        go_wp2
        go_roundg m
        case measure => omega
        case rel => exact ⟨6, false, none, 0, 0, noS, 0, some ⟨w5.heap.size, 0, none⟩, 2, 2, none, 0, 0, by first | rfl | go_num, by omega, hfin, hg7, hRb7, hB7⟩
      · subst ha0; rfl
      · exact ⟨Below.refl _ _, fun h => by simp at h, fun h => by simp at h⟩
end Go.Proofs.YtjacoodfhkaioaaGreatDoor
