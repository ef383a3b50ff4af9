/- Texts of mine, one behind the other: TermOpen, TermRoomL, TermRTree, BigSame, TermInt, TermList, TermFacts, TermOf, TermRMay, TermRMay2, TermRMay3. -/
import Derived.Test.YtjacoodfhkaioabGreatDoorSrG
import Derived.Test.YtjacoodfhkaioabGreatDoorSrC
import Derived.Lib.SmallJoins
import Derived.ChangeSlices
import Derived.ChangeArms
namespace Go.Proofs.YtjacoodfhkaioabGreatDoor
open Go.ChangeShapes Go.WideShapes Go.ChangeAt Go.ChangeMaps Go.RowKit
set_option linter.unusedSimpArgs false
set_option linter.unusedVariables false
set_option maxRecDepth 2000
theorem seven : Tryz.prog.cellsOf 26 = 7 := by kernel_rfl
theorem c8 : Tryz.prog.cellsOf 5 = 1 := by kernel_rfl
/-- integers in a row, opened -/
theorem open_row {H : Type} {enc : TypeId × Value → H} {w : World} {fuel : Nat} {t e : TypeId} {kd : IntKind} {v : Value} {x : DataW H × List MemPlace} (ht : Tryz.prog.underlying t = some (.slice e)) (he : Tryz.prog.underlying e = some (.int kd)) (hc : Tryz.prog.cellsOf e = 1) (h : DataW.trod enc Tryz.prog w 0 (fun _ => true) true fuel t [v] = some x) :
    ∃ (o : Option Addr) (zs : List Int) (c : Nat), v = .slice o zs.length c ∧ zs.length ≤ c ∧ (∀ (j : Nat) (z : Int), zs[j]? = some z → (∃ a, o = some a ∧ w.cell? (a.add j) = some (.int kd z)) ∧ (Lit.int kd z).wf = true) := by
  rcases open_ints ht he hc h with ⟨e1, _⟩ | ⟨a, len, cap, zs, e1, _, hlc, hcm, hzl, _, hcell, hwf⟩
  · simp only [List.cons.injEq, and_true] at e1
    subst e1
    exact ⟨none, [], 0, rfl, by simp, fun j z hz => by simp at hz⟩
  · simp only [List.cons.injEq, and_true] at e1
    subst e1
    simp only [if_true] at hzl
    have hll : (zs.take len).length = len := by rw [List.length_take]; omega
    refine ⟨some a, zs.take len, cap, by rw [hll], by omega, fun j z hz => ?_⟩
    rw [List.getElem?_take] at hz
    split at hz
    · have hjl : j < zs.length := (List.getElem?_eq_some_iff.1 hz).1
      refine ⟨⟨a, rfl, ?_⟩, hwf z (List.mem_of_getElem? hz)⟩
      rw [hcell j hjl]
      have : zs.getD j 0 = z := by simp [List.getD, hz]
      rw [this]
    · simp at hz
theorem row_nat {w : World} {o : Option Addr} {kd : IntKind} {B : Nat} {zs : List Int} (h : ∀ (j : Nat) (z : Int), zs[j]? = some z → (∃ a, o = some a ∧ w.cell? (a.add j) = some (.int kd z)) ∧ (Lit.int kd z).wf = true) (hw : ∀ z, (Lit.int kd z).wf = true → 0 ≤ z ∧ z < (B : Int)) :
    Ls (Low w) o ((zs.map Int.toNat).map fun (x : Nat) => Value.int kd (x : Int)) w ∧ Lm B (zs.map Int.toNat) := by
  refine ⟨fun j u hu => ?_, fun x hx => ?_⟩
  · simp only [List.getElem?_map] at hu
    cases hz : zs[j]? with
    | none => rw [hz] at hu; simp at hu
    | some z =>
      rw [hz] at hu
      simp only [Option.map_some, Option.some.injEq] at hu
      obtain ⟨⟨a, ha, hc⟩, hwf⟩ := h j z hz
      have := hw z hwf
      refine ⟨a, ha, by have := World.block_lt_of_cell? _ _ hc; rwa [block_add] at this, ?_⟩
      rw [hc, ← hu]
      congr 2
      omega
  · obtain ⟨z, hz, rfl⟩ := List.mem_map.1 hx
    obtain ⟨j, hj⟩ := List.getElem?_of_mem hz
    have := hw z (h j z hj).2
    omega
theorem wf32 (z : Int) (h : (Lit.int .u32 z).wf = true) : 0 ≤ z ∧ z < ((4294967296 : Nat) : Int) := by
  simp [Lit.wf, IntKind.min, IntKind.max, IntKind.bits, IntKind.signed] at h; omega
theorem wf8 (z : Int) (h : (Lit.int .u8 z).wf = true) : 0 ≤ z ∧ z < ((256 : Nat) : Int) := by
  simp [Lit.wf, IntKind.min, IntKind.max, IntKind.bits, IntKind.signed] at h; omega
theorem rows_of {w : World} (len : Nat) : ∀ (a : Addr), (∀ i, i < len → ∃ T v, At7 (a.add (i * 7)) v w ∧ TV (Low w) w T v) → ∃ l : List Tm, l.length = len ∧ TR (Low w) w l (some a) := by
  induction len with
  | zero => intro a _; exact ⟨[], rfl, by unfold TR; trivial⟩
  | succ n ih =>
    intro a h
    obtain ⟨T, v, hA, hT⟩ := h 0 (by omega)
    rw [Nat.zero_mul, add_zero] at hA
    obtain ⟨l, hl, hR⟩ := ih (a.add 7) (fun i hi => by
      obtain ⟨T, v, hA, hT⟩ := h (i + 1) (by omega)
      refine ⟨T, v, ?_, hT⟩
      rw [add_add]
      rw [show (i + 1) * 7 = 7 + i * 7 by omega] at hA
      exact hA)
    refine ⟨T :: l, by simp [hl], ?_⟩
    unfold TR
    exact ⟨a, v, rfl, hA.lt, hA, hT, hR⟩
theorem list7 {cs : List Value} (h : cs.length = 7) : ∃ c0 c1 c2 c3 c4 c5 c6, cs = [c0, c1, c2, c3, c4, c5, c6] := by
  match cs, h with
  | [c0, c1, c2, c3, c4, c5, c6], _ => exact ⟨c0, c1, c2, c3, c4, c5, c6, rfl⟩
theorem q1 : Tryz.prog.cellsOf 3 = 1 := by kernel_rfl
theorem q2 : Tryz.prog.cellsOf 4 = 1 := by kernel_rfl
theorem q3 : Tryz.prog.cellsOf 22 = 1 := by kernel_rfl
theorem q4 : Tryz.prog.cellsOf 9 = 1 := by kernel_rfl
theorem q5 : Tryz.prog.cellsOf 23 = 1 := by kernel_rfl
theorem q6 : Tryz.prog.cellsOf 24 = 1 := by kernel_rfl
theorem open_cells {H : Type} {enc : TypeId × Value → H} {w : World} : ∀ (fuel : Nat) (cs : List Value) (x : DataW H × List MemPlace), DataW.trod enc Tryz.prog w 0 (fun _ => true) true fuel 26 cs = some x →
    ∃ (T : Tm) (k : Int) (neg : Bool) (od : Option Addr) (ld cd : Nat) (nm : ByteArray) (n : Int) (ol : Option Addr) (ll cl : Nat) (ob : Option Addr) (lb cb : Nat), cs = [.int .i64 k, .bool neg, .slice od ld cd, .string nm, .int .i64 n, .slice ol ll cl, .slice ob lb cb] ∧ TV (Low w) w T (tmV k neg (.slice od ld cd) nm n (.slice ol ll cl) (.slice ob lb cb)) := by
  intro fuel
  induction fuel using Nat.strongRecOn with
  | _ fuel ih =>
    intro cs x h
    obtain ⟨xs, n, hfu, hx, hl, hlen, hf⟩ := DataW.trod_struct (fs := _) Tryz.underlying26 h
    rw [seven] at hl
    obtain ⟨c0, c1, c2, c3, c4, c5, c6, rfl⟩ := list7 hl
    have hlen7 : xs.length = 7 := hlen
    match xs, hlen7 with
    | [y0, y1, y2, y3, y4, y5, y6], _ =>
    have g0 : DataW.trod enc Tryz.prog w 0 (fun _ => true) true n 3 [c0] = some y0 := by have := hf 0 _ rfl; simpa [q1] using this
    have g1 : DataW.trod enc Tryz.prog w 0 (fun _ => true) true n 4 [c1] = some y1 := by have := hf 1 _ rfl; simpa [q2] using this
    have g2 : DataW.trod enc Tryz.prog w 0 (fun _ => true) true n 22 [c2] = some y2 := by have := hf 2 _ rfl; simpa [q3] using this
    have g3 : DataW.trod enc Tryz.prog w 0 (fun _ => true) true n 9 [c3] = some y3 := by have := hf 3 _ rfl; simpa [q4] using this
    have g4 : DataW.trod enc Tryz.prog w 0 (fun _ => true) true n 3 [c4] = some y4 := by have := hf 4 _ rfl; simpa [q1] using this
    have g5 : DataW.trod enc Tryz.prog w 0 (fun _ => true) true n 23 [c5] = some y5 := by have := hf 5 _ rfl; simpa [q5] using this
    have g6 : DataW.trod enc Tryz.prog w 0 (fun _ => true) true n 24 [c6] = some y6 := by have := hf 6 _ rfl; simpa [q6] using this
    clear hf hx
    obtain ⟨k, e0, _, _⟩ := DataW.trod_int Tryz.underlying3 g0
    obtain ⟨neg, e1, _⟩ := DataW.trod_bool Tryz.underlying4 g1
    obtain ⟨nm, e3, _, _⟩ := DataW.trod_string Tryz.underlying9 g3
    obtain ⟨n', e4, _, _⟩ := DataW.trod_int Tryz.underlying3 g4
    obtain ⟨od, zd, cd, e2, hcd, hzd⟩ := open_row Tryz.underlying22 Tryz.underlying104 one34 g2
    obtain ⟨ob, zb, cb, e6, hcb, hzb⟩ := open_row Tryz.underlying24 Tryz.underlying5 c8 g6
    obtain ⟨hLd, hMd⟩ := row_nat hzd wf32
    obtain ⟨hLb, hMb⟩ := row_nat hzb wf8
    simp only [List.cons.injEq, and_true] at e0 e1 e3 e4
    subst e0 e1 e2 e3 e4 e6
    have hL : ∃ (l : List Tm) (ol : Option Addr) (cl : Nat), c5 = .slice ol l.length cl ∧ l.length ≤ cl ∧ TR (Low w) w l ol := by
      rcases DataW.trod_slice Tryz.underlying23 g5 with ⟨e5, _⟩ | ⟨a, len, cap, elems, rest, m, hm, e5, _, _, hlc, _, hel, hall, _⟩
      · simp only [List.cons.injEq, and_true] at e5
        exact ⟨[], none, 0, e5, by simp, by unfold TR; trivial⟩
      · simp only [List.cons.injEq, and_true] at e5
        rw [seven] at hall
        obtain ⟨l, hll, hR⟩ := rows_of (w := w) len a (fun i hi => by
          have h1 := hall i hi
          rw [List.getElem?_eq_getElem (by omega)] at h1
          cases hc : w.cells? 0 (a.add (i * 7)) 7 with
          | none => rw [hc] at h1; simp at h1
          | some cs' =>
            rw [hc] at h1
            simp only [Option.bind_some] at h1
            obtain ⟨T, k', neg', od', ld', cd', nm', n'', ol', ll', cl', ob', lb', cb', rfl, hT⟩ := ih m (by omega) cs' _ h1
            obtain ⟨_, _, hcell⟩ := World.cells?_some hc
            have h0 := hcell 0 (by omega)
            rw [add_zero] at h0
            exact ⟨T, _, ⟨_, _, _, _, _, _, _, rfl, h0, hcell 1 (by omega), hcell 2 (by omega), hcell 3 (by omega), hcell 4 (by omega), hcell 5 (by omega), hcell 6 (by omega)⟩, hT⟩)
        exact ⟨l, some a, cap, by rw [hll]; exact e5, by omega, hR⟩
    obtain ⟨l, ol, cl, rfl, hcl, hR⟩ := hL
    refine ⟨.mk k neg (zd.map Int.toNat) nm n' l (zb.map Int.toNat), k, neg, od, zd.length, cd, nm, n', ol, l.length, cl, ob, zb.length, cb, rfl, ?_⟩
    unfold TV
    exact ⟨od, cd, ol, cl, ob, cb, by simp, hLd, by simpa using hcd, hMd, ⟨hLb, hMb⟩, by simpa using hcb, hcl, hR⟩
theorem open_term {H : Type} {enc : TypeId × Value → H} {base : Nat} {w : World} {v : Value} {d : DataW H} {p : List MemPlace} (o0 : Value.okWide Tryz.prog w Reach.any base 26 v) (h0 : DataW.Trod enc Tryz.prog w 0 (fun _ => true) true 26 v d p) : ∃ T, TV (Low w) w T v := by
  obtain ⟨fuel, hf⟩ := h0
  obtain ⟨cs, rfl, hsz⟩ := okWide_struct Tryz.underlying26 o0
  obtain ⟨T, k, neg, od, ld, cd, nm, n, ol, ll, cl, ob, lb, cb, e, hT⟩ := open_cells fuel _ _ hf
  refine ⟨T, ?_⟩
  have : cs = #[.int .i64 k, .bool neg, .slice od ld cd, .string nm, .int .i64 n, .slice ol ll cl, .slice ob lb cb] := by
    have h2 : (Value.agg cs).cells = cs := rfl
    rw [h2] at e
    exact Array.toList_inj.1 e
  subst this
  exact hT
end Go.Proofs.YtjacoodfhkaioabGreatDoor
namespace Go.Proofs.YtjacoodfhkaioabGreatDoor
open Go.ChangeShapes Go.WideShapes Go.ChangeAt Go.RowKit Go.Shelf
set_option linter.unusedSimpArgs false
set_option linter.unusedVariables false
set_option maxRecDepth 2000
mutual
def tsz : Tm → Nat
  | .mk _ _ _ _ _ l _ => 1 + tszL l
def tszL : List Tm → Nat
  | [] => 0
  | t :: l => tsz t + tszL l
end
theorem tsz_mem : ∀ {l : List Tm} {i : Nat} {t : Tm}, l[i]? = some t → tsz t ≤ tszL l
  | [], i, t, h => by simp at h
  | x :: l, 0, t, h => by simp at h; subst h; simp only [tszL]; omega
  | x :: l, i + 1, t, h => by
    have := tsz_mem (l := l) (i := i) (t := t) (by simpa using h)
    simp only [tszL]; omega
/-- the i-th term of a row -/
theorem TR.get {w w' : World} {l : List Tm} {o : Option Addr} {i : Nat} {t : Tm} (h : TR (Low w) w l o) (ht : l[i]? = some t) (hb : Below w.heap.size w w') :
    ∃ a k neg od ld cd nm n ol ll cl ob lb cb, o = some a ∧ TV (Low w') w' t (tmV k neg (.slice od ld cd) nm n (.slice ol ll cl) (.slice ob lb cb)) ∧ w'.cell? (a.add (i * 7)) = some (.int .i64 k) ∧ w'.cell? ⟨(a.add (i * 7)).block, (a.add (i * 7)).off + 1, none⟩ = some (.bool neg) ∧ w'.cell? ⟨(a.add (i * 7)).block, (a.add (i * 7)).off + 2, none⟩ = some (.slice od ld cd) ∧ w'.cell? ⟨(a.add (i * 7)).block, (a.add (i * 7)).off + 3, none⟩ = some (.string nm) ∧ w'.cell? ⟨(a.add (i * 7)).block, (a.add (i * 7)).off + 4, none⟩ = some (.int .i64 n) ∧ w'.cell? ⟨(a.add (i * 7)).block, (a.add (i * 7)).off + 5, none⟩ = some (.slice ol ll cl) ∧ w'.cell? ⟨(a.add (i * 7)).block, (a.add (i * 7)).off + 6, none⟩ = some (.slice ob lb cb) := by
  obtain ⟨a, rfl⟩ : ∃ a, o = some a := by
    cases l with
    | nil => simp at ht
    | cons q qs =>
      unfold TR at h
      obtain ⟨a, _, ha, _⟩ := h
      exact ⟨a, ha⟩
  obtain ⟨vt, hZ, hA, hTv⟩ := TR.at _ _ i t h ht
  rw [Nat.mul_comm] at hA
  have hA' := hA.zs (Z := Low w) (by rw [block_add]; exact hZ) (fun k hk => hb.block k hk)
  have hTv' := tv_below hTv hb
  obtain ⟨k', neg', od', ld', cd', nm', n', ol', ll', cl', ob', lb', cb', rfl⟩ := hTv.form
  exact ⟨a, k', neg', od', ld', cd', nm', n', ol', ll', cl', ob', lb', cb', rfl, hTv', hA'.tm⟩
mutual
def roomB (most : Int) : Int → Tm → Bool
  | dp, .mk _ _ d nm _ l b => decide (0 ≤ dp) && (decide ((l.length : Int) ≤ most) && (decide ((b.length : Int) ≤ 5000) && (decide ((d.length : Int) ≤ 100) && (decide ((nm.size : Int) ≤ 1100) && roomsB most (dp - 1) l))))
def roomsB (most : Int) : Int → List Tm → Bool
  | _, [] => true
  | dp, t :: l => roomB most dp t && roomsB most dp l
end
theorem roomsB_all (most dp : Int) : ∀ l : List Tm, roomsB most dp l = l.all (roomB most dp)
  | [] => by simp [roomsB]
  | t :: l => by simp [roomsB, roomsB_all most dp l]
set_option maxHeartbeats 2000000 in
set_option maxRecDepth 4000 in
theorem Room_w (most : Int) (hm : most ≤ 1000000) : ∀ (N : Nat) (T : Tm) (v : Value) (dp : Int) (w : World), tsz T ≤ N → -1 ≤ dp → dp ≤ 1000 → TV (Low w) w T v →
    Calls Tryz.prog 12 #[v, .int .i64 dp, .int .i64 most] w fun e w' => e = .returned (.bool (roomB most dp T)) ∧ Below w.heap.size w w' := by
  intro N
  induction N with
  | zero => intro T v dp w h; cases T; simp only [tsz] at h; omega
  | succ N ih =>
  intro T v dp w hN hd0 hd1 hT
  cases T with | mk tk tneg td tnm tn tl tb =>
  unfold TV at hT
  obtain ⟨tod, tcd, tol, tcl, tob, tcb, rfl, _, _, _, _, _, htl, htR⟩ := hT
  have hB : Below w.heap.size w (w.alloc (.cells #[.int .i64 tk, .bool tneg, .slice tod td.length tcd, .string tnm, .int .i64 tn, .slice tol tl.length tcl, .slice tob tb.length tcb] 26)) := (Below.refl _ w).alloc (Nat.le_refl _) _
  have kA := Bx.new w (.int .i64 tk) (.bool tneg) (.slice tod td.length tcd) (.string tnm) (.int .i64 tn) (.slice tol tl.length tcl) (.slice tob tb.length tcb) 26
  have hIH := hid ih
  clear ih
  obtain ⟨R, hR⟩ : ∃ R, roomB most dp (.mk tk tneg td tnm tn tl tb) = R := ⟨_, rfl⟩
  rw [hR]
  unfold roomB at hR
  have hHR := hid hR
  clear hR
  by_cases c1 : dp < 0
  · have hRf : R = false := by rw [← hHR.out, decide_eq_false (by omega), Bool.false_and]
    subst hRf
    go_enter Tryz.func12, Tryz.ntmps12
    go_wp2
    go_ret
    exact ⟨rfl, hB⟩
  by_cases c2 : most < (tl.length : Int)
  · have hRf : R = false := by rw [← hHR.out, decide_eq_false (p := (tl.length : Int) ≤ most) (by omega), Bool.false_and, Bool.and_false]
    subst hRf
    go_enter Tryz.func12, Tryz.ntmps12
    go_wp2
    go_ret
    exact ⟨rfl, hB⟩
  by_cases c3 : (5000 : Int) < (tb.length : Int)
  · have hRf : R = false := by rw [← hHR.out, decide_eq_false (p := (tb.length : Int) ≤ 5000) (by omega)]; simp
    subst hRf
    go_enter Tryz.func12, Tryz.ntmps12
    go_wp2
    go_ret
    exact ⟨rfl, hB⟩
  by_cases c4 : (100 : Int) < (td.length : Int)
  · have hRf : R = false := by rw [← hHR.out, decide_eq_false (p := (td.length : Int) ≤ 100) (by omega)]; simp
    subst hRf
    go_enter Tryz.func12, Tryz.ntmps12
    go_wp2
    go_ret
    exact ⟨rfl, hB⟩
  by_cases c5 : (1100 : Int) < (tnm.size : Int)
  · have hRf : R = false := by rw [← hHR.out, decide_eq_false (p := (tnm.size : Int) ≤ 1100) (by omega)]; simp
    subst hRf
    go_enter Tryz.func12, Tryz.ntmps12
    go_wp2
    go_ret
    exact ⟨rfl, hB⟩
  have hHR2 : Hid (tl.all (roomB most (dp - 1)) = R) := hid (by
    have := hHR.out
    rw [decide_eq_true (by omega), decide_eq_true (by omega), decide_eq_true (by omega), decide_eq_true (by omega), decide_eq_true (by omega), roomsB_all] at this
    simpa using this)
  clear hHR
  go_enter Tryz.func12, Tryz.ntmps12
  go_wp2_with fail
  generalize (w.alloc (.cells #[.int .i64 tk, .bool tneg, .slice tod td.length tcd, .string tnm, .int .i64 tn, .slice tol tl.length tcl, .slice tob tb.length tcb] 26)) = W0 at *
  have hll : tl.length ≤ 1000000 := by omega
  have hdp : 0 ≤ dp := by omega
  clear c1 c2 c3 c4 c5
  go_loopg [7] tl.length (fun t v7 wr => ∃ i : Nat, t + i = tl.length ∧ v7 = .int .i64 (i : Int) ∧ Hid (∀ j x, j < i → tl[j]? = some x → roomB most (dp - 1) x = true) ∧ Bx w.heap.size (.int .i64 tk) (.bool tneg) (.slice tod td.length tcd) (.string tnm) (.int .i64 tn) (.slice tol tl.length tcl) (.slice tob tb.length tcb) wr ∧ Below w.heap.size w wr)
  case atStart => exact ⟨0, by omega, rfl, hid (fun j x hj => by omega), kA, hB⟩
  case round =>
    obtain ⟨i, hti, rfl, hH, kr, hBr⟩ := hrel
    clear kA hB
    obtain ⟨x0, x1, x2, x3, x4, x5, x6⟩ := kr.res
    by_cases hil : i = tl.length
    · subst hil
      have hRt : R = true := by
        rw [← hHR2.out, List.all_eq_true]
        intro x hx
        obtain ⟨j, hj, he⟩ := List.getElem_of_mem hx
        exact hH.out j x hj (by rw [List.getElem?_eq_getElem hj, he])
      subst hRt
      go_wp2
      go_ret
      exact ⟨rfl, hBr⟩
    · have hil' : i < tl.length := by omega
      have hii : ((i : Nat) : Int) < ((tl.length : Nat) : Int) := by omega
      obtain ⟨t, ht⟩ : ∃ t, tl[i]? = some t := ⟨tl[i], by simp [hil']⟩
      obtain ⟨a, k', neg', od', ld', cd', nm', n', ol', ll', cl', ob', lb', cb', rfl, hTv', y0, y1, y2, y3, y4, y5, y6⟩ := htR.get ht hBr
      have hsz : tsz t ≤ N := by have := tsz_mem ht; simp only [tsz] at hN; omega
      have hHt := hid ht
      clear ht
      go_wp2_with fail
      refine (hIH.out t _ (dp - 1) _ hsz (by omega) (by omega) hTv').mono ?_
      rintro e w2 ⟨rfl, b2⟩
      have hB2 := below_and hBr (by have := hBr.size; omega) b2
      have k2 := kr.below b2
      obtain ⟨bb, hbb⟩ : ∃ bb, roomB most (dp - 1) t = bb := ⟨_, rfl⟩
      rw [hbb]
      have hHb := hid hbb
      clear hbb hTv' x0 x1 x2 x3 x4 x5 x6 y0 y1 y2 y3 y4 y5 y6 b2 hBr kr
      cases bb with
      | false =>
        have hRf : R = false := by
          rw [← hHR2.out]
          cases hq : tl.all (roomB most (dp - 1)) with
          | false => rfl
          | true =>
            rw [List.all_eq_true] at hq
            have := hq t (List.mem_of_getElem? hHt.out)
            rw [hHb.out] at this; simp at this
        subst hRf
        go_wp2
        go_ret
        exact ⟨rfl, hB2⟩
      | true =>
        go_wp2
        go_roundg (tl.length - (i + 1))
        case measure => omega
        case rel =>
          refine ⟨i + 1, by omega, by go_num, hid (fun j x hj hx => ?_), k2, hB2⟩
          rcases Nat.lt_or_ge j i with h | h
          · exact hH.out j x h hx
          · have : j = i := by omega
            subst this
            rw [hHt.out] at hx
            injection hx with hx; subst hx
            exact hHb.out
end Go.Proofs.YtjacoodfhkaioabGreatDoor
namespace Go.Proofs.YtjacoodfhkaioabGreatDoor
open Go.ChangeShapes Go.WideShapes Go.ChangeAt Go.RowKit Go.Shelf
set_option linter.unusedSimpArgs false
set_option linter.unusedVariables false
set_option maxRecDepth 2000
theorem partsL_take {l : List Tm} {i : Nat} {t : Tm} (h : l[i]? = some t) : (partsL (l.take (i + 1))).length = (partsL (l.take i)).length + (parts t).length := by
  induction l generalizing i with
  | nil => simp at h
  | cons x l ih =>
    cases i with
    | zero => simp at h; subst h; simp [partsL]
    | succ i =>
      simp only [List.getElem?_cons_succ] at h
      simp only [List.take_succ_cons, partsL, List.length_append, ih h]; omega
theorem partsL_take_le (l : List Tm) (i : Nat) : (partsL (l.take i)).length ≤ (partsL l).length := by
  induction l generalizing i with
  | nil => simp [partsL]
  | cons x l ih =>
    cases i with
    | zero => simp [partsL]
    | succ i => simp only [List.take_succ_cons, partsL, List.length_append]; have := ih i; omega
theorem tr_end {M M' n p q : Nat} (hM : M' = M + 1) (hH : (n ≤ M → n = p + 1) ∧ (M < n → M < p + 1)) (hle : p ≤ q) (hs : p = q ∨ M < n) : min (q + 1) M' = min n M' := by
  subst hM
  rcases hs with rfl | h
  · rcases Nat.lt_or_ge M n with h | h
    · have := hH.2 h; omega
    · have := hH.1 h; omega
  · have := hH.2 h; omega
theorem tr_step {M M' n p p' k q : Nat} (hM : M' = M + 1) (h1 : n = p + 1) (h2 : p' = p + k) (h3 : min k M' = q) : (n + q ≤ M → n + q = p' + 1) ∧ (M < n + q → M < p' + 1) := by
  subst hM; omega
theorem mem_partsL {l : List Tm} {i : Nat} {t p : Tm} (h : l[i]? = some t) (hp : p ∈ parts t) : p ∈ partsL l := by
  induction l generalizing i with
  | nil => simp at h
  | cons x l ih =>
    cases i with
    | zero => simp at h; subst h; simp [partsL, hp]
    | succ i => simp only [List.getElem?_cons_succ] at h; simp only [partsL, List.mem_append]; exact .inr (ih h)
set_option maxHeartbeats 2000000 in
set_option maxRecDepth 4000 in
theorem rTree_w : ∀ (N : Nat) (T : Tm) (v : Value) (w : World), tsz T ≤ N → (∀ p ∈ parts T, p.ok1) → TV (Low w) w T v →
    Calls Tryz.prog 20 #[v] w fun e w' => e = .returned (.int .i64 ((treeN T : Nat) : Int)) ∧ Below w.heap.size w w' := by
  intro N
  induction N with
  | zero => intro T v w h; cases T; simp only [tsz] at h; omega
  | succ N ih =>
  intro T v w hN hok hT
  have hok1 := hok T (by rw [parts_eq]; simp)
  cases T with | mk tk tneg td tnm tn tl tb =>
  obtain ⟨_, _, hll, _, _⟩ : td.length ≤ 1000000 ∧ tnm.size ≤ 1000000 ∧ tl.length ≤ 1000000 ∧ tb.length ≤ 1000000 ∧ Lm 4294967296 td := hok1
  unfold TV at hT
  obtain ⟨tod, tcd, tol, tcl, tob, tcb, rfl, _, _, _, _, _, htl, htR⟩ := hT
  have hB : Below w.heap.size w (w.alloc (.cells #[.int .i64 tk, .bool tneg, .slice tod td.length tcd, .string tnm, .int .i64 tn, .slice tol tl.length tcl, .slice tob tb.length tcb] 26)) := (Below.refl _ w).alloc (Nat.le_refl _) _
  have kA := Bx.new w (.int .i64 tk) (.bool tneg) (.slice tod td.length tcd) (.string tnm) (.int .i64 tn) (.slice tol tl.length tcl) (.slice tob tb.length tcb) 26
  have hIH := hid ih
  clear ih
  obtain ⟨R, hR⟩ : ∃ R, treeN (.mk tk tneg td tnm tn tl tb) = R := ⟨_, rfl⟩
  rw [hR]
  unfold treeN at hR
  by_cases hk : tk = 4 ∨ tk = 6
  · have hp : parts (.mk tk tneg td tnm tn tl tb) = .mk tk tneg td tnm tn tl tb :: partsL tl := by simp [parts, hk]
    have hok2 : Hid (∀ p ∈ partsL tl, p.ok1) := hid (fun p hp' => hok p (by rw [hp]; simp [hp']))
    rw [hp] at hR
    simp only [List.length_cons] at hR
    have hHR := hid hR
    clear hR hp hok
    rcases hk with rfl | rfl
    · skip
      go_enter Tryz.func20, Tryz.ntmps20
      go_wp2_with fail
      generalize (w.alloc (.cells #[.int .i64 4, .bool tneg, .slice tod td.length tcd, .string tnm, .int .i64 tn, .slice tol tl.length tcl, .slice tob tb.length tcb] 26)) = W0 at *
      go_loopg [3, 4] tl.length (fun t v3 v4 wr => ∃ (i n : Nat), t + i = tl.length ∧ v3 = .int .i64 (n : Int) ∧ v4 = .int .i64 (i : Int) ∧ n ≤ 131073 ∧ Hid ((n ≤ 65536 → n = (partsL (tl.take i)).length + 1) ∧ (65536 < n → 65536 < (partsL (tl.take i)).length + 1)) ∧ Bx w.heap.size (.int .i64 4) (.bool tneg) (.slice tod td.length tcd) (.string tnm) (.int .i64 tn) (.slice tol tl.length tcl) (.slice tob tb.length tcb) wr ∧ Below w.heap.size w wr)
      case atStart => exact ⟨0, 1, by omega, rfl, rfl, by omega, hid (by simp [partsL]), kA, hB⟩
      case round =>
        obtain ⟨i, n, hti, rfl, rfl, hn, hH, kr, hBr⟩ := hrel
        clear kA hB
        obtain ⟨x0, x1, x2, x3, x4, x5, x6⟩ := kr.res
        by_cases hst : i = tl.length ∨ 65536 < n
        · have hRn : R = min n 65537 := by
            have h1 := hH.out
            rw [← hHR.out]
            exact tr_end (M := 65536) rfl h1 (partsL_take_le tl i) (hst.imp (fun h => by rw [h, List.take_length]) id)
          by_cases hn2 : n ≤ 65536
          · have hil : i = tl.length := by omega
            have hRn2 : R = n := by omega
            subst hRn2
            have e1 : ¬ ((i : Int) < (tl.length : Int)) := by omega
            have e2 : ((R : Nat) : Int) ≤ 65536 := by omega
            clear hst hRn hil
            go_wp2
            go_ret
            refine ⟨?_, hBr⟩
            first | rfl | (simp; omega)
          · have hRn2 : R = 65537 := by omega
            subst hRn2
            have e2 : ¬ ((n : Int) ≤ 65536) := by omega
            have e3 : (65537 : Int) ≤ (n : Int) := by omega
            clear hst hRn
            go_wp2
            all_goals (
              go_ret
              refine ⟨?_, hBr⟩
              first | rfl | (simp; omega))
        · have hil' : i < tl.length := by omega
          have hii : ((i : Nat) : Int) < ((tl.length : Nat) : Int) := by omega
          have hn6 : n ≤ 65536 := by omega
          have hn7 : ((n : Nat) : Int) ≤ 65536 := by omega
          clear hst
          obtain ⟨t, ht⟩ : ∃ t, tl[i]? = some t := ⟨tl[i], by simp [hil']⟩
          obtain ⟨a, k', neg', od', ld', cd', nm', n', ol', ll', cl', ob', lb', cb', rfl, hTv', y0, y1, y2, y3, y4, y5, y6⟩ := htR.get ht hBr
          have hsz : tsz t ≤ N := by have := tsz_mem ht; simp only [tsz] at hN; omega
          have hokt : ∀ p ∈ parts t, p.ok1 := fun p hp => hok2.out p (mem_partsL ht hp)
          have hHt := hid ht
          have hst2 := hid (partsL_take ht)
          clear ht
          go_wp2_with fail
          refine (hIH.out t _ _ hsz hokt hTv').mono ?_
          rintro e w2 ⟨rfl, b2⟩
          have hB2 := below_and hBr (by have := hBr.size; omega) b2
          have k2 := kr.below b2
          have htn : treeN t ≤ 65537 := Nat.min_le_right _ _
          clear hTv' x0 x1 x2 x3 x4 x5 x6 y0 y1 y2 y3 y4 y5 y6 b2 hBr kr hokt
          obtain ⟨q, hq⟩ : ∃ q, treeN t = q := ⟨_, rfl⟩
          rw [hq] at htn ⊢
          have hHq := hid hq
          clear hq
          go_wp2
          go_roundg (tl.length - (i + 1))
          case measure => omega
          case rel =>
            refine ⟨i + 1, n + q, by omega, by go_num, by go_num, by omega, hid ?_, k2, hB2⟩
            exact tr_step (M := 65536) rfl (hH.out.1 hn6) hst2.out hHq.out
    · skip
      go_enter Tryz.func20, Tryz.ntmps20
      go_wp2_with fail
      generalize (w.alloc (.cells #[.int .i64 6, .bool tneg, .slice tod td.length tcd, .string tnm, .int .i64 tn, .slice tol tl.length tcl, .slice tob tb.length tcb] 26)) = W0 at *
      go_loopg [3, 4] tl.length (fun t v3 v4 wr => ∃ (i n : Nat), t + i = tl.length ∧ v3 = .int .i64 (n : Int) ∧ v4 = .int .i64 (i : Int) ∧ n ≤ 131073 ∧ Hid ((n ≤ 65536 → n = (partsL (tl.take i)).length + 1) ∧ (65536 < n → 65536 < (partsL (tl.take i)).length + 1)) ∧ Bx w.heap.size (.int .i64 6) (.bool tneg) (.slice tod td.length tcd) (.string tnm) (.int .i64 tn) (.slice tol tl.length tcl) (.slice tob tb.length tcb) wr ∧ Below w.heap.size w wr)
      case atStart => exact ⟨0, 1, by omega, rfl, rfl, by omega, hid (by simp [partsL]), kA, hB⟩
      case round =>
        obtain ⟨i, n, hti, rfl, rfl, hn, hH, kr, hBr⟩ := hrel
        clear kA hB
        obtain ⟨x0, x1, x2, x3, x4, x5, x6⟩ := kr.res
        by_cases hst : i = tl.length ∨ 65536 < n
        · have hRn : R = min n 65537 := by
            have h1 := hH.out
            rw [← hHR.out]
            exact tr_end (M := 65536) rfl h1 (partsL_take_le tl i) (hst.imp (fun h => by rw [h, List.take_length]) id)
          by_cases hn2 : n ≤ 65536
          · have hil : i = tl.length := by omega
            have hRn2 : R = n := by omega
            subst hRn2
            have e1 : ¬ ((i : Int) < (tl.length : Int)) := by omega
            have e2 : ((R : Nat) : Int) ≤ 65536 := by omega
            clear hst hRn hil
            go_wp2
            go_ret
            refine ⟨?_, hBr⟩
            first | rfl | (simp; omega)
          · have hRn2 : R = 65537 := by omega
            subst hRn2
            have e2 : ¬ ((n : Int) ≤ 65536) := by omega
            have e3 : (65537 : Int) ≤ (n : Int) := by omega
            clear hst hRn
            go_wp2
            all_goals (
              go_ret
              refine ⟨?_, hBr⟩
              first | rfl | (simp; omega))
        · have hil' : i < tl.length := by omega
          have hii : ((i : Nat) : Int) < ((tl.length : Nat) : Int) := by omega
          have hn6 : n ≤ 65536 := by omega
          have hn7 : ((n : Nat) : Int) ≤ 65536 := by omega
          clear hst
          obtain ⟨t, ht⟩ : ∃ t, tl[i]? = some t := ⟨tl[i], by simp [hil']⟩
          obtain ⟨a, k', neg', od', ld', cd', nm', n', ol', ll', cl', ob', lb', cb', rfl, hTv', y0, y1, y2, y3, y4, y5, y6⟩ := htR.get ht hBr
          have hsz : tsz t ≤ N := by have := tsz_mem ht; simp only [tsz] at hN; omega
          have hokt : ∀ p ∈ parts t, p.ok1 := fun p hp => hok2.out p (mem_partsL ht hp)
          have hHt := hid ht
          have hst2 := hid (partsL_take ht)
          clear ht
          go_wp2_with fail
          refine (hIH.out t _ _ hsz hokt hTv').mono ?_
          rintro e w2 ⟨rfl, b2⟩
          have hB2 := below_and hBr (by have := hBr.size; omega) b2
          have k2 := kr.below b2
          have htn : treeN t ≤ 65537 := Nat.min_le_right _ _
          clear hTv' x0 x1 x2 x3 x4 x5 x6 y0 y1 y2 y3 y4 y5 y6 b2 hBr kr hokt
          obtain ⟨q, hq⟩ : ∃ q, treeN t = q := ⟨_, rfl⟩
          rw [hq] at htn ⊢
          have hHq := hid hq
          clear hq
          go_wp2
          go_roundg (tl.length - (i + 1))
          case measure => omega
          case rel =>
            refine ⟨i + 1, n + q, by omega, by go_num, by go_num, by omega, hid ?_, k2, hB2⟩
            exact tr_step (M := 65536) rfl (hH.out.1 hn6) hst2.out hHq.out
  · have hp : parts (.mk tk tneg td tnm tn tl tb) = [.mk tk tneg td tnm tn tl tb] := by simp [parts, hk]
    rw [hp] at hR
    have hR1 : R = 1 := by rw [← hR]; rfl
    subst hR1
    have e4 : (tk == 4) = false := by simp; omega
    have e6 : (tk == 6) = false := by simp; omega
    clear hR hp hk
    go_enter Tryz.func20, Tryz.ntmps20
    go_wp2
    go_ret
    exact ⟨rfl, hB⟩
end Go.Proofs.YtjacoodfhkaioabGreatDoor
namespace Go.Proofs.YtjacoodfhkaioabGreatDoor
open Go.ChangeShapes Go.WideShapes Go.ChangeAt Go.RowKit
set_option linter.unusedSimpArgs false
set_option linter.unusedVariables false
set_option maxRecDepth 2000
/-- two Norms are held against one another limb by limb: here of one number -/
theorem sameNum_w (va vb : Value) (Z : Int) (K : Nat) (w : World) (hK : K ≤ 1000000) (ha : IsC va Z K w) (hb : IsC vb Z K w) :
    Calls Tryz.prog 35 #[va, vb] w fun e w' => e = .returned (.bool true) ∧ Below w.heap.size w w' := by
  obtain ⟨oa, ca, rfl, hLa, hca, hka⟩ := ha
  obtain ⟨ob, cb, rfl, hLb, hcb, hkb⟩ := hb
  obtain ⟨bz, hbz⟩ : ∃ bz, decide (Z < 0) = bz := ⟨_, rfl⟩
  rw [hbz]
  generalize glim 4294967296 Z.natAbs = l at *
  clear hbz
  obtain ⟨kA, kB, hB0, hz0⟩ := boxes2 w (.bool bz) (.slice oa l.length ca) (.bool bz) (.slice ob l.length cb) 73 73
  have hbb : (bz != bz) = false := by cases bz <;> rfl
  have hll : ((l.length : Int) != (l.length : Int)) = false := by simp
  go_enter Tryz.func35, Tryz.ntmps35
  go_wp2
  generalize ((w.alloc (.cells #[.bool bz, .slice oa l.length ca] 73)).alloc (.cells #[.bool bz, .slice ob l.length cb] 73)) = W0 at *
  go_loopw [5] (fun iv wr => ∃ k : Nat, iv = .int .i64 (k : Int) ∧ k ≤ l.length ∧ Below W0.heap.size W0 wr) (fun iv _ => l.length - (intOf iv).toNat)
  case atStart => exact ⟨0, rfl, by omega, Below.refl _ _⟩
  case round =>
    obtain ⟨k, rfl, hk, hbw⟩ := hrel
    have hBw := below_and hB0 (Nat.le_refl _) hbw
    obtain ⟨f1, f2, f3, f4⟩ := id (kA.below hbw (by omega))
    obtain ⟨f5, f6, f7, f8⟩ := id (kB.below hbw (by omega))
    by_cases h1 : k < l.length
    · have h1z : (k : Int) < (l.length : Int) := by omega
      obtain ⟨x, hx⟩ : ∃ x, l[k]? = some x := ⟨l[k], by simp [h1]⟩
      obtain ⟨a, rfl, cx⟩ := (hLa.below hBw) k x hx
      obtain ⟨b, rfl, cy⟩ := (hLb.below hBw) k x hx
      go_wp2
      go_quiet (fail)
      go_wp2
      go_roundw
      case rel => exact ⟨k + 1, by go_num, by omega, below_drewNv hbw _⟩
      case measure => simp [intOf]; omega
    · have h1z : ¬ (k : Int) < (l.length : Int) := by omega
      go_wp2
      go_ret
      exact ⟨rfl, hBw⟩
end Go.Proofs.YtjacoodfhkaioabGreatDoor
namespace Go.Proofs.YtjacoodfhkaioabGreatDoor
open Go.ChangeShapes Go.WideShapes Go.ChangeAt Go.RowKit Go.Shelf
set_option linter.unusedSimpArgs false
set_option linter.unusedVariables false
set_option maxRecDepth 2000
def intT (Z : Int) : Tm := .mk 0 (decide (Z < 0)) (glim 4294967296 Z.natAbs) noS 0 [] []
theorem tv_int {S B : Nat} {w w' : World} {Z : Int} {o : Option Addr} {c : Nat} (h : w.ownsRow B 104 1 (.slice o (glim 4294967296 Z.natAbs).length c) (glim 4294967296 Z.natAbs).length (lim (glim 4294967296 Z.natAbs))) (hS : S ≤ B) (hk : ∀ g, B ≤ g → g < w.heap.size → w'.heap[g]? = w.heap[g]?) :
    TV (Zw S w') w' (intT Z) (tmV 0 (decide (Z < 0)) (.slice o (glim 4294967296 Z.natAbs).length c) noS 0 nilS nilS) := by
  have hc := own_sl h
  obtain ⟨_, _, e, hc⟩ := hc
  simp only [Value.slice.injEq, true_and] at e
  obtain ⟨rfl, rfl⟩ := e
  unfold intT TV
  refine ⟨o, c, none, 0, none, 0, rfl, own_ls h hS (fun g hg => ?_), hc, lm_glim (by omega) _, LsB.nil _ _ _, by simp, by simp, by unfold TR; trivial⟩
  subst hg
  obtain ⟨cur, hq, hB, _⟩ := own_blk h
  exact hk g hB (Array.getElem?_eq_some_iff.1 hq).1
theorem bx27 (w : World) (a0 a1 b0 b1 b2 b3 b4 b5 b6 : Value) (ta tb : TypeId) :
    Box w.heap.size a0 a1 ((w.alloc (.cells #[a0, a1] ta)).alloc (.cells #[b0, b1, b2, b3, b4, b5, b6] tb)) ∧ Bx (w.heap.size + 1) b0 b1 b2 b3 b4 b5 b6 ((w.alloc (.cells #[a0, a1] ta)).alloc (.cells #[b0, b1, b2, b3, b4, b5, b6] tb)) ∧ Below w.heap.size w ((w.alloc (.cells #[a0, a1] ta)).alloc (.cells #[b0, b1, b2, b3, b4, b5, b6] tb)) ∧ ((w.alloc (.cells #[a0, a1] ta)).alloc (.cells #[b0, b1, b2, b3, b4, b5, b6] tb)).heap.size = w.heap.size + 2 := by
  have h1 := Box.new w a0 a1 ta
  have h2 := Bx.new (w.alloc (.cells #[a0, a1] ta)) b0 b1 b2 b3 b4 b5 b6 tb
  rw [World.size_alloc] at h2
  exact ⟨h1.below ((Below.refl _ _).alloc (Nat.le_refl _) _) (by simp), h2, ((Below.refl _ w).alloc (Nat.le_refl _) _).alloc (by simp) _, by simp⟩
set_option maxHeartbeats 1000000 in
theorem Num_w (v : Value) (Z : Int) (K : Nat) (w : World) (hK : K ≤ 1000000) (h : IsN v Z K w) :
    Calls Tryz.prog 87 #[v] w fun e w' => ∃ v', e = .returned v' ∧ TV (Zw w.heap.size w') w' (intT Z) v' ∧ (glim 4294967296 Z.natAbs).length ≤ K ∧ Below w.heap.size w w' := by
  have hN : ∀ w', Below w.heap.size w w' → IsN v Z K w' := fun w' hb => h.below hb
  obtain ⟨neg, o, l, c, rfl, hL, hc, hm, hs, hk⟩ := h
  clear hL hc hm hs hk
  obtain ⟨kA, kB, hB0, hz0⟩ := bx27 w (.bool neg) (.slice o l.length c) (.int .i64 0) (.bool false) nilS (.string noS) (.int .i64 0) nilS nilS 84 26
  go_enter Tryz.func87, Tryz.ntmps87
  go_wp2_with fail
  generalize ((w.alloc (.cells #[.bool neg, .slice o l.length c] 84)).alloc (.cells #[.int .i64 0, .bool false, .slice none 0 0, .string { data := #[] }, .int .i64 0, .slice none 0 0, .slice none 0 0] 26)) = W0 at *
  refine (norm_w _ Z K _ hK (hN _ hB0)).mono ?_
  rintro e w1 ⟨sl, rfl, hF, hKK, b1⟩
  obtain ⟨o1, c1, rfl, _, _, _⟩ := hF.parts
  have hF' : w1.ownsRow (w.heap.size + 2) 104 1 (.slice o1 (glim 4294967296 Z.natAbs).length c1) (glim 4294967296 Z.natAbs).length (lim (glim 4294967296 Z.natAbs)) := own_mono (show w1.ownsRow W0.heap.size 104 1 _ _ _ from hF) (by omega)
  clear hF
  have hHF := hid hF'
  clear hF'
  have hB1 := below_and hB0 (by omega) b1
  have kA1 := kA.below b1 (by omega)
  have kB1 := kB.below b1
  have hz1 := b1.size
  clear hB0 kA kB b1 hN
  obtain ⟨f1, f2, f3, f4⟩ := id kA1
  have kA2 : Box w.heap.size (.bool (decide (Z < 0))) (.slice o1 (glim 4294967296 Z.natAbs).length c1) ((w1.setCell ⟨w.heap.size, 0, none⟩ (.bool (decide (Z < 0)))).setCell ⟨w.heap.size, 1, none⟩ (.slice o1 (glim 4294967296 Z.natAbs).length c1)) := kA1.put
  have ho2 : Only w.heap.size w1 ((w1.setCell ⟨w.heap.size, 0, none⟩ (.bool (decide (Z < 0)))).setCell ⟨w.heap.size, 1, none⟩ (.slice o1 (glim 4294967296 Z.natAbs).length c1)) := (only_set w1 w.heap.size 0 _).setCell 1 _
  have kB2 := kB1.only ho2 (by omega)
  have hB2 := hB1.trans (ho2.below (B := w.heap.size) (Nat.le_refl _))
  have hz2 := ho2.2.1
  go_upto_region 2 with fail
  clear f1 f2 f3 f4 kA1 kB1
  generalize hW2 : (w1.setCell ⟨w.heap.size, 0, none⟩ (.bool (decide (Z < 0)))).setCell ⟨w.heap.size, 1, none⟩ (.slice o1 (glim 4294967296 Z.natAbs).length c1) = w2 at *
  clear hW2
  obtain ⟨f1, f2, f3, f4⟩ := id kA2
  have hf := kB2.fr
  obtain ⟨g0, g1, g2, g3, g4, g5, g6⟩ := kB2.res
  obtain ⟨zb, hzb⟩ : ∃ zb, decide (Z < 0) = zb := ⟨_, rfl⟩
  have hHz := hid hzb
  rw [hzb] at f1 ⊢
  clear hzb
  have hput := kB2.put (b0 := .int .i64 0) (b1 := .bool zb) (b2 := .slice o1 (glim 4294967296 Z.natAbs).length c1) (b3 := .string noS) (b4 := .int .i64 0) (b5 := nilS) (b6 := nilS)
  have hon := only_put w2 (w.heap.size + 1) (.int .i64 0) (.bool zb) (.slice o1 (glim 4294967296 Z.natAbs).length c1) (.string noS) (.int .i64 0) nilS nilS
  obtain ⟨r0, r1, r2, r3, r4, r5, r6⟩ := hput.res
  have hfin : TV (Zw w.heap.size (((((((w2.setCell ⟨w.heap.size + 1, 0, none⟩ (.int .i64 0)).setCell ⟨w.heap.size + 1, 1, none⟩ (.bool zb)).setCell ⟨w.heap.size + 1, 2, none⟩ (.slice o1 (glim 4294967296 Z.natAbs).length c1)).setCell ⟨w.heap.size + 1, 3, none⟩ (.string noS)).setCell ⟨w.heap.size + 1, 4, none⟩ (.int .i64 0)).setCell ⟨w.heap.size + 1, 5, none⟩ nilS).setCell ⟨w.heap.size + 1, 6, none⟩ nilS)) (((((((w2.setCell ⟨w.heap.size + 1, 0, none⟩ (.int .i64 0)).setCell ⟨w.heap.size + 1, 1, none⟩ (.bool zb)).setCell ⟨w.heap.size + 1, 2, none⟩ (.slice o1 (glim 4294967296 Z.natAbs).length c1)).setCell ⟨w.heap.size + 1, 3, none⟩ (.string noS)).setCell ⟨w.heap.size + 1, 4, none⟩ (.int .i64 0)).setCell ⟨w.heap.size + 1, 5, none⟩ nilS).setCell ⟨w.heap.size + 1, 6, none⟩ nilS) (intT Z) (tmV 0 zb (.slice o1 (glim 4294967296 Z.natAbs).length c1) noS 0 nilS nilS) := by
    have := tv_int (S := w.heap.size) (w' := (((((((w2.setCell ⟨w.heap.size + 1, 0, none⟩ (.int .i64 0)).setCell ⟨w.heap.size + 1, 1, none⟩ (.bool zb)).setCell ⟨w.heap.size + 1, 2, none⟩ (.slice o1 (glim 4294967296 Z.natAbs).length c1)).setCell ⟨w.heap.size + 1, 3, none⟩ (.string noS)).setCell ⟨w.heap.size + 1, 4, none⟩ (.int .i64 0)).setCell ⟨w.heap.size + 1, 5, none⟩ nilS).setCell ⟨w.heap.size + 1, 6, none⟩ nilS)) hHF.out (by omega) (fun g hg hg2 => (hon.2.2 g (by omega)).trans (ho2.2.2 g (by omega)))
    rw [hHz.out] at this
    exact this
  have hBf := hB2.trans (hon.below (B := w.heap.size) (by omega))
  have hHf := hid hfin
  have hHk := hid hKK
  clear hfin hHF hon ho2 hB2 hB1 hKK
  go_wp2
  exact bodyPost_ret (v := tmV 0 zb (.slice o1 (glim 4294967296 Z.natAbs).length c1) noS 0 nilS nilS) (by simp [results, Tryz.results87, go_sem, r0, r1, r2, r3, r4, r5, r6]) rfl ⟨_, rfl, hHf.out, hHk.out, hBf⟩
theorem bx1 (w : World) (b0 b1 b2 b3 b4 b5 b6 : Value) (tb : TypeId) :
    Bx w.heap.size b0 b1 b2 b3 b4 b5 b6 (w.alloc (.cells #[b0, b1, b2, b3, b4, b5, b6] tb)) ∧ Below w.heap.size w (w.alloc (.cells #[b0, b1, b2, b3, b4, b5, b6] tb)) ∧ (w.alloc (.cells #[b0, b1, b2, b3, b4, b5, b6] tb)).heap.size = w.heap.size + 1 :=
  ⟨Bx.new w b0 b1 b2 b3 b4 b5 b6 tb, (Below.refl _ w).alloc (Nat.le_refl _) _, by simp⟩
def atomT (nm : ByteArray) : Tm := .mk 1 false [] nm 0 [] []
theorem tv_flat {Z : Nat → Prop} {w : World} (k : Int) (nm : ByteArray) (n : Int) : TV Z w (.mk k false [] nm n [] []) (tmV k false nilS nm n nilS nilS) := by
  unfold TV
  exact ⟨none, 0, none, 0, none, 0, rfl, Ls.nil _ _ _, by simp, Lm.nil _, LsB.nil _ _ _, by simp, by simp, by unfold TR; trivial⟩
theorem ok_flat (k : Int) {nm : ByteArray} (n : Int) (h : nm.size ≤ 1000000) : (Tm.mk k false [] nm n [] []).ok1 := ⟨by simp, h, by simp, by simp, Lm.nil _⟩
set_option maxHeartbeats 1000000 in
theorem Atom_w (nm : ByteArray) (w : World) (hn : nm.size ≤ 1000000) :
    Calls Tryz.prog 90 #[.string nm] w fun e w' => ∃ v', e = .returned v' ∧ TV (Zw w.heap.size w') w' (atomT nm) v' ∧ Below w.heap.size w w' := by
  obtain ⟨kX, hBX, hz0⟩ := bx1 w (.int .i64 0) (.bool false) nilS (.string noS) (.int .i64 0) nilS nilS 26
  go_enter Tryz.func90, Tryz.ntmps90
  go_wp2_with fail
  generalize (w.alloc (.cells #[.int .i64 0, .bool false, .slice none 0 0, .string { data := #[] }, .int .i64 0, .slice none 0 0, .slice none 0 0] 26)) = W0 at *
  refine (Copy_w (atomT nm) _ _ (by simp [atomT, parts]) (by simp only [atomT, parts]; intro p hp; simp at hp; subst hp; exact ok_flat _ _ hn) (tv_flat 1 nm 0)).mono ?_
  rintro e w2 ⟨v2, rfl, hV, b2⟩
  have hcp : cpT (atomT nm) = atomT nm := by simp [atomT, cpT, prT]
  rw [hcp] at hV
  clear hcp
  have hBX := below_and hBX (by omega) b2
  have kX := kX.below b2
  clear b2
  obtain ⟨k9, neg9, od9, ld9, cd9, nm9, n9, ol9, ll9, cl9, ob9, lb9, cb9, rfl⟩ := hV.form
  have hf9 := kX.fr
  obtain ⟨x0, x1, x2, x3, x4, x5, x6⟩ := kX.res
  have hput := kX.put (b0 := .int .i64 k9) (b1 := .bool neg9) (b2 := .slice od9 ld9 cd9) (b3 := .string nm9) (b4 := .int .i64 n9) (b5 := .slice ol9 ll9 cl9) (b6 := .slice ob9 lb9 cb9)
  have hon := only_put w2 w.heap.size (.int .i64 k9) (.bool neg9) (.slice od9 ld9 cd9) (.string nm9) (.int .i64 n9) (.slice ol9 ll9 cl9) (.slice ob9 lb9 cb9)
  obtain ⟨r0, r1, r2, r3, r4, r5, r6⟩ := hput.res
  have hfin := hid (zw_move (S' := w.heap.size) hV (fun k hk _ => hon.2.2 k (by omega)) (by omega))
  have hBf := hBX.trans (hon.below (B := w.heap.size) (by omega))
  clear hV hon kX hput hBX
  go_wp2
  exact bodyPost_ret (v := tmV k9 neg9 (.slice od9 ld9 cd9) nm9 n9 (.slice ol9 ll9 cl9) (.slice ob9 lb9 cb9)) (by simp [results, Tryz.results90, go_sem, r0, r1, r2, r3, r4, r5, r6]) rfl ⟨_, rfl, hfin.out, hBf⟩
end Go.Proofs.YtjacoodfhkaioabGreatDoor
namespace Go.Proofs.YtjacoodfhkaioabGreatDoor
open Go.ChangeShapes Go.WideShapes Go.ChangeAt Go.RowKit Go.Shelf
set_option linter.unusedSimpArgs false
set_option linter.unusedVariables false
set_option maxRecDepth 2000
def nilT : Tm := .mk 5 false [] noS 0 [] []
def consT (a b : Tm) : Tm := .mk 6 false [] noS 0 [a, b] []
/-- two terms in a row of two -/
theorem tr_two {Z : Nat → Prop} {w : World} {t t' : Tm} {k k' : Int} {neg neg' : Bool} {od od' : Option Addr} {ld cd ld' cd' : Nat} {nm nm' : ByteArray} {n n' : Int} {ol ol' : Option Addr} {ll cl ll' cl' : Nat} {ob ob' : Option Addr} {lb cb lb' cb' : Nat} {g : Nat}
    (h : TV Z w t (tmV k neg (.slice od ld cd) nm n (.slice ol ll cl) (.slice ob lb cb))) (h' : TV Z w t' (tmV k' neg' (.slice od' ld' cd') nm' n' (.slice ol' ll' cl') (.slice ob' lb' cb'))) {ty : TypeId}
    (hg : w.heap[g]? = some (.cells #[.int .i64 k, .bool neg, .slice od ld cd, .string nm, .int .i64 n, .slice ol ll cl, .slice ob lb cb, .int .i64 k', .bool neg', .slice od' ld' cd', .string nm', .int .i64 n', .slice ol' ll' cl', .slice ob' lb' cb'] ty (0, 0))) (hZ : Z g) :
    TR Z w [t, t'] (some ⟨g, 0, none⟩) := by
  have q : ∀ j, w.cell? ((⟨g, 0, none⟩ : Addr).add j) = (#[.int .i64 k, .bool neg, .slice od ld cd, .string nm, .int .i64 n, .slice ol ll cl, .slice ob lb cb, .int .i64 k', .bool neg', .slice od' ld' cd', .string nm', .int .i64 n', .slice ol' ll' cl', .slice ob' lb' cb'] : Array Value)[j]? := fun j => by
    rw [addr_add, Nat.zero_add]; simp [World.cell?, hg]
  have q7 : ∀ j, w.cell? (((⟨g, 0, none⟩ : Addr).add 7).add j) = (#[.int .i64 k, .bool neg, .slice od ld cd, .string nm, .int .i64 n, .slice ol ll cl, .slice ob lb cb, .int .i64 k', .bool neg', .slice od' ld' cd', .string nm', .int .i64 n', .slice ol' ll' cl', .slice ob' lb' cb'] : Array Value)[7 + j]? := fun j => by
    rw [add_add]; exact q _
  have q0 := q 0
  have q70 := q7 0
  rw [add_zero] at q0 q70
  unfold TR
  refine ⟨_, _, rfl, hZ, ⟨_, _, _, _, _, _, _, rfl, q0, q 1, q 2, q 3, q 4, q 5, q 6⟩, h, ?_⟩
  unfold TR
  exact ⟨_, _, rfl, by rw [block_add]; exact hZ, ⟨_, _, _, _, _, _, _, rfl, q70, q7 1, q7 2, q7 3, q7 4, q7 5, q7 6⟩, h', by unfold TR; trivial⟩
theorem drop_at {l : List Tm} {i : Nat} {t : Tm} (h : l[i]? = some t) : l.drop i = t :: l.drop (i + 1) := by
  obtain ⟨hi, he⟩ := List.getElem?_eq_some_iff.1 h
  rw [List.drop_eq_getElem_cons hi, he]
end Go.Proofs.YtjacoodfhkaioabGreatDoor
namespace Go.Proofs.YtjacoodfhkaioabGreatDoor
open Go.ChangeShapes Go.WideShapes Go.ChangeAt Go.RowKit Go.Shelf
set_option linter.unusedSimpArgs false
set_option linter.unusedVariables false
set_option maxRecDepth 2000
theorem sv_int (Z : Int) : sv (decide (Z < 0)) (gval 4294967296 (glim 4294967296 Z.natAbs)) = Z := by
  rw [gval_glim (by omega)]
  unfold sv
  by_cases hz : Z < 0
  · simp only [hz, decide_true, if_true]; omega
  · simp only [hz, decide_false, Bool.false_eq_true, if_false]; omega
theorem parts_int (Z : Int) : parts (intT Z) = [intT Z] := by simp [intT, parts]
theorem ok_int {Z : Int} (h : (glim 4294967296 Z.natAbs).length ≤ 1000000) : (intT Z).ok1 := ⟨h, by decide, by simp, by simp, lm_glim (by omega) _⟩
theorem parts_atom (nm : ByteArray) : parts (atomT nm) = [atomT nm] := by simp [atomT, parts]
theorem parts_nil : parts nilT = [nilT] := by simp [nilT, parts]
theorem parts_cons (a b : Tm) : parts (consT a b) = consT a b :: (parts a ++ parts b) := by simp [consT, parts, partsL]
theorem ok_cons (a b : Tm) : (consT a b).ok1 := ⟨by simp, by decide, by simp, by simp, Lm.nil _⟩
end Go.Proofs.YtjacoodfhkaioabGreatDoor
namespace Go.Proofs.YtjacoodfhkaioabGreatDoor
open Go.ChangeShapes Go.WideShapes Go.ChangeAt Go.RowKit Go.Shelf
set_option linter.unusedSimpArgs false
set_option linter.unusedVariables false
set_option maxRecDepth 2000
theorem rnorm_c (v : Value) (Z : Int) (K : Nat) (w : World) (hK : K ≤ 1000000) (h : IsN v Z K w) :
    Calls Tryz.prog 36 #[v] w fun e w' => ∃ b o n c, e = .returned (.agg #[.bool b, .slice o n c]) ∧ IsC (.agg #[.bool b, .slice o n c]) Z K w' ∧ Below w.heap.size w w' := by
  refine (rnorm_w v Z K w hK h).mono ?_
  rintro e w' ⟨sl, rfl, hF, hKK, hb⟩
  obtain ⟨o1, c1, rfl, _, _, _⟩ := hF.parts
  exact ⟨_, _, _, _, rfl, hF.isC hKK, hb⟩
end Go.Proofs.YtjacoodfhkaioabGreatDoor
namespace Go.Proofs.YtjacoodfhkaioabGreatDoor
open Go.ChangeShapes Go.WideShapes Go.ChangeAt Go.RowKit Go.Shelf
set_option linter.unusedSimpArgs false
set_option linter.unusedVariables false
set_option maxRecDepth 2000
theorem sameNum_ne (na nb : Bool) (oa ob : Option Addr) (la lb ca cb : Nat) (w : World) (h : na ≠ nb ∨ la ≠ lb) :
    Calls Tryz.prog 35 #[.agg #[.bool na, .slice oa la ca], .agg #[.bool nb, .slice ob lb cb]] w fun e w' => e = .returned (.bool false) ∧ Below w.heap.size w w' := by
  obtain ⟨kA, kB, hB0, hz0⟩ := boxes2 w (.bool na) (.slice oa la ca) (.bool nb) (.slice ob lb cb) 73 73
  by_cases hb : na = nb
  · subst hb
    have hbb : (na != na) = false := by cases na <;> rfl
    have hl : la ≠ lb := h.resolve_left (fun e => e rfl)
    have hll : ((la : Int) != (lb : Int)) = true := by simp; omega
    clear h hl
    go_enter Tryz.func35, Tryz.ntmps35
    go_wp2
    all_goals (go_ret; exact ⟨rfl, hB0⟩)
  · have hbb : (na != nb) = true := by simpa using hb
    clear h
    go_enter Tryz.func35, Tryz.ntmps35
    go_wp2
    all_goals (go_ret; exact ⟨rfl, hB0⟩)
/-- a number held against its Norm -/
theorem sameNorm_w (neg : Bool) (d : List Nat) (od o : Option Addr) (cd c : Nat) (b : Bool) (n K : Nat) (w : World) (hK : K ≤ 1000000) (hm : Lm 4294967296 d) (hL : Lies od d w) (hd : d.length ≤ K) (hcd : d.length ≤ cd) (hC : IsC (.agg #[.bool b, .slice o n c]) (sv neg (gval 4294967296 d)) K w) :
    Calls Tryz.prog 35 #[.agg #[.bool neg, .slice od d.length cd], .agg #[.bool b, .slice o n c]] w fun e w' => e = .returned (.bool (normB neg d)) ∧ Below w.heap.size w w' := by
  have hnat : (sv neg (gval 4294967296 d)).natAbs = gval 4294967296 d := by unfold sv; cases neg <;> simp
  obtain ⟨hb, hn⟩ := hC.parts
  by_cases h : normB neg d = true
  · rw [h]
    unfold normB at h
    simp only [Bool.and_eq_true, beq_iff_eq] at h
    have hlen : (glim 4294967296 (sv neg (gval 4294967296 d)).natAbs).length = d.length := by omega
    have hgl : glim 4294967296 (sv neg (gval 4294967296 d)).natAbs = d := by
      obtain ⟨k, hk, hg⟩ := glim_is_take hm
      rw [hnat] at hlen ⊢
      rw [hg, List.length_take] at hlen
      rw [hg, List.take_of_length_le (by omega)]
    refine sameNum_w _ _ (sv neg (gval 4294967296 d)) K w hK ⟨od, cd, ?_, ?_, ?_, ?_⟩ hC
    · rw [hgl, h.1]
    · rw [hgl]; exact hL
    · rw [hgl]; exact hcd
    · rw [hgl]; exact hd
  · have hf : normB neg d = false := by simpa using h
    rw [hf]
    refine sameNum_ne _ _ _ _ _ _ _ _ w ?_
    unfold normB at h
    simp only [Bool.and_eq_true, beq_iff_eq, not_and] at h
    by_cases e : neg = b
    · right
      intro e2
      exact h (by rw [← hb, e]) (by rw [hn] at e2; omega)
    · left; exact e
end Go.Proofs.YtjacoodfhkaioabGreatDoor
namespace Go.Proofs.YtjacoodfhkaioabGreatDoor
open Go.ChangeShapes Go.WideShapes Go.ChangeAt Go.RowKit Go.Shelf
set_option linter.unusedSimpArgs false
set_option linter.unusedVariables false
set_option maxRecDepth 2000
abbrev MayC (k : Int) (neg : Bool) (od : Option Addr) (ld cd : Nat) (nm : ByteArray) (n : Int) (ol : Option Addr) (ll cl : Nat) (ob : Option Addr) (lb cb : Nat) (w : World) (r : Bool) : Prop :=
  Calls Tryz.prog 21 #[tmV k neg (.slice od ld cd) nm n (.slice ol ll cl) (.slice ob lb cb)] w fun e w' => e = .returned (.bool r) ∧ Below w.heap.size w w'
set_option maxHeartbeats 2000000 in
set_option maxRecDepth 8000 in
theorem bad1a (od : Option Addr) (cd : Nat) (ol : Option Addr) (cl : Nat) (ob : Option Addr) (cb : Nat) (w : World) (k : Int) (ld : Nat) (nm : ByteArray) (n : Int) (ll lb : Nat) (h0 : (k != 0) = true) : MayC k true od ld cd nm n ol ll cl ob lb cb w false := by
  go_enter Tryz.func21, Tryz.ntmps21
  simp only [List.append_eq, List.cons_append, List.nil_append]
  go_wp2
  go_ret
  exact ⟨rfl, (Below.refl _ w).alloc (Nat.le_refl _) _⟩
set_option maxHeartbeats 2000000 in
set_option maxRecDepth 8000 in
theorem bad1b (od : Option Addr) (cd : Nat) (ol : Option Addr) (cl : Nat) (ob : Option Addr) (cb : Nat) (w : World) (k : Int) (ld : Nat) (nm : ByteArray) (n : Int) (ll lb : Nat) (h0 : (k != 0) = true) (hd : (0 : Int) < (ld : Int)) : MayC k false od ld cd nm n ol ll cl ob lb cb w false := by
  go_enter Tryz.func21, Tryz.ntmps21
  simp only [List.append_eq, List.cons_append, List.nil_append]
  go_wp2
  go_ret
  exact ⟨rfl, (Below.refl _ w).alloc (Nat.le_refl _) _⟩
set_option maxHeartbeats 2000000 in
set_option maxRecDepth 8000 in
theorem bad2a (od : Option Addr) (cd : Nat) (ol : Option Addr) (cl : Nat) (ob : Option Addr) (cb : Nat) (w : World) (neg : Bool) (ld : Nat) (nm : ByteArray) (n : Int) (ll lb : Nat) (hq : nm.toList ≠ []) : MayC 0 neg od ld cd nm n ol ll cl ob lb cb w false := by
  go_enter Tryz.func21, Tryz.ntmps21
  simp only [List.append_eq, List.cons_append, List.nil_append]
  go_wp2
  go_ret
  exact ⟨rfl, (Below.refl _ w).alloc (Nat.le_refl _) _⟩
set_option maxHeartbeats 2000000 in
set_option maxRecDepth 8000 in
theorem bad2b (od : Option Addr) (cd : Nat) (ol : Option Addr) (cl : Nat) (ob : Option Addr) (cb : Nat) (w : World) (k : Int) (nm : ByteArray) (n : Int) (ll lb : Nat) (h0 : (k != 0) = true) (h1 : (k != 1) = true) (hq : nm.toList ≠ []) : MayC k false od 0 cd nm n ol ll cl ob lb cb w false := by
  go_enter Tryz.func21, Tryz.ntmps21
  simp only [List.append_eq, List.cons_append, List.nil_append]
  go_wp2
  go_ret
  exact ⟨rfl, (Below.refl _ w).alloc (Nat.le_refl _) _⟩
set_option maxHeartbeats 2000000 in
set_option maxRecDepth 8000 in
theorem bad3a (od : Option Addr) (cd : Nat) (ol : Option Addr) (cl : Nat) (ob : Option Addr) (cb : Nat) (w : World) (neg : Bool) (ld : Nat) (nm : ByteArray) (n : Int) (ll lb : Nat) (hn : nm.toList = []) (hz : (n != 0) = true) : MayC 0 neg od ld cd nm n ol ll cl ob lb cb w false := by
  go_enter Tryz.func21, Tryz.ntmps21
  simp only [List.append_eq, List.cons_append, List.nil_append]
  go_wp2
  go_ret
  exact ⟨rfl, (Below.refl _ w).alloc (Nat.le_refl _) _⟩
set_option maxHeartbeats 2000000 in
set_option maxRecDepth 8000 in
theorem bad3b (od : Option Addr) (cd : Nat) (ol : Option Addr) (cl : Nat) (ob : Option Addr) (cb : Nat) (w : World) (nm : ByteArray) (n : Int) (ll lb : Nat) (hz : (n != 0) = true) : MayC 1 false od 0 cd nm n ol ll cl ob lb cb w false := by
  go_enter Tryz.func21, Tryz.ntmps21
  simp only [List.append_eq, List.cons_append, List.nil_append]
  go_wp2
  go_ret
  exact ⟨rfl, (Below.refl _ w).alloc (Nat.le_refl _) _⟩
set_option maxHeartbeats 2000000 in
set_option maxRecDepth 8000 in
theorem bad3c (od : Option Addr) (cd : Nat) (ol : Option Addr) (cl : Nat) (ob : Option Addr) (cb : Nat) (w : World) (k : Int) (nm : ByteArray) (n : Int) (ll lb : Nat) (h0 : (k != 0) = true) (h1 : (k != 1) = true) (h2 : (k != 2) = true) (h3 : (k != 3) = true) (hn : nm.toList = []) (hz : (n != 0) = true) : MayC k false od 0 cd nm n ol ll cl ob lb cb w false := by
  go_enter Tryz.func21, Tryz.ntmps21
  simp only [List.append_eq, List.cons_append, List.nil_append]
  go_wp2
  go_ret
  exact ⟨rfl, (Below.refl _ w).alloc (Nat.le_refl _) _⟩
set_option maxHeartbeats 2000000 in
set_option maxRecDepth 8000 in
theorem bad4a (od : Option Addr) (cd : Nat) (ol : Option Addr) (cl : Nat) (ob : Option Addr) (cb : Nat) (w : World) (neg : Bool) (ld : Nat) (nm : ByteArray) (ll lb : Nat) (hn : nm.toList = []) (hl : (0 : Int) < (ll : Int)) : MayC 0 neg od ld cd nm 0 ol ll cl ob lb cb w false := by
  go_enter Tryz.func21, Tryz.ntmps21
  simp only [List.append_eq, List.cons_append, List.nil_append]
  go_wp2
  go_ret
  exact ⟨rfl, (Below.refl _ w).alloc (Nat.le_refl _) _⟩
set_option maxHeartbeats 2000000 in
set_option maxRecDepth 8000 in
theorem bad4b (od : Option Addr) (cd : Nat) (ol : Option Addr) (cl : Nat) (ob : Option Addr) (cb : Nat) (w : World) (nm : ByteArray) (ll lb : Nat) (hl : (0 : Int) < (ll : Int)) : MayC 1 false od 0 cd nm 0 ol ll cl ob lb cb w false := by
  go_enter Tryz.func21, Tryz.ntmps21
  simp only [List.append_eq, List.cons_append, List.nil_append]
  go_wp2
  go_ret
  exact ⟨rfl, (Below.refl _ w).alloc (Nat.le_refl _) _⟩
set_option maxHeartbeats 2000000 in
set_option maxRecDepth 8000 in
theorem bad4c (od : Option Addr) (cd : Nat) (ol : Option Addr) (cl : Nat) (ob : Option Addr) (cb : Nat) (w : World) (nm : ByteArray) (n : Int) (ll lb : Nat) (hn : nm.toList = []) (hl : (0 : Int) < (ll : Int)) : MayC 2 false od 0 cd nm n ol ll cl ob lb cb w false := by
  go_enter Tryz.func21, Tryz.ntmps21
  simp only [List.append_eq, List.cons_append, List.nil_append]
  go_wp2
  go_ret
  exact ⟨rfl, (Below.refl _ w).alloc (Nat.le_refl _) _⟩
set_option maxHeartbeats 2000000 in
set_option maxRecDepth 8000 in
theorem bad4d (od : Option Addr) (cd : Nat) (ol : Option Addr) (cl : Nat) (ob : Option Addr) (cb : Nat) (w : World) (nm : ByteArray) (n : Int) (ll lb : Nat) (hn : nm.toList = []) (hl : (0 : Int) < (ll : Int)) : MayC 3 false od 0 cd nm n ol ll cl ob lb cb w false := by
  go_enter Tryz.func21, Tryz.ntmps21
  simp only [List.append_eq, List.cons_append, List.nil_append]
  go_wp2
  go_ret
  exact ⟨rfl, (Below.refl _ w).alloc (Nat.le_refl _) _⟩
set_option maxHeartbeats 2000000 in
set_option maxRecDepth 8000 in
theorem bad4e (od : Option Addr) (cd : Nat) (ol : Option Addr) (cl : Nat) (ob : Option Addr) (cb : Nat) (w : World) (k : Int) (nm : ByteArray) (ll lb : Nat) (h0 : (k != 0) = true) (h1 : (k != 1) = true) (h2 : (k != 2) = true) (h3 : (k != 3) = true) (h4 : (k != 4) = true) (h6 : (k != 6) = true) (hn : nm.toList = []) (hl : (0 : Int) < (ll : Int)) : MayC k false od 0 cd nm 0 ol ll cl ob lb cb w false := by
  go_enter Tryz.func21, Tryz.ntmps21
  simp only [List.append_eq, List.cons_append, List.nil_append]
  go_wp2
  go_ret
  exact ⟨rfl, (Below.refl _ w).alloc (Nat.le_refl _) _⟩
set_option maxHeartbeats 2000000 in
set_option maxRecDepth 8000 in
theorem bad5a (od : Option Addr) (cd : Nat) (ol : Option Addr) (cl : Nat) (ob : Option Addr) (cb : Nat) (w : World) (neg : Bool) (ld : Nat) (nm : ByteArray) (lb : Nat) (hn : nm.toList = []) (hb : (0 : Int) < (lb : Int)) : MayC 0 neg od ld cd nm 0 ol 0 cl ob lb cb w false := by
  go_enter Tryz.func21, Tryz.ntmps21
  simp only [List.append_eq, List.cons_append, List.nil_append]
  go_wp2
  go_ret
  exact ⟨rfl, (Below.refl _ w).alloc (Nat.le_refl _) _⟩
set_option maxHeartbeats 2000000 in
set_option maxRecDepth 8000 in
theorem bad5b (od : Option Addr) (cd : Nat) (ol : Option Addr) (cl : Nat) (ob : Option Addr) (cb : Nat) (w : World) (nm : ByteArray) (lb : Nat) (hb : (0 : Int) < (lb : Int)) : MayC 1 false od 0 cd nm 0 ol 0 cl ob lb cb w false := by
  go_enter Tryz.func21, Tryz.ntmps21
  simp only [List.append_eq, List.cons_append, List.nil_append]
  go_wp2
  go_ret
  exact ⟨rfl, (Below.refl _ w).alloc (Nat.le_refl _) _⟩
set_option maxHeartbeats 2000000 in
set_option maxRecDepth 8000 in
theorem bad5c (od : Option Addr) (cd : Nat) (ol : Option Addr) (cl : Nat) (ob : Option Addr) (cb : Nat) (w : World) (nm : ByteArray) (n : Int) (lb : Nat) (hn : nm.toList = []) (hb : (0 : Int) < (lb : Int)) : MayC 2 false od 0 cd nm n ol 0 cl ob lb cb w false := by
  go_enter Tryz.func21, Tryz.ntmps21
  simp only [List.append_eq, List.cons_append, List.nil_append]
  go_wp2
  go_ret
  exact ⟨rfl, (Below.refl _ w).alloc (Nat.le_refl _) _⟩
set_option maxHeartbeats 2000000 in
set_option maxRecDepth 8000 in
theorem bad5d (od : Option Addr) (cd : Nat) (ol : Option Addr) (cl : Nat) (ob : Option Addr) (cb : Nat) (w : World) (nm : ByteArray) (n : Int) (lb : Nat) (hn : nm.toList = []) (hb : (0 : Int) < (lb : Int)) : MayC 3 false od 0 cd nm n ol 0 cl ob lb cb w false := by
  go_enter Tryz.func21, Tryz.ntmps21
  simp only [List.append_eq, List.cons_append, List.nil_append]
  go_wp2
  go_ret
  exact ⟨rfl, (Below.refl _ w).alloc (Nat.le_refl _) _⟩
set_option maxHeartbeats 2000000 in
set_option maxRecDepth 8000 in
theorem bad5e (od : Option Addr) (cd : Nat) (ol : Option Addr) (cl : Nat) (ob : Option Addr) (cb : Nat) (w : World) (nm : ByteArray) (ll lb : Nat) (hn : nm.toList = []) (hb : (0 : Int) < (lb : Int)) : MayC 4 false od 0 cd nm 0 ol ll cl ob lb cb w false := by
  go_enter Tryz.func21, Tryz.ntmps21
  simp only [List.append_eq, List.cons_append, List.nil_append]
  go_wp2
  go_ret
  exact ⟨rfl, (Below.refl _ w).alloc (Nat.le_refl _) _⟩
set_option maxHeartbeats 2000000 in
set_option maxRecDepth 8000 in
theorem bad5f (od : Option Addr) (cd : Nat) (ol : Option Addr) (cl : Nat) (ob : Option Addr) (cb : Nat) (w : World) (nm : ByteArray) (ll lb : Nat) (hn : nm.toList = []) (hb : (0 : Int) < (lb : Int)) : MayC 6 false od 0 cd nm 0 ol ll cl ob lb cb w false := by
  go_enter Tryz.func21, Tryz.ntmps21
  simp only [List.append_eq, List.cons_append, List.nil_append]
  go_wp2
  go_ret
  exact ⟨rfl, (Below.refl _ w).alloc (Nat.le_refl _) _⟩
set_option maxHeartbeats 2000000 in
set_option maxRecDepth 8000 in
theorem bad5g (od : Option Addr) (cd : Nat) (ol : Option Addr) (cl : Nat) (ob : Option Addr) (cb : Nat) (w : World) (k : Int) (nm : ByteArray) (lb : Nat) (h0 : (k != 0) = true) (h1 : (k != 1) = true) (h2 : (k != 2) = true) (h3 : (k != 3) = true) (h4 : (k != 4) = true) (h6 : (k != 6) = true) (h7 : (k != 7) = true) (hn : nm.toList = []) (hb : (0 : Int) < (lb : Int)) : MayC k false od 0 cd nm 0 ol 0 cl ob lb cb w false := by
  go_enter Tryz.func21, Tryz.ntmps21
  simp only [List.append_eq, List.cons_append, List.nil_append]
  go_wp2
  go_ret
  exact ⟨rfl, (Below.refl _ w).alloc (Nat.le_refl _) _⟩
end Go.Proofs.YtjacoodfhkaioabGreatDoor
namespace Go.Proofs.YtjacoodfhkaioabGreatDoor
open Go.ChangeShapes Go.WideShapes Go.ChangeAt Go.RowKit Go.Shelf
set_option linter.unusedSimpArgs false
set_option linter.unusedVariables false
set_option maxRecDepth 2000
set_option maxHeartbeats 2000000 in
set_option maxRecDepth 8000 in
theorem pass5 (od : Option Addr) (cd : Nat) (ol : Option Addr) (cl : Nat) (ob : Option Addr) (cb : Nat) (w : World) (nm : ByteArray) (hn : nm.toList = []) : MayC 5 false od 0 cd nm 0 ol 0 cl ob 0 cb w true := by
  go_enter Tryz.func21, Tryz.ntmps21
  simp only [List.append_eq, List.cons_append, List.nil_append]
  go_wp2
  go_ret
  exact ⟨rfl, (Below.refl _ w).alloc (Nat.le_refl _) _⟩
set_option maxHeartbeats 2000000 in
set_option maxRecDepth 8000 in
theorem passx (od : Option Addr) (cd : Nat) (ol : Option Addr) (cl : Nat) (ob : Option Addr) (cb : Nat) (w : World) (k : Int) (nm : ByteArray) (hn : nm.toList = []) (h0 : (k != 0) = true) (h1 : (k != 1) = true) (h2 : (k != 2) = true) (h3 : (k != 3) = true) (h4 : (k != 4) = true) (h6 : (k != 6) = true) (h7 : (k != 7) = true) (e0 : (k == 0) = false) (e1 : (k == 1) = false) (e2 : (k == 2) = false) (e3 : (k == 3) = false) (e4 : (k == 4) = false) (e5 : (k == 5) = false) (e6 : (k == 6) = false) (e7 : (k == 7) = false) : MayC k false od 0 cd nm 0 ol 0 cl ob 0 cb w false := by
  go_enter Tryz.func21, Tryz.ntmps21
  simp only [List.append_eq, List.cons_append, List.nil_append]
  go_wp2
  go_ret
  exact ⟨rfl, (Below.refl _ w).alloc (Nat.le_refl _) _⟩
set_option maxHeartbeats 2000000 in
set_option maxRecDepth 8000 in
theorem pass7 (od : Option Addr) (cd : Nat) (ol : Option Addr) (cl : Nat) (ob : Option Addr) (cb : Nat) (w : World) (nm : ByteArray) (lb : Nat) (hn : nm.toList = []) : MayC 7 false od 0 cd nm 0 ol 0 cl ob lb cb w (decide ((lb : Int) ≤ 4096)) := by
  obtain ⟨R, hR⟩ : ∃ R, decide ((lb : Int) ≤ 4096) = R := ⟨_, rfl⟩
  unfold MayC
  rw [hR]
  have hHR := hid hR
  clear hR
  go_enter Tryz.func21, Tryz.ntmps21
  simp only [List.append_eq, List.cons_append, List.nil_append]
  go_wp2
  all_goals (
    go_ret
    refine ⟨?_, (Below.refl _ w).alloc (Nat.le_refl _) _⟩
    rw [← hHR.out]
    first | rfl | (simp [*]; done))
set_option maxHeartbeats 2000000 in
set_option maxRecDepth 8000 in
theorem pass2 (od : Option Addr) (cd : Nat) (ol : Option Addr) (cl : Nat) (ob : Option Addr) (cb : Nat) (w : World) (nm : ByteArray) (n : Int) (hn : nm.toList = []) : MayC 2 false od 0 cd nm n ol 0 cl ob 0 cb w (decide (0 ≤ n) && decide (n ≤ 1073741824)) := by
  obtain ⟨R, hR⟩ : ∃ R, (decide (0 ≤ n) && decide (n ≤ 1073741824)) = R := ⟨_, rfl⟩
  unfold MayC
  rw [hR]
  have hHR := hid hR
  clear hR
  go_enter Tryz.func21, Tryz.ntmps21
  simp only [List.append_eq, List.cons_append, List.nil_append]
  go_wp2
  all_goals (
    go_ret
    refine ⟨?_, (Below.refl _ w).alloc (Nat.le_refl _) _⟩
    rw [← hHR.out]
    first | rfl | (simp [*]; done) | (simp [*]; omega) | (simp; omega))
set_option maxHeartbeats 2000000 in
set_option maxRecDepth 8000 in
theorem pass3 (od : Option Addr) (cd : Nat) (ol : Option Addr) (cl : Nat) (ob : Option Addr) (cb : Nat) (w : World) (nm : ByteArray) (n : Int) (hn : nm.toList = []) : MayC 3 false od 0 cd nm n ol 0 cl ob 0 cb w (decide (0 ≤ n) && decide (n ≤ 1073741824)) := by
  obtain ⟨R, hR⟩ : ∃ R, (decide (0 ≤ n) && decide (n ≤ 1073741824)) = R := ⟨_, rfl⟩
  unfold MayC
  rw [hR]
  have hHR := hid hR
  clear hR
  go_enter Tryz.func21, Tryz.ntmps21
  simp only [List.append_eq, List.cons_append, List.nil_append]
  go_wp2
  all_goals (
    go_ret
    refine ⟨?_, (Below.refl _ w).alloc (Nat.le_refl _) _⟩
    rw [← hHR.out]
    first | rfl | (simp [*]; done) | (simp [*]; omega) | (simp; omega))
set_option maxHeartbeats 2000000 in
set_option maxRecDepth 8000 in
theorem pass1 (od : Option Addr) (cd : Nat) (ol : Option Addr) (cl : Nat) (ob : Option Addr) (cb : Nat) (w : World) (nm : ByteArray) (hs : nm.size ≤ 1000000) (hTa : Tabs w) : MayC 1 false od 0 cd nm 0 ol 0 cl ob 0 cb w (decide (0 ≤ countZ nm.data.toList) && decide (countZ nm.data.toList ≤ 255)) := by
  obtain ⟨R, hR⟩ : ∃ R, (decide (0 ≤ countZ nm.data.toList) && decide (countZ nm.data.toList ≤ 255)) = R := ⟨_, rfl⟩
  unfold MayC
  rw [hR]
  have hHR := hid hR
  clear hR
  obtain ⟨kX, hBX, hz0⟩ := bx1 w (.int .i64 1) (.bool false) (.slice od 0 cd) (.string nm) (.int .i64 0) (.slice ol 0 cl) (.slice ob 0 cb) 26
  have hTa1 := hTa.below hBX
  go_enter Tryz.func21, Tryz.ntmps21
  simp only [List.append_eq, List.cons_append, List.nil_append]
  go_wp2_with fail
  generalize (w.alloc (.cells #[.int .i64 1, .bool false, .slice od 0 cd, .string nm, .int .i64 0, .slice ol 0 cl, .slice ob 0 cb] 26)) = W0 at *
  refine (rvalid_w nm _ (by omega) hTa1).mono ?_
  rintro e w1 ⟨rfl, b1⟩
  have hB1 := below_and hBX (by omega) b1
  obtain ⟨x0, x1, x2, x3, x4, x5, x6⟩ := (kX.below b1).res
  by_cases hv : Lib.validD nm.data.toList = true
  · rw [hv]
    go_wp2_with fail
    refine (rcount_w nm _ (by omega) (hTa1.below b1)).mono ?_
    rintro e w2 ⟨rfl, b2⟩
    have hB2 := below_and hB1 (by omega) b2
    have hc : countZ nm.data.toList = ((sg nm.data.toList).length : Int) := by unfold countZ; rw [if_pos hv]
    obtain ⟨c, hcc⟩ : ∃ c, countZ nm.data.toList = c := ⟨_, rfl⟩
    have h0 : 0 ≤ c := by rw [← hcc, hc]; omega
    rw [hcc]
    have hHc := hid hcc
    clear hc hcc
    go_wp2
    all_goals (
      go_ret
      refine ⟨?_, hB2⟩
      have hq := hHR.out
      rw [hHc.out, decide_eq_true h0, Bool.true_and] at hq
      rw [← hq]
      clear hq
      first | rfl | (simp [*]; done))
  · have hv' : Lib.validD nm.data.toList = false := by simpa using hv
    rw [hv']
    have hc : countZ nm.data.toList = -1 := by unfold countZ; rw [if_neg hv]
    have hRf : R = false := by rw [← hHR.out, hc]; rfl
    subst hRf
    clear hHR hv hv' hc
    go_wp2
    go_ret
    exact ⟨rfl, hB1⟩
end Go.Proofs.YtjacoodfhkaioabGreatDoor
