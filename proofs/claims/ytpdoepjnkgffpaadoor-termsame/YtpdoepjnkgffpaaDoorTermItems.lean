/- Items of package term; copies of none. -/
import Derived.Test.YtpdoepjnkgffpaaDoorTermMakers
namespace Go.Proofs.YtpdoepjnkgffpaaDoor
open Go.ChangeShapes Go.WideShapes Go.ChangeAt Go.RowKit Go.Shelf
set_option linter.unusedSimpArgs false
set_option linter.unusedVariables false
set_option maxRecDepth 2000
set_option maxHeartbeats 2000000 in
set_option maxRecDepth 4000 in
theorem copies_nil (o : Option Addr) (c : Nat) (w : World) :
    Calls Tryd.prog 39 #[.slice o 0 c] w fun e w' => ∃ o' c', e = .returned (.slice o' 0 c') ∧ Below w.heap.size w w' := by
  obtain ⟨iT, hT1, hT2, hT3, hT4⟩ := info_parts infoT
  obtain ⟨vA, w1, hr1, hA1, b1⟩ := ap_run 22 31 iT _ 7 112 Tryd.underlying22 hT1 hT2 hT3 hT4 rfl (by decide) w o c 0 [] rfl (by simp) (by omega) (by omega) (fun j u hj => by simp at hj)
  obtain ⟨oA, cA, rfl, hcA⟩ := own_sl hA1
  go_enter Tryd.func39, Tryd.ntmps39
  go_wp2_with (at_builtin; refine wpList_append_run rfl _ _ 22 rfl _ _ _ _ rfl rfl hr1 ?_)
  clear hr1
  have hB1 := b1.alloc b1.size (.cells #[.slice oA 0 cA] 22)
  have hc1 : (w1.alloc (.cells #[.slice oA 0 cA] 22)).cell? ⟨w1.heap.size, 0, none⟩ = some (.slice oA 0 cA) := by rw [World.cell?_alloc_mark]; rfl
  generalize (w1.alloc (.cells #[.slice oA 0 cA] 22)) = W0 at *
  go_loopg [4] 1 (fun t v4 wr => ∃ m : Nat, t = m ∧ m ≤ 1 ∧ v4 = .slice (some ⟨w1.heap.size, 0, none⟩) m 1 ∧ wr = W0)
  case atStart => exact ⟨1, rfl, by omega, rfl, rfl⟩
  case round =>
    obtain ⟨m, rfl, hm, rfl, rfl⟩ := hrel
    generalize gk = m at *
    rcases Nat.eq_zero_or_pos m with h0 | h0
    · subst h0
      go_wp2
      go_ret
      exact ⟨oA, cA, rfl, hB1⟩
    · have h1 : m = 1 := by omega
      subst h1
      go_wp2_with fail
      go_loopg [4, 28] 0 (fun t v4 v28 wx => t = 0 ∧ v4 = .slice (some ⟨w1.heap.size, 0, none⟩) 0 1 ∧ v28 = .int .i64 0 ∧ wx = wr)
      case atStart => exact ⟨rfl, rfl, rfl, rfl⟩
      case round =>
        obtain ⟨rfl, rfl, rfl, rfl⟩ := hrel
        go_wp2
        go_roundg 0
        case measure => omega
        case rel => exact ⟨0, rfl, by omega, rfl, rfl⟩
/-- a list's items, those ahead first, and whether its end is Nil -/
inductive Ch : Tm → List Tm → Bool → Prop
  | stop (k : Int) (neg : Bool) (d : List Nat) (nm : ByteArray) (n : Int) (l : List Tm) (b : List Nat) (h : ¬ (k = 6 ∧ l.length = 2)) (r : Bool) (hr : r = decide (¬ (k = 0 ∨ k = 1 ∨ k = 2 ∨ k = 3 ∨ k = 4 ∨ k = 6 ∨ k = 7))) : Ch (.mk k neg d nm n l b) [] r
  | step (neg : Bool) (d : List Nat) (nm : ByteArray) (n : Int) (x y : Tm) (b : List Nat) (l : List Tm) (r : Bool) (h : Ch y l r) : Ch (.mk 6 neg d nm n [x, y] b) (x :: l) r
theorem ch_list : ∀ l : List Tm, Ch (listT l) l true
  | [] => Ch.stop 5 false [] noS 0 [] [] (by simp) true (by simp)
  | t :: l => Ch.step false [] noS 0 t (listT l) [] l true (ch_list l)
theorem prT_stop {k : Int} {neg : Bool} {d : List Nat} {nm : ByteArray} {n : Int} {l : List Tm} {b : List Nat} {pk : Int} {pneg : Bool} {pd : List Nat} {pnm : ByteArray} {pn : Int} {pl : List Tm} {pb : List Nat} (h : prT (.mk k neg d nm n l b) = .mk pk pneg pd pnm pn pl pb) :
    ((pk = 6 ∧ pl.length = 2) ↔ (k = 6 ∧ l.length = 2)) ∧ (pk = 5 ↔ ¬ (k = 0 ∨ k = 1 ∨ k = 2 ∨ k = 3 ∨ k = 4 ∨ k = 6 ∨ k = 7)) := by
  unfold prT at h
  by_cases e0 : k = 0
  · subst e0; simp at h; obtain ⟨rfl, _, _, _, _, rfl, _⟩ := h; simp
  by_cases e1 : k = 1
  · subst e1; simp at h; obtain ⟨rfl, _, _, _, _, rfl, _⟩ := h; simp
  by_cases e2 : k = 2
  · subst e2; simp at h; obtain ⟨rfl, _, _, _, _, rfl, _⟩ := h; simp
  by_cases e3 : k = 3
  · subst e3; simp at h; obtain ⟨rfl, _, _, _, _, rfl, _⟩ := h; simp
  by_cases e4 : k = 4
  · subst e4; simp at h; obtain ⟨rfl, _, _, _, _, rfl, _⟩ := h; simp
  by_cases e6 : k = 6
  · subst e6; simp at h; obtain ⟨rfl, _, _, _, _, rfl, _⟩ := h; simp
  by_cases e7 : k = 7
  · subst e7; simp at h; obtain ⟨rfl, _, _, _, _, rfl, _⟩ := h; simp
  simp only [e0, e1, e2, e3, e4, e6, e7, if_false] at h
  simp at h
  obtain ⟨rfl, _, _, _, _, rfl, _⟩ := h
  simp [e0, e1, e2, e3, e4, e6, e7]
theorem RC.snoc {Z : Nat → Prop} {w : World} {t : Tm} {k : Int} {neg : Bool} {od : Option Addr} {ld cd : Nat} {nm : ByteArray} {n : Int} {ol : Option Addr} {ll cl : Nat} {ob : Option Addr} {lb cb : Nat} (ht : TV Z w t (tmV k neg (.slice od ld cd) nm n (.slice ol ll cl) (.slice ob lb cb))) :
    ∀ {l : List Tm} {xs : List Value}, RC Z w l xs → RC Z w (l ++ [t]) (xs ++ [.int .i64 k, .bool neg, .slice od ld cd, .string nm, .int .i64 n, .slice ol ll cl, .slice ob lb cb])
  | [], xs, h => by
    have : xs = [] := h
    subst this
    exact ⟨_, _, _, _, _, _, _, _, _, _, _, _, _, [], ht, rfl, rfl⟩
  | q :: l, xs, h => by
    obtain ⟨k', neg', od', ld', cd', nm', n', ol', ll', cl', ob', lb', cb', ys, hq, rfl, hr⟩ := h
    exact ⟨_, _, _, _, _, _, _, _, _, _, _, _, _, _, hq, rfl, hr.snoc ht⟩
theorem RC.mono {Z Z' : Nat → Prop} {w : World} (hb : ∀ k, k < w.heap.size → Z k → Z' k) : ∀ {l : List Tm} {xs : List Value}, RC Z w l xs → RC Z' w l xs
  | [], xs, h => h
  | t :: l, xs, h => by
    obtain ⟨k, neg, od, ld, cd, nm, n, ol, ll, cl, ob, lb, cb, ys, ht, rfl, hr⟩ := h
    exact ⟨k, neg, od, ld, cd, nm, n, ol, ll, cl, ob, lb, cb, ys, TV.mono hb _ _ ht, rfl, hr.mono hb⟩
theorem own_tr {w : World} {B g c : Nat} {l : List Tm} {xs : List Value} (h : w.ownsRow B 31 7 (.slice (some ⟨g, 0, none⟩) l.length c) l.length xs) (hR : RC (Low w) w l xs) : TR (Low w) w l (some ⟨g, 0, none⟩) := by
  have hb := rowB_of h
  refine hR.tr (fun _ => ?_) (fun j u hj => ?_)
  · obtain ⟨cur, hg, _⟩ := hb
    exact (Array.getElem?_eq_some_iff.1 hg).1
  · rw [addr_add, Nat.zero_add]; exact hb.cell j u hj
/-- what Items answers -/
def ItP (S : Nat) (its : List Tm) (r : Bool) (e : Ending) (w' : World) : Prop := (r = true ∧ ∃ o c, e = .returned (.tuple #[.slice o its.length c, .bool true]) ∧ TR (Zw S w') w' (cpL its) o) ∨ (r = false ∧ e = .returned (.tuple #[.slice none 0 0, .bool false]))
theorem ItP.yes {S : Nat} {its : List Tm} {w' : World} {o : Option Addr} {c : Nat} (h : TR (Zw S w') w' (cpL its) o) : ItP S its true (.returned (.tuple #[.slice o its.length c, .bool true])) w' := .inl ⟨rfl, o, c, rfl, h⟩
theorem ItP.no {S : Nat} {its : List Tm} {w' : World} : ItP S its false (.returned (.tuple #[.slice none 0 0, .bool false])) w' := .inr ⟨rfl, rfl⟩
end Go.Proofs.YtpdoepjnkgffpaaDoor
