/- written, Parse of package big. -/
import Derived.Test.YtccogdlmlegmbaaBigGrown
import Derived.Lib.OthersKept
import Derived.Laws.RangeString
import Derived.Laws.RangeAny
namespace Go.Proofs.Ytccogdlmlegmbaa
open Go.ChangeShapes Go.WideShapes Go.ChangeAt Go.RowKit Go.Shelf
set_option linter.unusedSimpArgs false
set_option linter.unusedVariables false
def isDigs (l : List UInt8) : Bool := l.all fun x => decide (48 ≤ x.toNat ∧ x.toNat ≤ 57)
def okNum (l : List UInt8) : Bool := isDigs l && (l == [48] || (l != [] && l.head? != some 48))
theorem isDigs_at {l : List UInt8} {k : Nat} {x : UInt8} (h : l[k]? = some x) (hx : ¬ (48 ≤ x.toNat ∧ x.toNat ≤ 57)) : isDigs l = false := by
  unfold isDigs
  rw [List.all_eq_false]
  exact ⟨x, List.mem_of_getElem? h, by simpa using hx⟩
theorem isDigs_all {l : List UInt8} (h : ∀ (k : Nat) (x : UInt8), l[k]? = some x → 48 ≤ x.toNat ∧ x.toNat ≤ 57) : isDigs l = true := by
  unfold isDigs
  rw [List.all_eq_true]
  intro x hx
  obtain ⟨k, hk⟩ := List.getElem?_of_mem hx
  simpa using h k x hk
/-- a sign of a text that is no digit, or a digit -/
theorem sign_at (s : ByteArray) (k : Nat) (h : k < s.size) : ∃ x : UInt8, s.data.toList[k]? = some x ∧ ((48 ≤ x.toNat ∧ x.toNat ≤ 57 ∧ Utf8.decode s k = (x.toNat, 1)) ∨ (¬ (48 ≤ x.toNat ∧ x.toNat ≤ 57) ∧ ((Utf8.decode s k).1 < 48 ∨ 57 < (Utf8.decode s k).1))) := by
  refine ⟨s[k]'h, ?_, ?_⟩
  · rw [Array.getElem?_toList]; simp [ByteArray.getElem_eq_getElem_data, show k < s.data.size from h]
  · by_cases ha : (s[k]'h).toNat < 128
    · rw [decode_ascii s k h ha]
      by_cases hd : 48 ≤ (s[k]'h).toNat ∧ (s[k]'h).toNat ≤ 57
      · exact .inl ⟨hd.1, hd.2, rfl⟩
      · exact .inr ⟨hd, by simp only []; omega⟩
    · have := (decode_high s k h (by omega)).1
      exact .inr ⟨by omega, .inr (by omega)⟩
set_option maxHeartbeats 1000000 in
theorem written_w (s : ByteArray) (w : World) (hs : s.size ≤ 1000000) :
    Calls Try.prog 35 #[.string s] w fun e w' => e = .returned (.bool (okNum s.data.toList)) ∧ Below w.heap.size w w' := by
  obtain ⟨R, hR⟩ : ∃ R, okNum s.data.toList = R := ⟨_, rfl⟩
  rw [hR]
  have hR' := hid hR
  clear hR
  go_enter Try.func35, Try.ntmps35
  go_wp2
  go_loopg [] s.size (fun t wr => ∃ k : Nat, t + k = s.size ∧ wr.heap[w.heap.size]? = some (.stringIter s k) ∧ Below w.heap.size w wr ∧ ∀ j x, j < k → s.data.toList[j]? = some x → 48 ≤ x.toNat ∧ x.toNat ≤ 57)
  case atStart => exact ⟨0, by omega, World.iter_heap w s 0, (Below.refl _ w).alloc (Nat.le_refl _) _, fun j x hj => absurd hj (by omega)⟩
  case round =>
    obtain ⟨k, htk, hit, hbw, hall⟩ := hrel
    have hall' := hid hall
    clear hall
    by_cases hp : k < s.size
    · have hnx : ∀ ty, (Instr.next (.pointer (some ⟨w.heap.size, 0, none⟩)) true ty).run Try.prog wr = _ := fun ty => Lib.run_next_any_at wr w.heap.size s k ty hit hp
      have hit2 := Lib.iterAt_heap wr w.heap.size s k (k + (Utf8.decode s k).2) hit
      have hbw2 := Lib.below_iterAt hbw (k := w.heap.size) (Nat.le_refl _) s (k + (Utf8.decode s k).2)
      obtain ⟨x, hx, hcase⟩ := sign_at s k hp
      rcases hcase with ⟨h48, h57, hdec⟩ | ⟨hnd, hr⟩
      · rw [hdec] at hnx hit2 hbw2
        have z1 : ¬ (x.toNat : Int) < 48 := by omega
        have z2 : ¬ (57 : Int) < (x.toNat : Int) := by omega
        have hx' := hid hx
        clear hx hdec
        go_wp2
        go_roundg (gk - 1)
        case measure => omega
        case rel =>
          refine ⟨k + 1, by omega, hit2, hbw2, fun j y hj hy => ?_⟩
          by_cases hjk : j = k
          · subst hjk; rw [hx'.out] at hy; injection hy with hy; subst hy; exact ⟨h48, h57⟩
          · exact hall'.out j y (by omega) hy
      · have hRf : R = false := by rw [← hR'.out]; unfold okNum; rw [isDigs_at hx hnd]; rfl
        obtain ⟨r, hrr⟩ : ∃ r, (Utf8.decode s k).1 = r := ⟨_, rfl⟩
        rw [hrr] at hnx hr
        clear hx hrr
        rcases hr with hr | hr
        · have z1 : (r : Int) < 48 := by omega
          go_wp2
          go_ret
          exact ⟨by first | (rw [hRf]; rfl) | rfl, hbw2⟩
        · have z1 : ¬ (r : Int) < 48 := by omega
          have z2 : (57 : Int) < (r : Int) := by omega
          go_wp2
          go_ret
          exact ⟨by first | (rw [hRf]; rfl) | rfl, hbw2⟩
    · have hnx : ∀ ty, (Instr.next (.pointer (some ⟨w.heap.size, 0, none⟩)) true ty).run Try.prog wr = _ := fun ty => Lib.run_next_end_at wr w.heap.size s k ty hit hp
      have hdg : isDigs s.data.toList = true := isDigs_all fun j x hj => hall'.out j x (by
        have := (List.getElem?_eq_some_iff.1 hj).1
        have hz : s.data.toList.length = s.size := rfl
        omega) hj
      have hRe : R = (s.data.toList == [48] || (s.data.toList != [] && s.data.toList.head? != some 48)) := by rw [← hR'.out]; unfold okNum; rw [hdg]; simp
      clear hall' hR' hdg
      obtain ⟨l, hl⟩ : ∃ l, s.data.toList = l := ⟨_, rfl⟩
      have hlz : s.size = l.length := by rw [← hl]; rfl
      have hlt : s.toList = l := by rw [ByteArray.toList_eq]; exact hl
      rw [hl] at hRe
      cases l with
      | nil =>
        have hRf : R = false := by rw [hRe]; decide
        subst hRf
        have e1 : (s.toList == [48]) = false := by rw [hlt]; decide
        have e2 : s.toList.isEmpty = true := by rw [hlt]; rfl
        clear hRe hl hlz hlt
        go_wp2
        all_goals first | (go_ret; exact ⟨rfl, hbw⟩) | (exfalso; simp_all; done)
      | cons x t =>
        have hz0 : 0 < s.size := by rw [hlz]; simp
        have hz0i : (0 : Int) < (s.size : Int) := by omega
        have e2 : s.toList.isEmpty = false := by rw [hlt]; rfl
        have hs0 : s[0]'hz0 = x := by
          have h1 : s.data.toList[0]? = some x := by rw [hl]; rfl
          rw [Array.getElem?_toList, Array.getElem?_eq_getElem (show 0 < s.data.size from hz0)] at h1
          injection h1
        by_cases hx : x = 48
        · by_cases ht : t = []
          · have hRt : R = true := by rw [hRe, hx, ht]; decide
            have e1 : (s.toList == [48]) = true := by rw [hlt, hx, ht]; decide
            subst hRt
            clear hRe hl hlz hlt hs0
            go_wp2
            all_goals first | (go_ret; exact ⟨rfl, hbw⟩) | (exfalso; simp_all; done)
          · have hRf : R = false := by
              rw [hRe, hx]
              cases t with
              | nil => exact absurd rfl ht
              | cons y u => simp
            have e1 : (s.toList == [48]) = false := by rw [hlt, hx]; simp [ht]
            subst hRf
            clear hRe hl hlz hlt
            go_wp2
            all_goals first | (go_ret; exact ⟨rfl, hbw⟩) | (exfalso; simp_all; done)
        · have hRt : R = true := by rw [hRe]; simp [hx]
          have e1 : (s.toList == [48]) = false := by rw [hlt]; simp [hx]
          have e3 : ((x.toNat : Int) != 48) = true := by
            simp only [bne_iff_ne, ne_eq]
            intro h
            exact hx (UInt8.toNat_inj.1 (show x.toNat = (48 : UInt8).toNat by have : (48 : UInt8).toNat = 48 := rfl; omega))
          subst hRt
          clear hRe hl hlz hlt
          go_wp2
          all_goals first | (go_ret; exact ⟨rfl, hbw⟩) | (exfalso; simp_all; done)
def pneg (l : List UInt8) : Bool := Lib.hasPrefix l [45]
def pdig (l : List UInt8) : List UInt8 := Lib.trimPrefix l [45]
def pval (d : List UInt8) : Nat := d.foldl (fun n x => n * 10 + (x.toNat - 48)) 0
def pok (l : List UInt8) : Bool := okNum (pdig l) && !(pneg l && pdig l == [48])
def pE (l : List UInt8) : Int := if pok l = true then (if 620 < (pdig l).length ∨ 64 < (glim 4294967296 (pval (pdig l))).length then 3 else 0) else 10
def pZ (l : List UInt8) : Int := if pE l = 0 then sv (pneg l) (pval (pdig l)) else 0
theorem pval_snoc (d : List UInt8) (x : UInt8) : pval (d ++ [x]) = pval d * 10 + (x.toNat - 48) := by simp [pval, List.foldl_append]
theorem pval_lt : ∀ (k : Nat) (d : List UInt8), d.length = k → isDigs d = true → pval d < 10 ^ k
  | 0, d, h, _ => by
    have : d = [] := List.eq_nil_of_length_eq_zero h
    subst this; simp [pval]
  | k + 1, d, h, hd => by
    have hne : d ≠ [] := fun e => by rw [e] at h; simp at h
    rw [← List.dropLast_concat_getLast hne] at hd ⊢
    have hl : d.dropLast.length = k := by simp [h]
    unfold isDigs at hd
    rw [List.all_append, Bool.and_eq_true] at hd
    have ih := pval_lt k d.dropLast hl hd.1
    have hx : (d.getLast hne).toNat ≤ 57 := by have := hd.2; simp at this; omega
    rw [pval_snoc, Nat.pow_succ]; omega
theorem pval_len {d : List UInt8} (hd : isDigs d = true) : (glim 4294967296 (pval d)).length ≤ d.length := by
  refine (glim_len (by omega) _ _).2 (Nat.lt_of_lt_of_le (pval_lt _ d rfl hd) (Nat.pow_le_pow_left (by omega) _))
theorem isDigs_take {d : List UInt8} (hd : isDigs d = true) (k : Nat) : isDigs (d.take k) = true := by
  unfold isDigs at *
  rw [List.all_eq_true] at *
  exact fun x hx => hd x (List.mem_of_mem_take hx)
theorem cutPrefix_w (s : ByteArray) (w : World) : Calls Try.prog 34 #[.string s, .string ⟨#[45]⟩] w fun e w' => e = .returned (.tuple #[.string ⟨(pdig s.data.toList).toArray⟩, .bool (pneg s.data.toList)]) ∧ w' = w :=
  Any.strings_CutPrefix Try.lays103 s ⟨#[45]⟩ w
theorem Fr.of_blocks {B : Nat} {v : Value} {l : List Nat} {w w' : World} (h : Fr B v l w) (hb : ∀ k, B ≤ k → k < w.heap.size → w'.heap[k]? = w.heap[k]?) : Fr B v l w' := by
  refine ⟨h.1, ?_⟩
  rcases h.2 with hn | ⟨g, cap, cur, hv, hbg, hg, rest⟩
  · exact .inl hn
  · exact .inr ⟨g, cap, cur, hv, hbg, (hb g hbg (Array.getElem?_eq_some_iff.1 hg).1).trans hg, rest⟩
set_option maxHeartbeats 2000000 in
theorem parse_w (s : ByteArray) (w : World) (hs : s.size ≤ 1000000) :
    Calls Try.prog 12 #[.string s] w fun e w' => ∃ v', e = .returned (.tuple #[v', .int .i64 (pE s.data.toList)]) ∧ IsC v' (pZ s.data.toList) 64 w' ∧ Below w.heap.size w w' := by
  obtain ⟨Er, hEr⟩ : ∃ Er, pE s.data.toList = Er := ⟨_, rfl⟩
  obtain ⟨Z, hZ⟩ : ∃ Z, pZ s.data.toList = Z := ⟨_, rfl⟩
  rw [hEr, hZ]
  have hEr' := hid hEr
  have hZ' := hid hZ
  unfold pE at hEr'
  unfold pZ at hZ'
  rw [hEr] at hZ'
  clear hEr hZ
  have hcut := cutPrefix_w s
  have hdl : (pdig s.data.toList).length ≤ s.size := by
    unfold pdig Lib.trimPrefix
    have hz : s.data.toList.length = s.size := rfl
    split
    · rw [List.length_drop]; omega
    · omega
  unfold pok at hEr'
  obtain ⟨d, hd⟩ : ∃ d, pdig s.data.toList = d := ⟨_, rfl⟩
  obtain ⟨ng, hng⟩ : ∃ ng, pneg s.data.toList = ng := ⟨_, rfl⟩
  rw [hd, hng] at hcut hEr' hZ'
  rw [hd] at hdl
  clear hd hng
  have kR := Box.new w (.bool false) (.slice none 0 0) 25
  have hB0 : Below w.heap.size w (w.alloc (.cells #[.bool false, .slice none 0 0] 25)) := (Below.refl _ w).alloc (Nat.le_refl _) _
  have hz0 : (w.alloc (.cells #[.bool false, .slice none 0 0] 25)).heap.size = w.heap.size + 1 := by simp
  have hds : (⟨d.toArray⟩ : ByteArray).size = d.length := by simp [ByteArray.size]
  have hdt : (⟨d.toArray⟩ : ByteArray).toList = d := by rw [ByteArray.toList_eq]
  have hwr : ∀ W : World, Calls Try.prog 35 #[.string ⟨d.toArray⟩] W fun e w' => e = .returned (.bool (okNum d)) ∧ Below W.heap.size W w' := fun W => written_w ⟨d.toArray⟩ W (by rw [hds]; omega)
  go_enter Try.func12, Try.ntmps12
  go_wp2_with fail
  generalize (w.alloc (.cells #[.bool false, .slice none 0 0] 25)) = W0 at *
  refine (hcut _).mono ?_
  rintro e w1 ⟨rfl, rfl⟩
  clear hcut
  go_wp2_with fail
  refine (hwr _).mono ?_
  rintro e w2 ⟨rfl, b2⟩
  clear hwr
  have kR2 := kR.below b2 (by omega)
  have hB2 := below_and hB0 (Nat.le_refl _) b2
  have hz2 := b2.size
  obtain ⟨r1, r2, r3, r4⟩ := id kR2
  cases hok : okNum d with
  | false =>
    have hE : Er = 10 := by rw [← hEr'.out, hok]; simp
    have hZ0 : Z = 0 := by rw [← hZ'.out, hE]; rfl
    subst hE hZ0
    clear hEr' hZ'
    go_wp2
    refine bodyPost_ret (v := .tuple #[.agg #[.bool false, .slice none 0 0], .int .i64 10]) (by simp [results, Try.results12, go_sem, r1, r2]) rfl ⟨_, rfl, isC_zero _ _, ?_⟩
    exact (hB2.setCell (p := ⟨w.heap.size, 0, none⟩) (by simp) _).setCell (p := ⟨w.heap.size, 1, none⟩) (by simp) _
  | true =>
    by_cases h48 : ng = true ∧ d = [48]
    · obtain ⟨rfl, rfl⟩ := h48
      have hE : Er = 10 := by rw [← hEr'.out, hok]; simp
      have hZ0 : Z = 0 := by rw [← hZ'.out, hE]; rfl
      subst hE hZ0
      clear hEr' hZ'
      go_wp2
      refine bodyPost_ret (v := .tuple #[.agg #[.bool false, .slice none 0 0], .int .i64 10]) (by simp [results, Try.results12, go_sem, r1, r2]) rfl ⟨_, rfl, isC_zero _ _, ?_⟩
      exact (hB2.setCell (p := ⟨w.heap.size, 0, none⟩) (by simp) _).setCell (p := ⟨w.heap.size, 1, none⟩) (by simp) _
    · have hpk : (okNum d && !(ng && d == [48])) = true := by
        rw [hok]
        cases ng
        · rfl
        · have : (d == [48]) = false := by simpa using h48
          rw [this]; rfl
      have hEr2 := hEr'.out
      rw [if_pos hpk] at hEr2
      have hE2 := hid hEr2
      have hdg : isDigs d = true := by
        unfold okNum at hok
        rw [Bool.and_eq_true] at hok; exact hok.1
      have hpl := pval_len hdg
      have hsz : s.size ≤ 1000000 := hs
      have hfin : Hid (ng = true → (d == [48]) = false) := hid fun h => by simpa [h] using h48
      clear h48 hpk hEr2 hEr' hok
      by_cases h620 : d.length ≤ 620
      · have h620z : ¬ (620 : Int) < (d.length : Int) := by omega
        cases ng with
        | false =>
          go_wp2
          have hrel0 : Fr (w2.heap.size + 1) (.slice none 0 0) (glim 4294967296 (pval (d.take 0))) (w2.iter ⟨d.toArray⟩ 0) := by
            rw [List.take_zero]; show Fr _ _ (glim 4294967296 0) _; rw [glim_zero]; exact Fr.nil _ _
          go_loopg [6] d.length (fun t v wr => ∃ k : Nat, t + k = d.length ∧ wr.heap[w2.heap.size]? = some (.stringIter ⟨d.toArray⟩ k) ∧ Fr (w2.heap.size + 1) v (glim 4294967296 (pval (d.take k))) wr ∧ Below w2.heap.size w2 wr ∧ w2.heap.size + 1 ≤ wr.heap.size)
          case atStart => exact ⟨0, by omega, World.iter_heap w2 _ 0, hrel0, (Below.refl _ w2).alloc (Nat.le_refl _) _, by simp [World.iter]⟩
          case round =>
            obtain ⟨k, htk, hit, hFv, hbw, hzw⟩ := hrel
            clear hrel0 r1 r2 r3 r4
            have hBr : Below w.heap.size w wr := below_and hB2 (Nat.le_refl _) hbw
            have kRr := kR2.below hbw (by omega)
            by_cases hp : k < d.length
            · have hp' : k < (⟨d.toArray⟩ : ByteArray).size := by rw [hds]; exact hp
              have hnx : ∀ ty, (Instr.next (.pointer (some ⟨w2.heap.size, 0, none⟩)) true ty).run Try.prog wr = _ := fun ty => Lib.run_next_any_at wr w2.heap.size ⟨d.toArray⟩ k ty hit hp'
              obtain ⟨x, hx, hcase⟩ := sign_at ⟨d.toArray⟩ k hp'
              have hxd : d[k]? = some x := hx
              have hdx : 48 ≤ x.toNat ∧ x.toNat ≤ 57 := by
                unfold isDigs at hdg
                have := List.all_eq_true.1 hdg x (List.mem_of_getElem? hxd)
                simpa using this
              have hdec : Utf8.decode ⟨d.toArray⟩ k = (x.toNat, 1) := by
                rcases hcase with h | h
                · exact h.2.2
                · exact absurd hdx h.1
              rw [hdec] at hnx
              have hit2 := Lib.iterAt_heap wr w2.heap.size ⟨d.toArray⟩ k (k + 1) hit
              have hbw2 := Lib.below_iterAt hbw (k := w2.heap.size) (Nat.le_refl _) ⟨d.toArray⟩ (k + 1)
              have hFv2 : Fr (w2.heap.size + 1) _ (glim 4294967296 (pval (d.take k))) (wr.iterAt w2.heap.size ⟨d.toArray⟩ (k + 1)) := hFv.of_blocks fun g hg _ => Lib.iterAt_other wr w2.heap.size g _ _ (by omega)
              have hz2' : (wr.iterAt w2.heap.size ⟨d.toArray⟩ (k + 1)).heap.size = wr.heap.size := by simp [World.iterAt]
              obtain ⟨dg, hdgv⟩ : ∃ dg, x.toNat - 48 = dg := ⟨_, rfl⟩
              have wa : IntKind.i32.wrap ((x.toNat : Int) - 48) = (dg : Int) := by rw [IntKind.wrap_i32]; omega
              have wb : IntKind.u32.wrap (dg : Int) = (dg : Int) := by rw [IntKind.wrap_u32]; omega
              have hpt : (glim 4294967296 (pval (d.take k))).length ≤ 1000000 := by
                have h1 := pval_len (isDigs_take hdg k)
                rw [List.length_take] at h1; omega
              have hpn : Hid (pval (d.take (k + 1)) = pval (d.take k) * 10 + dg) := hid (by
                rw [List.take_succ_eq_append_getElem hp, pval_snoc, ← hdgv]
                have : d[k] = x := by rw [List.getElem?_eq_getElem hp] at hxd; injection hxd
                rw [this])
              have hdg10 : dg < 10 := by omega
              clear hx hxd hcase hdec hdgv hdx
              generalize (wr.iterAt w2.heap.size ⟨d.toArray⟩ (k + 1)) = Wi at *
              go_wp2_with fail
              refine (grown_w (w2.heap.size + 1) (pval (d.take k)) dg _ _ hdg10 hFv2 hpt (by omega)).mono ?_
              rintro e w9 ⟨v9, rfl, hF9, b9⟩
              have hit9 : w9.heap[w2.heap.size]? = some (.stringIter ⟨d.toArray⟩ (k + 1)) := (b9.block _ (by omega)).trans hit2
              have hs9 := b9.size
              go_wp2
              go_roundg (gk - 1)
              case measure => omega
              case rel => exact ⟨k + 1, by omega, hit9, by rw [hpn.out]; exact hF9, hbw2.trans (below_le b9 (by omega)), by omega⟩
            · have hp' : ¬ k < (⟨d.toArray⟩ : ByteArray).size := by rw [hds]; exact hp
              have hnx : ∀ ty, (Instr.next (.pointer (some ⟨w2.heap.size, 0, none⟩)) true ty).run Try.prog wr = _ := fun ty => Lib.run_next_end_at wr w2.heap.size ⟨d.toArray⟩ k ty hit hp'
              rw [List.take_of_length_le (by omega)] at hFv
              have hsl := hFv.slv (K := 1000000) (lm_glim (b := 4294967296) (by omega) _) (gval_glim (by omega) _) (by omega)
              obtain ⟨ov, cv, hve, hLv, hcv, _⟩ := hFv.parts
              subst hve
              obtain ⟨r1, r2, r3, r4⟩ := id kRr
              by_cases h64 : (glim 4294967296 (pval d)).length ≤ 64
              · have h64z : ¬ (64 : Int) < ((glim 4294967296 (pval d)).length : Int) := by omega
                have hE : Er = 0 := by rw [← hE2.out, if_neg (by omega)]
                have hZv : Z = sv false (pval d) := by rw [← hZ'.out, if_pos hE]
                subst hE
                have hN : IsN (.agg #[.bool false, .slice ov (glim 4294967296 (pval d)).length cv]) Z 64 wr := by
                  rw [hZv]; exact ⟨false, ov, _, cv, rfl, hLv, hcv, lm_glim (by omega) _, by rw [gval_glim (by omega)], h64⟩
                clear hE2 hZ' hsl hFv hZv
                go_wp2_with fail
                refine (view_w _ Z 64 _ (by omega) hN).mono ?_
                rintro e w9 ⟨v9, rfl, hv9, b9⟩
                obtain ⟨o9, c9, rfl, L9, z9, q9⟩ := (hv9 _ hN).below b9
                have hB9 := below_and hBr (Nat.le_refl _) b9
                have kR9 := kRr.below b9 (by have := hbw.size; omega)
                clear r1 r2 r3 r4
                obtain ⟨r1, r2, r3, r4⟩ := id kR9
                go_wp2
                refine bodyPost_ret (v := .tuple #[.agg #[.bool (decide (Z < 0)), .slice o9 (glim 4294967296 Z.natAbs).length c9], .int .i64 0]) (by simp [results, Try.results12, go_sem, r1, r2]) rfl ⟨_, rfl, ?_, ?_⟩
                · exact (show IsC _ Z _ _ from ⟨o9, c9, rfl, L9, z9, q9⟩).box kR9
                · exact (hB9.setCell (p := ⟨w.heap.size, 0, none⟩) (by simp) _).setCell (p := ⟨w.heap.size, 1, none⟩) (by simp) _
              · have h64z : (64 : Int) < ((glim 4294967296 (pval d)).length : Int) := by omega
                have hE : Er = 3 := by rw [← hE2.out, if_pos (.inr (by omega))]
                have hZ0 : Z = 0 := by rw [← hZ'.out, hE]; rfl
                subst hE hZ0
                clear hE2 hZ' hsl hFv
                go_wp2
                refine bodyPost_ret (v := .tuple #[.agg #[.bool false, .slice none 0 0], .int .i64 3]) (by simp [results, Try.results12, go_sem, r1, r2]) rfl ⟨_, rfl, isC_zero _ _, ?_⟩
                exact (hBr.setCell (p := ⟨w.heap.size, 0, none⟩) (by simp) _).setCell (p := ⟨w.heap.size, 1, none⟩) (by simp) _
        | true =>
          have hq48 := hfin.out rfl
          go_wp2
          have hrel0 : Fr (w2.heap.size + 1) (.slice none 0 0) (glim 4294967296 (pval (d.take 0))) (w2.iter ⟨d.toArray⟩ 0) := by
            rw [List.take_zero]; show Fr _ _ (glim 4294967296 0) _; rw [glim_zero]; exact Fr.nil _ _
          go_loopg [6] d.length (fun t v wr => ∃ k : Nat, t + k = d.length ∧ wr.heap[w2.heap.size]? = some (.stringIter ⟨d.toArray⟩ k) ∧ Fr (w2.heap.size + 1) v (glim 4294967296 (pval (d.take k))) wr ∧ Below w2.heap.size w2 wr ∧ w2.heap.size + 1 ≤ wr.heap.size)
          case atStart => exact ⟨0, by omega, World.iter_heap w2 _ 0, hrel0, (Below.refl _ w2).alloc (Nat.le_refl _) _, by simp [World.iter]⟩
          case round =>
            obtain ⟨k, htk, hit, hFv, hbw, hzw⟩ := hrel
            clear hrel0 r1 r2 r3 r4
            have hBr : Below w.heap.size w wr := below_and hB2 (Nat.le_refl _) hbw
            have kRr := kR2.below hbw (by omega)
            by_cases hp : k < d.length
            · have hp' : k < (⟨d.toArray⟩ : ByteArray).size := by rw [hds]; exact hp
              have hnx : ∀ ty, (Instr.next (.pointer (some ⟨w2.heap.size, 0, none⟩)) true ty).run Try.prog wr = _ := fun ty => Lib.run_next_any_at wr w2.heap.size ⟨d.toArray⟩ k ty hit hp'
              obtain ⟨x, hx, hcase⟩ := sign_at ⟨d.toArray⟩ k hp'
              have hxd : d[k]? = some x := hx
              have hdx : 48 ≤ x.toNat ∧ x.toNat ≤ 57 := by
                unfold isDigs at hdg
                have := List.all_eq_true.1 hdg x (List.mem_of_getElem? hxd)
                simpa using this
              have hdec : Utf8.decode ⟨d.toArray⟩ k = (x.toNat, 1) := by
                rcases hcase with h | h
                · exact h.2.2
                · exact absurd hdx h.1
              rw [hdec] at hnx
              have hit2 := Lib.iterAt_heap wr w2.heap.size ⟨d.toArray⟩ k (k + 1) hit
              have hbw2 := Lib.below_iterAt hbw (k := w2.heap.size) (Nat.le_refl _) ⟨d.toArray⟩ (k + 1)
              have hFv2 : Fr (w2.heap.size + 1) _ (glim 4294967296 (pval (d.take k))) (wr.iterAt w2.heap.size ⟨d.toArray⟩ (k + 1)) := hFv.of_blocks fun g hg _ => Lib.iterAt_other wr w2.heap.size g _ _ (by omega)
              have hz2' : (wr.iterAt w2.heap.size ⟨d.toArray⟩ (k + 1)).heap.size = wr.heap.size := by simp [World.iterAt]
              obtain ⟨dg, hdgv⟩ : ∃ dg, x.toNat - 48 = dg := ⟨_, rfl⟩
              have wa : IntKind.i32.wrap ((x.toNat : Int) - 48) = (dg : Int) := by rw [IntKind.wrap_i32]; omega
              have wb : IntKind.u32.wrap (dg : Int) = (dg : Int) := by rw [IntKind.wrap_u32]; omega
              have hpt : (glim 4294967296 (pval (d.take k))).length ≤ 1000000 := by
                have h1 := pval_len (isDigs_take hdg k)
                rw [List.length_take] at h1; omega
              have hpn : Hid (pval (d.take (k + 1)) = pval (d.take k) * 10 + dg) := hid (by
                rw [List.take_succ_eq_append_getElem hp, pval_snoc, ← hdgv]
                have : d[k] = x := by rw [List.getElem?_eq_getElem hp] at hxd; injection hxd
                rw [this])
              have hdg10 : dg < 10 := by omega
              clear hx hxd hcase hdec hdgv hdx
              generalize (wr.iterAt w2.heap.size ⟨d.toArray⟩ (k + 1)) = Wi at *
              go_wp2_with fail
              refine (grown_w (w2.heap.size + 1) (pval (d.take k)) dg _ _ hdg10 hFv2 hpt (by omega)).mono ?_
              rintro e w9 ⟨v9, rfl, hF9, b9⟩
              have hit9 : w9.heap[w2.heap.size]? = some (.stringIter ⟨d.toArray⟩ (k + 1)) := (b9.block _ (by omega)).trans hit2
              have hs9 := b9.size
              go_wp2
              go_roundg (gk - 1)
              case measure => omega
              case rel => exact ⟨k + 1, by omega, hit9, by rw [hpn.out]; exact hF9, hbw2.trans (below_le b9 (by omega)), by omega⟩
            · have hp' : ¬ k < (⟨d.toArray⟩ : ByteArray).size := by rw [hds]; exact hp
              have hnx : ∀ ty, (Instr.next (.pointer (some ⟨w2.heap.size, 0, none⟩)) true ty).run Try.prog wr = _ := fun ty => Lib.run_next_end_at wr w2.heap.size ⟨d.toArray⟩ k ty hit hp'
              rw [List.take_of_length_le (by omega)] at hFv
              have hsl := hFv.slv (K := 1000000) (lm_glim (b := 4294967296) (by omega) _) (gval_glim (by omega) _) (by omega)
              obtain ⟨ov, cv, hve, hLv, hcv, _⟩ := hFv.parts
              subst hve
              obtain ⟨r1, r2, r3, r4⟩ := id kRr
              by_cases h64 : (glim 4294967296 (pval d)).length ≤ 64
              · have h64z : ¬ (64 : Int) < ((glim 4294967296 (pval d)).length : Int) := by omega
                have hE : Er = 0 := by rw [← hE2.out, if_neg (by omega)]
                have hZv : Z = sv true (pval d) := by rw [← hZ'.out, if_pos hE]
                subst hE
                have hN : IsN (.agg #[.bool true, .slice ov (glim 4294967296 (pval d)).length cv]) Z 64 wr := by
                  rw [hZv]; exact ⟨true, ov, _, cv, rfl, hLv, hcv, lm_glim (by omega) _, by rw [gval_glim (by omega)], h64⟩
                clear hE2 hZ' hsl hFv hZv
                go_wp2_with fail
                refine (view_w _ Z 64 _ (by omega) hN).mono ?_
                rintro e w9 ⟨v9, rfl, hv9, b9⟩
                obtain ⟨o9, c9, rfl, L9, z9, q9⟩ := (hv9 _ hN).below b9
                have hB9 := below_and hBr (Nat.le_refl _) b9
                have kR9 := kRr.below b9 (by have := hbw.size; omega)
                clear r1 r2 r3 r4
                obtain ⟨r1, r2, r3, r4⟩ := id kR9
                go_wp2
                refine bodyPost_ret (v := .tuple #[.agg #[.bool (decide (Z < 0)), .slice o9 (glim 4294967296 Z.natAbs).length c9], .int .i64 0]) (by simp [results, Try.results12, go_sem, r1, r2]) rfl ⟨_, rfl, ?_, ?_⟩
                · exact (show IsC _ Z _ _ from ⟨o9, c9, rfl, L9, z9, q9⟩).box kR9
                · exact (hB9.setCell (p := ⟨w.heap.size, 0, none⟩) (by simp) _).setCell (p := ⟨w.heap.size, 1, none⟩) (by simp) _
              · have h64z : (64 : Int) < ((glim 4294967296 (pval d)).length : Int) := by omega
                have hE : Er = 3 := by rw [← hE2.out, if_pos (.inr (by omega))]
                have hZ0 : Z = 0 := by rw [← hZ'.out, hE]; rfl
                subst hE hZ0
                clear hE2 hZ' hsl hFv
                go_wp2
                refine bodyPost_ret (v := .tuple #[.agg #[.bool false, .slice none 0 0], .int .i64 3]) (by simp [results, Try.results12, go_sem, r1, r2]) rfl ⟨_, rfl, isC_zero _ _, ?_⟩
                exact (hBr.setCell (p := ⟨w.heap.size, 0, none⟩) (by simp) _).setCell (p := ⟨w.heap.size, 1, none⟩) (by simp) _
      · have h620z : (620 : Int) < (d.length : Int) := by omega
        have hE : Er = 3 := by rw [← hE2.out, if_pos (.inl (by omega))]
        have hZ0 : Z = 0 := by rw [← hZ'.out, hE]; rfl
        subst hE hZ0
        clear hE2 hZ'
        cases ng with
        | false =>
          go_wp2
          refine bodyPost_ret (v := .tuple #[.agg #[.bool false, .slice none 0 0], .int .i64 3]) (by simp [results, Try.results12, go_sem, r1, r2]) rfl ⟨_, rfl, isC_zero _ _, ?_⟩
          exact (hB2.setCell (p := ⟨w.heap.size, 0, none⟩) (by simp) _).setCell (p := ⟨w.heap.size, 1, none⟩) (by simp) _
        | true =>
          have hq48 := hfin.out rfl
          go_wp2
          refine bodyPost_ret (v := .tuple #[.agg #[.bool false, .slice none 0 0], .int .i64 3]) (by simp [results, Try.results12, go_sem, r1, r2]) rfl ⟨_, rfl, isC_zero _ _, ?_⟩
          exact (hB2.setCell (p := ⟨w.heap.size, 0, none⟩) (by simp) _).setCell (p := ⟨w.heap.size, 1, none⟩) (by simp) _
end Go.Proofs.Ytccogdlmlegmbaa
