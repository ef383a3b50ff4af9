/- Texts of mine, one behind the other: BigParse, TextRd3, TextRd4, TextRd5, RunesUnq, RunesRead. -/
import Derived.Test.YtlojfmlaookpmaaGreatDoorSqK
import Derived.Test.YtlojfmlaookpmaaGreatDoorSqE
import Derived.Lib.OthersKept
import Derived.Laws.RangeString
import Derived.Laws.RangeAny
import Derived.Test.YtlojfmlaookpmaaGreatDoorSqF
import Derived.Test.YtlojfmlaookpmaaGreatDoorSqD
import Derived.Test.YtlojfmlaookpmaaGreatDoorSqI
import Derived.Test.YtlojfmlaookpmaaGreatDoorSqH
set_option linter.unusedSimpArgs false
set_option linter.unusedVariables false
set_option maxRecDepth 2000
namespace Go.Proofs.YtlojfmlaookpmaaGreatDoor
open Go.ChangeShapes Go.WideShapes Go.ChangeAt Go.RowKit Go.Shelf
def isDigs (l : List UInt8) : Bool := l.all fun x => decide (48 ≤ x.toNat ∧ x.toNat ≤ 57)
def okNum (l : List UInt8) : Bool := isDigs l && (l == [48] || (l != [] && l.head? != some 48))
theorem isDigs_at {l : List UInt8} {k : Nat} {x : UInt8} (h : l[k]? = some x) (hx : ¬ (48 ≤ x.toNat ∧ x.toNat ≤ 57)) : isDigs l = false := by
 unfold isDigs
 rw [List.all_eq_false]
 exact ⟨x, List.mem_of_getElem? h, by simpa using hx⟩
theorem isDigs_all {l : List UInt8} (h : ∀ (k : Nat) (x : UInt8), l[k]? = some x → 48 ≤ x.toNat ∧ x.toNat ≤ 57) : isDigs l = true := by
 unfold isDigs
 rw [List.all_eq_true]
 intro x hx
 obtain ⟨k, hk⟩ := List.getElem?_of_mem hx
 simpa using h k x hk
theorem sign_at (s : ByteArray) (k : Nat) (h : k < s.size) : ∃ x : UInt8, s.data.toList[k]? = some x ∧ ((48 ≤ x.toNat ∧ x.toNat ≤ 57 ∧ Utf8.decode s k = (x.toNat, 1)) ∨ (¬ (48 ≤ x.toNat ∧ x.toNat ≤ 57) ∧ ((Utf8.decode s k).1 < 48 ∨ 57 < (Utf8.decode s k).1))) := by
 refine ⟨s[k]'h, ?_, ?_⟩
 · rw [Array.getElem?_toList]; simp [ByteArray.getElem_eq_getElem_data, show k < s.data.size from h]
 · by_cases ha : (s[k]'h).toNat < 128
   · rw [decode_ascii s k h ha]
     by_cases hd : 48 ≤ (s[k]'h).toNat ∧ (s[k]'h).toNat ≤ 57
     · exact .inl ⟨hd.1, hd.2, rfl⟩
     · exact .inr ⟨hd, by simp only []; omega⟩
   · have := (decode_high s k h (by omega)).1
     exact .inr ⟨by omega, .inr (by omega)⟩
set_option maxHeartbeats 1000000 in
theorem written_w (s : ByteArray) (w : World) (hs : s.size ≤ 1000000) :
   Calls Tryz.prog 118 #[.string s] w fun e w' => e = .returned (.bool (okNum s.data.toList)) ∧ Below w.heap.size w w' := by
 obtain ⟨R, hR⟩ : ∃ R, okNum s.data.toList = R := ⟨_, rfl⟩
 rw [hR]
 have hR' := hid hR
 clear hR
 go_enter Tryz.func118, Tryz.ntmps118
 go_wp2
 go_loopg [] s.size (fun t wr => ∃ k : Nat, t + k = s.size ∧ wr.heap[w.heap.size]? = some (.stringIter s k) ∧ Below w.heap.size w wr ∧ ∀ j x, j < k → s.data.toList[j]? = some x → 48 ≤ x.toNat ∧ x.toNat ≤ 57)
 case atStart => exact ⟨0, by omega, World.iter_heap w s 0, (Below.refl _ w).alloc (Nat.le_refl _) _, fun j x hj => absurd hj (by omega)⟩
 case round =>
   obtain ⟨k, htk, hit, hbw, hall⟩ := hrel
   have hall' := hid hall
   clear hall
   by_cases hp : k < s.size
   · have hnx : ∀ ty, (Instr.next (.pointer (some ⟨w.heap.size, 0, none⟩)) true ty).run Tryz.prog wr = _ := fun ty => Lib.run_next_any_at wr w.heap.size s k ty hit hp
     have hit2 := Lib.iterAt_heap wr w.heap.size s k (k + (Utf8.decode s k).2) hit
     have hbw2 := Lib.below_iterAt hbw (k := w.heap.size) (Nat.le_refl _) s (k + (Utf8.decode s k).2)
     obtain ⟨x, hx, hcase⟩ := sign_at s k hp
     rcases hcase with ⟨h48, h57, hdec⟩ | ⟨hnd, hr⟩
     · rw [hdec] at hnx hit2 hbw2
       have z1 : ¬ (x.toNat : Int) < 48 := by omega
       have z2 : ¬ (57 : Int) < (x.toNat : Int) := by omega
       have hx' := hid hx
       clear hx hdec
       go_wp2
       go_roundg (gk - 1)
       case measure => omega
       case rel =>
         refine ⟨k + 1, by omega, hit2, hbw2, fun j y hj hy => ?_⟩
         by_cases hjk : j = k
         · subst hjk; rw [hx'.out] at hy; injection hy with hy; subst hy; exact ⟨h48, h57⟩
         · exact hall'.out j y (by omega) hy
     · have hRf : R = false := by rw [← hR'.out]; unfold okNum; rw [isDigs_at hx hnd]; rfl
       obtain ⟨r, hrr⟩ : ∃ r, (Utf8.decode s k).1 = r := ⟨_, rfl⟩
       rw [hrr] at hnx hr
       clear hx hrr
       rcases hr with hr | hr
       · have z1 : (r : Int) < 48 := by omega
         go_wp2
         go_ret
         exact ⟨by first | (rw [hRf]; rfl) | rfl, hbw2⟩
       · have z1 : ¬ (r : Int) < 48 := by omega
         have z2 : (57 : Int) < (r : Int) := by omega
         go_wp2
         go_ret
         exact ⟨by first | (rw [hRf]; rfl) | rfl, hbw2⟩
   · have hnx : ∀ ty, (Instr.next (.pointer (some ⟨w.heap.size, 0, none⟩)) true ty).run Tryz.prog wr = _ := fun ty => Lib.run_next_end_at wr w.heap.size s k ty hit hp
     have hdg : isDigs s.data.toList = true := isDigs_all fun j x hj => hall'.out j x (by
       have := (List.getElem?_eq_some_iff.1 hj).1
       have hz : s.data.toList.length = s.size := rfl
       omega) hj
     have hRe : R = (s.data.toList == [48] || (s.data.toList != [] && s.data.toList.head? != some 48)) := by rw [← hR'.out]; unfold okNum; rw [hdg]; simp
     clear hall' hR' hdg
     obtain ⟨l, hl⟩ : ∃ l, s.data.toList = l := ⟨_, rfl⟩
     have hlz : s.size = l.length := by rw [← hl]; rfl
     have hlt : s.toList = l := by rw [ByteArray.toList_eq]; exact hl
     rw [hl] at hRe
     cases l with
     | nil =>
       have hRf : R = false := by rw [hRe]; decide
       subst hRf
       have e1 : (s.toList == [48]) = false := by rw [hlt]; decide
       have e2 : s.toList.isEmpty = true := by rw [hlt]; rfl
       clear hRe hl hlz hlt
       go_wp2
       all_goals first | (go_ret; exact ⟨rfl, hbw⟩) | (exfalso; simp_all; done)
     | cons x t =>
       have hz0 : 0 < s.size := by rw [hlz]; simp
       have hz0i : (0 : Int) < (s.size : Int) := by omega
       have e2 : s.toList.isEmpty = false := by rw [hlt]; rfl
       have hs0 : s[0]'hz0 = x := by
         have h1 : s.data.toList[0]? = some x := by rw [hl]; rfl
         rw [Array.getElem?_toList, Array.getElem?_eq_getElem (show 0 < s.data.size from hz0)] at h1
         injection h1
       by_cases hx : x = 48
       · by_cases ht : t = []
         · have hRt : R = true := by rw [hRe, hx, ht]; decide
           have e1 : (s.toList == [48]) = true := by rw [hlt, hx, ht]; decide
           subst hRt
           clear hRe hl hlz hlt hs0
           go_wp2
           all_goals first | (go_ret; exact ⟨rfl, hbw⟩) | (exfalso; simp_all; done)
         · have hRf : R = false := by
             rw [hRe, hx]
             cases t with
             | nil => exact absurd rfl ht
             | cons y u => simp
           have e1 : (s.toList == [48]) = false := by rw [hlt, hx]; simp [ht]
           subst hRf
           clear hRe hl hlz hlt
           go_wp2
           all_goals first | (go_ret; exact ⟨rfl, hbw⟩) | (exfalso; simp_all; done)
       · have hRt : R = true := by rw [hRe]; simp [hx]
         have e1 : (s.toList == [48]) = false := by rw [hlt]; simp [hx]
         have e3 : ((x.toNat : Int) != 48) = true := by
           simp only [bne_iff_ne, ne_eq]
           intro h
           exact hx (UInt8.toNat_inj.1 (show x.toNat = (48 : UInt8).toNat by have : (48 : UInt8).toNat = 48 := rfl; omega))
         subst hRt
         clear hRe hl hlz hlt
         go_wp2
         all_goals first | (go_ret; exact ⟨rfl, hbw⟩) | (exfalso; simp_all; done)
def pneg (l : List UInt8) : Bool := Lib.hasPrefix l [45]
def pdig (l : List UInt8) : List UInt8 := Lib.trimPrefix l [45]
def pval (d : List UInt8) : Nat := d.foldl (fun n x => n * 10 + (x.toNat - 48)) 0
def pok (l : List UInt8) : Bool := okNum (pdig l) && !(pneg l && pdig l == [48])
def pE (l : List UInt8) : Int := if pok l = true then (if 620 < (pdig l).length ∨ 64 < (glim 4294967296 (pval (pdig l))).length then 3 else 0) else 10
def pZ (l : List UInt8) : Int := if pE l = 0 then sv (pneg l) (pval (pdig l)) else 0
theorem pval_snoc (d : List UInt8) (x : UInt8) : pval (d ++ [x]) = pval d * 10 + (x.toNat - 48) := by simp [pval, List.foldl_append]
theorem pval_lt : ∀ (k : Nat) (d : List UInt8), d.length = k → isDigs d = true → pval d < 10 ^ k
 | 0, d, h, _ => by
   have : d = [] := List.eq_nil_of_length_eq_zero h
   subst this; simp [pval]
 | k + 1, d, h, hd => by
   have hne : d ≠ [] := fun e => by rw [e] at h; simp at h
   rw [← List.dropLast_concat_getLast hne] at hd ⊢
   have hl : d.dropLast.length = k := by simp [h]
   unfold isDigs at hd
   rw [List.all_append, Bool.and_eq_true] at hd
   have ih := pval_lt k d.dropLast hl hd.1
   have hx : (d.getLast hne).toNat ≤ 57 := by have := hd.2; simp at this; omega
   rw [pval_snoc, Nat.pow_succ]; omega
theorem pval_len {d : List UInt8} (hd : isDigs d = true) : (glim 4294967296 (pval d)).length ≤ d.length := by
 refine (glim_len (by omega) _ _).2 (Nat.lt_of_lt_of_le (pval_lt _ d rfl hd) (Nat.pow_le_pow_left (by omega) _))
theorem isDigs_take {d : List UInt8} (hd : isDigs d = true) (k : Nat) : isDigs (d.take k) = true := by
 unfold isDigs at *
 rw [List.all_eq_true] at *
 exact fun x hx => hd x (List.mem_of_mem_take hx)
theorem cutPrefix_w (s : ByteArray) (w : World) : Calls Tryz.prog 117 #[.string s, .string ⟨#[45]⟩] w fun e w' => e = .returned (.tuple #[.string ⟨(pdig s.data.toList).toArray⟩, .bool (pneg s.data.toList)]) ∧ w' = w :=
 Any.strings_CutPrefix Tryz.lays103 s ⟨#[45]⟩ w
theorem Fr.of_blocks {B : Nat} {v : Value} {l : List Nat} {w w' : World} (h : Fr B v l w) (hb : ∀ k, B ≤ k → k < w.heap.size → w'.heap[k]? = w.heap[k]?) : Fr B v l w' := by
 refine ⟨h.1, ?_⟩
 rcases h.2 with hn | ⟨g, cap, cur, hv, hbg, hg, rest⟩
 · exact .inl hn
 · exact .inr ⟨g, cap, cur, hv, hbg, (hb g hbg (Array.getElem?_eq_some_iff.1 hg).1).trans hg, rest⟩
set_option maxHeartbeats 2000000 in
theorem parse_w (s : ByteArray) (w : World) (hs : s.size ≤ 1000000) :
   Calls Tryz.prog 89 #[.string s] w fun e w' => ∃ v', e = .returned (.tuple #[v', .int .i64 (pE s.data.toList)]) ∧ IsC v' (pZ s.data.toList) 64 w' ∧ Below w.heap.size w w' := by
 obtain ⟨Er, hEr⟩ : ∃ Er, pE s.data.toList = Er := ⟨_, rfl⟩
 obtain ⟨Z, hZ⟩ : ∃ Z, pZ s.data.toList = Z := ⟨_, rfl⟩
 rw [hEr, hZ]
 have hEr' := hid hEr
 have hZ' := hid hZ
 unfold pE at hEr'
 unfold pZ at hZ'
 rw [hEr] at hZ'
 clear hEr hZ
 have hcut := cutPrefix_w s
 have hdl : (pdig s.data.toList).length ≤ s.size := by
   unfold pdig Lib.trimPrefix
   have hz : s.data.toList.length = s.size := rfl
   split
   · rw [List.length_drop]; omega
   · omega
 unfold pok at hEr'
 obtain ⟨d, hd⟩ : ∃ d, pdig s.data.toList = d := ⟨_, rfl⟩
 obtain ⟨ng, hng⟩ : ∃ ng, pneg s.data.toList = ng := ⟨_, rfl⟩
 rw [hd, hng] at hcut hEr' hZ'
 rw [hd] at hdl
 clear hd hng
 have kR := Box.new w (.bool false) (.slice none 0 0) 117
 have hB0 : Below w.heap.size w (w.alloc (.cells #[.bool false, .slice none 0 0] 117)) := (Below.refl _ w).alloc (Nat.le_refl _) _
 have hz0 : (w.alloc (.cells #[.bool false, .slice none 0 0] 117)).heap.size = w.heap.size + 1 := by simp
 have hds : (⟨d.toArray⟩ : ByteArray).size = d.length := by simp [ByteArray.size]
 have hdt : (⟨d.toArray⟩ : ByteArray).toList = d := by rw [ByteArray.toList_eq]
 have hwr : ∀ W : World, Calls Tryz.prog 118 #[.string ⟨d.toArray⟩] W fun e w' => e = .returned (.bool (okNum d)) ∧ Below W.heap.size W w' := fun W => written_w ⟨d.toArray⟩ W (by rw [hds]; omega)
 go_enter Tryz.func89, Tryz.ntmps89
 go_wp2_with fail
 generalize (w.alloc (.cells #[.bool false, .slice none 0 0] 117)) = W0 at *
 refine (hcut _).mono ?_
 rintro e w1 ⟨rfl, rfl⟩
 clear hcut
 go_wp2_with fail
 refine (hwr _).mono ?_
 rintro e w2 ⟨rfl, b2⟩
 clear hwr
 have kR2 := kR.below b2 (by omega)
 have hB2 := below_and hB0 (Nat.le_refl _) b2
 have hz2 := b2.size
 obtain ⟨r1, r2, r3, r4⟩ := id kR2
 cases hok : okNum d with
 | false =>
   have hE : Er = 10 := by rw [← hEr'.out, hok]; simp
   have hZ0 : Z = 0 := by rw [← hZ'.out, hE]; rfl
   subst hE hZ0
   clear hEr' hZ'
   go_wp2
   refine bodyPost_ret (v := .tuple #[.agg #[.bool false, .slice none 0 0], .int .i64 10]) (by simp [results, Tryz.results89, go_sem, r1, r2]) rfl ⟨_, rfl, isC_zero _ _, ?_⟩
   exact (hB2.setCell (p := ⟨w.heap.size, 0, none⟩) (by simp) _).setCell (p := ⟨w.heap.size, 1, none⟩) (by simp) _
 | true =>
   by_cases h48 : ng = true ∧ d = [48]
   · obtain ⟨rfl, rfl⟩ := h48
     have hE : Er = 10 := by rw [← hEr'.out, hok]; simp
     have hZ0 : Z = 0 := by rw [← hZ'.out, hE]; rfl
     subst hE hZ0
     clear hEr' hZ'
     go_wp2
     refine bodyPost_ret (v := .tuple #[.agg #[.bool false, .slice none 0 0], .int .i64 10]) (by simp [results, Tryz.results89, go_sem, r1, r2]) rfl ⟨_, rfl, isC_zero _ _, ?_⟩
     exact (hB2.setCell (p := ⟨w.heap.size, 0, none⟩) (by simp) _).setCell (p := ⟨w.heap.size, 1, none⟩) (by simp) _
   · have hpk : (okNum d && !(ng && d == [48])) = true := by
       rw [hok]
       cases ng
       · rfl
       · have : (d == [48]) = false := by simpa using h48
         rw [this]; rfl
     have hEr2 := hEr'.out
     rw [if_pos hpk] at hEr2
     have hE2 := hid hEr2
     have hdg : isDigs d = true := by
       unfold okNum at hok
       rw [Bool.and_eq_true] at hok; exact hok.1
     have hpl := pval_len hdg
     have hsz : s.size ≤ 1000000 := hs
     have hfin : Hid (ng = true → (d == [48]) = false) := hid fun h => by simpa [h] using h48
     clear h48 hpk hEr2 hEr' hok
     by_cases h620 : d.length ≤ 620
     · have h620z : ¬ (620 : Int) < (d.length : Int) := by omega
       cases ng with
       | false =>
         go_wp2
         have hrel0 : Fr (w2.heap.size + 1) (.slice none 0 0) (glim 4294967296 (pval (d.take 0))) (w2.iter ⟨d.toArray⟩ 0) := by
           rw [List.take_zero]; show Fr _ _ (glim 4294967296 0) _; rw [glim_zero]; exact Fr.nil _ _
         go_loopg [6] d.length (fun t v wr => ∃ k : Nat, t + k = d.length ∧ wr.heap[w2.heap.size]? = some (.stringIter ⟨d.toArray⟩ k) ∧ Fr (w2.heap.size + 1) v (glim 4294967296 (pval (d.take k))) wr ∧ Below w2.heap.size w2 wr ∧ w2.heap.size + 1 ≤ wr.heap.size)
         case atStart => exact ⟨0, by omega, World.iter_heap w2 _ 0, hrel0, (Below.refl _ w2).alloc (Nat.le_refl _) _, by simp [World.iter]⟩
         case round =>
           obtain ⟨k, htk, hit, hFv, hbw, hzw⟩ := hrel
           clear hrel0 r1 r2 r3 r4
           have hBr : Below w.heap.size w wr := below_and hB2 (Nat.le_refl _) hbw
           have kRr := kR2.below hbw (by omega)
           by_cases hp : k < d.length
           · have hp' : k < (⟨d.toArray⟩ : ByteArray).size := by rw [hds]; exact hp
             have hnx : ∀ ty, (Instr.next (.pointer (some ⟨w2.heap.size, 0, none⟩)) true ty).run Tryz.prog wr = _ := fun ty => Lib.run_next_any_at wr w2.heap.size ⟨d.toArray⟩ k ty hit hp'
             obtain ⟨x, hx, hcase⟩ := sign_at ⟨d.toArray⟩ k hp'
             have hxd : d[k]? = some x := hx
             have hdx : 48 ≤ x.toNat ∧ x.toNat ≤ 57 := by
               unfold isDigs at hdg
               have := List.all_eq_true.1 hdg x (List.mem_of_getElem? hxd)
               simpa using this
             have hdec : Utf8.decode ⟨d.toArray⟩ k = (x.toNat, 1) := by
               rcases hcase with h | h
               · exact h.2.2
               · exact absurd hdx h.1
             rw [hdec] at hnx
             have hit2 := Lib.iterAt_heap wr w2.heap.size ⟨d.toArray⟩ k (k + 1) hit
             have hbw2 := Lib.below_iterAt hbw (k := w2.heap.size) (Nat.le_refl _) ⟨d.toArray⟩ (k + 1)
             have hFv2 : Fr (w2.heap.size + 1) _ (glim 4294967296 (pval (d.take k))) (wr.iterAt w2.heap.size ⟨d.toArray⟩ (k + 1)) := hFv.of_blocks fun g hg _ => Lib.iterAt_other wr w2.heap.size g _ _ (by omega)
             have hz2' : (wr.iterAt w2.heap.size ⟨d.toArray⟩ (k + 1)).heap.size = wr.heap.size := by simp [World.iterAt]
             obtain ⟨dg, hdgv⟩ : ∃ dg, x.toNat - 48 = dg := ⟨_, rfl⟩
             have wa : IntKind.i32.wrap ((x.toNat : Int) - 48) = (dg : Int) := by rw [IntKind.wrap_i32]; omega
             have wb : IntKind.u32.wrap (dg : Int) = (dg : Int) := by rw [IntKind.wrap_u32]; omega
             have hpt : (glim 4294967296 (pval (d.take k))).length ≤ 1000000 := by
               have h1 := pval_len (isDigs_take hdg k)
               rw [List.length_take] at h1; omega
             have hpn : Hid (pval (d.take (k + 1)) = pval (d.take k) * 10 + dg) := hid (by
               rw [List.take_succ_eq_append_getElem hp, pval_snoc, ← hdgv]
               have : d[k] = x := by rw [List.getElem?_eq_getElem hp] at hxd; injection hxd
               rw [this])
             have hdg10 : dg < 10 := by omega
             clear hx hxd hcase hdec hdgv hdx
             generalize (wr.iterAt w2.heap.size ⟨d.toArray⟩ (k + 1)) = Wi at *
             go_wp2_with fail
             refine (grown_w (w2.heap.size + 1) (pval (d.take k)) dg _ _ hdg10 hFv2 hpt (by omega)).mono ?_
             rintro e w9 ⟨v9, rfl, hF9, b9⟩
             have hit9 : w9.heap[w2.heap.size]? = some (.stringIter ⟨d.toArray⟩ (k + 1)) := (b9.block _ (by omega)).trans hit2
             have hs9 := b9.size
             go_wp2
             go_roundg (gk - 1)
             case measure => omega
             case rel => exact ⟨k + 1, by omega, hit9, by rw [hpn.out]; exact hF9, hbw2.trans (below_le b9 (by omega)), by omega⟩
           · have hp' : ¬ k < (⟨d.toArray⟩ : ByteArray).size := by rw [hds]; exact hp
             have hnx : ∀ ty, (Instr.next (.pointer (some ⟨w2.heap.size, 0, none⟩)) true ty).run Tryz.prog wr = _ := fun ty => Lib.run_next_end_at wr w2.heap.size ⟨d.toArray⟩ k ty hit hp'
             rw [List.take_of_length_le (by omega)] at hFv
             have hsl := hFv.slv (K := 1000000) (lm_glim (b := 4294967296) (by omega) _) (gval_glim (by omega) _) (by omega)
             obtain ⟨ov, cv, hve, hLv, hcv, _⟩ := hFv.parts
             subst hve
             obtain ⟨r1, r2, r3, r4⟩ := id kRr
             by_cases h64 : (glim 4294967296 (pval d)).length ≤ 64
             · have h64z : ¬ (64 : Int) < ((glim 4294967296 (pval d)).length : Int) := by omega
               have hE : Er = 0 := by rw [← hE2.out, if_neg (by omega)]
               have hZv : Z = sv false (pval d) := by rw [← hZ'.out, if_pos hE]
               subst hE
               have hN : IsN (.agg #[.bool false, .slice ov (glim 4294967296 (pval d)).length cv]) Z 64 wr := by
                 rw [hZv]; exact ⟨false, ov, _, cv, rfl, hLv, hcv, lm_glim (by omega) _, by rw [gval_glim (by omega)], h64⟩
               clear hE2 hZ' hsl hFv hZv
               go_wp2_with fail
               refine (view_w _ Z 64 _ (by omega) hN).mono ?_
               rintro e w9 ⟨v9, rfl, hv9, b9⟩
               obtain ⟨o9, c9, rfl, L9, z9, q9⟩ := (hv9 _ hN).below b9
               have hB9 := below_and hBr (Nat.le_refl _) b9
               have kR9 := kRr.below b9 (by have := hbw.size; omega)
               clear r1 r2 r3 r4
               obtain ⟨r1, r2, r3, r4⟩ := id kR9
               go_wp2
               refine bodyPost_ret (v := .tuple #[.agg #[.bool (decide (Z < 0)), .slice o9 (glim 4294967296 Z.natAbs).length c9], .int .i64 0]) (by simp [results, Tryz.results89, go_sem, r1, r2]) rfl ⟨_, rfl, ?_, ?_⟩
               · exact (show IsC _ Z _ _ from ⟨o9, c9, rfl, L9, z9, q9⟩).box kR9
               · exact (hB9.setCell (p := ⟨w.heap.size, 0, none⟩) (by simp) _).setCell (p := ⟨w.heap.size, 1, none⟩) (by simp) _
             · have h64z : (64 : Int) < ((glim 4294967296 (pval d)).length : Int) := by omega
               have hE : Er = 3 := by rw [← hE2.out, if_pos (.inr (by omega))]
               have hZ0 : Z = 0 := by rw [← hZ'.out, hE]; rfl
               subst hE hZ0
               clear hE2 hZ' hsl hFv
               go_wp2
               refine bodyPost_ret (v := .tuple #[.agg #[.bool false, .slice none 0 0], .int .i64 3]) (by simp [results, Tryz.results89, go_sem, r1, r2]) rfl ⟨_, rfl, isC_zero _ _, ?_⟩
               exact (hBr.setCell (p := ⟨w.heap.size, 0, none⟩) (by simp) _).setCell (p := ⟨w.heap.size, 1, none⟩) (by simp) _
       | true =>
         have hq48 := hfin.out rfl
         go_wp2
         have hrel0 : Fr (w2.heap.size + 1) (.slice none 0 0) (glim 4294967296 (pval (d.take 0))) (w2.iter ⟨d.toArray⟩ 0) := by
           rw [List.take_zero]; show Fr _ _ (glim 4294967296 0) _; rw [glim_zero]; exact Fr.nil _ _
         go_loopg [6] d.length (fun t v wr => ∃ k : Nat, t + k = d.length ∧ wr.heap[w2.heap.size]? = some (.stringIter ⟨d.toArray⟩ k) ∧ Fr (w2.heap.size + 1) v (glim 4294967296 (pval (d.take k))) wr ∧ Below w2.heap.size w2 wr ∧ w2.heap.size + 1 ≤ wr.heap.size)
         case atStart => exact ⟨0, by omega, World.iter_heap w2 _ 0, hrel0, (Below.refl _ w2).alloc (Nat.le_refl _) _, by simp [World.iter]⟩
         case round =>
           obtain ⟨k, htk, hit, hFv, hbw, hzw⟩ := hrel
           clear hrel0 r1 r2 r3 r4
           have hBr : Below w.heap.size w wr := below_and hB2 (Nat.le_refl _) hbw
           have kRr := kR2.below hbw (by omega)
           by_cases hp : k < d.length
           · have hp' : k < (⟨d.toArray⟩ : ByteArray).size := by rw [hds]; exact hp
             have hnx : ∀ ty, (Instr.next (.pointer (some ⟨w2.heap.size, 0, none⟩)) true ty).run Tryz.prog wr = _ := fun ty => Lib.run_next_any_at wr w2.heap.size ⟨d.toArray⟩ k ty hit hp'
             obtain ⟨x, hx, hcase⟩ := sign_at ⟨d.toArray⟩ k hp'
             have hxd : d[k]? = some x := hx
             have hdx : 48 ≤ x.toNat ∧ x.toNat ≤ 57 := by
               unfold isDigs at hdg
               have := List.all_eq_true.1 hdg x (List.mem_of_getElem? hxd)
               simpa using this
             have hdec : Utf8.decode ⟨d.toArray⟩ k = (x.toNat, 1) := by
               rcases hcase with h | h
               · exact h.2.2
               · exact absurd hdx h.1
             rw [hdec] at hnx
             have hit2 := Lib.iterAt_heap wr w2.heap.size ⟨d.toArray⟩ k (k + 1) hit
             have hbw2 := Lib.below_iterAt hbw (k := w2.heap.size) (Nat.le_refl _) ⟨d.toArray⟩ (k + 1)
             have hFv2 : Fr (w2.heap.size + 1) _ (glim 4294967296 (pval (d.take k))) (wr.iterAt w2.heap.size ⟨d.toArray⟩ (k + 1)) := hFv.of_blocks fun g hg _ => Lib.iterAt_other wr w2.heap.size g _ _ (by omega)
             have hz2' : (wr.iterAt w2.heap.size ⟨d.toArray⟩ (k + 1)).heap.size = wr.heap.size := by simp [World.iterAt]
             obtain ⟨dg, hdgv⟩ : ∃ dg, x.toNat - 48 = dg := ⟨_, rfl⟩
             have wa : IntKind.i32.wrap ((x.toNat : Int) - 48) = (dg : Int) := by rw [IntKind.wrap_i32]; omega
             have wb : IntKind.u32.wrap (dg : Int) = (dg : Int) := by rw [IntKind.wrap_u32]; omega
             have hpt : (glim 4294967296 (pval (d.take k))).length ≤ 1000000 := by
               have h1 := pval_len (isDigs_take hdg k)
               rw [List.length_take] at h1; omega
             have hpn : Hid (pval (d.take (k + 1)) = pval (d.take k) * 10 + dg) := hid (by
               rw [List.take_succ_eq_append_getElem hp, pval_snoc, ← hdgv]
               have : d[k] = x := by rw [List.getElem?_eq_getElem hp] at hxd; injection hxd
               rw [this])
             have hdg10 : dg < 10 := by omega
             clear hx hxd hcase hdec hdgv hdx
             generalize (wr.iterAt w2.heap.size ⟨d.toArray⟩ (k + 1)) = Wi at *
             go_wp2_with fail
             refine (grown_w (w2.heap.size + 1) (pval (d.take k)) dg _ _ hdg10 hFv2 hpt (by omega)).mono ?_
             rintro e w9 ⟨v9, rfl, hF9, b9⟩
             have hit9 : w9.heap[w2.heap.size]? = some (.stringIter ⟨d.toArray⟩ (k + 1)) := (b9.block _ (by omega)).trans hit2
             have hs9 := b9.size
             go_wp2
             go_roundg (gk - 1)
             case measure => omega
             case rel => exact ⟨k + 1, by omega, hit9, by rw [hpn.out]; exact hF9, hbw2.trans (below_le b9 (by omega)), by omega⟩
           · have hp' : ¬ k < (⟨d.toArray⟩ : ByteArray).size := by rw [hds]; exact hp
             have hnx : ∀ ty, (Instr.next (.pointer (some ⟨w2.heap.size, 0, none⟩)) true ty).run Tryz.prog wr = _ := fun ty => Lib.run_next_end_at wr w2.heap.size ⟨d.toArray⟩ k ty hit hp'
             rw [List.take_of_length_le (by omega)] at hFv
             have hsl := hFv.slv (K := 1000000) (lm_glim (b := 4294967296) (by omega) _) (gval_glim (by omega) _) (by omega)
             obtain ⟨ov, cv, hve, hLv, hcv, _⟩ := hFv.parts
             subst hve
             obtain ⟨r1, r2, r3, r4⟩ := id kRr
             by_cases h64 : (glim 4294967296 (pval d)).length ≤ 64
             · have h64z : ¬ (64 : Int) < ((glim 4294967296 (pval d)).length : Int) := by omega
               have hE : Er = 0 := by rw [← hE2.out, if_neg (by omega)]
               have hZv : Z = sv true (pval d) := by rw [← hZ'.out, if_pos hE]
               subst hE
               have hN : IsN (.agg #[.bool true, .slice ov (glim 4294967296 (pval d)).length cv]) Z 64 wr := by
                 rw [hZv]; exact ⟨true, ov, _, cv, rfl, hLv, hcv, lm_glim (by omega) _, by rw [gval_glim (by omega)], h64⟩
               clear hE2 hZ' hsl hFv hZv
               go_wp2_with fail
               refine (view_w _ Z 64 _ (by omega) hN).mono ?_
               rintro e w9 ⟨v9, rfl, hv9, b9⟩
               obtain ⟨o9, c9, rfl, L9, z9, q9⟩ := (hv9 _ hN).below b9
               have hB9 := below_and hBr (Nat.le_refl _) b9
               have kR9 := kRr.below b9 (by have := hbw.size; omega)
               clear r1 r2 r3 r4
               obtain ⟨r1, r2, r3, r4⟩ := id kR9
               go_wp2
               refine bodyPost_ret (v := .tuple #[.agg #[.bool (decide (Z < 0)), .slice o9 (glim 4294967296 Z.natAbs).length c9], .int .i64 0]) (by simp [results, Tryz.results89, go_sem, r1, r2]) rfl ⟨_, rfl, ?_, ?_⟩
               · exact (show IsC _ Z _ _ from ⟨o9, c9, rfl, L9, z9, q9⟩).box kR9
               · exact (hB9.setCell (p := ⟨w.heap.size, 0, none⟩) (by simp) _).setCell (p := ⟨w.heap.size, 1, none⟩) (by simp) _
             · have h64z : (64 : Int) < ((glim 4294967296 (pval d)).length : Int) := by omega
               have hE : Er = 3 := by rw [← hE2.out, if_pos (.inr (by omega))]
               have hZ0 : Z = 0 := by rw [← hZ'.out, hE]; rfl
               subst hE hZ0
               clear hE2 hZ' hsl hFv
               go_wp2
               refine bodyPost_ret (v := .tuple #[.agg #[.bool false, .slice none 0 0], .int .i64 3]) (by simp [results, Tryz.results89, go_sem, r1, r2]) rfl ⟨_, rfl, isC_zero _ _, ?_⟩
               exact (hBr.setCell (p := ⟨w.heap.size, 0, none⟩) (by simp) _).setCell (p := ⟨w.heap.size, 1, none⟩) (by simp) _
     · have h620z : (620 : Int) < (d.length : Int) := by omega
       have hE : Er = 3 := by rw [← hE2.out, if_pos (.inl (by omega))]
       have hZ0 : Z = 0 := by rw [← hZ'.out, hE]; rfl
       subst hE hZ0
       clear hE2 hZ'
       cases ng with
       | false =>
         go_wp2
         refine bodyPost_ret (v := .tuple #[.agg #[.bool false, .slice none 0 0], .int .i64 3]) (by simp [results, Tryz.results89, go_sem, r1, r2]) rfl ⟨_, rfl, isC_zero _ _, ?_⟩
         exact (hB2.setCell (p := ⟨w.heap.size, 0, none⟩) (by simp) _).setCell (p := ⟨w.heap.size, 1, none⟩) (by simp) _
       | true =>
         have hq48 := hfin.out rfl
         go_wp2
         refine bodyPost_ret (v := .tuple #[.agg #[.bool false, .slice none 0 0], .int .i64 3]) (by simp [results, Tryz.results89, go_sem, r1, r2]) rfl ⟨_, rfl, isC_zero _ _, ?_⟩
         exact (hB2.setCell (p := ⟨w.heap.size, 0, none⟩) (by simp) _).setCell (p := ⟨w.heap.size, 1, none⟩) (by simp) _
def nmB (most : Int) (l : List UInt8) : Bool := pE l == 0 && smlB (pZ l) && decide (smlN (pZ l) ≤ most)
def nmN (most : Int) (l : List UInt8) : Int := if nmB most l then smlN (pZ l) else 0
set_option maxHeartbeats 2000000 in
theorem rdnum_w (g : Nat) (r : List UInt8) (ov : Value) (most : Int) (w : World) (hr : r.length ≤ 1000000) (h : Rdr g r ov w) :
   Calls Tryz.prog 85 #[.pointer (some ⟨g, 0, none⟩), .int .i64 most] w fun e w' => e = .returned (.tuple #[.int .i64 (nmN most (r.takeWhile digB)), .bool (nmB most (r.takeWhile digB))]) ∧ Rdr g (r.dropWhile digB) ov w' ∧ Kpt (fun b => b = g) w w' := by
 have c1 := digits_w g r ov w hr h
 have hDl : (r.takeWhile digB).length ≤ 1000000 := Nat.le_trans (List.takeWhile_prefix digB).length_le hr
 generalize r.takeWhile digB = D at *
 generalize r.dropWhile digB = r' at *
 obtain ⟨RN, hRN⟩ : ∃ RN, nmN most D = RN := ⟨_, rfl⟩
 obtain ⟨RB, hRB⟩ : ∃ RB, nmB most D = RB := ⟨_, rfl⟩
 rw [hRN, hRB]
 have c2 := fun w' => parse_w (bs D) w' (by rw [bs_size]; exact hDl)
 rw [bs_list] at c2
 obtain ⟨E, hE⟩ : ∃ E, pE D = E := ⟨_, rfl⟩
 obtain ⟨Z, hZ⟩ : ∃ Z, pZ D = Z := ⟨_, rfl⟩
 rw [hE, hZ] at c2
 obtain ⟨SN, hSN⟩ : ∃ SN, smlN Z = SN := ⟨_, rfl⟩
 obtain ⟨SB, hSB⟩ : ∃ SB, smlB Z = SB := ⟨_, rfl⟩
 have hB : Hid (RB = (E == 0 && SB && decide (SN ≤ most))) := hid (by rw [← hRB, nmB, hE, hZ, hSN, hSB])
 have hN : Hid (RN = if RB then SN else 0) := hid (by rw [← hRN, nmN, hRB, hZ, hSN])
 have hSH := hid (And.intro hSN hSB)
 clear hRN hRB hE hZ hSN hSB hDl hr h
 go_enter Tryz.func85, Tryz.ntmps85
 go_wp2_with fail
 refine c1.mono ?_
 rintro e w1 ⟨rfl, h1, k1⟩
 go_wp2_with fail
 refine (c2 w1).mono ?_
 rintro e w2 ⟨v2, rfl, hC, b2⟩
 obtain ⟨b, o, n, c, rfl⟩ := hC.shape
 have kc := Box.new w2 (.bool b) (.slice o n c) 117
 obtain ⟨W, hW⟩ : ∃ W, W = w2.alloc (.cells #[.bool b, .slice o n c] 117) := ⟨_, rfl⟩
 rw [← hW] at kc
 have bA : Below w2.heap.size w2 W := by rw [hW]; exact (Below.refl _ w2).alloc (Nat.le_refl _) _
 have bW : Below w1.heap.size w1 W := b2.trans (below_le bA b2.size)
 have hKW := hid (k1.trans (Kpt.of_below (F := fun b => b = g) bW))
 have hRW := hid (h1.below bW)
 have c3 := small_w _ Z 64 W (by omega) (hC.isN.below bA)
 rw [hSH.out.1, hSH.out.2] at c3
 obtain ⟨kc0, kc1, kc2, kc3⟩ := id kc
 have hWH := hid hW
 clear hW hC c1 c2 h1 k1 b2 bA kc
 by_cases hE0 : E = 0
 · subst hE0
   have hBx : Hid (RB = (SB && decide (SN ≤ most))) := hid (by rw [hB.out]; rfl)
   go_upto_region 2 with fail
   rw [← hWH.out]
   go_wp2_with fail
   refine c3.mono ?_
   rintro e w3 ⟨rfl, b3⟩
   have hRR := hid (hRW.out.below b3)
   have hKK := hid (hKW.out.trans (Kpt.of_below b3))
   clear c3
   cases SB with
   | false =>
     have q1 : RB = false := by rw [hBx.out]; rfl
     have q2 : RN = 0 := by rw [hN.out, q1]; rfl
     subst q1 q2
     go_wp2
     go_ret2
     exact ⟨rfl, hRR.out, hKK.out⟩
   | true =>
     by_cases hm : SN ≤ most
     · have q1 : RB = true := by rw [hBx.out]; simp [hm]
       have q2 : RN = SN := by rw [hN.out, q1]; rfl
       have hm2 : ¬ most < SN := by omega
       subst q1 q2
       go_wp2
       go_ret2
       exact ⟨rfl, hRR.out, hKK.out⟩
     · have q1 : RB = false := by rw [hBx.out]; simp [hm]
       have q2 : RN = 0 := by rw [hN.out, q1]; rfl
       have hm2 : most < SN := by omega
       subst q1 q2
       go_wp2
       go_ret2
       exact ⟨rfl, hRR.out, hKK.out⟩
 · have hn : (E != 0) = true := by simp [hE0]
   have q1 : RB = false := by rw [hB.out]; simp [hE0]
   have q2 : RN = 0 := by rw [hN.out, q1]; rfl
   subst q1 q2
   rw [hWH.out] at hKW hRW
   clear c3 kc0 kc1 kc2 kc3
   go_wp2
   go_ret2
   exact ⟨rfl, hRW.out, hKW.out⟩
def LeafV (B : Nat) (o : Option Tm) (v : Value) (w : World) : Prop :=
 match o with
 | none => v = .nilIface
 | some T => ∃ x, v = .iface 27 x ∧ TV (Zw B w) w T x
def pidL (r : List UInt8) : Option Tm × List UInt8 :=
 if nmB 1073741824 (r.takeWhile digB) then (if skB 62 (r.dropWhile digB) then some (numT 3 (nmN 1073741824 (r.takeWhile digB))) else none, skR 62 (r.dropWhile digB)) else (none, r.dropWhile digB)
def refL (r : List UInt8) : Option Tm × List UInt8 :=
 (if nmB 1073741824 (r.takeWhile digB) then some (numT 2 (nmN 1073741824 (r.takeWhile digB))) else none, r.dropWhile digB)
def intL (m r : List UInt8) : Option Tm × List UInt8 :=
 (if pE (m ++ r.takeWhile digB) = 0 then some (intT (pZ (m ++ r.takeWhile digB))) else none, r.dropWhile digB)
set_option maxHeartbeats 2000000 in
theorem pid_w (g : Nat) (r : List UInt8) (ov : Value) (w : World) (hr : r.length ≤ 1000000) (h : Rdr g r ov w) (hT : Tabs w) (hg : ∀ w', Kpt (fun b => b = g) w w' → Tabs w') :
   Calls Tryz.prog 53 #[.pointer (some ⟨g, 0, none⟩)] w fun e w' => ∃ v, e = .returned v ∧ LeafV w.heap.size (pidL r).1 v w' ∧ Rdr g (pidL r).2 ov w' ∧ Kpt (fun b => b = g) w w' := by
 have c1 := rdnum_w g r ov 1073741824 w hr h
 unfold pidL
 generalize r.takeWhile digB = D at *
 generalize r.dropWhile digB = r' at *
 obtain ⟨RN, hRN⟩ : ∃ RN, nmN 1073741824 D = RN := ⟨_, rfl⟩
 obtain ⟨RB, hRB⟩ : ∃ RB, nmB 1073741824 D = RB := ⟨_, rfl⟩
 rw [hRN, hRB] at c1
 rw [hRN, hRB]
 have c2 := fun w1 h1 k1 => skip_w g r' ov 62 62 rfl (by decide) w1 h1 (hg w1 k1)
 obtain ⟨SB, hSB⟩ : ∃ SB, skB 62 r' = SB := ⟨_, rfl⟩
 obtain ⟨r2, hr2⟩ : ∃ r2, skR 62 r' = r2 := ⟨_, rfl⟩
 rw [hSB, hr2] at c2
 rw [hSB, hr2]
 clear hRN hRB hSB hr2
 go_enter Tryz.func53, Tryz.ntmps53
 go_wp2_with fail
 refine c1.mono ?_
 rintro e w1 ⟨rfl, h1, k1⟩
 cases RB with
 | false =>
   have h1H := hid h1
   have k1H := hid k1
   clear h1 k1 c1 h
   go_wp2
   go_ret
   exact ⟨_, rfl, rfl, h1H.out, k1H.out⟩
 | true =>
   have c2 := c2 w1 h1 k1
   clear c1 h h1
   go_wp2_with fail
   refine c2.mono ?_
   rintro e w2 ⟨rfl, h2, k2⟩
   have h2H := hid h2
   have k2H := hid (k1.trans k2)
   clear c2 k1 k2 h2
   cases SB with
   | false =>
     go_wp2
     go_ret
     exact ⟨_, rfl, rfl, h2H.out, k2H.out⟩
   | true =>
     have c3 := Pid_w RN w2
     go_wp2_with fail
     refine c3.mono ?_
     rintro e w3 ⟨rfl, b3⟩
     go_wp2
     go_ret
     exact ⟨_, rfl, ⟨_, rfl, tv_flat 3 noS RN⟩, h2H.out.below b3, k2H.out.trans (Kpt.of_below b3)⟩
set_option maxHeartbeats 2000000 in
theorem ref_w (g : Nat) (r : List UInt8) (ov : Value) (w : World) (hr : r.length ≤ 1000000) (h : Rdr g r ov w) :
   Calls Tryz.prog 54 #[.pointer (some ⟨g, 0, none⟩)] w fun e w' => ∃ v, e = .returned v ∧ LeafV w.heap.size (refL r).1 v w' ∧ Rdr g (refL r).2 ov w' ∧ Kpt (fun b => b = g) w w' := by
 have c1 := rdnum_w g r ov 1073741824 w hr h
 unfold refL
 generalize r.takeWhile digB = D at *
 generalize r.dropWhile digB = r' at *
 obtain ⟨RN, hRN⟩ : ∃ RN, nmN 1073741824 D = RN := ⟨_, rfl⟩
 obtain ⟨RB, hRB⟩ : ∃ RB, nmB 1073741824 D = RB := ⟨_, rfl⟩
 rw [hRN, hRB] at c1
 rw [hRN, hRB]
 clear hRN hRB
 go_enter Tryz.func54, Tryz.ntmps54
 go_wp2_with fail
 refine c1.mono ?_
 rintro e w1 ⟨rfl, h1, k1⟩
 have h1H := hid h1
 have k1H := hid k1
 clear h1 k1 c1 h
 cases RB with
 | false =>
   go_wp2
   go_ret
   exact ⟨_, rfl, rfl, h1H.out, k1H.out⟩
 | true =>
   have c3 := Ref_w RN w1
   go_wp2_with fail
   refine c3.mono ?_
   rintro e w3 ⟨rfl, b3⟩
   go_wp2
   go_ret
   exact ⟨_, rfl, ⟨_, rfl, tv_flat 2 noS RN⟩, h1H.out.below b3, k1H.out.trans (Kpt.of_below b3)⟩
set_option maxHeartbeats 2000000 in
theorem rdint_w (g : Nat) (m r : List UInt8) (M : ByteArray) (hM : M = bs m) (ov : Value) (w : World) (hm : m.length ≤ 1) (hr : r.length ≤ 900000) (h : Rdr g r ov w) :
   Calls Tryz.prog 55 #[.pointer (some ⟨g, 0, none⟩), .string M] w fun e w' => ∃ v, e = .returned v ∧ LeafV w.heap.size (intL m r).1 v w' ∧ Rdr g (intL m r).2 ov w' ∧ Kpt (fun b => b = g) w w' := by
 subst hM
 have c1 := digits_w g r ov w (by omega) h
 have hDl : (r.takeWhile digB).length ≤ 900000 := Nat.le_trans (List.takeWhile_prefix digB).length_le hr
 unfold intL
 generalize r.takeWhile digB = D at *
 generalize r.dropWhile digB = r' at *
 have c2 := fun w' => parse_w (bs (m ++ D)) w' (by rw [bs_size, List.length_append]; omega)
 rw [bs_list] at c2
 obtain ⟨E, hE⟩ : ∃ E, pE (m ++ D) = E := ⟨_, rfl⟩
 obtain ⟨Z, hZ⟩ : ∃ Z, pZ (m ++ D) = Z := ⟨_, rfl⟩
 rw [hE, hZ] at c2
 rw [hE, hZ]
 obtain ⟨S, hS⟩ : ∃ S, bs (m ++ D) = S := ⟨_, rfl⟩
 have hSS : bs m ++ bs D = S := by rw [bs_cat, hS]
 have hsz : ¬ 9223372036854775807 < (bs m).size + (bs D).size := by rw [bs_size, bs_size]; omega
 rw [hS] at c2
 obtain ⟨D', hD'⟩ : ∃ D', bs D = D' := ⟨_, rfl⟩
 obtain ⟨m', hm'⟩ : ∃ m', bs m = m' := ⟨_, rfl⟩
 rw [hD'] at c1 hSS hsz
 rw [hm'] at hSS hsz ⊢
 clear hE hZ hS hD' hm' hDl hr h hm
 go_enter Tryz.func55, Tryz.ntmps55
 go_wp2_with fail
 refine c1.mono ?_
 rintro e w1 ⟨rfl, h1, k1⟩
 go_wp2_with fail
 refine (c2 w1).mono ?_
 rintro e w2 ⟨v2, rfl, hC, b2⟩
 obtain ⟨b, o, n, c, rfl⟩ := hC.shape
 have kc := Box.new w2 (.bool b) (.slice o n c) 117
 obtain ⟨W, hW⟩ : ∃ W, W = w2.alloc (.cells #[.bool b, .slice o n c] 117) := ⟨_, rfl⟩
 rw [← hW] at kc
 have bA : Below w2.heap.size w2 W := by rw [hW]; exact (Below.refl _ w2).alloc (Nat.le_refl _) _
 have bW : Below w1.heap.size w1 W := b2.trans (below_le bA b2.size)
 have hKW := hid (k1.trans (Kpt.of_below (F := fun b => b = g) bW))
 have hRW := hid (h1.below bW)
 have hzW : w.heap.size ≤ W.heap.size := Nat.le_trans k1.size bW.size
 have hzH := hid hzW
 have c3 := Num_w _ Z 64 W (by omega) (hC.isN.below bA)
 obtain ⟨kc0, kc1, kc2, kc3⟩ := id kc
 have hWH := hid hW
 clear hW hC c1 c2 h1 k1 b2 bA kc hzW
 by_cases hE0 : E = 0
 · subst hE0
   go_upto_region 2 with fail
   rw [← hWH.out]
   go_wp2_with fail
   refine c3.mono ?_
   rintro e w3 ⟨v3, rfl, hT3, _, b3⟩
   have hRR := hid (hRW.out.below b3)
   have hKK := hid (hKW.out.trans (Kpt.of_below b3))
   have hTT := hid (TV.mono (Z' := Zw w.heap.size w3) (fun k hk hz => by have := hzH.out; exact ⟨Nat.le_trans this hz.1, hz.2⟩) _ _ hT3)
   obtain ⟨k', neg', od', ld', cd', nm', n', ol', ll', cl', ob', lb', cb', rfl⟩ := hT3.form
   clear c3 hT3
   go_wp2
   go_ret
   exact ⟨_, rfl, ⟨_, rfl, hTT.out⟩, hRR.out, hKK.out⟩
 · have hn : (E != 0) = true := by simp [hE0]
   rw [hWH.out] at hKW hRW
   clear c3 kc0 kc1 kc2 kc3
   go_wp2
   go_ret
   exact ⟨_, rfl, rfl, hRW.out, hKW.out⟩
def stB (x : Nat) : Bool := x / 64 != 2
set_option maxRecDepth 100000 in
theorem st_bits : ∀ x : Fin 256, (bits .and .u8 ((x.val : Nat) : Int) 192 != 128) = stB x.val := by decide
def nearGo (r : List UInt8) : Nat → Nat
 | 0 => 0
 | k + 1 => match r[k + 1]? with
   | some b => if stB b.toNat then k + 1 else nearGo r k
   | none => k + 1
def nearN (r : List UInt8) : Nat := if r.length ≤ 1277 then r.length else nearGo r 1277
theorem nearGo_le (r : List UInt8) : ∀ k, nearGo r k ≤ k
 | 0 => Nat.le_refl _
 | k + 1 => by
   unfold nearGo
   have := nearGo_le r k
   split
   · split <;> omega
   · omega
set_option maxHeartbeats 2000000 in
theorem near_w (g : Nat) (r : List UInt8) (ov : Value) (w : World) (hr : r.length ≤ 1000000) (h : Rdr g r ov w) (h0 : ∀ b, r[0]? = some b → stB b.toNat = true) :
   Calls Tryz.prog 93 #[.pointer (some ⟨g, 0, none⟩)] w fun e w' => e = .returned (.string (bs (r.take (nearN r)))) ∧ w' = w := by
 obtain ⟨y0, y1, f0, f1⟩ := h.cells
 obtain ⟨R, hR⟩ : ∃ R, bs (r.take (nearN r)) = R := ⟨_, rfl⟩
 rw [hR]
 have hRH := hid hR
 have hsz : (bs r).size = r.length := bs_size r
 have hszH := hid hsz
 have hz0 : ((bs r).size : Int) ≤ 1000000 := by omega
 have hH0 := hid h0
 clear h hR hsz h0
 go_enter Tryz.func93, Tryz.ntmps93
 by_cases hl : r.length ≤ 1277
 · have hmin : min ((bs r).size : Int) 1277 = ((bs r).size : Int) := by have := hszH.out; omega
   have e1 : Hid (bs r = R) := hid (by rw [← hRH.out]; unfold nearN; rw [if_pos hl, List.take_length])
   go_wp2
   go_loopw [3] (fun v wr => v = .int .i64 ((bs r).size : Int) ∧ wr = w) (fun _ _ => 0)
   case atStart => exact ⟨rfl, rfl⟩
   case round =>
     obtain ⟨rfl, rfl⟩ := hrel
     have e2 : (bs r).extract 0 (bs r).size = R := by rw [ex_take, bs_size, List.take_length, e1.out]
     go_wp2
     go_ret
     exact ⟨rfl, rfl⟩
 · have hmin : min ((bs r).size : Int) 1277 = 1277 := by have := hszH.out; omega
   go_wp2
   go_loopw [3] (fun v wr => ∃ k : Nat, v = .int .i64 (k : Int) ∧ k ≤ 1277 ∧ Hid (nearGo r k = nearN r) ∧ wr = w) (fun v _ => (intOf v).toNat)
   case atStart => exact ⟨1277, rfl, Nat.le_refl _, hid (by unfold nearN; rw [if_neg hl]), rfl⟩
   case round =>
     obtain ⟨k, rfl, hk, hN, rfl⟩ := hrel
     have hkr : k < r.length := by omega
     have hks : (k : Int) < ((bs r).size : Int) := by have := hszH.out; omega
     obtain ⟨b, hb⟩ : ∃ b, r[k]? = some b := ⟨r[k]'hkr, by simp⟩
     have hksn : k < (bs r).size := by have := hszH.out; omega
     have hbk : (bs r)[k] = b := by
       have e := hb
       rw [List.getElem?_eq_getElem hkr] at e
       injection e with e
     have hbb := st_bits ⟨(bs r)[k].toNat, (bs r)[k].toNat_lt⟩
     simp only [] at hbb
     rw [show stB (bs r)[k].toNat = stB b.toNat by rw [hbk]] at hbb
     clear hbk
     have hbH := hid hb
     clear hb
     have hkp := hid hk
     cases hst : stB b.toNat with
     | true =>
       have hNk : nearN r = k := by
         rw [← hN.out]
         cases k with
         | zero => rfl
         | succ k => unfold nearGo; rw [hbH.out]; simp [hst]
       have e2 : (bs r).extract 0 k = R := by rw [ex_take, ← hNk, hRH.out]
       rw [hst] at hbb
       clear hNk
       go_wp2
       go_ret
       exact ⟨rfl, rfl⟩
     | false =>
       rw [hst] at hbb
       cases k with
       | zero =>
         have := hH0.out b hbH.out
         rw [hst] at this
         cases this
       | succ k =>
         have hNk : Hid (nearGo r k = nearN r) := hid (by
           rw [← hN.out]
           rw [nearGo, hbH.out]
           simp [hst])
         go_wp2
         exact ⟨⟨k, by go_num, by omega, hNk, trivial⟩, by simp [intOf]⟩
end Go.Proofs.YtlojfmlaookpmaaGreatDoor
namespace Go.Proofs.YtlojfmlaookpmaaGreatDoor
open Go.Lib
def digV (r : Nat) : Nat := if 48 ≤ r ∧ r ≤ 57 then r - 48 else if 97 ≤ r ∧ r ≤ 102 then r - 87 else if 65 ≤ r ∧ r ≤ 70 then r - 55 else 16
def vR (n : Nat) : Bool := Lib.validRune (n : Int)
def addQ (L : Nat) (out : List Nat) (num dig r : Nat) : Nat × Nat × List Nat × Nat × Nat := if out.length = L then (3, 0, out, num, dig) else (0, 0, out ++ [r], num, dig)
def escQ (L : Nat) (out : List Nat) (num dig r : Nat) : Nat × Nat × List Nat × Nat × Nat :=
 if r = 39 ∨ r = 92 then addQ L out num dig r else if r = 110 then addQ L out num dig 10 else if r = 120 then (0, 2, out, 0, 0) else (4, 1, out, num, dig)
def numQ (L : Nat) (out : List Nat) (num dig r : Nat) : Nat × Nat × List Nat × Nat × Nat :=
 if r = 59 then (if dig = 0 ∨ vR num = false then (4, 2, out, num, dig) else addQ L out num dig num)
 else if digV r = 16 ∨ dig = 6 then (4, 2, out, num, dig) else (0, 2, out, num * 16 + digV r, dig + 1)
def takeQ (L part : Nat) (out : List Nat) (num dig r : Nat) : Nat × Nat × List Nat × Nat × Nat :=
 if part = 1 then escQ L out num dig r else if part = 2 then numQ L out num dig r
 else if hiddenB r then (4, 0, out, num, dig) else if r = 92 then (0, 1, out, num, dig) else addQ L out num dig r
def runQ (L : Nat) : Nat → List Nat → Nat → Nat → List Nat → Nat × List Nat × List Nat
 | _, _, _, _, [] => (2, [], [])
 | part, out, num, dig, r :: t =>
   if part = 0 ∧ r = 39 then (0, out, t)
   else if (takeQ L part out num dig r).1 = 0 then runQ L (takeQ L part out num dig r).2.1 (takeQ L part out num dig r).2.2.1 (takeQ L part out num dig r).2.2.2.1 (takeQ L part out num dig r).2.2.2.2 t
   else ((takeQ L part out num dig r).1, [], [])
theorem runQ_step (L part : Nat) (out : List Nat) (num dig r : Nat) (t : List Nat) (p' : Nat) (o' : List Nat) (n' d' : Nat) (h : ¬ (part = 0 ∧ r = 39)) (ht : takeQ L part out num dig r = (0, p', o', n', d')) :
   runQ L part out num dig (r :: t) = runQ L p' o' n' d' t := by
 rw [runQ, if_neg h, ht]; simp
theorem runQ_bad (L part : Nat) (out : List Nat) (num dig r : Nat) (t : List Nat) (h : ¬ (part = 0 ∧ r = 39)) (ht : (takeQ L part out num dig r).1 ≠ 0) :
   runQ L part out num dig (r :: t) = ((takeQ L part out num dig r).1, [], []) := by
 rw [runQ, if_neg h, if_neg ht]
theorem addQ_ok (L : Nat) (out : List Nat) (num dig r : Nat) (h : out.length < L) : addQ L out num dig r = (0, 0, out ++ [r], num, dig) := by
 unfold addQ; rw [if_neg (by omega)]
theorem digV_hexD (k : Nat) (h : k < 16) : digV (hexD k) = k := by
 unfold digV hexD
 by_cases h1 : k < 10
 · rw [if_pos h1, if_pos (by omega)]; omega
 · rw [if_neg h1, if_neg (by omega), if_pos (by omega)]; omega
theorem hexD_ne (k : Nat) (h : k < 16) : hexD k ≠ 59 ∧ hexD k ≠ 39 := by
 unfold hexD; split <;> omega
theorem vR_small (r : Nat) (h : r < 128) : vR r = true := by
 unfold vR Lib.validRune; simp; omega
theorem runQ_hex (L : Nat) (out : List Nat) (r : Nat) (t : List Nat) (hr : r < 128) (hl : out.length < L) : runQ L 2 out 0 0 (hex2 r ++ 59 :: t) = runQ L 0 (out ++ [r]) r (hex2 r).length t := by
 unfold hex2
 by_cases h : r < 16
 · rw [if_pos h]
   have hne := hexD_ne r h
   have hd := digV_hexD r h
   show runQ L 2 out 0 0 (hexD r :: 59 :: t) = _
   rw [runQ_step L 2 out 0 0 (hexD r) (59 :: t) 2 out r 1 (by omega) (by
     unfold takeQ numQ; rw [if_neg (by omega), if_pos rfl, if_neg hne.1, if_neg (by omega), hd]; simp)]
   rw [runQ_step L 2 out r 1 59 t 0 (out ++ [r]) r 1 (by omega) (by
     unfold takeQ numQ; rw [if_neg (by omega), if_pos rfl, if_pos rfl, if_neg (by rw [vR_small r hr]; simp), addQ_ok _ _ _ _ _ hl])]
   rfl
 · rw [if_neg h]
   have h1 : r / 16 < 16 := by omega
   have h2 : r % 16 < 16 := by omega
   have ha := hexD_ne _ h1
   have hb := hexD_ne _ h2
   have da := digV_hexD _ h1
   have db := digV_hexD _ h2
   show runQ L 2 out 0 0 (hexD (r / 16) :: hexD (r % 16) :: 59 :: t) = _
   rw [runQ_step L 2 out 0 0 (hexD (r / 16)) (hexD (r % 16) :: 59 :: t) 2 out (r / 16) 1 (by omega) (by
     unfold takeQ numQ; rw [if_neg (by omega), if_pos rfl, if_neg ha.1, if_neg (by omega), da]; simp)]
   rw [runQ_step L 2 out (r / 16) 1 (hexD (r % 16)) (59 :: t) 2 out r 2 (by omega) (by
     unfold takeQ numQ; rw [if_neg (by omega), if_pos rfl, if_neg hb.1, if_neg (by omega), db]; congr 4; omega)]
   rw [runQ_step L 2 out r 2 59 t 0 (out ++ [r]) r 2 (by omega) (by
     unfold takeQ numQ; rw [if_neg (by omega), if_pos rfl, if_pos rfl, if_neg (by rw [vR_small r hr]; simp), addQ_ok _ _ _ _ _ hl])]
   rfl
theorem runQ_esc (L : Nat) (out : List Nat) (num dig r : Nat) (t : List Nat) (hl : out.length < L) : ∃ n d, runQ L 0 out num dig (escR r ++ t) = runQ L 0 (out ++ [r]) n d t := by
 unfold escR
 have hback : ∀ u, runQ L 0 out num dig (92 :: u) = runQ L 1 out num dig u := fun u =>
   runQ_step L 0 out num dig 92 u 1 out num dig (by omega) (by unfold takeQ; rw [if_neg (by omega), if_neg (by omega), if_neg (by decide), if_pos rfl])
 by_cases h1 : r = 39 ∨ r = 92
 · rw [if_pos h1]
   refine ⟨num, dig, ?_⟩
   show runQ L 0 out num dig (92 :: r :: t) = _
   rw [hback, runQ_step L 1 out num dig r t 0 (out ++ [r]) num dig (by omega) (by
     unfold takeQ escQ; rw [if_pos rfl, if_pos h1, addQ_ok _ _ _ _ _ hl])]
 · rw [if_neg h1]
   by_cases h2 : r = 10
   · rw [if_pos h2]
     refine ⟨num, dig, ?_⟩
     show runQ L 0 out num dig (92 :: 110 :: t) = _
     rw [hback, runQ_step L 1 out num dig 110 t 0 (out ++ [10]) num dig (by omega) (by
       unfold takeQ escQ; rw [if_pos rfl, if_neg (by omega), if_pos rfl, addQ_ok _ _ _ _ _ hl]), h2]
   · rw [if_neg h2]
     cases hh : hiddenB r with
     | true =>
       refine ⟨r, (hex2 r).length, ?_⟩
       rw [if_pos rfl]
       show runQ L 0 out num dig (92 :: 120 :: ((hex2 r ++ [59]) ++ t)) = _
       rw [hback, runQ_step L 1 out num dig 120 _ 2 out 0 0 (by omega) (by
         unfold takeQ escQ; rw [if_pos rfl, if_neg (by omega), if_neg (by omega), if_pos rfl]), List.append_assoc]
       exact runQ_hex L out r t (hidden_lt hh) hl
     | false =>
       refine ⟨num, dig, ?_⟩
       rw [if_neg (by simp)]
       show runQ L 0 out num dig (r :: t) = _
       exact runQ_step L 0 out num dig r t 0 (out ++ [r]) num dig (by omega) (by
         unfold takeQ; rw [if_neg (by omega), if_neg (by omega), hh, if_neg (by simp), if_neg (by omega), addQ_ok _ _ _ _ _ hl])
theorem runQ_back (L : Nat) : ∀ (rs out : List Nat) (num dig : Nat) (t : List Nat), out.length + rs.length ≤ L → runQ L 0 out num dig (escs rs ++ 39 :: t) = (0, out ++ rs, t)
 | [], out, num, dig, t, _ => by
   show runQ L 0 out num dig (39 :: t) = _
   rw [runQ, if_pos ⟨rfl, rfl⟩]; simp
 | r :: rs, out, num, dig, t, h => by
   simp only [List.length_cons] at h
   show runQ L 0 out num dig ((escR r ++ escs rs) ++ 39 :: t) = _
   rw [List.append_assoc]
   obtain ⟨n, d, e⟩ := runQ_esc L out num dig r (escs rs ++ 39 :: t) (by omega)
   rw [e, runQ_back L rs (out ++ [r]) n d t (by simp; omega)]
   simp
theorem bare_seen (r : Nat) (f : Bool) (h : bareB r f = true) : hiddenB r = false ∧ r ≠ 39 ∧ r < 128 := by
 unfold bareB at h
 unfold hiddenB
 simp at h ⊢
 omega
end Go.Proofs.YtlojfmlaookpmaaGreatDoor
namespace Go.Proofs.YtlojfmlaookpmaaGreatDoor
open Go.ChangeShapes Go.WideShapes Go.ChangeAt Go.RowKit Go.Shelf
theorem Bld.set {T : TypeId} {B b : Nat} {pre post : List Value} {bs : List UInt8} {w : World} (h : Bld T B b pre post bs w) (j : Nat) (q : Value) (pre' post' : List Value)
   (hs : ∀ p v, (pre ++ p :: v :: post).set j q = pre' ++ p :: v :: post') (hl : pre'.length = pre.length) : Bld T B b pre' post' bs (w.setCell ⟨b, j, none⟩ q) := by
 obtain ⟨hB, hT, p, v, hp, hb, hown, he⟩ := h
 exact ⟨hB, hT, p, v, by rw [hl]; exact hp, by rw [heap_set hb, hs], sown_set hb hT hown _, he⟩
theorem Bld.cell {T : TypeId} {B b : Nat} {pre post : List Value} {bs : List UInt8} {w : World} (h : Bld T B b pre post bs w) (j : Nat) (x : Value)
   (hx : ∀ p v, (pre ++ p :: v :: post)[j]? = some x) : w.cell? ⟨b, j, none⟩ = some x := by
 obtain ⟨hB, hT, p, v, hp, hb, hown, he⟩ := h
 rw [Lib.cell_of_heap hb]; simpa using hx p v
theorem Bld.fz {T : TypeId} {B b : Nat} {pre post : List Value} {bs : List UInt8} {w : World} (h : Bld T B b pre post bs w) (j : Nat) : w.frozen? ⟨b, j, none⟩ = false := by
 obtain ⟨hB, hT, p, v, hp, hb, hown, he⟩ := h
 exact Lib.frozen_of_heap hb _
def Qd (B b part : Nat) (out : List Nat) (num dig : Nat) (w : World) : Prop :=
 Bld 167 B b [.int .i64 (part : Int)] [.int .i64 (out.length : Int), .int .i32 (num : Int), .int .i64 (dig : Int)] (en out) w
def Q5 (B b : Nat) (t : Nat × Nat × List Nat × Nat × Nat) (w : World) : Prop := t.1 = 0 → Qd B b t.2.1 t.2.2.1 t.2.2.2.1 t.2.2.2.2 w
theorem digit_w (r : Nat) (w : World) (hr : r ≤ 1114111) :
   Calls Tryz.prog 151 #[.int .i32 (r : Int)] w fun e w' => e = .returned (.tuple #[.int .i32 (if digV r = 16 then 0 else (digV r : Int)), .bool (!decide (digV r = 16))]) ∧ w = w' := by
 obtain ⟨D, hD⟩ : ∃ D, digV r = D := ⟨_, rfl⟩
 rw [hD]
 unfold digV at hD
 by_cases h1 : 48 ≤ r ∧ r ≤ 57
 · rw [if_pos h1] at hD
   have a1 : (48 : Int) ≤ (r : Int) := by omega
   have a2 : (r : Int) ≤ 57 := by omega
   have e1 : ¬ D = 16 := by omega
   have e2 : (r : Int) - 48 = (D : Int) := by omega
   go_enter Tryz.func151, Tryz.ntmps151
   go_wp2
   all_goals go_ret2
   all_goals (refine ⟨?_, rfl⟩; simp [e1])
 · rw [if_neg h1] at hD
   by_cases h2 : 97 ≤ r ∧ r ≤ 102
   · rw [if_pos h2] at hD
     have a1 : (97 : Int) ≤ (r : Int) := by omega
     have a2 : (r : Int) ≤ 102 := by omega
     have a3 : (57 : Int) < (r : Int) := by omega
     have e1 : ¬ D = 16 := by omega
     have e2 : (r : Int) - 97 + 10 = (D : Int) := by omega
     go_enter Tryz.func151, Tryz.ntmps151
     go_wp2
     all_goals go_ret2
     all_goals (refine ⟨?_, rfl⟩; simp [e1])
   · rw [if_neg h2] at hD
     by_cases h3 : 65 ≤ r ∧ r ≤ 70
     · rw [if_pos h3] at hD
       have a1 : (65 : Int) ≤ (r : Int) := by omega
       have a2 : (r : Int) ≤ 70 := by omega
       have a3 : (57 : Int) < (r : Int) := by omega
       have a4 : ¬ (97 : Int) ≤ (r : Int) := by omega
       have e1 : ¬ D = 16 := by omega
       have e2 : (r : Int) - 65 + 10 = (D : Int) := by omega
       go_enter Tryz.func151, Tryz.ntmps151
       go_wp2
       all_goals go_ret2
       all_goals (refine ⟨?_, rfl⟩; simp [e1])
     · rw [if_neg h3] at hD
       subst hD
       go_enter Tryz.func151, Tryz.ntmps151
       go_wp2
       all_goals first
         | (exfalso; omega)
         | (go_ret2; refine ⟨?_, rfl⟩; simp)
set_option maxHeartbeats 2000000 in
theorem add_w (B b part : Nat) (out : List Nat) (num dig r : Nat) (hr : r ≤ 1114111) (w : World) (h : Qd B b part out num dig w) (hlen : out.length ≤ 255) (hBw : B ≤ w.heap.size) :
   Calls Tryz.prog 146 #[.pointer (some ⟨b, 0, none⟩), .int .i32 (r : Int)] w fun e w' => e = .returned (.int .i64 ((addQ 255 out num dig r).1 : Int)) ∧ Q5 B b (addQ 255 out num dig r) w' ∧ Below B w w' ∧ Lib.OthersKept 5 (some b) w w' := by
 have c3 := Bld.cell h 3 _ (fun _ _ => rfl)
 have f3 := Bld.fz h 3
 have c0 := Bld.cell h 0 _ (fun _ _ => rfl)
 obtain ⟨hB, _⟩ := id h
 by_cases hl : out.length = 255
 · have e : addQ 255 out num dig r = (3, 0, out, num, dig) := by unfold addQ; rw [if_pos hl]
   have hlz : ((out.length : Int) == 255) = true := by simp; omega
   rw [e]
   go_enter Tryz.func146, Tryz.ntmps146
   go_wp2
   go_ret
   exact ⟨rfl, fun h => by simp at h, Below.refl _ _, Lib.OthersKept.refl _ _ _⟩
 · have e : addQ 255 out num dig r = (0, 0, out ++ [r], num, dig) := by unfold addQ; rw [if_neg hl]
   have hlz : ((out.length : Int) == 255) = false := by simp; omega
   rw [e]
   have hen4 := en_length_le out
   have h2 : Bld 167 B b [.int .i64 (part : Int)] [.int .i64 ((out.length : Int) + 1), .int .i32 (num : Int), .int .i64 (dig : Int)] (en out) (w.setCell ⟨b, 3, none⟩ (.int .i64 ((out.length : Int) + 1))) :=
     Bld.set h 3 _ _ _ (fun _ _ => rfl) rfl
   go_enter Tryz.func146, Tryz.ntmps146
   go_wp2_with fail
   refine (writeRune_w _ B b [.int .i64 (part : Int)] [.int .i64 ((out.length : Int) + 1), .int .i32 (num : Int), .int .i64 (dig : Int)] (en out) r hr _ h2 home1 (by omega) (by simpa [World.setCell] using hBw)).mono ?_
   rintro e w2 ⟨rfl, h3, b3, k3⟩
   have d0 := Bld.cell h3 0 _ (fun _ _ => rfl)
   have g0 := Bld.fz h3 0
   go_wp2
   go_ret
   refine ⟨rfl, fun _ => ?_, ?_, ?_⟩
   · have h4 := Bld.set h3 0 (.int .i64 0) [.int .i64 0] [.int .i64 ((out.length : Int) + 1), .int .i32 (num : Int), .int .i64 (dig : Int)] (fun _ _ => rfl) rfl
     show Bld _ B b _ [.int .i64 ((out ++ [r]).length : Int), _, _] (en (out ++ [r])) _
     rw [en_append, en_one]
     have el : ((out ++ [r]).length : Int) = (out.length : Int) + 1 := by simp
     rw [el]
     exact h4
   · exact (((Below.refl B w).setCell (p := ⟨b, 3, none⟩) hB _).trans b3).setCell (p := ⟨b, 0, none⟩) hB _
   · exact (((Lib.OthersKept.refl _ _ w).setCell ⟨b, 3, none⟩ rfl _).trans k3).setCell ⟨b, 0, none⟩ rfl _
set_option maxHeartbeats 2000000 in
theorem takeEscape_w (B b : Nat) (out : List Nat) (num dig r : Nat) (hr : r ≤ 1114111) (w : World) (h : Qd B b 1 out num dig w) (hlen : out.length ≤ 255) (hBw : B ≤ w.heap.size) :
   Calls Tryz.prog 144 #[.pointer (some ⟨b, 0, none⟩), .int .i32 (r : Int)] w fun e w' => e = .returned (.int .i64 ((escQ 255 out num dig r).1 : Int)) ∧ Q5 B b (escQ 255 out num dig r) w' ∧ Below B w w' ∧ Lib.OthersKept 5 (some b) w w' := by
 have c0 := Bld.cell h 0 _ (fun _ _ => rfl)
 have c4 := Bld.cell h 4 _ (fun _ _ => rfl)
 have c5 := Bld.cell h 5 _ (fun _ _ => rfl)
 have f0 := Bld.fz h 0
 have f4 := Bld.fz h 4
 have f5 := Bld.fz h 5
 obtain ⟨hB, _⟩ := id h
 by_cases h1 : r = 39 ∨ r = 92
 · have e : escQ 255 out num dig r = addQ 255 out num dig r := by unfold escQ; rw [if_pos h1]
   have ca := add_w B b 1 out num dig r hr w h hlen hBw
   rw [e]
   have hz : ((r : Int) == 39) = true ∨ (((r : Int) == 39) = false ∧ ((r : Int) == 92) = true) := by
     rcases h1 with rfl | rfl
     · exact Or.inl rfl
     · exact Or.inr ⟨rfl, rfl⟩
   rcases hz with hz | ⟨hz, hz2⟩
   all_goals
     go_enter Tryz.func144, Tryz.ntmps144
     go_wp2_with fail
     refine ca.mono ?_
     rintro e w1 ⟨rfl, q1, b1, k1⟩
     go_wp2
     go_ret
     exact ⟨rfl, q1, b1, k1⟩
 · have a1 : ((r : Int) == 39) = false := by simp; omega
   have a2 : ((r : Int) == 92) = false := by simp; omega
   by_cases h2 : r = 110
   · have e : escQ 255 out num dig r = addQ 255 out num dig 10 := by unfold escQ; rw [if_neg h1, if_pos h2]
     have ca := add_w B b 1 out num dig 10 (by omega) w h hlen hBw
     have a3 : ((r : Int) == 110) = true := by subst h2; rfl
     rw [e]
     go_enter Tryz.func144, Tryz.ntmps144
     go_wp2_with fail
     refine ca.mono ?_
     rintro e w1 ⟨rfl, q1, b1, k1⟩
     go_wp2
     go_ret
     exact ⟨rfl, q1, b1, k1⟩
   · have a3 : ((r : Int) == 110) = false := by simp; omega
     by_cases h3 : r = 120
     · have e : escQ 255 out num dig r = (0, 2, out, 0, 0) := by unfold escQ; rw [if_neg h1, if_neg h2, if_pos h3]
       have a4 : ((r : Int) == 120) = true := by subst h3; rfl
       rw [e]
       go_enter Tryz.func144, Tryz.ntmps144
       go_wp2
       go_ret
       refine ⟨rfl, fun _ => ?_, (((Below.refl B w).setCell (p := ⟨b, 0, none⟩) hB _).setCell (p := ⟨b, 4, none⟩) hB _).setCell (p := ⟨b, 5, none⟩) hB _, (((Lib.OthersKept.refl _ _ w).setCell ⟨b, 0, none⟩ rfl _).setCell ⟨b, 4, none⟩ rfl _).setCell ⟨b, 5, none⟩ rfl _⟩
       exact Bld.set (Bld.set (Bld.set h 0 (.int .i64 2) [.int .i64 2] [.int .i64 (out.length : Int), .int .i32 (num : Int), .int .i64 (dig : Int)] (fun _ _ => rfl) rfl) 4 (.int .i32 0) [.int .i64 2] [.int .i64 (out.length : Int), .int .i32 0, .int .i64 (dig : Int)] (fun _ _ => rfl) rfl) 5 (.int .i64 0) [.int .i64 2] [.int .i64 (out.length : Int), .int .i32 0, .int .i64 0] (fun _ _ => rfl) rfl
     · have e : escQ 255 out num dig r = (4, 1, out, num, dig) := by unfold escQ; rw [if_neg h1, if_neg h2, if_neg h3]
       have a4 : ((r : Int) == 120) = false := by simp; omega
       rw [e]
       go_enter Tryz.func144, Tryz.ntmps144
       go_wp2
       go_ret
       exact ⟨rfl, fun h => by simp at h, Below.refl _ _, Lib.OthersKept.refl _ _ _⟩
theorem or4 (n d : Nat) (hn : n < 1048576) (hd : d < 16) : bits .or .i32 ((n : Int) * 16) (d : Int) = ((n * 16 + d : Nat) : Int) := by
 have := bits_join .i32 31 (by decide) wraps_i32 4 ((n : Int) * 16) (d : Int) (by omega) (by omega) (by omega) (by omega) (by omega) (by omega)
 rw [this]; omega
theorem pow16_lt {num dig : Nat} (h : num < 16 ^ dig) (hd : dig < 6) : num < 1048576 := by
 have : 16 ^ dig ≤ 16 ^ 5 := Nat.pow_le_pow_right (by decide) (by omega)
 have e : (16 : Nat) ^ 5 = 1048576 := by decide
 omega
theorem pow16_le {num dig : Nat} (h : num < 16 ^ dig) (hd : dig ≤ 6) : num < 16777216 := by
 have : 16 ^ dig ≤ 16 ^ 6 := Nat.pow_le_pow_right (by decide) (by omega)
 have e : (16 : Nat) ^ 6 = 16777216 := by decide
 omega
set_option maxHeartbeats 2000000 in
theorem takeNumber_w (B b : Nat) (out : List Nat) (num dig r : Nat) (hr : r ≤ 1114111) (w : World) (h : Qd B b 2 out num dig w) (hlen : out.length ≤ 255) (hBw : B ≤ w.heap.size) (hnum : num < 16 ^ dig) (hdig : dig ≤ 6) :
   Calls Tryz.prog 145 #[.pointer (some ⟨b, 0, none⟩), .int .i32 (r : Int)] w fun e w' => e = .returned (.int .i64 ((numQ 255 out num dig r).1 : Int)) ∧ Q5 B b (numQ 255 out num dig r) w' ∧ Below B w w' ∧ Lib.OthersKept 5 (some b) w w' := by
 have c4 := Bld.cell h 4 _ (fun _ _ => rfl)
 have c5 := Bld.cell h 5 _ (fun _ _ => rfl)
 have f4 := Bld.fz h 4
 have f5 := Bld.fz h 5
 obtain ⟨hB, _⟩ := id h
 have hnl := pow16_le hnum hdig
 by_cases h1 : r = 59
 · have a1 : ((r : Int) == 59) = true := by subst h1; rfl
   by_cases h2 : dig = 0
   · have e : numQ 255 out num dig r = (4, 2, out, num, dig) := by unfold numQ; rw [if_pos h1, if_pos (Or.inl h2)]
     have a2 : ((dig : Int) == 0) = true := by subst h2; rfl
     rw [e]
     go_enter Tryz.func145, Tryz.ntmps145
     go_wp2
     go_ret
     exact ⟨rfl, fun h => by simp at h, Below.refl _ _, Lib.OthersKept.refl _ _ _⟩
   · have a2 : ((dig : Int) == 0) = false := by simp; omega
     cases hv : vR num with
     | false =>
       have e : numQ 255 out num dig r = (4, 2, out, num, dig) := by unfold numQ; rw [if_pos h1, if_pos (Or.inr hv)]
       have cv := validRune_w (num : Int) w
       rw [show Lib.validRune (num : Int) = false from hv] at cv
       rw [e]
       go_enter Tryz.func145, Tryz.ntmps145
       go_wp2_with fail
       refine cv.mono ?_
       rintro e w1 ⟨rfl, rfl⟩
       go_wp2
       go_ret
       exact ⟨rfl, fun h => by simp at h, Below.refl _ _, Lib.OthersKept.refl _ _ _⟩
     | true =>
       have e : numQ 255 out num dig r = addQ 255 out num dig num := by unfold numQ; rw [if_pos h1, if_neg (by simp [h2, hv])]
       have cv := validRune_w (num : Int) w
       rw [show Lib.validRune (num : Int) = true from hv] at cv
       have hle : num ≤ 1114111 := by
         unfold vR Lib.validRune at hv
         simp at hv; omega
       have ca := add_w B b 2 out num dig num hle w h hlen hBw
       rw [e]
       go_enter Tryz.func145, Tryz.ntmps145
       go_wp2_with fail
       refine cv.mono ?_
       rintro e w1 ⟨rfl, rfl⟩
       go_wp2_with fail
       refine ca.mono ?_
       rintro e w2 ⟨rfl, q1, b1, k1⟩
       go_wp2
       go_ret
       exact ⟨rfl, q1, b1, k1⟩
 · have a1 : ((r : Int) == 59) = false := by simp; omega
   have cd := digit_w r w hr
   by_cases h2 : digV r = 16
   · have e : numQ 255 out num dig r = (4, 2, out, num, dig) := by unfold numQ; rw [if_neg h1, if_pos (Or.inl h2)]
     rw [e]
     rw [h2] at cd
     go_enter Tryz.func145, Tryz.ntmps145
     go_wp2_with fail
     refine cd.mono ?_
     rintro e w1 ⟨rfl, rfl⟩
     go_wp2
     go_ret
     exact ⟨rfl, fun h => by simp at h, Below.refl _ _, Lib.OthersKept.refl _ _ _⟩
   · rw [if_neg h2, show (!decide (digV r = 16)) = true by simp [h2]] at cd
     have hd16 : digV r < 16 := by
       unfold digV at h2 ⊢
       split at h2
       · rw [if_pos (by assumption)]; omega
       · rw [if_neg (by assumption)]
         split at h2
         · rw [if_pos (by assumption)]; omega
         · rw [if_neg (by assumption)]
           split at h2
           · rw [if_pos (by assumption)]; omega
           · exact absurd rfl h2
     by_cases h3 : dig = 6
     · have e : numQ 255 out num dig r = (4, 2, out, num, dig) := by unfold numQ; rw [if_neg h1, if_pos (Or.inr h3)]
       have a3 : ((dig : Int) == 6) = true := by subst h3; rfl
       rw [e]
       go_enter Tryz.func145, Tryz.ntmps145
       go_wp2_with fail
       refine cd.mono ?_
       rintro e w1 ⟨rfl, rfl⟩
       go_wp2
       go_ret
       exact ⟨rfl, fun h => by simp at h, Below.refl _ _, Lib.OthersKept.refl _ _ _⟩
     · have e : numQ 255 out num dig r = (0, 2, out, num * 16 + digV r, dig + 1) := by unfold numQ; rw [if_neg h1, if_neg (by simp [h2, h3])]
       have a3 : ((dig : Int) == 6) = false := by simp; omega
       have hn5 := pow16_lt hnum (by omega)
       obtain ⟨d, hd⟩ : ∃ d, digV r = d := ⟨_, rfl⟩
       rw [hd] at cd e hd16
       have hor := or4 num d hn5 hd16
       rw [e]
       go_enter Tryz.func145, Tryz.ntmps145
       go_wp2_with fail
       refine cd.mono ?_
       rintro e w1 ⟨rfl, rfl⟩
       go_wp2
       go_ret
       refine ⟨rfl, fun _ => ?_, ((Below.refl B w).setCell (p := ⟨b, 4, none⟩) hB _).setCell (p := ⟨b, 5, none⟩) hB _, ((Lib.OthersKept.refl _ _ w).setCell ⟨b, 4, none⟩ rfl _).setCell ⟨b, 5, none⟩ rfl _⟩
       have h4 := Bld.set (Bld.set h 4 (.int .i32 ((num : Int) * 16 + (d : Int))) [.int .i64 2] [.int .i64 (out.length : Int), .int .i32 ((num : Int) * 16 + (d : Int)), .int .i64 (dig : Int)] (fun _ _ => rfl) rfl) 5 (.int .i64 ((dig : Int) + 1)) [.int .i64 2] [.int .i64 (out.length : Int), .int .i32 ((num : Int) * 16 + (d : Int)), .int .i64 ((dig : Int) + 1)] (fun _ _ => rfl) rfl
       show Bld _ B b [.int .i64 ((2 : Nat) : Int)] [.int .i64 (out.length : Int), .int .i32 ((num * 16 + d : Nat) : Int), .int .i64 ((dig + 1 : Nat) : Int)] (en out) _
       rw [show ((num * 16 + d : Nat) : Int) = (num : Int) * 16 + (d : Int) by omega, show ((dig + 1 : Nat) : Int) = (dig : Int) + 1 by omega]
       exact h4
set_option maxHeartbeats 2000000 in
theorem take_w (B b part : Nat) (out : List Nat) (num dig r : Nat) (hr : r ≤ 1114111) (w : World) (h : Qd B b part out num dig w) (hpart : part ≤ 2) (hlen : out.length ≤ 255) (hBw : B ≤ w.heap.size) (hnum : num < 16 ^ dig) (hdig : dig ≤ 6) :
   Calls Tryz.prog 140 #[.pointer (some ⟨b, 0, none⟩), .int .i32 (r : Int)] w fun e w' => e = .returned (.int .i64 ((takeQ 255 part out num dig r).1 : Int)) ∧ Q5 B b (takeQ 255 part out num dig r) w' ∧ Below B w w' ∧ Lib.OthersKept 5 (some b) w w' := by
 have c0 := Bld.cell h 0 _ (fun _ _ => rfl)
 have f0 := Bld.fz h 0
 obtain ⟨hB, _⟩ := id h
 by_cases p1 : part = 1
 · subst p1
   have e : takeQ 255 1 out num dig r = escQ 255 out num dig r := by unfold takeQ; rw [if_pos rfl]
   have ca := takeEscape_w B b out num dig r hr w h hlen hBw
   rw [e]
   go_enter Tryz.func140, Tryz.ntmps140
   go_wp2_with fail
   refine ca.mono ?_
   rintro e w1 ⟨rfl, q1, b1, k1⟩
   go_wp2
   go_ret
   exact ⟨rfl, q1, b1, k1⟩
 · by_cases p2 : part = 2
   · subst p2
     have e : takeQ 255 2 out num dig r = numQ 255 out num dig r := by unfold takeQ; rw [if_neg (by decide), if_pos rfl]
     have ca := takeNumber_w B b out num dig r hr w h hlen hBw hnum hdig
     rw [e]
     go_enter Tryz.func140, Tryz.ntmps140
     go_wp2_with fail
     refine ca.mono ?_
     rintro e w1 ⟨rfl, q1, b1, k1⟩
     go_wp2
     go_ret
     exact ⟨rfl, q1, b1, k1⟩
   · obtain rfl : part = 0 := by omega
     have ch := hidden_w r w
     cases hh : hiddenB r with
     | true =>
       have e : takeQ 255 0 out num dig r = (4, 0, out, num, dig) := by unfold takeQ; rw [if_neg (by decide), if_neg (by decide), if_pos hh]
       rw [hh] at ch
       rw [e]
       go_enter Tryz.func140, Tryz.ntmps140
       go_wp2_with fail
       refine ch.mono ?_
       rintro e w1 ⟨rfl, rfl⟩
       go_wp2
       go_ret
       exact ⟨rfl, fun h => by simp at h, Below.refl _ _, Lib.OthersKept.refl _ _ _⟩
     | false =>
       rw [hh] at ch
       by_cases h2 : r = 92
       · have e : takeQ 255 0 out num dig r = (0, 1, out, num, dig) := by unfold takeQ; rw [if_neg (by decide), if_neg (by decide), if_neg (by simp [hh]), if_pos h2]
         have a2 : ((r : Int) == 92) = true := by subst h2; rfl
         rw [e]
         clear h2
         go_enter Tryz.func140, Tryz.ntmps140
         go_wp2_with fail
         refine ch.mono ?_
         rintro e w1 ⟨rfl, rfl⟩
         go_wp2
         go_ret
         refine ⟨rfl, fun _ => ?_, (Below.refl B w).setCell (p := ⟨b, 0, none⟩) hB _, (Lib.OthersKept.refl _ _ w).setCell ⟨b, 0, none⟩ rfl _⟩
         exact Bld.set h 0 (.int .i64 1) [.int .i64 1] _ (fun _ _ => rfl) rfl
       · have e : takeQ 255 0 out num dig r = addQ 255 out num dig r := by unfold takeQ; rw [if_neg (by decide), if_neg (by decide), if_neg (by simp [hh]), if_neg h2]
         have a2 : ((r : Int) == 92) = false := by simp; omega
         have ca := add_w B b 0 out num dig r hr w h hlen hBw
         rw [e]
         go_enter Tryz.func140, Tryz.ntmps140
         go_wp2_with fail
         refine ch.mono ?_
         rintro e w1 ⟨rfl, rfl⟩
         go_wp2_with fail
         refine ca.mono ?_
         rintro e w1 ⟨rfl, q1, b1, k1⟩
         go_wp2
         go_ret
         exact ⟨rfl, q1, b1, k1⟩
theorem takeQ_inv (part : Nat) (out : List Nat) (num dig r : Nat) (hlen : out.length ≤ 255) (hnum : num < 16 ^ dig) (hdig : dig ≤ 6) (h0 : (takeQ 255 part out num dig r).1 = 0) :
   (takeQ 255 part out num dig r).2.1 ≤ 2 ∧ (takeQ 255 part out num dig r).2.2.1.length ≤ 255 ∧ (takeQ 255 part out num dig r).2.2.2.1 < 16 ^ (takeQ 255 part out num dig r).2.2.2.2 ∧ (takeQ 255 part out num dig r).2.2.2.2 ≤ 6 := by
 have ha : ∀ x, (addQ 255 out num dig x).1 = 0 → (addQ 255 out num dig x).2.1 ≤ 2 ∧ (addQ 255 out num dig x).2.2.1.length ≤ 255 ∧ (addQ 255 out num dig x).2.2.2.1 < 16 ^ (addQ 255 out num dig x).2.2.2.2 ∧ (addQ 255 out num dig x).2.2.2.2 ≤ 6 := by
   intro x hx
   unfold addQ at hx ⊢
   by_cases hl : out.length = 255
   · rw [if_pos hl] at hx; simp at hx
   · rw [if_neg hl]; simp; exact ⟨by omega, hnum, hdig⟩
 unfold takeQ at h0 ⊢
 split
 · rename_i h1
   rw [if_pos h1] at h0
   unfold escQ at h0 ⊢
   split
   · rename_i h2; rw [if_pos h2] at h0; exact ha _ h0
   · rename_i h2
     rw [if_neg h2] at h0
     split
     · rename_i h3; rw [if_pos h3] at h0; exact ha _ h0
     · rename_i h3
       rw [if_neg h3] at h0
       split
       · exact ⟨by simp, by simpa using hlen, by simp, by simp⟩
       · rename_i h4; rw [if_neg h4] at h0; simp at h0
 · rename_i h1
   rw [if_neg h1] at h0
   split
   · rename_i h2
     rw [if_pos h2] at h0
     unfold numQ at h0 ⊢
     split
     · rename_i h3
       rw [if_pos h3] at h0
       split
       · rename_i h4; rw [if_pos h4] at h0; simp at h0
       · rename_i h4; rw [if_neg h4] at h0; exact ha _ h0
     · rename_i h3
       rw [if_neg h3] at h0
       split
       · rename_i h4; rw [if_pos h4] at h0; simp at h0
       · rename_i h4
         have hd : digV r < 16 := by
           have h5 : digV r ≠ 16 := fun e => h4 (Or.inl e)
           unfold digV at h5 ⊢
           split
           · omega
           · split
             · omega
             · split
               · omega
               · rename_i a b c; rw [if_neg a, if_neg b, if_neg c] at h5; omega
         refine ⟨by simp, by simpa using hlen, ?_, ?_⟩
         · simp only [Nat.pow_succ]; omega
         · simp; omega
   · rename_i h2
     rw [if_neg h2] at h0
     split
     · rename_i h3; rw [if_pos h3] at h0; simp at h0
     · rename_i h3
       rw [if_neg h3] at h0
       split
       · exact ⟨by simp, by simpa using hlen, by simpa using hnum, by simpa using hdig⟩
       · rename_i h4; rw [if_neg h4] at h0; exact ha _ h0
end Go.Proofs.YtlojfmlaookpmaaGreatDoor
