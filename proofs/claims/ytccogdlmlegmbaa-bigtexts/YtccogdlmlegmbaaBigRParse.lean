/- ParseNum of the reference. -/
import Derived.Test.YtccogdlmlegmbaaBigParse
import Derived.Test.YtccogdlmlegmbaaBigRMul
import Derived.Test.YtccogdlmlegmbaaBigRShort
import Derived.Test.YtccogdlmlegmbaaBigRDig
namespace Go.Proofs.Ytccogdlmlegmbaa
open Go.ChangeShapes Go.WideShapes Go.ChangeAt Go.RowKit
set_option linter.unusedSimpArgs false
set_option linter.unusedVariables false
theorem idx_run (d : List UInt8) (k : Nat) (x : UInt8) (h : d[k]? = some x) (w : World) : (Instr.index 9 (.string ⟨d.toArray⟩) (.int .i64 (k : Int))).run Try.prog w = .ok (.int .u8 (x.toNat : Int)) w := by
  have hk : k < d.length := (List.getElem?_eq_some_iff.1 h).1
  have hx : d[k] = x := (List.getElem?_eq_some_iff.1 h).2
  have hsz : (⟨d.toArray⟩ : ByteArray).size = d.length := by simp [ByteArray.size]
  rw [run_index_string (P := Try.prog) w 9 ⟨d.toArray⟩ .i64 (k : Int) Try.underlying9]
  rw [dif_pos ⟨by omega, by rw [hsz]; omega⟩]
  congr 2
  have : ∀ (j : Nat) (hj : j < (⟨d.toArray⟩ : ByteArray).size), j = k → (⟨d.toArray⟩ : ByteArray)[j]'hj = x := fun j hj e => by subst e; exact hx
  rw [this _ _ (by omega)]
theorem idx0_run (x : UInt8) (t : List UInt8) (w : World) : (Instr.index 9 (.string ⟨(x :: t).toArray⟩) (.int .i64 0)).run Try.prog w = .ok (.int .u8 (x.toNat : Int)) w := idx_run (x :: t) 0 x rfl w
theorem tail_run (x : UInt8) (t : List UInt8) (w : World) : (Instr.slice 9 (.string ⟨(x :: t).toArray⟩) (some (.int .i64 1)) none none).run Try.prog w = .ok (.string ⟨t.toArray⟩) w := by
  have hsz : (⟨(x :: t).toArray⟩ : ByteArray).size = t.length + 1 := by simp [ByteArray.size]
  rw [run_slice_string_from_if (P := Try.prog) w 9 ⟨(x :: t).toArray⟩ .i64 1 Try.underlying9]
  rw [if_pos ⟨by omega, by rw [hsz]; omega⟩]
  congr 2
  apply ByteArray.ext
  rw [ByteArray.data_extract]
  apply Array.toList_inj.1
  rw [Array.toList_extract, List.extract_eq_take_drop, hsz]
  simp
theorem foldl_ge : ∀ (u : List UInt8) (a : Nat), a ≤ u.foldl (fun n x => n * 10 + (x.toNat - 48)) a
  | [], a => Nat.le_refl _
  | x :: u, a => Nat.le_trans (show a ≤ a * 10 + (x.toNat - 48) by omega) (foldl_ge u _)
theorem pval_pos {y : UInt8} {u : List UInt8} (h : 48 < y.toNat) : 0 < pval (y :: u) := by
  have := foldl_ge u (0 * 10 + (y.toNat - 48))
  unfold pval
  rw [List.foldl_cons]
  omega
theorem okNum_of {d : List UInt8} (h : isDigs d = true) : okNum d = (d == [48] || (d != [] && d.head? != some 48)) := by unfold okNum; rw [h]; rfl
theorem IsC.cut {v : Value} {Z : Int} {K k : Nat} {w : World} (h : IsC v Z K w) (hk : Z.natAbs < 4294967296 ^ k) : IsC v Z k w := by
  obtain ⟨o, c, rfl, hL, hc, _⟩ := h
  exact ⟨o, c, rfl, hL, hc, (glim_len (by omega) _ _).2 hk⟩
theorem IsC.cutLen {v : Value} {Z : Int} {K k : Nat} {w : World} (h : IsC v Z K w) (hk : (glim 4294967296 Z.natAbs).length ≤ k) : IsC v Z k w := by
  obtain ⟨o, c, rfl, hL, hc, _⟩ := h
  exact ⟨o, c, rfl, hL, hc, hk⟩
theorem low_a {n : Nat} (h : n ≤ 9) : -9223372036854775808 ≤ (n : Int) := by omega
theorem low_b {n : Nat} (h : n ≤ 9) : (n : Int) < 9223372036854775808 := by omega
theorem low_w1 {nx n0 : Nat} (h : nx = n0 + 48) (h9 : n0 ≤ 9) : IntKind.u8.wrap ((nx : Int) - 48) = (n0 : Int) := by rw [IntKind.wrap_u8]; omega
theorem low_w2 {n0 : Nat} (h9 : n0 ≤ 9) : IntKind.i64.wrap (n0 : Int) = (n0 : Int) := by rw [IntKind.wrap_i64]; omega
theorem low_w3 {n0 : Nat} (h9 : n0 ≤ 9) : wrap64 (n0 : Int) = (n0 : Int) := by unfold wrap64; omega
theorem low_wj {j : Nat} (h : j ≤ 1000000) : wrap64 ((j : Int) + 1) = (j : Int) + 1 := by unfold wrap64; omega
theorem size_mk (d : List UInt8) : (⟨d.toArray⟩ : ByteArray).size = d.length := by simp [ByteArray.size]
set_option maxRecDepth 4000 in
set_option maxHeartbeats 2000000 in
theorem rparse_w (l : List UInt8) (w : World) (hs : l.length ≤ 1000000) :
    Calls Try.prog 29 #[.string ⟨l.toArray⟩] w fun e w' => ∃ v', e = .returned (.tuple #[v', .int .i64 (pE l)]) ∧ IsC v' (pZ l) 64 w' ∧ Below w.heap.size w w' := by
  obtain ⟨Er, hEr⟩ : ∃ Er, pE l = Er := ⟨_, rfl⟩
  obtain ⟨Z, hZ⟩ : ∃ Z, pZ l = Z := ⟨_, rfl⟩
  rw [hEr, hZ]
  have hEr' := hid hEr
  have hZ' := hid hZ
  unfold pE at hEr'
  unfold pZ at hZ'
  rw [hEr] at hZ'
  clear hEr hZ
  have hdl : (pdig l).length ≤ l.length := by
    unfold pdig Lib.trimPrefix
    split
    · rw [List.length_drop]; omega
    · omega
  unfold pok at hEr'
  obtain ⟨d, hd⟩ : ∃ d, pdig l = d := ⟨_, rfl⟩
  obtain ⟨ng, hng⟩ : ∃ ng, pneg l = ng := ⟨_, rfl⟩
  rw [hd, hng] at hEr' hZ'
  rw [hd] at hdl
  have hd' := hid hd
  have hng' := hid hng
  clear hd hng
  obtain ⟨kR, hB0, hz0⟩ := newbox w (.bool false) (.slice none 0 0) 34
  obtain ⟨r1, r2, r3, r4⟩ := id kR
  have hsz := size_mk
  go_enter Try.func29, Try.ntmps29
  go_upto_region 1 with fail
  generalize (w.alloc (.cells #[.bool false, .slice none 0 0] 34)) = W0 at *
  go_cut [4] from 10 to 17 (fun nv wx => nv = .bool ng ∧ wx = W0)
  case first =>
    cases l with
    | nil =>
      have hn : ng = false := by rw [← hng'.out]; rfl
      subst hn
      go_wp2
      go_meet
      exact ⟨rfl, rfl⟩
    | cons x t =>
      have hx0 := idx0_run x t
      have hl0 : (0 : Int) < ((x :: t).length : Int) := by simp
      obtain ⟨n, hn⟩ : ∃ n, x.toNat = n := ⟨_, rfl⟩
      have hnx : ((n : Int) == 45) = ng := by
        rw [← hng'.out, ← hn]
        have h45 : (45 : UInt8).toNat = 45 := rfl
        by_cases hx : x = 45
        · subst hx; simp [pneg, Lib.hasPrefix]
        · have h1 : (pneg (x :: t)) = false := by
            cases h : pneg (x :: t) with
            | false => rfl
            | true => simp [pneg, Lib.hasPrefix] at h; first | exact absurd h hx | exact absurd h.symm hx
          rw [h1]
          simp only [beq_eq_false_iff_ne, ne_eq]
          intro e
          exact hx (UInt8.toNat_inj.1 (by omega))
      rw [hn] at hx0
      clear hn hng' hd'
      generalize x :: t = l at *
      go_wp2
      go_meet
      exact ⟨rfl, rfl⟩
  case rest =>
    obtain ⟨rfl, rfl⟩ := hcut
    go_upto_if 18 with fail
    go_cut [0] from 19 to 20 (fun sv wx => sv = .string ⟨d.toArray⟩ ∧ wx = wc)
    case first =>
      cases ng with
      | false =>
        have hd : d = l := by
          rw [← hd'.out]
          have h1 := hng'.out
          unfold pneg at h1
          unfold pdig Lib.trimPrefix
          rw [h1]; rfl
        subst hd
        go_wp2
        go_meet
        exact ⟨rfl, rfl⟩
      | true =>
        have h1 := hng'.out
        have h2 := hd'.out
        unfold pneg at h1
        unfold pdig Lib.trimPrefix at h2
        rw [h1, if_pos rfl] at h2
        cases l with
        | nil => simp [Lib.hasPrefix] at h1
        | cons x t =>
          have hd : t = d := by simpa using h2
          subst hd
          have htr := tail_run x t
          clear h1 h2 hd' hng'
          generalize x :: t = l at *
          go_wp2
          go_meet
          exact ⟨rfl, rfl⟩
    case rest =>
      obtain ⟨rfl, rfl⟩ := hcut
      clear hd' hng'
      go_wp2
      go_loopw [5] (fun iv wr => ∃ k : Nat, iv = .int .i64 (k : Int) ∧ k ≤ d.length ∧ wr = wc ∧ Hid (isDigs (d.take k) = true)) (fun iv _ => d.length - (intOf iv).toNat)
      case atStart => exact ⟨0, rfl, by omega, rfl, hid (by simp [isDigs])⟩
      case round =>
        obtain ⟨k, rfl, hk, rfl, hH⟩ := hrel
        by_cases h1 : k < d.length
        · have h1z : (k : Int) < (d.length : Int) := by omega
          obtain ⟨x, hx⟩ : ∃ x, d[k]? = some x := ⟨d[k], by simp [h1]⟩
          have hix := idx_run d k x hx
          obtain ⟨n, hn⟩ : ∃ n, x.toNat = n := ⟨_, rfl⟩
          rw [hn] at hix
          by_cases hdg : 48 ≤ n ∧ n ≤ 57
          · have h2 : ¬ (n : Int) < 48 := by omega
            have h3 : ¬ (57 : Int) < (n : Int) := by omega
            have hH2 : Hid (isDigs (d.take (k + 1)) = true) := hid (by
              have := hH.out
              unfold isDigs at this ⊢
              rw [List.take_add_one, hx, List.all_append, this]
              simp
              omega)
            clear hn hx hdg
            go_wp2
            go_roundw
            case rel => exact ⟨k + 1, by go_num, by omega, trivial, hH2⟩
            case measure => simp [intOf]; omega
          · have hbad : okNum d = false := by
              unfold okNum
              rw [isDigs_at hx (by rw [hn]; exact hdg)]; rfl
            by_cases h2 : n < 48
            · have h2z : (n : Int) < 48 := by omega
              clear hn hx hdg
              have hE : Er = 10 := by rw [← hEr'.out, if_neg (by rw [hbad]; simp)]
              have hZ0 : Z = 0 := by rw [← hZ'.out, hE]; rfl
              subst hE hZ0
              clear hEr' hZ'
              go_wp2
              refine bodyPost_ret (v := .tuple #[.agg #[.bool false, .slice none 0 0], .int .i64 10]) (by simp [results, Try.results29, go_sem, r1, r2]) rfl ⟨_, rfl, isC_zero _ _, ?_⟩
              exact (hB0.setCell (p := ⟨w.heap.size, 0, none⟩) (by simp) _).setCell (p := ⟨w.heap.size, 1, none⟩) (by simp) _
            · have h2z : ¬ (n : Int) < 48 := by omega
              have h3 : (57 : Int) < (n : Int) := by omega
              clear hn hx hdg
              have hE : Er = 10 := by rw [← hEr'.out, if_neg (by rw [hbad]; simp)]
              have hZ0 : Z = 0 := by rw [← hZ'.out, hE]; rfl
              subst hE hZ0
              clear hEr' hZ'
              go_wp2
              refine bodyPost_ret (v := .tuple #[.agg #[.bool false, .slice none 0 0], .int .i64 10]) (by simp [results, Try.results29, go_sem, r1, r2]) rfl ⟨_, rfl, isC_zero _ _, ?_⟩
              exact (hB0.setCell (p := ⟨w.heap.size, 0, none⟩) (by simp) _).setCell (p := ⟨w.heap.size, 1, none⟩) (by simp) _
        · have h1z : ¬ (k : Int) < (d.length : Int) := by omega
          have hke : k = d.length := by omega
          have hdg : isDigs d = true := by have := hH.out; rwa [hke, List.take_length] at this
          have hok := okNum_of hdg
          clear hH hke
          go_upto_region 9 with fail
          obtain ⟨ok, hokd⟩ : ∃ ok, (okNum d && !(ng && d == [48])) = ok := ⟨_, rfl⟩
          rw [hokd] at hEr'
          rw [hok] at hokd
          have hok' := hid hokd
          clear hok hokd
          go_cut [52] from 38 to 52 (fun bv wx => bv = .bool (!ok) ∧ wx = wr)
          case first =>
            cases d with
            | nil =>
              have : ok = false := by rw [← hok'.out]; rfl
              subst this
              go_wp2
              go_meet
              exact ⟨rfl, rfl⟩
            | cons y u =>
              have hy0 := idx0_run y u
              have hemp : (y :: u).isEmpty = false := rfl
              obtain ⟨n, hn⟩ : ∃ n, y.toNat = n := ⟨_, rfl⟩
              rw [hn] at hy0
              by_cases hy : y = 48
              · have hn48 : n = 48 := by rw [← hn, hy]; rfl
                subst hn48
                cases u with
                | nil =>
                  have hok : ok = !ng := by rw [← hok'.out, hy]; cases ng <;> rfl
                  subst hok
                  clear hok' hn hy
                  have hl1 : ¬ (1 : Int) < (([y] : List UInt8).length : Int) := by simp
                  generalize [y] = D at *
                  cases ng with
                  | false =>
                    go_wp2
                    go_meet
                    exact ⟨rfl, rfl⟩
                  | true =>
                    go_wp2
                    go_meet
                    exact ⟨rfl, rfl⟩
                | cons z v =>
                  have hok : ok = false := by rw [← hok'.out, hy]; rfl
                  subst hok
                  clear hok' hn hy
                  have hl1 : (1 : Int) < ((y :: z :: v).length : Int) := by simp; omega
                  generalize y :: z :: v = D at *
                  go_wp2
                  go_meet
                  exact ⟨rfl, rfl⟩
              · have hn48 : ((n : Int) == 48) = false := by
                  simp only [beq_eq_false_iff_ne, ne_eq]
                  intro e
                  exact hy (UInt8.toNat_inj.1 (show y.toNat = (48 : UInt8).toNat by have : (48 : UInt8).toNat = 48 := rfl; omega))
                have hok : ok = true := by
                  rw [← hok'.out]
                  simp [hy]
                subst hok
                clear hok' hn hy
                generalize y :: u = D at *
                go_wp2
                go_meet
                exact ⟨rfl, rfl⟩
          case rest =>
            obtain ⟨rfl, rfl⟩ := hcut
            cases ok with
            | false =>
              have hE : Er = 10 := by rw [← hEr'.out]; rfl
              have hZ0 : Z = 0 := by rw [← hZ'.out, hE]; rfl
              subst hE hZ0
              clear hEr' hZ' hok'
              go_wp2
              refine bodyPost_ret (v := .tuple #[.agg #[.bool false, .slice none 0 0], .int .i64 10]) (by simp [results, Try.results29, go_sem, r1, r2]) rfl ⟨_, rfl, isC_zero _ _, ?_⟩
              exact (hB0.setCell (p := ⟨w.heap.size, 0, none⟩) (by simp) _).setCell (p := ⟨w.heap.size, 1, none⟩) (by simp) _
            | true =>
              have hE2 := hEr'.out
              rw [if_pos rfl] at hE2
              have hE2' := hid hE2
              clear hEr' hE2
              by_cases h620 : d.length ≤ 620
              · have h620z : ¬ (620 : Int) < (d.length : Int) := by omega
                obtain ⟨kN0, hBN, hzN⟩ := newbox wc (.bool false) (.slice none 0 0) 34
                have kR0 := kR.below hBN kR.lt
                have hgR : w.heap.size < wc.heap.size := kR.lt
                have hBW := below_and hB0 (Nat.le_refl _) hBN
                clear hz0
                go_wp2
                generalize wc.alloc (.cells #[.bool false, .slice none 0 0] 34) = W1 at *
                generalize wc.heap.size = gn at *
                clear r1 r2 r3 r4 kR hB0 hBN hzN
                go_loopw [7] (fun iv wr => ∃ (j : Nat) (b : Bool) (o : Option Addr) (n c : Nat), iv = .int .i64 (j : Int) ∧ j ≤ d.length ∧ Box gn (.bool b) (.slice o n c) wr ∧ IsC (.agg #[.bool b, .slice o n c]) (pval (d.take j) : Int) 66 wr ∧ Box w.heap.size (.bool false) (.slice none 0 0) wr ∧ Below w.heap.size w wr) (fun iv _ => d.length - (intOf iv).toNat)
                case atStart => exact ⟨0, false, none, 0, 0, rfl, by omega, kN0, by simpa [pval] using isC_zero 66 _, kR0, hBW⟩
                case round =>
                  obtain ⟨j, b, o, n, c, rfl, hj, kN, hI, kR, hbw⟩ := hrel
                  clear kN0 kR0 hBW
                  have lN := kN.lt
                  have lR := kR.lt
                  by_cases h1 : j < d.length
                  · have h1z' : (j : Int) < (d.length : Int) := by omega
                    obtain ⟨x, n0, nx, V, V1, hx, hnx, hnn, hn9, hV, hV1, hpv, hmo, hVl⟩ := digs_all h1 h620 hdg
                    have hix := idx_run d j x hx
                    rw [hnx] at hix
                    rw [hV] at hI
                    have w1 := low_w1 hnn hn9
                    have w2 := low_w2 hn9
                    have w3 := low_w3 hn9
                    have hn0a := low_a hn9
                    have hn0b := low_b hn9
                    have he4 : Hid ((V : Int) * 10 + (n0 : Int) = (V1 : Int)) := hid (by rw [hpv]; omega)
                    have hj1 : j + 1 ≤ d.length := by omega
                    have Hwj := hid (low_wj (Nat.le_trans (Nat.le_of_lt h1) (Nat.le_trans hdl hs)))
                    have hRN : w.heap.size ≠ gn := by omega
                    have hRL : w.heap.size ≤ gn := by omega
                    have hmj : d.length - (j + 1) < d.length - j := by omega
                    have hV1' := hid hV1
                    have hVl' := hid hVl
                    clear hV hV1 hnx hnn hx hpv hVl
                    obtain ⟨y1, y2, y3, y4⟩ := id kN
                    have hIY : IsC (.agg #[.bool b, .slice o n c]) (V : Int) 128 wr := hI.mono (by omega)
                    have hD : Below wr.heap.size wr wr.drew := (Below.refl _ _).drew
                    have hDA : Below wr.heap.size wr (wr.drew.alloc (.cells #[.bool false, .slice none 0 0] 34)) := hD.alloc (Nat.le_refl _) _
                    have hNew : Box wr.heap.size (.bool false) (.slice none 0 0) (wr.drew.alloc (.cells #[.bool false, .slice none 0 0] 34)) := Box.new wr.drew _ _ _
                    have hDz : wr.heap.size < (wr.drew.alloc (.cells #[.bool false, .slice none 0 0] 34)).heap.size := by rw [World.size_alloc]; exact Nat.lt_succ_self _
                    go_wp2
                    go_cut [8, 9] from 65 to 70 (fun p8 v9 wx => ∃ g d' o' n' c', p8 = .pointer (some ⟨g, 0, none⟩) ∧ v9 = .bool true ∧ Box g (.bool d') (.slice o' n' c') wx ∧ IsC (.agg #[.bool d', .slice o' n' c']) ((V : Int) * 10) 128 wx ∧ Below wr.heap.size wr wx ∧ wr.heap.size ≤ g)
                    case first =>
                      obtain ⟨yd1, yd2, _, _⟩ := id (kN.drew)
                      obtain ⟨ya1, ya2, _, _⟩ := id (kN.below hDA lN)
                      go_region_held3 (fun w' => w'.cell? ⟨gn, 0, none⟩ = some (.bool b) ∧ w'.cell? ⟨gn, 1, none⟩ = some (.slice o n c)) (first | with_reducible exact ⟨yd1, yd2⟩ | with_reducible exact ⟨ya1, ya2⟩ | with_reducible exact ⟨g1, g2⟩ | with_reducible exact ⟨(kN.below (b3.alloc hz3 _) lN).1, (kN.below (b3.alloc hz3 _) lN).2.1⟩ | with_reducible exact ⟨g11, g12⟩ | with_reducible exact ⟨(kN.below (hB4.alloc hB4.size _) lN).1, (kN.below (hB4.alloc hB4.size _) lN).2.1⟩ | (refine ⟨?_, ?_⟩ <;> (rw [World.cell?_setCell_other _ _ _ _ (by simp; try omega), World.cell?_setCell_other _ _ _ _ (by simp; try omega)]; assumption)) | go_keep) (first
                          | (go_at_call 31
                             refine (ofInt_w 10 _ (by omega) (by omega)).mono ?_
                             rintro e w3 ⟨v3, rfl, h3, b3'⟩
                             have b3 : Below wr.heap.size wr w3 := by first | exact below_and hD (Nat.le_refl _) b3' | exact below_and hDA (Nat.le_refl _) b3'
                             have hz3 := b3.size
                             have hN3 := (h3.mono (show 2 ≤ 128 by omega)).isN
                             have hIY3 := (hIY.below b3).isN
                             obtain ⟨g1, g2, g3, g4⟩ := kN.below b3 lN
                             obtain ⟨d3, o3, n3, c3, rfl⟩ := h3.shape
                             first
                               | (have kM3 : Box wr.heap.size (.bool false) (.slice none 0 0) w3 := Box.below hNew b3' hDz
                                  have hz3' : wr.heap.size < w3.heap.size := Nat.lt_of_lt_of_le hDz b3'.size
                                  obtain ⟨m1, m2, m3, m4⟩ := id kM3)
                               | skip)
                          | (go_at_call 17
                             refine (rmul_w _ _ (V : Int) 10 128 _ (by omega) (by first | exact hIY3 | exact hIY3.below ((Below.refl _ _).alloc (Nat.le_refl _) _)) (by first | exact hN3 | exact hN3.below ((Below.refl _ _).alloc (Nat.le_refl _) _))).mono ?_
                             rintro e w4 ⟨v4, rfl, h4, b4'⟩
                             rw [hmo] at h4 ⊢
                             rw [if_pos rfl] at h4
                             have b4 : Below w3.heap.size w3 w4 := by first | exact b4' | exact below_and ((Below.refl _ _).alloc (Nat.le_refl _) _) (Nat.le_refl _) b4'
                             have hB4 := below_and b3 (Nat.le_refl _) b4
                             have hz4 := b4.size
                             obtain ⟨d4, o4, n4, c4, rfl⟩ := h4.shape
                             obtain ⟨g11, g12, g13, g14⟩ := kN.below hB4 lN
                             first
                               | (have kM4 : Box wr.heap.size (.bool false) (.slice none 0 0) w4 := kM3.below b4 (by omega)
                                  obtain ⟨m11, m12, m13, m14⟩ := id kM4)
                               | (have kM4 : Box w3.heap.size (.bool false) (.slice none 0 0) w4 := Box.below (Box.new w3 _ _ 34) b4' (by simp)
                                  obtain ⟨m11, m12, m13, m14⟩ := id kM4)
                               | skip))
                      all_goals (go_wp2_with fail; go_meet)
                      all_goals first
                        | exact ⟨_, d4, o4, n4, c4, rfl, rfl, Box.new _ _ _ _, h4.below ((Below.refl _ _).alloc (Nat.le_refl _) _), hB4.alloc hB4.size _, by omega⟩
                        | exact ⟨_, d4, o4, n4, c4, rfl, rfl, kM4.put, h4.box kM4, (hB4.setCell (p := ⟨_, 0, none⟩) (by simp; try omega) _).setCell (p := ⟨_, 1, none⟩) (by simp; try omega) _, by omega⟩
                    case rest =>
                      obtain ⟨g8, d8, o8, n8, c8, rfl, rfl, k8, h8, b8, hg8⟩ := hcut
                      have kN8 := kN.below b8 lN
                      have kR8 := kR.below b8 lR
                      have hbw8 := below_and hbw (Nat.le_refl _) b8
                      have l8 := k8.lt
                      have lN8 := kN8.lt
                      have lR8 := kR8.lt
                      have hne : gn ≠ g8 := by omega
                      clear hD hDA hNew hDz y1 y2 y3 y4 hIY hI kN kR
                      go_wp2_with fail
                      obtain ⟨yd1, yd2, _, _⟩ := id (k8.drew)
                      clear hmo hok' hE2' hZ' hdg hsz h1 h1z h1z' h620 h620z hdl hs
                      go_region_held3 (fun w' => w'.cell? ⟨g8, 0, none⟩ = some (.bool d8) ∧ w'.cell? ⟨g8, 1, none⟩ = some (.slice o8 n8 c8)) (first | with_reducible exact ⟨yd1, yd2⟩ | with_reducible exact ⟨g1, g2⟩ | with_reducible exact ⟨g11, g12⟩ | (refine ⟨?_, ?_⟩ <;> (rw [World.cell?_setCell_other _ _ _ _ (by simp; try omega), World.cell?_setCell_other _ _ _ _ (by simp; try omega)]; assumption)) | go_keep) (first
                          | (go_at_call 31
                             refine (ofInt_w (n0 : Int) _ hn0a hn0b).mono ?_
                             rintro e w3 ⟨v3, rfl, h3, b3'⟩
                             have b3 : Below wc.heap.size wc w3 := below_of_drew b3'
                             obtain ⟨g1, g2, g3, g4⟩ := k8.below b3 l8
                             obtain ⟨d3, o3, n3, c3, rfl⟩ := h3.shape)
                          | (go_at_call 23
                             refine (radd_w _ _ ((V : Int) * 10) (n0 : Int) 128 _ (by decide) (h8.below b3).isN (h3.mono (by decide)).isN).mono ?_
                             rintro e w4 ⟨v4, rfl, h4, b4'⟩
                             have b4 : Below wc.heap.size wc w4 := below_and b3 (Nat.le_refl _) b4'
                             have e4 := he4.out
                             rw [e4] at h4
                             clear e4
                             have h4' := h4.cutLen (k := 66) hVl'.out
                             obtain ⟨dF, oF, nF, cF, rfl⟩ := h4.shape
                             clear h4
                             have kN4 := kN8.below b4 lN8
                             have kR4 := kR8.below b4 lR8
                             have hbw4 := below_and hbw8 (Nat.le_refl _) b4
                             obtain ⟨g11, g12, g13, g14⟩ := k8.below b4 l8
                             obtain ⟨y1, y2, y3, y4⟩ := id kN4))
                      go_wp2_with fail
                      go_roundw
                      case rel =>
                        refine ⟨j + 1, dF, oF, nF, cF, by rw [Hwj.out]; go_num, hj1, kN4.put, ?_, kR4.far hRN, (hbw4.setCell (p := ⟨gn, 0, none⟩) hRL _).setCell (p := ⟨gn, 1, none⟩) hRL _⟩
                        rw [hV1'.out]
                        exact h4'.box kN4
                      case measure => rw [Hwj.out]; simp [intOf]; first | exact hmj | omega
                  · have h1z' : ¬ (j : Int) < (d.length : Int) := by omega
                    have hje : j = d.length := by omega
                    rw [hje, List.take_length] at hI
                    obtain ⟨hb1, hn1⟩ := hI.parts
                    rw [Int.natAbs_natCast] at hn1
                    have hb1' : b = false := by rw [hb1]; simp
                    subst hb1'
                    have hn1' := hid hn1
                    clear hje hb1 hn1
                    obtain ⟨y1, y2, y3, y4⟩ := id kN
                    obtain ⟨r1, r2, r3, r4⟩ := id kR
                    have hne : gn ≠ w.heap.size := by omega
                    by_cases h64 : n ≤ 64
                    · have h64z : ¬ (64 : Int) < (n : Int) := by omega
                      have hE : Er = 0 := by rw [← hE2'.out, if_neg (by rw [← hn1'.out]; omega)]
                      have hZv : Z = sv ng (pval d) := by rw [← hZ'.out, hE, if_pos rfl]
                      have hpos : ng = true → 0 < pval d := fun e => by
                        have h2 := hok'.out
                        rw [e] at h2
                        cases d with
                        | nil => simp at h2
                        | cons y u =>
                          refine pval_pos ?_
                          have h3 : 48 ≤ y.toNat := by
                            unfold isDigs at hdg
                            have := List.all_eq_true.1 hdg y (by simp)
                            simp at this; omega
                          have h4 : y ≠ 48 := fun e => by
                            subst e
                            cases u <;> simp at h2
                          have h5 : y.toNat ≠ 48 := fun e => h4 (UInt8.toNat_inj.1 (show y.toNat = (48 : UInt8).toNat by have : (48 : UInt8).toNat = 48 := rfl; omega))
                          omega
                      have hfin : IsC (.agg #[.bool ng, .slice o n c]) Z 64 wr := by
                        obtain ⟨o', c', e', L', z', q'⟩ := hI
                        simp only [Value.agg.injEq, Array.mk.injEq, List.cons.injEq, Value.slice.injEq, and_true] at e'
                        obtain ⟨_, rfl, rfl, rfl⟩ := e'
                        rw [Int.natAbs_natCast] at L' z' h64 ⊢
                        have := isC_of (neg := ng) (n := pval d) (K := 64) hZv.symm L' z' h64
                        have e : (ng && decide (pval d ≠ 0)) = ng := by
                          cases hng : ng with
                          | false => rfl
                          | true => have := hpos hng; simp; omega
                        rw [e] at this
                        exact this
                      subst hE
                      clear hE2' hZ' hok' hZv hpos hI hn1'
                      have kN2 : Box gn (.bool ng) (.slice o n c) (wr.setCell ⟨gn, 0, none⟩ (.bool ng)) := ⟨World.cell?_setCell_same _ _ _ y1, (World.cell?_setCell_other _ _ _ _ (by simp)).trans y2, (frozen_set _ _ rfl _ _).trans y3, (frozen_set _ _ rfl _ _).trans y4⟩
                      have kR2 : Box w.heap.size (.bool false) (.slice none 0 0) (wr.setCell ⟨gn, 0, none⟩ (.bool ng)) := ⟨(World.cell?_setCell_other _ _ _ _ (by first | (simp; done) | (simp; omega))).trans r1, (World.cell?_setCell_other _ _ _ _ (by first | (simp; done) | (simp; omega))).trans r2, (frozen_set _ _ rfl _ _).trans r3, (frozen_set _ _ rfl _ _).trans r4⟩
                      have hf2 : IsC (.agg #[.bool ng, .slice o n c]) Z 64 (wr.setCell ⟨gn, 0, none⟩ (.bool ng)) := by
                        obtain ⟨o', c', e', L', z', q'⟩ := hfin
                        exact ⟨o', c', e', L'.set y1 (by intro n; simp) _, z', q'⟩
                      have hb2 := hbw.setCell (p := ⟨gn, 0, none⟩) (by simp; omega) (.bool ng)
                      obtain ⟨s1, s2, s3, s4⟩ := id kN2
                      obtain ⟨s5, s6, s7, s8⟩ := id kR2
                      go_wp2
                      refine bodyPost_ret (v := .tuple #[.agg #[.bool ng, .slice o n c], .int .i64 0]) (by simp [results, Try.results29, go_sem, s5, s6]) rfl ⟨_, rfl, hf2.box kR2, ?_⟩
                      exact (hb2.setCell (p := ⟨w.heap.size, 0, none⟩) (by simp) _).setCell (p := ⟨w.heap.size, 1, none⟩) (by simp) _
                    · have h64z : (64 : Int) < (n : Int) := by omega
                      have hE : Er = 3 := by rw [← hE2'.out, if_pos (.inr (by rw [← hn1'.out]; omega))]
                      have hZ0 : Z = 0 := by rw [← hZ'.out, hE]; rfl
                      subst hE hZ0
                      clear hE2' hZ' hok' hI hn1'
                      go_wp2
                      refine bodyPost_ret (v := .tuple #[.agg #[.bool false, .slice none 0 0], .int .i64 3]) (by simp [results, Try.results29, go_sem, r1, r2]) rfl ⟨_, rfl, isC_zero _ _, ?_⟩
                      exact (hbw.setCell (p := ⟨w.heap.size, 0, none⟩) (by simp) _).setCell (p := ⟨w.heap.size, 1, none⟩) (by simp) _
              · have h620z : (620 : Int) < (d.length : Int) := by omega
                have hE : Er = 3 := by rw [← hE2'.out, if_pos (.inl (by omega))]
                have hZ0 : Z = 0 := by rw [← hZ'.out, hE]; rfl
                subst hE hZ0
                clear hE2' hZ' hok'
                go_wp2
                refine bodyPost_ret (v := .tuple #[.agg #[.bool false, .slice none 0 0], .int .i64 3]) (by simp [results, Try.results29, go_sem, r1, r2]) rfl ⟨_, rfl, isC_zero _ _, ?_⟩
                exact (hB0.setCell (p := ⟨w.heap.size, 0, none⟩) (by simp) _).setCell (p := ⟨w.heap.size, 1, none⟩) (by simp) _
end Go.Proofs.Ytccogdlmlegmbaa
