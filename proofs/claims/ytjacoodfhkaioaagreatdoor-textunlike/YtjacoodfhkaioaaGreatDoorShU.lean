/- Texts of mine, one behind the other: TextBk3, TextBk4, TextBk5, TextBk6, RSame, TextUnlikeW. -/
import Derived.Test.YtjacoodfhkaioaaGreatDoorShT
import Derived.Test.YtjacoodfhkaioaaGreatDoorShJ
import Derived.Test.YtjacoodfhkaioaaGreatDoorShN
import Derived.Test.YtjacoodfhkaioaaGreatDoorShO
namespace Go.Proofs.YtjacoodfhkaioaaGreatDoor
open Go.ChangeShapes Go.WideShapes Go.ChangeAt Go.RowKit Go.Shelf
set_option linter.unusedSimpArgs false
set_option linter.unusedVariables false
set_option maxRecDepth 2000

/-- within a sign no byte begins one -/
theorem vd_inner {l : List UInt8} (hne : l ≠ []) (h : Lib.validD l = true) : 1 ≤ (Lib.decodeL l).2 ∧ ∀ k b, 0 < k → k < (Lib.decodeL l).2 → l[k]? = some b → stB b.toNat = false := by
  have hw := Lib.decodeL_width l
  have hl : 0 < l.length := List.length_pos_iff.2 hne
  rw [Lib.validD_step _ hne] at h
  refine ⟨by omega, fun k b hk hkw hb => ?_⟩
  have hd := Lib.decodeL_N l
  have hg : ∀ j x, l[j]? = some x → l.getD j 0 = x := fun j x hx => by simp [List.getD, hx]
  rcases Lib.decodeN_shape l.length (l.getD 0 0).toNat (l.getD 1 0).toNat (l.getD 2 0).toNat (l.getD 3 0).toNat with ⟨c, e⟩ | ⟨c1, c2, c3, cv, e⟩ | ⟨c1, c2, c3, c4, cv, cs, e⟩ | ⟨c1, c2, c3, c4, c5, cv, cw, e⟩ | e
  · rw [hd, e] at hkw; simp at hkw; omega
  · rw [hd, e] at hkw
    simp only at hkw
    have : k = 1 := by omega
    subst this
    rw [hg 1 b hb] at c3
    simp [stB, c3]
  · rw [hd, e] at hkw
    simp only at hkw
    rcases (by omega : k = 1 ∨ k = 2) with rfl | rfl
    · rw [hg 1 b hb] at c3; simp [stB, c3]
    · rw [hg 2 b hb] at c4; simp [stB, c4]
  · rw [hd, e] at hkw
    simp only at hkw
    rcases (by omega : k = 1 ∨ k = 2 ∨ k = 3) with rfl | rfl | rfl
    · rw [hg 1 b hb] at c3; simp [stB, c3]
    · rw [hg 2 b hb] at c4; simp [stB, c4]
    · rw [hg 3 b hb] at c5; simp [stB, c5]
  · rw [hd, e] at h; simp at h
/-- cut at a sign's beginning, what is valid stays so -/
theorem vd_take : ∀ (n : Nat) (l : List UInt8) (k : Nat), l.length ≤ n → Lib.validD l = true → (∀ b, l[k]? = some b → stB b.toNat = true) → Lib.validD (l.take k) = true
  | 0, l, k, hl, h, _ => by
    have : l = [] := List.eq_nil_of_length_eq_zero (by omega)
    subst this; simpa using h
  | n + 1, l, k, hl, h, hk => by
    by_cases hne : l = []
    · subst hne; simpa using h
    · by_cases hk0 : k = 0
      · subst hk0; rfl
      · obtain ⟨w1, w3⟩ := vd_inner hne h
        by_cases hkl : l.length ≤ k
        · rw [List.take_of_length_le hkl]; exact h
        · by_cases hkw : k < (Lib.decodeL l).2
          · obtain ⟨b, hb⟩ : ∃ b, l[k]? = some b := ⟨l[k]'(by omega), by simp⟩
            have h1 := w3 k b (by omega) hkw hb
            rw [hk b hb] at h1; cases h1
          · have hv := h
            rw [Lib.validD_step _ hne] at hv
            split at hv
            · cases hv
            · have ih := vd_take n (l.drop (Lib.decodeL l).2) (k - (Lib.decodeL l).2) (by rw [List.length_drop]; omega) hv (fun b hb => by
                rw [List.getElem?_drop] at hb
                exact hk b (by rw [← hb]; congr 1; omega))
              have e : l.take k = l.take (Lib.decodeL l).2 ++ (l.drop (Lib.decodeL l).2).take (k - (Lib.decodeL l).2) := by
                rw [← List.take_add]; congr 1; omega
              have e2 : Lib.validD (l.take (Lib.decodeL l).2 ++ []) = true := by
                rename_i hbad
                have h3 := Lib.encode_decode l hne hbad
                have h4 : e1 (Lib.decodeL l).1 = l.take (Lib.decodeL l).2 := h3
                rw [← h4, valid_e1 _ (okR_decode l hne)]
                rfl
              rw [List.append_nil] at e2
              rw [e, vd_app e2]
              exact ih
theorem near_ge {r : List UInt8} {m : Nat} (hm : ∀ b, r[m]? = some b → stB b.toNat = true) : ∀ K, m ≤ K → m ≤ nearGo r K
  | 0, h => by simp [nearGo]; omega
  | K + 1, h => by
    by_cases hmk : m = K + 1
    · subst hmk
      unfold nearGo
      cases hr : r[K + 1]? with
      | none => exact Nat.le_refl _
      | some b => simp only; rw [if_pos (hm b hr)]; exact Nat.le_refl _
    · have ih := near_ge hm K (by omega)
      unfold nearGo
      cases r[K + 1]? with
      | none => simp only; omega
      | some b =>
        simp only
        split
        · omega
        · exact ih
theorem near_st (r : List UInt8) (h0 : ∀ b, r[0]? = some b → stB b.toNat = true) : ∀ K, ∀ b, r[nearGo r K]? = some b → stB b.toNat = true
  | 0, b, hb => by simp only [nearGo] at hb; exact h0 b hb
  | K + 1, b, hb => by
    unfold nearGo at hb
    cases hr : r[K + 1]? with
    | none => rw [hr] at hb; simp only at hb; rw [hr] at hb; cases hb
    | some c =>
      rw [hr] at hb
      simp only at hb
      split at hb
      · rename_i hc
        rw [hr] at hb
        cases hb; exact hc
      · exact near_st r h0 K b hb
/-- what near hands on: the name as it is written, and something valid behind it -/
theorem near_split {x q : List UInt8} (hx : Lib.validD x = true) (hq : Lib.validD q = true) (hl : x.length ≤ 1277) : ∃ q', (x ++ q).take (nearN (x ++ q)) = x ++ q' ∧ q' <+: q ∧ Lib.validD q' = true := by
  have hv : Lib.validD (x ++ q) = true := by rw [vd_app hx]; exact hq
  have hst : ∀ {l : List UInt8}, Lib.validD l = true → ∀ b, l[0]? = some b → stB b.toNat = true := fun {l} h b hb => by
    cases l with
    | nil => simp at hb
    | cons c t => simp only [List.getElem?_cons_zero, Option.some.injEq] at hb; subst hb; exact vd_head h
  unfold nearN
  split
  · exact ⟨q, by rw [List.take_length], List.prefix_refl _, hq⟩
  · have h1 : x.length ≤ nearGo (x ++ q) 1277 := near_ge (fun b hb => by
      rw [List.getElem?_append_right (Nat.le_refl _), Nat.sub_self] at hb
      exact hst hq b hb) 1277 hl
    have h2 := near_st (x ++ q) (hst hv) 1277
    have h3 := vd_take _ (x ++ q) (nearGo (x ++ q) 1277) (Nat.le_refl _) hv h2
    refine ⟨q.take (nearGo (x ++ q) 1277 - x.length), ?_, List.take_prefix _ _, ?_⟩
    · rw [List.take_append, List.take_of_length_le h1]
    · rw [List.take_append, List.take_of_length_le h1, vd_app hx] at h3
      exact h3
theorem sg_app {a b : List UInt8} (h : Lib.validD a = true) : sg (a ++ b) = sg a ++ sg b := by
  obtain ⟨rs, h1, rfl⟩ := (valid_iff a).1 h
  rw [sg_en rs h1, sg_en0 rs h1]
theorem escR_bytes (r : Nat) : (en (escR r)).length ≤ 5 := by
  unfold escR
  by_cases h1 : r = 39 ∨ r = 92
  · rw [if_pos h1, en_ascii _ (by intro x hx; simp at hx; omega)]
    simp
  · rw [if_neg h1]
    by_cases h2 : r = 10
    · rw [if_pos h2, en_ascii _ (by intro x hx; simp at hx; omega)]
      simp
    · rw [if_neg h2]
      by_cases h3 : hiddenB r = true
      · rw [if_pos h3, en_ascii _ (by
          intro x hx
          simp only [List.mem_cons, List.mem_append, List.not_mem_nil, or_false] at hx
          rcases hx with rfl | rfl | hx | rfl
          · omega
          · omega
          · exact hex2_ascii r (hidden_lt h3) x hx
          · omega)]
        have := (hex2_len r).2
        simp only [List.length_map, List.length_cons, List.length_append, List.length_nil]
        omega
      · rw [if_neg h3, en_one]
        have := (e1_length r).2
        omega
theorem escs_bytes : ∀ rs : List Nat, (en (escs rs)).length ≤ 5 * rs.length
  | [] => by simp [escs, en]
  | r :: t => by
    have h1 := escR_bytes r
    have h2 := escs_bytes t
    rw [escs, en_append, List.length_append, List.length_cons]
    omega
theorem bare_lt {r : Nat} {f : Bool} (h : bareB r f = true) : r < 128 := (bare_seen r f h).2.2
theorem plain_sg : ∀ (f : Bool) (l : List UInt8) (rs : List Nat), l = en rs → plainGo f rs = true → l.length = rs.length ∧ (∀ x ∈ rs, x < 128)
  | _, l, [], e, _ => by subst e; simp [en]
  | f, l, r :: t, e, h => by
    simp only [plainGo, Bool.and_eq_true] at h
    obtain ⟨ih1, ih2⟩ := plain_sg false (en t) t rfl h.2
    have hr := bare_lt h.1
    have e2 : en (r :: t) = e1 r ++ en t := by rw [← en_one r, ← en_append]; rfl
    subst e
    rw [e2, e1_ascii r hr, List.length_append, ih1]
    refine ⟨by simp; omega, fun x hx => ?_⟩
    rcases List.mem_cons.1 hx with rfl | hx
    · exact hr
    · exact ih2 x hx
/-- how long a name is as it is written -/
theorem quote_le3 {nm : List UInt8} (hc : (sg nm).length ≤ 255) : (quoteL nm).length ≤ 1277 := by
  unfold quoteL
  split
  · rename_i hv
    split
    · rename_i hp
      unfold plainB at hp
      rw [Bool.and_eq_true] at hp
      have := (plain_sg true nm (sg nm) (en_of_valid hv).symm hp.1).1
      omega
    · unfold quoteR
      have e : en (39 :: (escs (sg nm) ++ [39])) = e1 39 ++ (en (escs (sg nm)) ++ e1 39) := by
        have h1 : (39 :: (escs (sg nm) ++ [39]) : List Nat) = [39] ++ (escs (sg nm) ++ [39]) := rfl
        rw [h1, en_append, en_append, en_one]
      rw [e, e1_39]
      have := escs_bytes (sg nm)
      simp only [List.length_append, List.length_cons, List.length_nil]
      omega
  · simp
theorem bareLen_app : ∀ (f : Bool) (rs ts : List Nat), plainGo f rs = true → (∀ r t, ts = r :: t → bareB r false = false) → rs ≠ [] → bareLen f (rs ++ ts) = rs.length
  | f, [], ts, _, _, h => absurd rfl h
  | f, [r], ts, h, ht, _ => by
    simp only [plainGo, Bool.and_eq_true] at h
    rw [List.cons_append, List.nil_append, bareLen, if_pos h.1]
    cases ts with
    | nil => rfl
    | cons x t => rw [bareLen, ht x t rfl]; rfl
  | f, r :: r2 :: rs, ts, h, ht, _ => by
    have h' := h
    rw [plainGo, Bool.and_eq_true] at h
    rw [List.cons_append, bareLen, if_pos h.1, bareLen_app false (r2 :: rs) ts h.2 ht (by simp)]
    simp; omega
theorem fol_sg {q : List UInt8} (hf : Fol q) : ∀ r t, sg q = r :: t → bareB r false = false := fun r t e => by
  cases q with
  | nil => simp [sg_nil] at e
  | cons b l =>
    rw [sg_step _ (by simp)] at e
    injection e with e _
    by_cases hb : b.toNat < 128
    · rw [Lib.decodeL_ascii b l hb] at e
      subst e
      exact hf b l rfl
    · have h1 := dec_hi b l hb
      rw [e] at h1
      cases hbb : bareB r false with
      | false => rfl
      | true => have := bare_lt hbb; omega
theorem fol_pre {q q' : List UInt8} (hf : Fol q) (h : q' <+: q) : Fol q' := fun b t e => by
  subst e
  obtain ⟨s, hs⟩ := h
  exact hf b (t ++ s) (by rw [← hs]; rfl)
/-- a name that was written is read -/
theorem unq_back {nm q : List UInt8} (hv : Lib.validD nm = true) (hc : (sg nm).length ≤ 255) (hq : Lib.validD q = true) (hf : Fol q) : unqQ (quoteL nm ++ q) = (0, nm, (quoteL nm).length) := by
  have hvq : Lib.validD (quoteL nm ++ q) = true := by rw [vd_app (vd_quote nm)]; exact hq
  unfold unqQ
  rw [if_pos hvq]
  by_cases hp : plainB nm = true
  · have hQ : quoteL nm = nm := by unfold quoteL; rw [if_pos hv, if_pos hp]
    rw [hQ] at hvq ⊢
    unfold plainB at hp
    rw [Bool.and_eq_true] at hp
    have hne : nm ≠ [] := of_decide_eq_true hp.2
    have hsn : sg nm ≠ [] := fun e => hne (by have := en_of_valid hv; rw [e] at this; exact this.symm)
    obtain ⟨hl, _⟩ := plain_sg true nm (sg nm) (en_of_valid hv).symm hp.1
    have hpre : Lib.hasPrefix (nm ++ q) [39] = false := by
      cases hh : Lib.hasPrefix (nm ++ q) [39] with
      | false => rfl
      | true =>
        obtain ⟨t, ht⟩ := hasP_39 hh
        cases nm with
        | nil => exact absurd rfl hne
        | cons b l =>
          injection ht with hb _
          subst hb
          have h1 := sg_step ((39 : UInt8) :: l) (by simp)
          rw [Lib.decodeL_ascii 39 l (by decide)] at h1
          rw [h1] at hp
          simp [plainGo, bareB] at hp
    rw [hpre]
    simp only [Bool.false_eq_true, if_false]
    have hbl : bareLen true (sg (nm ++ q)) = nm.length := by
      rw [sg_app hv, bareLen_app true (sg nm) (sg q) hp.1 (fol_sg hf) hsn, hl]
    unfold bareQ
    rw [hbl, if_neg (by omega), if_neg (by have := List.length_pos_iff.2 hne; omega), List.take_left]
  · have hQ : quoteL nm = en (quoteR (sg nm)) := by unfold quoteL; rw [if_pos hv, if_neg hp]
    have hQ2 : quoteL nm = 39 :: (en (escs (sg nm)) ++ [39]) := by
      rw [hQ]
      unfold quoteR
      have h1 : (39 :: (escs (sg nm) ++ [39]) : List Nat) = [39] ++ (escs (sg nm) ++ [39]) := rfl
      rw [h1, en_append, en_append, en_one, e1_39]
      rfl
    have hpre : Lib.hasPrefix (quoteL nm ++ q) [39] = true := by rw [hQ2]; rfl
    rw [hpre, if_pos rfl]
    have hok := okRs_escs _ (okRs_sg nm)
    have hsg : sg ((quoteL nm ++ q).drop 1) = escs (sg nm) ++ 39 :: sg q := by
      rw [hQ2]
      show sg ((en (escs (sg nm)) ++ [39]) ++ q) = _
      have h39 : ([39] : List UInt8) = en [39] := by rw [en_one, e1_39]
      rw [h39, ← en_append, sg_en _ (okRs_append hok (okRs_one (okR_ascii (by omega)))), List.append_assoc]
      rfl
    unfold quotQ
    rw [hsg, runQ_back 255 (sg nm) [] 0 0 (sg q) (by simpa using hc)]
    simp only [if_pos, List.nil_append]
    rw [en_of_valid hv, en_of_valid hq, List.length_append]
    simp
theorem bs_bytes (s : ByteArray) : bs s.data.toList = s := bytes_eq' s
theorem name_back {nm : ByteArray} {q : List UInt8} (hv : Lib.validD nm.data.toList = true) (hc : (sg nm.data.toList).length ≤ 255) (hq : Lib.validD q = true) (hf : Fol q) : nameL (quoteL nm.data.toList ++ q) = (some (atomT nm), q) := by
  obtain ⟨q', h1, h2, h3⟩ := near_split (vd_quote nm.data.toList) hq (quote_le3 hc)
  have h4 := unq_back hv hc h3 (fol_pre hf h2)
  unfold nameL
  rw [h1, h4]
  simp only [if_pos]
  rw [List.take_left, List.drop_left, if_pos rfl, bs_bytes]
end Go.Proofs.YtjacoodfhkaioaaGreatDoor
namespace Go.Proofs.YtjacoodfhkaioaaGreatDoor
open Go.ChangeShapes Go.WideShapes Go.ChangeAt Go.RowKit Go.Shelf
set_option linter.unusedSimpArgs false
set_option linter.unusedVariables false
set_option maxRecDepth 2000

/-- bytes are bytes -/
def okB : Tm → Prop
  | .mk _ _ _ _ _ _ b => ∀ x ∈ b, x < 256
/-- all parts may be -/
def Mg (T : Tm) : Prop := ∀ p ∈ parts T, fairB p = true ∧ p.ok1 ∧ okB p
theorem Mg.self {T : Tm} (h : Mg T) : fairB T = true ∧ T.ok1 ∧ okB T := h T (by rw [parts_eq]; simp)
theorem mg_list {l : List Tm} {T : Tm} (h : Mg T) (hk : T.kids = l) : ∀ t ∈ l, Mg t := fun t ht p hp => h p (by
  rw [parts_eq, hk]
  refine List.mem_cons_of_mem _ ?_
  clear hk h
  induction l with
  | nil => simp at ht
  | cons u l ih =>
    simp only [partsL, List.mem_append]
    rcases List.mem_cons.1 ht with rfl | ht
    · exact .inl hp
    · exact .inr (ih ht))
/-- the shape of a term that may be -/
inductive Shp : Tm → Prop where
  | int (Z : Int) (h : (glim 4294967296 Z.natAbs).length ≤ 64) : Shp (intT Z)
  | atom (nm : ByteArray) (h1 : Lib.validD nm.data.toList = true) (h2 : (sg nm.data.toList).length ≤ 255) : Shp (atomT nm)
  | ref (n : Int) (h0 : 0 ≤ n) (h1 : n ≤ 1073741824) : Shp (numT 2 n)
  | pid (n : Int) (h0 : 0 ≤ n) (h1 : n ≤ 1073741824) : Shp (numT 3 n)
  | tup (l : List Tm) (h : l.length ≤ 255) : Shp (tupT l)
  | nil : Shp nilT
  | cons (a b : Tm) : Shp (consT a b)
  | bin (b : List Nat) (h1 : b.length ≤ 4096) (h2 : ∀ x ∈ b, x < 256) : Shp (binT b)
theorem shp_of {T : Tm} (h : fairB T = true) (ho : T.ok1) (hB : okB T) : Shp T := by
  have hp := prT_lean (fair_lean h)
  unfold fairB at h
  rw [Bool.and_eq_true] at h
  obtain ⟨_, hw⟩ := h
  cases T with | mk k neg d nm n l b =>
  unfold withinB at hw
  dsimp only at hw
  unfold prT at hp
  dsimp only at hp
  by_cases k0 : k = 0
  · subst k0
    rw [if_pos rfl] at hp hw
    rw [Bool.and_eq_true] at hw
    obtain ⟨hw1, hw2⟩ := hw
    simp only [Tm.mk.injEq, true_and] at hp
    obtain ⟨rfl, rfl, rfl, rfl⟩ := hp
    unfold normB at hw2
    rw [Bool.and_eq_true] at hw2
    obtain ⟨hn1, hn2⟩ := hw2
    have hlm : Lm 4294967296 d := ho.2.2.2.2
    have hna : (sv neg (gval 4294967296 d)).natAbs = gval 4294967296 d := by unfold sv; split <;> simp
    have hlen : (glim 4294967296 (gval 4294967296 d)).length = d.length := by
      rw [hna] at hn2
      have := beq_iff_eq.1 hn2
      omega
    have hd : glim 4294967296 (gval 4294967296 d) = d := by
      obtain ⟨k, hk, he⟩ := glim_is_take hlm
      rw [he] at hlen
      rw [List.length_take] at hlen
      rw [he, List.take_of_length_le (by omega)]
    have hneg : decide (sv neg (gval 4294967296 d) < 0) = neg := beq_iff_eq.1 hn1
    have hT : (Tm.mk 0 neg d noS 0 [] []) = intT (sv neg (gval 4294967296 d)) := by
      unfold intT
      rw [hneg, hna, hd]
    rw [hT]
    refine Shp.int _ ?_
    rw [hna, hd]
    have := of_decide_eq_true hw1
    omega
  rw [if_neg k0] at hp hw
  by_cases k1 : k = 1
  · subst k1
    rw [if_pos rfl] at hp hw
    simp only [Tm.mk.injEq, true_and] at hp
    obtain ⟨rfl, rfl, rfl, rfl, rfl⟩ := hp
    rw [Bool.and_eq_true] at hw
    have h1 := of_decide_eq_true hw.1
    have h2 := of_decide_eq_true hw.2
    unfold countZ at h1 h2
    by_cases hv : Lib.validD nm.data.toList = true
    · rw [if_pos hv] at h1 h2
      exact Shp.atom nm hv (by omega)
    · rw [if_neg hv] at h1; omega
  rw [if_neg k1] at hp hw
  by_cases k2 : k = 2
  · subst k2
    rw [if_pos rfl] at hp
    rw [if_pos (.inl rfl)] at hw
    simp only [Tm.mk.injEq, true_and] at hp
    obtain ⟨rfl, rfl, rfl, rfl, rfl⟩ := hp
    rw [Bool.and_eq_true] at hw
    exact Shp.ref n (of_decide_eq_true hw.1) (of_decide_eq_true hw.2)
  rw [if_neg k2] at hp
  by_cases k3 : k = 3
  · subst k3
    rw [if_pos rfl] at hp
    rw [if_pos (.inr rfl)] at hw
    simp only [Tm.mk.injEq, true_and] at hp
    obtain ⟨rfl, rfl, rfl, rfl, rfl⟩ := hp
    rw [Bool.and_eq_true] at hw
    exact Shp.pid n (of_decide_eq_true hw.1) (of_decide_eq_true hw.2)
  rw [if_neg k3] at hp
  rw [if_neg (fun e => e.elim k2 k3)] at hw
  by_cases k4 : k = 4
  · subst k4
    rw [if_pos rfl] at hp hw
    simp only [Tm.mk.injEq, true_and] at hp
    obtain ⟨rfl, rfl, rfl, rfl, rfl⟩ := hp
    have := of_decide_eq_true hw
    exact Shp.tup l (by omega)
  rw [if_neg k4] at hp hw
  by_cases k6 : k = 6
  · subst k6
    rw [if_pos rfl] at hp hw
    simp only [Tm.mk.injEq, true_and] at hp
    obtain ⟨rfl, rfl, rfl, rfl, rfl⟩ := hp
    have hl : (l.length : Int) = 2 := beq_iff_eq.1 hw
    match l, hl with
    | [a, b], _ => exact Shp.cons a b
    | [], hl => simp at hl
    | [a], hl => simp at hl
    | a :: b :: c :: l, hl => simp at hl; omega
  rw [if_neg k6] at hp hw
  by_cases k7 : k = 7
  · subst k7
    rw [if_pos rfl] at hp hw
    simp only [Tm.mk.injEq, true_and] at hp
    obtain ⟨rfl, rfl, rfl, rfl, hl, _⟩ := hp
    subst hl
    have := of_decide_eq_true hw
    exact Shp.bin b (by omega) hB
  rw [if_neg k7] at hp
  simp only [Tm.mk.injEq] at hp
  obtain ⟨rfl, rfl, rfl, rfl, rfl, rfl, rfl⟩ := hp
  exact Shp.nil
theorem tx_int (Z : Int) : tx (intT Z) = txt Z := by
  unfold intT
  rw [tx_leaf (by decide) (by decide)]
  unfold leafX
  rw [if_pos rfl, sv_int]
theorem tx_atom (nm : ByteArray) : tx (atomT nm) = quoteL nm.data.toList := by
  unfold atomT
  rw [tx_leaf (by decide) (by decide)]
  rfl
theorem tx_ref (n : Int) : tx (numT 2 n) = 35 :: Lib.itoa n := by
  unfold numT
  rw [tx_leaf (by decide) (by decide)]
  rfl
theorem tx_pid (n : Int) : tx (numT 3 n) = 60 :: (Lib.itoa n ++ [62]) := by
  unfold numT
  rw [tx_leaf (by decide) (by decide)]
  rfl
theorem tx_bin (b : List Nat) : tx (binT b) = [60, 60] ++ (joinC (b.map byT) ++ [62, 62]) := by
  unfold binT
  rw [tx_leaf (by decide) (by decide)]
  rfl
theorem tx_nil : tx nilT = [91, 93] := by
  unfold nilT
  rw [tx_leaf (by decide) (by decide)]
  rfl
theorem quote_hd {nm : List UInt8} (hv : Lib.validD nm = true) : ∃ b t, quoteL nm = b :: t ∧ (b = 39 ∨ (97 ≤ b.toNat ∧ b.toNat ≤ 122)) := by
  unfold quoteL
  rw [if_pos hv]
  by_cases hp : plainB nm = true
  · rw [if_pos hp]
    unfold plainB at hp
    rw [Bool.and_eq_true] at hp
    have hne : nm ≠ [] := of_decide_eq_true hp.2
    cases nm with
    | nil => exact absurd rfl hne
    | cons b l =>
      refine ⟨b, l, rfl, .inr ?_⟩
      have h1 := sg_step (b :: l) (by simp)
      rw [h1] at hp
      simp only [plainGo, Bool.and_eq_true] at hp
      have hb := bare_lt hp.1.1
      by_cases hb2 : b.toNat < 128
      · rw [Lib.decodeL_ascii b l hb2] at hp
        have := hp.1.1
        simp [bareB] at this
        exact this
      · have := dec_hi b l hb2; omega
  · rw [if_neg hp]
    refine ⟨39, en (escs (sg nm) ++ [39]), ?_, .inl rfl⟩
    unfold quoteR
    have h1 : (39 :: (escs (sg nm) ++ [39]) : List Nat) = [39] ++ (escs (sg nm) ++ [39]) := rfl
    rw [h1, en_append, en_one, e1_39]
    rfl
/-- leaves, read at once -/
theorem begin_int {Z : Int} {q : List UInt8} (h : (glim 4294967296 Z.natAbs).length ≤ 64) (hf : Fol q) : beginL (txt Z ++ q) = (.lf (some (intT Z)), q) := by
  by_cases h0 : 0 ≤ Z
  · obtain ⟨b, t, hb⟩ : ∃ b t, txt Z = b :: t := by
      cases e : txt Z with
      | nil => exact absurd e (txt_ne h0)
      | cons b t => exact ⟨b, t, rfl⟩
    have hd : digB b = true := txt_dig h0 b (by rw [hb]; simp)
    have hne : ∀ c : UInt8, digB c = false → skB c (txt Z ++ q) = false := fun c hc => by
      rw [hb, List.cons_append]
      exact (skB_no _ (fun e => by rw [e, hc] at hd; cases hd)).1
    have hdg : digH (txt Z ++ q) = true := by rw [hb]; exact hd
    unfold beginL
    rw [hne 91 (by decide), hne 123 (by decide), hne 60 (by decide), hne 35 (by decide), hne 45 (by decide), hdg, int_back h hf h0]
    rfl
  · obtain ⟨d, hd, _, hdd⟩ := txt_neg (n := Z) (by omega)
    rw [hd, List.cons_append]
    unfold beginL
    rw [(skB_no (c := 91) (d ++ q) (by decide)).1, (skB_no (c := 123) (d ++ q) (by decide)).1, (skB_no (c := 60) (d ++ q) (by decide)).1, (skB_no (c := 35) (d ++ q) (by decide)).1, (skB_self 45 (d ++ q)).1, (skB_self 45 (d ++ q)).2, int_back2 h hf hd hdd]
    rfl
theorem begin_atom {nm : ByteArray} {q : List UInt8} (hv : Lib.validD nm.data.toList = true) (hc : (sg nm.data.toList).length ≤ 255) (hq : Lib.validD q = true) (hf : Fol q) : beginL (quoteL nm.data.toList ++ q) = (.lf (some (atomT nm)), q) := by
  obtain ⟨b, t, hb, hbb⟩ := quote_hd hv
  have hne : ∀ c : UInt8, c ≠ 39 → ¬ (97 ≤ c.toNat ∧ c.toNat ≤ 122) → skB c (quoteL nm.data.toList ++ q) = false := fun c h1 h2 => by
    rw [hb, List.cons_append]
    exact (skB_no _ (fun e => by subst e; exact hbb.elim h1 h2)).1
  have hdg : digH (quoteL nm.data.toList ++ q) = false := by
    rw [hb]
    show digB b = false
    cases hd : digB b with
    | false => rfl
    | true =>
      simp only [digB, Bool.and_eq_true, decide_eq_true_eq] at hd
      rcases hbb with rfl | hbb
      · revert hd; decide
      · omega
  unfold beginL
  rw [hne 91 (by decide) (by decide), hne 123 (by decide) (by decide), hne 60 (by decide) (by decide), hne 35 (by decide) (by decide), hne 45 (by decide) (by decide), hdg, name_back hv hc hq hf]
  rfl
theorem begin_ref {n : Int} {q : List UInt8} (h0 : 0 ≤ n) (h1 : n ≤ 1073741824) (hf : Fol q) : beginL (35 :: Lib.itoa n ++ q) = (.lf (some (numT 2 n)), q) := by
  rw [List.cons_append]
  unfold beginL
  rw [(skB_no (c := 91) _ (by decide)).1, (skB_no (c := 123) _ (by decide)).1, (skB_no (c := 60) _ (by decide)).1, (skB_self 35 _).1, (skB_self 35 _).2, ref_back h0 h1 hf]
  rfl
theorem begin_pid {n : Int} {q : List UInt8} (h0 : 0 ≤ n) (h1 : n ≤ 1073741824) : beginL (60 :: (Lib.itoa n ++ [62]) ++ q) = (.lf (some (numT 3 n)), q) := by
  have hs : skB 60 (Lib.itoa n ++ 62 :: q) = false := by
    rw [itoa_txt h0]
    cases e : txt n with
    | nil => exact absurd e (txt_ne h0)
    | cons b t =>
      have hd : digB b = true := txt_dig h0 b (by rw [e]; simp)
      rw [List.cons_append]
      exact (skB_no _ (fun e2 => by rw [e2] at hd; revert hd; decide)).1
  rw [List.cons_append, List.append_assoc, List.singleton_append]
  unfold beginL
  rw [(skB_no (c := 91) _ (by decide)).1, (skB_no (c := 123) _ (by decide)).1, (skB_self 60 _).1, (skB_self 60 _).2, hs, pid_back h0 h1]
  rfl
theorem begin_bin {b : List Nat} (q : List UInt8) (hb : ∀ x ∈ b, x < 256) : beginL ([60, 60] ++ (joinC (b.map byT) ++ [62, 62]) ++ q) = (.lf (some (binT b)), q) := by
  have e : [60, 60] ++ (joinC (b.map byT) ++ [62, 62]) ++ q = 60 :: 60 :: (joinC (b.map byT) ++ 62 :: 62 :: q) := by simp
  rw [e]
  unfold beginL
  rw [(skB_no (c := 91) _ (by decide)).1, (skB_no (c := 123) _ (by decide)).1, (skB_self 60 _).1, (skB_self 60 _).2, (skB_self 60 _).1, (skB_self 60 _).2, bin_read q hb]
  rfl
theorem begin_nil (q : List UInt8) : beginL ([91, 93] ++ q) = (.lf (some nilT), q) := by
  show beginL (91 :: 93 :: q) = _
  unfold beginL opL
  rw [(skB_self 91 _).1, (skB_self 91 _).2, (skB_self 93 _).1, (skB_self 93 _).2]
  rfl
theorem begin_tup0 (q : List UInt8) : beginL (123 :: 125 :: q) = (.lf (some (tupT [])), q) := by
  unfold beginL opL
  rw [(skB_no (c := 91) _ (by decide)).1, (skB_self 123 _).1, (skB_self 123 _).2, (skB_self 125 _).1, (skB_self 125 _).2]
  rfl
theorem begin_tup {r : List UInt8} (h : skB 125 r = false) : beginL (123 :: r) = (.rw 125, r) := by
  unfold beginL opL
  rw [(skB_no (c := 91) _ (by decide)).1, (skB_self 123 _).1, (skB_self 123 _).2, h]
  rfl
theorem begin_list {r : List UInt8} (h : skB 93 r = false) : beginL (91 :: r) = (.rw 93, r) := by
  unfold beginL opL
  rw [(skB_self 91 _).1, (skB_self 91 _).2, h]
  rfl
end Go.Proofs.YtjacoodfhkaioaaGreatDoor
namespace Go.Proofs.YtjacoodfhkaioaaGreatDoor
open Go.ChangeShapes Go.WideShapes Go.ChangeAt Go.RowKit Go.Shelf
set_option linter.unusedSimpArgs false
set_option linter.unusedVariables false
set_option maxRecDepth 2000

theorem tx_tupT0 (l : List Tm) : tx (tupT l) = 123 :: (joinC (l.map tx) ++ [125]) := tx_tuple
theorem tx_consT (a b : Tm) : tx (consT a b) = 91 :: (tx a ++ tb b) := tx_cons
theorem tb_consT (a b : Tm) : tb (consT a b) = 44 :: (tx a ++ tb b) := tb_cons
theorem tb_nilT : tb nilT = [93] := tb_nil
/-- how a text begins -/
theorem tx_hd {T : Tm} (h : Shp T) : ∃ b t, tx T = b :: t ∧ b ≠ 93 ∧ b ≠ 125 := by
  cases h with
  | int Z hl =>
    rw [tx_int]
    by_cases h0 : 0 ≤ Z
    · cases e : txt Z with
      | nil => exact absurd e (txt_ne h0)
      | cons b t =>
        have hd : digB b = true := txt_dig h0 b (by rw [e]; simp)
        exact ⟨b, t, rfl, fun e2 => by rw [e2] at hd; revert hd; decide, fun e2 => by rw [e2] at hd; revert hd; decide⟩
    · obtain ⟨d, hd, _⟩ := txt_neg (n := Z) (by omega)
      exact ⟨45, d, hd, by decide, by decide⟩
  | atom nm h1 h2 =>
    rw [tx_atom]
    obtain ⟨b, t, hb, hbb⟩ := quote_hd h1
    refine ⟨b, t, hb, fun e => ?_, fun e => ?_⟩
    · subst e; rcases hbb with h | h <;> revert h <;> decide
    · subst e; rcases hbb with h | h <;> revert h <;> decide
  | ref n h0 h1 => rw [tx_ref]; exact ⟨_, _, rfl, by decide, by decide⟩
  | pid n h0 h1 => rw [tx_pid]; exact ⟨_, _, rfl, by decide, by decide⟩
  | tup l h => rw [tx_tupT0]; exact ⟨_, _, rfl, by decide, by decide⟩
  | nil => rw [tx_nil]; exact ⟨_, _, rfl, by decide, by decide⟩
  | cons a b => rw [tx_consT]; exact ⟨_, _, rfl, by decide, by decide⟩
  | bin b h1 h2 => rw [tx_bin]; exact ⟨_, _, rfl, by decide, by decide⟩
/-- what stands behind an item -/
theorem tb_cases {T : Tm} (h : Shp T) : T = nilT ∨ (∃ a b, T = consT a b) ∨ (tb T = 124 :: (tx T ++ [93]) ∧ ¬ (T.kind = 5 ∨ T.kind = 6)) := by
  cases h with
  | int Z hl => exact .inr (.inr ⟨tb_other (by simp [intT, Tm.kind]) (by simp [intT, Tm.kind]), by simp [intT, Tm.kind]⟩)
  | atom nm h1 h2 => exact .inr (.inr ⟨tb_other (by simp [atomT, Tm.kind]) (by simp [atomT, Tm.kind]), by simp [atomT, Tm.kind]⟩)
  | ref n h0 h1 => exact .inr (.inr ⟨tb_other (by simp [numT, Tm.kind]) (by simp [numT, Tm.kind]), by simp [numT, Tm.kind]⟩)
  | pid n h0 h1 => exact .inr (.inr ⟨tb_other (by simp [numT, Tm.kind]) (by simp [numT, Tm.kind]), by simp [numT, Tm.kind]⟩)
  | tup l h => exact .inr (.inr ⟨tb_other (by simp [tupT, Tm.kind]) (by simp [tupT, Tm.kind]), by simp [tupT, Tm.kind]⟩)
  | nil => exact .inl rfl
  | cons a b => exact .inr (.inl ⟨a, b, rfl⟩)
  | bin b h1 h2 => exact .inr (.inr ⟨tb_other (by simp [binT, Tm.kind]) (by simp [binT, Tm.kind]), by simp [binT, Tm.kind]⟩)
theorem Mg.shp {T : Tm} (h : Mg T) : Shp T := shp_of h.self.1 h.self.2.1 h.self.2.2
theorem tb_hd {T : Tm} (h : Shp T) (q : List UInt8) : ∃ b t, tb T ++ q = b :: t ∧ (b = 93 ∨ b = 44 ∨ b = 124) := by
  rcases tb_cases h with rfl | ⟨a, b, rfl⟩ | ⟨e, _⟩
  · rw [tb_nilT]; exact ⟨_, _, rfl, .inl rfl⟩
  · rw [tb_consT]; exact ⟨_, _, rfl, .inr (.inl rfl)⟩
  · rw [e]; exact ⟨_, _, rfl, .inr (.inr rfl)⟩
theorem fol_of {q : List UInt8} {b : UInt8} {t : List UInt8} (h : q = b :: t) (hb : bareB b.toNat false = false) : Fol q := by subst h; exact fol_cons t hb
theorem fol_tb {T : Tm} (h : Shp T) (q : List UInt8) : Fol (tb T ++ q) := by
  obtain ⟨b, t, e, hb⟩ := tb_hd h q
  refine fol_of e ?_
  rcases hb with rfl | rfl | rfl <;> decide
theorem kids_tup (l : List Tm) : (tupT l).kids = l := by simp [tupT, Tm.kids]
theorem kids_cons (a b : Tm) : (consT a b).kids = [a, b] := by simp [consT, Tm.kids]
theorem vd_dig {d : List UInt8} (h : ∀ x ∈ d, digB x = true) (q : List UInt8) : Lib.validD (d ++ q) = Lib.validD q := by
  induction d with
  | nil => rfl
  | cons x d ih =>
    have hx := h x (by simp)
    simp only [digB, Bool.and_eq_true, decide_eq_true_eq] at hx
    rw [List.cons_append, vd_asc x (by omega)]
    exact ih (fun y hy => h y (by simp [hy]))
theorem vd_txt (Z : Int) (q : List UInt8) : Lib.validD (txt Z ++ q) = Lib.validD q := by
  by_cases h0 : 0 ≤ Z
  · exact vd_dig (txt_dig h0) q
  · obtain ⟨d, hd, _, hdd⟩ := txt_neg (n := Z) (by omega)
    rw [hd, List.cons_append, vd_asc 45 (by decide)]
    exact vd_dig hdd q
theorem vd_comb : ∀ (l : List Nat) (q : List UInt8), Lib.validD (comL (l.map byT) ++ q) = Lib.validD q
  | [], q => rfl
  | x :: l, q => by
    rw [List.map_cons, comL, List.cons_append, vd_asc 44 (by decide), List.append_assoc, vd_dig (byT_dig x)]
    exact vd_comb l q
/-- a text is valid -/
theorem vd_tx : ∀ (N : Nat), (∀ T, (parts T).length ≤ N → Mg T → ∀ q, Lib.validD (tx T ++ q) = Lib.validD q) ∧ (∀ T, (parts T).length ≤ N → Mg T → ∀ q, Lib.validD (tb T ++ q) = Lib.validD q)
  | 0 => ⟨fun T h => by have := parts_pos T; omega, fun T h => by have := parts_pos T; omega⟩
  | N + 1 => by
    obtain ⟨ih1, ih2⟩ := vd_tx N
    have items : ∀ l : List Tm, (partsL l).length ≤ N → (∀ t ∈ l, Mg t) → ∀ q, Lib.validD (comL (l.map tx) ++ q) = Lib.validD q := by
      intro l
      induction l with
      | nil => intro _ _ q; rfl
      | cons t l ih =>
        intro hl hm q
        simp only [partsL, List.length_append] at hl
        rw [List.map_cons, comL, List.cons_append, vd_asc 44 (by decide), List.append_assoc, ih1 t (by omega) (hm t (by simp)), ih (by omega) (fun u hu => hm u (by simp [hu]))]
    have A : ∀ T, (parts T).length ≤ N + 1 → Mg T → ∀ q, Lib.validD (tx T ++ q) = Lib.validD q := by
      intro T hN hM q
      have hs := hM.shp
      cases hs with
      | int Z hl => rw [tx_int]; exact vd_txt Z q
      | atom nm h1 h2 => rw [tx_atom, vd_app (vd_quote _)]
      | ref n h0 h1 => rw [tx_ref, List.cons_append, vd_asc 35 (by decide), itoa_txt h0]; exact vd_txt n q
      | pid n h0 h1 => rw [tx_pid, List.cons_append, vd_asc 60 (by decide), itoa_txt h0, List.append_assoc, vd_txt]; exact vd_asc 62 (by decide) q
      | tup l h =>
        rw [tx_tupT0, List.cons_append, vd_asc 123 (by decide), List.append_assoc]
        rw [parts_tup, List.length_cons] at hN
        have hk := mg_list hM (kids_tup l)
        cases l with
        | nil => exact vd_asc 125 (by decide) q
        | cons t l =>
          simp only [partsL, List.length_append] at hN
          rw [List.map_cons, joinC_com, List.append_assoc, ih1 t (by omega) (hk t (by simp)), items l (by omega) (fun u hu => hk u (by simp [hu]))]
          exact vd_asc 125 (by decide) q
      | nil => rw [tx_nil]; exact (vd_asc 91 (by decide) _).trans (vd_asc 93 (by decide) q)
      | cons a b =>
        have hk := mg_list hM (kids_cons a b)
        rw [parts_cons, List.length_cons, List.length_append] at hN
        rw [tx_consT, List.cons_append, vd_asc 91 (by decide), List.append_assoc, ih1 a (by omega) (hk a (by simp)), ih2 b (by omega) (hk b (by simp))]
      | bin b h1 h2 =>
        rw [tx_bin]
        have e : [60, 60] ++ (joinC (b.map byT) ++ [62, 62]) ++ q = 60 :: 60 :: (joinC (b.map byT) ++ 62 :: 62 :: q) := by simp
        rw [e, vd_asc 60 (by decide), vd_asc 60 (by decide)]
        have e2 : Lib.validD (62 :: 62 :: q) = Lib.validD q := by rw [vd_asc 62 (by decide), vd_asc 62 (by decide)]
        cases b with
        | nil => exact e2
        | cons x b => rw [List.map_cons, joinC_com, List.append_assoc, vd_dig (byT_dig x), vd_comb, e2]
    refine ⟨A, fun T hN hM q => ?_⟩
    rcases tb_cases hM.shp with rfl | ⟨a, b, rfl⟩ | ⟨e, _⟩
    · rw [tb_nilT]; exact vd_asc 93 (by decide) q
    · have hk := mg_list hM (kids_cons a b)
      rw [parts_cons, List.length_cons, List.length_append] at hN
      rw [tb_consT, List.cons_append, vd_asc 44 (by decide), List.append_assoc, ih1 a (by omega) (hk a (by simp)), ih2 b (by omega) (hk b (by simp))]
    · rw [e, List.cons_append, vd_asc 124 (by decide), List.append_assoc, A T hN hM]
      exact vd_asc 93 (by decide) q
/-- read at its beginning, whatever is open -/
def Bk (T : Tm) : Prop := ∀ (q : List UInt8) (st : List Op), Lib.validD q = true → Fol q → goL (beginL (tx T ++ q)).2 st (bgH (beginL (tx T ++ q)).1) = goL q st (.tm T)
def BkT (T : Tm) : Prop := ∀ (q : List UInt8) (st : List Op) (its : List Tm) (H : Tm), Lib.validD q = true → goL (tb T ++ q) (⟨93, its, false⟩ :: st) (.tm H) = goL q st (.tm (consL (its ++ [H]) T))
theorem bk_leaf {T : Tm} (h : ∀ q, Lib.validD q = true → Fol q → beginL (tx T ++ q) = (.lf (some T), q)) : Bk T := fun q st hv hf => by rw [h q hv hf]; rfl
theorem consL_snoc (l : List Tm) (a b : Tm) : consL (l ++ [a]) b = consL l (consT a b) := by
  induction l with
  | nil => rfl
  | cons x l ih => show consT x (consL (l ++ [a]) b) = consT x (consL l (consT a b)); rw [ih]
theorem bk_all : ∀ (N : Nat), (∀ T, (parts T).length ≤ N → Mg T → Bk T) ∧ (∀ T, (parts T).length ≤ N → Mg T → BkT T)
  | 0 => ⟨fun T h => by have := parts_pos T; omega, fun T h => by have := parts_pos T; omega⟩
  | N + 1 => by
    obtain ⟨ih1, ih2⟩ := bk_all N
    have items : ∀ (l : List Tm) (t : Tm), (parts t).length + (partsL l).length ≤ N → Mg t → (∀ u ∈ l, Mg u) → ∀ (its : List Tm) (q : List UInt8) (st : List Op), Lib.validD q = true →
        goL (beginL (tx t ++ (comL (l.map tx) ++ 125 :: q))).2 (⟨125, its, false⟩ :: st) (bgH (beginL (tx t ++ (comL (l.map tx) ++ 125 :: q))).1) = goL q st (.tm (tupT (its ++ t :: l))) := by
      intro l
      induction l with
      | nil =>
        intro t hl hm _ its q st hv
        have hv2 : Lib.validD (125 :: q) = true := by rw [vd_asc 125 (by decide)]; exact hv
        rw [List.map_nil, comL, List.nil_append, ih1 t (by omega) hm (125 :: q) _ hv2 (fol_cons q (by decide)), goL_tm]
        unfold putL
        rw [(skB_self 125 q).1, if_pos rfl, (skB_self 125 q).2]
        rfl
      | cons u l ih =>
        intro t hl hm hms its q st hv
        simp only [partsL, List.length_append] at hl
        have hv2 : Lib.validD (comL ((u :: l).map tx) ++ 125 :: q) = true := by
          have h1 : ∀ (l : List Tm), (∀ x ∈ l, Mg x) → ∀ q, Lib.validD (comL (l.map tx) ++ q) = Lib.validD q := by
            intro l
            induction l with
            | nil => intro _ q; rfl
            | cons t l ih => intro hm q; rw [List.map_cons, comL, List.cons_append, vd_asc 44 (by decide), List.append_assoc, (vd_tx _).1 t (Nat.le_refl _) (hm t (by simp)), ih (fun u hu => hm u (by simp [hu]))]
          rw [h1 (u :: l) hms, vd_asc 125 (by decide)]
          exact hv
        rw [ih1 t (by omega) hm _ _ hv2 (fol_of (by rw [List.map_cons, comL, List.cons_append]) (by decide)), goL_tm]
        have hp : putL ⟨125, its, false⟩ t (comL ((u :: l).map tx) ++ 125 :: q) = (.rw ⟨125, its ++ [t], false⟩, tx u ++ (comL (l.map tx) ++ 125 :: q)) := by
          rw [List.map_cons, comL, List.cons_append, List.append_assoc]
          unfold putL
          rw [(skB_no (c := 125) (b := 44) _ (by decide)).1, if_neg (by simp), if_neg (by simp), (skB_self 44 _).1, if_pos rfl, (skB_self 44 _).2]
          rfl
        rw [hp, goL_rw, ih u (by omega) (hms u (by simp)) (fun x hx => hms x (by simp [hx])) (its ++ [t]) q st hv, List.append_assoc]
        rfl
    have A : ∀ T, (parts T).length ≤ N + 1 → Mg T → Bk T := by
      intro T hN hM
      have hs := hM.shp
      cases hs with
      | int Z hl => exact bk_leaf (fun q hv hf => by rw [tx_int]; exact begin_int hl hf)
      | atom nm h1 h2 => exact bk_leaf (fun q hv hf => by rw [tx_atom]; exact begin_atom h1 h2 hv hf)
      | ref n h0 h1 => exact bk_leaf (fun q hv hf => by rw [tx_ref]; exact begin_ref h0 h1 hf)
      | pid n h0 h1 => exact bk_leaf (fun q hv hf => by rw [tx_pid]; exact begin_pid h0 h1)
      | nil => exact bk_leaf (fun q hv hf => by rw [tx_nil]; exact begin_nil q)
      | bin b h1 h2 => exact bk_leaf (fun q hv hf => by rw [tx_bin]; exact begin_bin q h2)
      | tup l h =>
        rw [parts_tup, List.length_cons] at hN
        have hk := mg_list hM (kids_tup l)
        cases l with
        | nil => exact bk_leaf (fun q hv hf => by rw [tx_tupT0]; exact begin_tup0 q)
        | cons t l =>
          intro q st hv hf
          simp only [partsL, List.length_append] at hN
          have e : tx (tupT (t :: l)) ++ q = 123 :: (tx t ++ (comL (l.map tx) ++ 125 :: q)) := by
            rw [tx_tupT0, List.map_cons, joinC_com]; simp
          have hsk : skB 125 (tx t ++ (comL (l.map tx) ++ 125 :: q)) = false := by
            obtain ⟨b, u, hb, _, hb2⟩ := tx_hd (hk t (by simp)).shp
            rw [hb, List.cons_append]
            exact (skB_no _ hb2).1
          rw [e, begin_tup hsk]
          show goL _ st (.rw ⟨125, [], false⟩) = _
          rw [goL_rw, items l t (by omega) (hk t (by simp)) (fun u hu => hk u (by simp [hu])) [] q st hv]
          rfl
      | cons a b =>
        intro q st hv hf
        have hk := mg_list hM (kids_cons a b)
        have hN2 := hN
        rw [parts_cons, List.length_cons, List.length_append] at hN2
        have e : tx (consT a b) ++ q = 91 :: (tx a ++ (tb b ++ q)) := by rw [tx_consT]; simp
        have hsk : skB 93 (tx a ++ (tb b ++ q)) = false := by
          obtain ⟨c, u, hb, hb2, _⟩ := tx_hd (hk a (by simp)).shp
          rw [hb, List.cons_append]
          exact (skB_no _ hb2).1
        have hv2 : Lib.validD (tb b ++ q) = true := by rw [(vd_tx _).2 b (Nat.le_refl _) (hk b (by simp))]; exact hv
        rw [e, begin_list hsk]
        show goL _ st (.rw ⟨93, [], false⟩) = _
        rw [goL_rw, ih1 a (by omega) (hk a (by simp)) _ _ hv2 (fol_tb (hk b (by simp)).shp q), ih2 b (by omega) (hk b (by simp)) q st [] a hv]
        rfl
    refine ⟨A, fun T hN hM q st its H hv => ?_⟩
    rcases tb_cases hM.shp with rfl | ⟨a, b, rfl⟩ | ⟨e, hk⟩
    · rw [tb_nilT]
      show goL (93 :: q) _ _ = _
      rw [goL_tm]
      unfold putL
      rw [(skB_self 93 q).1, if_pos rfl, (skB_self 93 q).2]
      rfl
    · have hk := mg_list hM (kids_cons a b)
      rw [parts_cons, List.length_cons, List.length_append] at hN
      have hv2 : Lib.validD (tb b ++ q) = true := by rw [(vd_tx _).2 b (Nat.le_refl _) (hk b (by simp))]; exact hv
      have hp : putL ⟨93, its, false⟩ H (tb (consT a b) ++ q) = (.rw ⟨93, its ++ [H], false⟩, tx a ++ (tb b ++ q)) := by
        rw [tb_consT, List.cons_append, List.append_assoc]
        unfold putL
        rw [(skB_no (c := 93) (b := 44) _ (by decide)).1, if_neg (by simp), if_neg (by simp), (skB_self 44 _).1, if_pos rfl, (skB_self 44 _).2]
        rfl
      rw [goL_tm, hp, goL_rw, ih1 a (by omega) (hk a (by simp)) _ _ hv2 (fol_tb (hk b (by simp)).shp q), ih2 b (by omega) (hk b (by simp)) q st (its ++ [H]) a hv, consL_snoc]
    · have hv2 : Lib.validD (93 :: q) = true := by rw [vd_asc 93 (by decide)]; exact hv
      have hp : putL ⟨93, its, false⟩ H (tb T ++ q) = (.rw ⟨93, its ++ [H], true⟩, tx T ++ (93 :: q)) := by
        rw [e, List.cons_append, List.append_assoc]
        unfold putL
        rw [(skB_no (c := 93) (b := 124) _ (by decide)).1, if_neg (by simp), if_neg (by simp), (skB_no (c := 44) (b := 124) _ (by decide)).1, if_neg (by simp), (skB_self 124 _).1, if_pos ⟨rfl, rfl⟩, (skB_self 124 _).2]
        rfl
      rw [goL_tm, hp, goL_rw, A T hN hM (93 :: q) _ hv2 (fol_cons q (by decide)), goL_tm]
      have hw : wholeL (Op.add ⟨93, its ++ [H], true⟩ T) = some (consL (its ++ [H]) T) := by
        unfold wholeL Op.add
        simp only
        rw [if_neg (by decide), if_pos trivial, List.getLast?_concat, List.dropLast_concat]
        simp only
        rw [if_neg hk]
      unfold putL
      rw [(skB_self 93 q).1, if_pos rfl, (skB_self 93 q).2, hw]
      rfl
/-- WHAT WAS PRINTED IS READ -/
theorem read_back {T : Tm} {q : List UInt8} (hM : Mg T) (hv : Lib.validD q = true) (hf : Fol q) : readL (tx T ++ q) = (some T, q) := by
  rw [readL_go, (bk_all _).1 T (Nat.le_refl _) hM q [] hv hf]
  rfl
end Go.Proofs.YtjacoodfhkaioaaGreatDoor
namespace Go.Proofs.YtjacoodfhkaioaaGreatDoor
open Go.ChangeShapes Go.WideShapes Go.ChangeAt Go.RowKit Go.Shelf
set_option linter.unusedSimpArgs false
set_option linter.unusedVariables false
set_option maxRecDepth 2000

theorem lx_z {x y : Int} (h : lx x y = 0) : x = 0 ∧ y = 0 := by
  unfold lx at h
  by_cases hx : x = 0
  · rw [if_neg (by simp [hx])] at h; exact ⟨hx, h⟩
  · rw [if_pos hx] at h; exact absurd h hx
theorem cmpZ_z {x y : Int} (h : cmpZ x y = 0) : x = y := by
  unfold cmpZ at h
  split at h
  · omega
  · split at h
    · omega
    · omega
theorem lexZ_z : ∀ a b : List Nat, lexZ_o a b = 0 → a = b
  | [], [], _ => rfl
  | [], _ :: _, h => by simp [lexZ_o] at h
  | _ :: _, [], h => by simp [lexZ_o] at h
  | x :: a, y :: b, h => by
    unfold lexZ_o at h
    by_cases hxy : x = y
    · rw [if_pos hxy] at h
      rw [hxy, lexZ_z a b h]
    · rw [if_neg hxy] at h
      have := cmpZ_z h
      omega
theorem lessZ_z {a b : List UInt8} (ha : Lib.validD a = true) (hb : Lib.validD b = true) (h : lessZ_o a b = 0) : a = b := by
  unfold lessZ_o at h
  rw [ha, hb] at h
  simp only [Bool.and_self, if_true] at h
  have h1 := lexZ_z _ _ h
  rw [← en_of_valid ha, ← en_of_valid hb, h1]
theorem cT_kind0 {A B : Tm} (h : cT A B = 0) : A.kind = B.kind := by
  cases A with | mk k neg d nm n l b =>
  cases B with | mk k' neg' d' nm' n' l' b' =>
  rw [cT] at h
  exact cmpZ_z (lx_z h).1
theorem cT_rest {k k' : Int} {neg neg' : Bool} {d d' : List Nat} {nm nm' : ByteArray} {n n' : Int} {l l' : List Tm} {b b' : List Nat} (h : cT (.mk k neg d nm n l b) (.mk k' neg' d' nm' n' l' b') = 0) :
    (if k = 0 then cmpZ (sv neg (gval 4294967296 d)) (sv neg' (gval 4294967296 d')) else if k = 1 then lessZ_o nm.data.toList nm'.data.toList else if k = 2 ∨ k = 3 then cmpZ n n' else if k = 7 then lexZ_o b b' else if k = 4 ∨ k = 6 then lx (cmpZ (l.length : Int) (l'.length : Int)) (cR l l') else 0) = 0 := by
  rw [cT] at h
  exact (lx_z h).2
theorem ba_eq {a b : ByteArray} (h : a.data.toList = b.data.toList) : a = b := ByteArray.ext (Array.toList_inj.1 h)
theorem cT_eq : ∀ (N : Nat) (A B : Tm), (parts A).length ≤ N → Mg A → Mg B → cT A B = 0 → A = B
  | 0, A, _, h, _, _, _ => by have := parts_pos A; omega
  | N + 1, A, B, hN, hA, hB, h => by
    have rows : ∀ (l l' : List Tm), (partsL l).length ≤ N → (∀ t ∈ l, Mg t) → (∀ t ∈ l', Mg t) → l.length = l'.length → cR l l' = 0 → l = l' := by
      intro l
      induction l with
      | nil => intro l' _ _ _ hl _; exact (List.eq_nil_of_length_eq_zero hl.symm).symm
      | cons t l ih =>
        intro l' hp h1 h2 hl hc
        cases l' with
        | nil => simp at hl
        | cons t' l' =>
          simp only [partsL, List.length_append] at hp
          rw [cR_cons] at hc
          obtain ⟨c1, c2⟩ := lx_z hc
          rw [cT_eq N t t' (by omega) (h1 t (by simp)) (h2 t' (by simp)) c1, ih l' (by omega) (fun u hu => h1 u (by simp [hu])) (fun u hu => h2 u (by simp [hu])) (by simpa using hl) c2]
    have hk := cT_kind0 h
    have sA := hA.shp
    have sB := hB.shp
    cases sA with
    | int Z hZ =>
      cases sB with
      | int Z' hZ' =>
        have h2 := cT_rest h
        rw [if_pos rfl] at h2
        have h3 := cmpZ_z h2
        rw [sv_int, sv_int] at h3
        rw [h3]
      | _ => simp [intT, atomT, numT, tupT, nilT, consT, binT, Tm.kind] at hk
    | atom nm h1 h2 =>
      cases sB with
      | atom nm' h1' h2' =>
        have h2 := cT_rest h
        rw [if_neg (by decide), if_pos rfl] at h2
        rw [ba_eq (lessZ_z h1 h1' h2)]
      | _ => simp [intT, atomT, numT, tupT, nilT, consT, binT, Tm.kind] at hk
    | ref n h0 h1 =>
      cases sB with
      | ref n' h0' h1' =>
        have h2 := cT_rest h
        rw [if_neg (by decide), if_neg (by decide), if_pos (by decide)] at h2
        rw [cmpZ_z h2]
      | _ => simp [intT, atomT, numT, tupT, nilT, consT, binT, Tm.kind] at hk
    | pid n h0 h1 =>
      cases sB with
      | pid n' h0' h1' =>
        have h2 := cT_rest h
        rw [if_neg (by decide), if_neg (by decide), if_pos (by decide)] at h2
        rw [cmpZ_z h2]
      | _ => simp [intT, atomT, numT, tupT, nilT, consT, binT, Tm.kind] at hk
    | tup l hl =>
      cases sB with
      | tup l' hl' =>
        have h2 := cT_rest h
        rw [if_neg (by decide), if_neg (by decide), if_neg (by decide), if_neg (by decide), if_pos (by decide)] at h2
        obtain ⟨c1, c2⟩ := lx_z h2
        have c3 := cmpZ_z c1
        rw [parts_tup, List.length_cons] at hN
        rw [rows l l' (by omega) (mg_list hA (kids_tup l)) (mg_list hB (kids_tup l')) (by omega) c2]
      | _ => simp [intT, atomT, numT, tupT, nilT, consT, binT, Tm.kind] at hk
    | nil =>
      cases sB with
      | nil => rfl
      | _ => simp [intT, atomT, numT, tupT, nilT, consT, binT, Tm.kind] at hk
    | cons a b =>
      cases sB with
      | cons a' b' =>
        have h2 := cT_rest h
        rw [if_neg (by decide), if_neg (by decide), if_neg (by decide), if_neg (by decide), if_pos (by decide)] at h2
        obtain ⟨c1, c2⟩ := lx_z h2
        have hp : (partsL [a, b]).length ≤ N := by
          rw [parts_cons, List.length_cons, List.length_append] at hN
          simp only [partsL, List.length_append, List.append_nil]
          omega
        have e := rows [a, b] [a', b'] hp (mg_list hA (kids_cons a b)) (mg_list hB (kids_cons a' b')) rfl c2
        injection e with e1 e2
        injection e2 with e2 _
        rw [e1, e2]
      | _ => simp [intT, atomT, numT, tupT, nilT, consT, binT, Tm.kind] at hk
    | bin b h1 h2 =>
      cases sB with
      | bin b' h1' h2' =>
        have h2 := cT_rest h
        rw [if_neg (by decide), if_neg (by decide), if_neg (by decide), if_pos rfl] at h2
        rw [lexZ_z b b' h2]
      | _ => simp [intT, atomT, numT, tupT, nilT, consT, binT, Tm.kind] at hk
mutual
theorem cT_me : ∀ a : Tm, cT a a = 0
  | .mk k neg d nm n l b => by
    have hz : ∀ x : Int, cmpZ x x = 0 := fun x => by unfold cmpZ; simp
    rw [cT, hz, lx_zero]
    by_cases h0 : k = 0
    · rw [if_pos h0, hz]
    rw [if_neg h0]
    by_cases h1 : k = 1
    · rw [if_pos h1]
      unfold lessZ_o
      split
      · exact lexZ_self _
      · have cb : ∀ a : List UInt8, Lib.compareBytes a a = 0 := by
          intro a
          induction a with
          | nil => rfl
          | cons x xs ih => unfold Lib.compareBytes; simp [UInt8.lt_irrefl, ih]
        exact cb _
    rw [if_neg h1]
    by_cases h2 : k = 2 ∨ k = 3
    · rw [if_pos h2, hz]
    rw [if_neg h2]
    by_cases h7 : k = 7
    · rw [if_pos h7, lexZ_self]
    rw [if_neg h7]
    by_cases h4 : k = 4 ∨ k = 6
    · rw [if_pos h4, hz, lx_zero, cR_me l]
    rw [if_neg h4]
theorem cR_me : ∀ l : List Tm, cR l l = 0
  | [] => cR_nil _
  | t :: l => by rw [cR_cons, cT_me t, lx_zero, cR_me l]
end
/-- TEXTS ARE ALIKE JUST IF TERMS ARE -/
theorem tx_unlike {A B : Tm} (hA : Mg A) (hB : Mg B) : tx A = tx B ↔ cT A B = 0 := by
  constructor
  · intro h
    have h1 := read_back (q := []) hA rfl fol_nil
    have h2 := read_back (q := []) hB rfl fol_nil
    rw [h, h2] at h1
    injection h1 with h1 _
    injection h1 with h1
    rw [h1]
    exact cT_me _
  · intro h
    rw [cT_eq _ A B (Nat.le_refl _) hA hB h]
end Go.Proofs.YtjacoodfhkaioaaGreatDoor
namespace Go.Proofs.YtjacoodfhkaioaaGreatDoor
open Go.ChangeShapes Go.WideShapes Go.ChangeAt Go.ChangeMaps Go.RowKit Go.Shelf
set_option linter.unusedSimpArgs false
set_option linter.unusedVariables false
set_option maxRecDepth 2000
set_option maxHeartbeats 2000000 in
theorem rSame_w (A U : Tm) (va vb : Value) (w : World) (hoA : ∀ p ∈ parts A, p.ok1) (hoU : ∀ p ∈ parts U, p.ok1) (hA : TV (Low w) w A va) (hU : TV (Low w) w U vb) (hT : Tabs w) :
    Calls Tryz.prog 17 #[va, vb] w fun e w' => e = .returned (.bool (cT A U == 0)) ∧ Below w.heap.size w w' := by
  have HA := hid hA
  have HU := hid hU
  obtain ⟨pk, pneg, pod, pld, pcd, pnm, pn, pol, pll, pcl, pob, plb, pcb, rfl⟩ := hA.form
  obtain ⟨qk, qneg, qod, qld, qcd, qnm, qn, qol, qll, qcl, qob, qlb, qcb, rfl⟩ := hU.form
  clear hA hU
  obtain ⟨kA, kB, hB0, hz0⟩ := bx2 w (.int .i64 pk) (.bool pneg) (.slice pod pld pcd) (.string pnm) (.int .i64 pn) (.slice pol pll pcl) (.slice pob plb pcb) (.int .i64 qk) (.bool qneg) (.slice qod qld qcd) (.string qnm) (.int .i64 qn) (.slice qol qll qcl) (.slice qob qlb qcb) 27 27
  have hTA := tv_below HA.out hB0
  have hTU := tv_below HU.out hB0
  have hT0 := hT.below hB0
  go_enter Tryz.func17, Tryz.ntmps17
  go_wp2_with fail
  generalize ((w.alloc (.cells #[.int .i64 pk, .bool pneg, .slice pod pld pcd, .string pnm, .int .i64 pn, .slice pol pll pcl, .slice pob plb pcb] 27)).alloc (.cells #[.int .i64 qk, .bool qneg, .slice qod qld qcd, .string qnm, .int .i64 qn, .slice qol qll qcl, .slice qob qlb qcb] 27)) = W0 at *
  refine (rCompare_w (tsz A) A U _ _ _ (Nat.le_refl _) hoA hoU hTA hTU hT0).mono ?_
  rintro e w1 ⟨rfl, b1⟩
  go_wp2
  go_ret
  exact ⟨rfl, below_and hB0 (Nat.le_refl _) b1⟩
end Go.Proofs.YtjacoodfhkaioaaGreatDoor
namespace Go.Proofs.YtjacoodfhkaioaaGreatDoor
open Go.ChangeShapes Go.WideShapes Go.ChangeAt Go.RowKit Go.Shelf
set_option linter.unusedSimpArgs false
set_option linter.unusedVariables false
set_option maxRecDepth 2000
mutual
theorem tv_okB {Z : Nat → Prop} {w : World} : ∀ (T : Tm) (v : Value), TV Z w T v → ∀ p ∈ parts T, okB p
  | .mk k neg d nm n l b, v, h, p, hp => by
    unfold TV at h
    obtain ⟨od, cd, ol, cl, ob, cb, _, _, _, _, hB, _, _, hR⟩ := h
    simp only [parts, List.mem_cons] at hp
    rcases hp with rfl | hp
    · exact hB.2
    · split at hp
      · exact tr_okB l _ hR p hp
      · simp at hp
theorem tr_okB {Z : Nat → Prop} {w : World} : ∀ (l : List Tm) (o : Option Addr), TR Z w l o → ∀ p ∈ partsL l, okB p
  | [], _, _, p, hp => by simp [partsL] at hp
  | t :: l, o, h, p, hp => by
    unfold TR at h
    obtain ⟨a, v, _, _, _, h2, h3⟩ := h
    simp only [partsL, List.mem_append] at hp
    rcases hp with hp | hp
    · exact tv_okB t v h2 p hp
    · exact tr_okB l _ h3 p hp
end
theorem mg_of {T : Tm} {w : World} {v : Value} (h1 : ∀ p ∈ parts T, p.ok1 ∧ fairB p = true) (hT : TV (Low w) w T v) : Mg T := fun p hp => ⟨(h1 p hp).2, (h1 p hp).1, tv_okB T v hT p hp⟩
theorem prE_cases (T : Tm) (h : mayB T = true) : prE T = 0 ∨ prE T = 3 := by
  unfold prE
  rw [if_pos h]
  split
  · exact .inl rfl
  · exact .inr rfl
theorem tx_same {A B : List UInt8} : ((⟨A.toArray⟩ : ByteArray) = ⟨B.toArray⟩) ↔ A = B := by
  constructor
  · intro e
    have := congrArg (fun b : ByteArray => b.data.toList) e
    simpa using this
  · intro e; rw [e]
end Go.Proofs.YtjacoodfhkaioaaGreatDoor
namespace Go.Proofs.YtjacoodfhkaioaaGreatDoor.textUnlike
open Go.ChangeShapes Go.WideShapes Go.ChangeAt Go.ChangeMaps Go.RowKit Go.Shelf
set_option linter.unusedSimpArgs false
set_option linter.unusedVariables false
set_option maxRecDepth 2000
abbrev Tabs (w : World) : Prop := TabX w
set_option maxHeartbeats 4000000 in
set_option maxRecDepth 8000 in
theorem walk {H : Type} (enc : TypeId × Value → H) (base : Nat) (w : World) (v0 v1 : Value) (d0 d1 : DataW H) (p0 p1 : List MemPlace)
    (o0 : Value.okWide Tryz.prog w .any base 27 v0) (h0 : DataW.Trod enc Tryz.prog w 0 (fun _ => true) true 27 v0 d0 p0)
    (o1 : Value.okWide Tryz.prog w .any base 27 v1) (h1 : DataW.Trod enc Tryz.prog w 0 (fun _ => true) true 27 v1 d1 p1)
    (hT : Tabs w) :
    Calls Tryz.prog 7 #[v0, v1] w fun e w' => e = .returned (.bool true) ∧ Below w.heap.size w w' := by
  obtain ⟨A, hA0⟩ := open_term o0 h0
  obtain ⟨U, hU0⟩ := open_term o1 h1
  clear o0 h0 o1 h1
  obtain ⟨k, neg, od, ld, cd, nm, n, ol, ll, cl, ob, lb, cb, rfl⟩ := hA0.form
  obtain ⟨k', neg', od', ld', cd', nm', n', ol', ll', cl', ob', lb', cb', rfl⟩ := hU0.form
  obtain ⟨kX, kY, hBX, hz0⟩ := bx2 w (.int .i64 k) (.bool neg) (.slice od ld cd) (.string nm) (.int .i64 n) (.slice ol ll cl) (.slice ob lb cb) (.int .i64 k') (.bool neg') (.slice od' ld' cd') (.string nm') (.int .i64 n') (.slice ol' ll' cl') (.slice ob' lb' cb') 27 27
  have hTH := hid hT
  have hAH := hid hA0
  have hUH := hid hU0
  go_enter Tryz.func7, Tryz.ntmps7
  go_wp2_with fail
  generalize ((w.alloc (.cells #[.int .i64 k, .bool neg, .slice od ld cd, .string nm, .int .i64 n, .slice ol ll cl, .slice ob lb cb] 27)).alloc (.cells #[.int .i64 k', .bool neg', .slice od' ld' cd', .string nm', .int .i64 n', .slice ol' ll' cl', .slice ob' lb' cb'] 27)) = W0 at *
  refine (awake_ok _ (hT.below hBX)).mono ?_
  rintro e w1 ⟨rfl, b1⟩
  have hB1 := below_and hBX (Nat.le_refl _) b1
  have kX1 := kX.below b1
  have kY1 := kY.below b1
  obtain ⟨x0, x1, x2, x3, x4, x5, x6⟩ := kX1.res
  obtain ⟨y0, y1, y2, y3, y4, y5, y6⟩ := kY1.res
  obtain ⟨W2, hW2⟩ : ∃ W2, W2 = w1.alloc (.cells #[.int .i64 k, .bool neg, .slice od ld cd, .string nm, .int .i64 n, .slice ol ll cl, .slice ob lb cb, .int .i64 k', .bool neg', .slice od' ld' cd', .string nm', .int .i64 n', .slice ol' ll' cl', .slice ob' lb' cb'] 27) := ⟨_, rfl⟩
  have b2 : Below w1.heap.size w1 W2 := by rw [hW2]; exact (Below.refl _ w1).alloc (Nat.le_refl _) _
  have hg2 : W2.heap[w1.heap.size]? = some (.cells #[.int .i64 k, .bool neg, .slice od ld cd, .string nm, .int .i64 n, .slice ol ll cl, .slice ob lb cb, .int .i64 k', .bool neg', .slice od' ld' cd', .string nm', .int .i64 n', .slice ol' ll' cl', .slice ob' lb' cb'] 27 (0, 0)) := by rw [hW2]; exact heap_alloc_new w1 _
  have hB2 := below_and hB1 (Nat.le_refl _) b2
  have hTR : TR (Low W2) W2 [A, U] (some ⟨w1.heap.size, 0, none⟩) := tr_two (tv_below hA0 hB2) (tv_below hU0 hB2) hg2 (Array.getElem?_eq_some_iff.1 hg2).1
  have c2 := Rooms_w 2 (by omega) [A, U] (some ⟨w1.heap.size, 0, none⟩) 2 W2 hTR (hT.below hB2).1.1
  rw [hW2] at c2
  have hW2H := hid hW2
  have hTRH := hid hTR
  have hB2H := hid hB2
  have kX2 := hid (kX1.below b2)
  have kY2 := hid (kY1.below b2)
  obtain ⟨bb, hbb⟩ : ∃ bb, (decide ([A, U].length ≤ 2) && [A, U].all okRow) = bb := ⟨_, rfl⟩
  rw [hbb] at c2
  clear hBX kX kY b1 hB1 kX1 kY1 hW2 b2 hg2 hB2 hTR hT hA0 hU0 hz0
  go_wp2_with fail
  refine c2.mono ?_
  rw [← hW2H.out]
  rintro e w3 ⟨rfl, b3⟩
  have hB3 := hid (below_and hB2H.out (Nat.le_refl _) b3)
  have kX3 := kX2.out.below b3
  have kY3 := kY2.out.below b3
  clear x0 x1 x2 x3 x4 x5 x6 y0 y1 y2 y3 y4 y5 y6 hW2H c2
  cases bb with
  | false =>
    clear hbb
    go_wp2
    go_ret
    exact ⟨rfl, hB3.out⟩
  | true =>
  rw [Bool.and_eq_true] at hbb
  have Hf := rooms_facts7 hTRH.out hbb.2
  have hokA : ∀ p ∈ parts A, p.ok1 ∧ fairB p = true := fun p hp => Hf.1 p (by simp [partsL, hp])
  have hokU : ∀ p ∈ parts U, p.ok1 ∧ fairB p = true := fun p hp => Hf.1 p (by simp [partsL, hp])
  have hmA : mayB A = true := by
    have h2 := hbb.2
    simp only [List.all_cons, List.all_nil, Bool.and_true, Bool.and_eq_true] at h2
    have := h2.1
    unfold okRow at this
    rw [Bool.and_eq_true] at this
    exact this.2
  have hmU : mayB U = true := by
    have h2 := hbb.2
    simp only [List.all_cons, List.all_nil, Bool.and_true, Bool.and_eq_true] at h2
    have := h2.2
    unfold okRow at this
    rw [Bool.and_eq_true] at this
    exact this.2
  have hdA : dep A ≤ 1000000 := by have := Hf.2.1; simp only [depL] at this; omega
  have hdU : dep U ≤ 1000000 := by have := Hf.2.1; simp only [depL] at this; omega
  have hun := tx_unlike (mg_of hokA hAH.out) (mg_of hokU hUH.out)
  have hT3 := hTH.out.below hB3.out
  have c3 := print_w A _ w3 hdA (fun p hp => (hokA p hp).1) (tv_below hAH.out hB3.out) hT3.1.1 hT3.1 hT3.2
  have c4 := fun w' (hb : Below w3.heap.size w3 w') => print_w U _ w' hdU (fun p hp => (hokU p hp).1) (tv_below (tv_below hUH.out hB3.out) hb) (hT3.below hb).1.1 (hT3.below hb).1 (hT3.below hb).2
  have c5 := fun w' (hb : Below w3.heap.size w3 w') => rSame_w A U _ _ w' (fun p hp => (hokA p hp).1) (fun p hp => (hokU p hp).1) (tv_below (tv_below hAH.out hB3.out) hb) (tv_below (tv_below hUH.out hB3.out) hb) (hT3.below hb).1.1
  obtain ⟨x0, x1, x2, x3, x4, x5, x6⟩ := kX3.res
  obtain ⟨y0, y1, y2, y3, y4, y5, y6⟩ := kY3.res
  have kX3H := hid kX3
  have kY3H := hid kY3
  obtain ⟨EA, hEA⟩ : ∃ E, prE A = E := ⟨_, rfl⟩
  obtain ⟨EU, hEU⟩ : ∃ E, prE U = E := ⟨_, rfl⟩
  obtain ⟨SA, hSA⟩ : ∃ S : ByteArray, ⟨(prS A).toArray⟩ = S := ⟨_, rfl⟩
  obtain ⟨SU, hSU⟩ : ∃ S : ByteArray, ⟨(prS U).toArray⟩ = S := ⟨_, rfl⟩
  obtain ⟨sm, hsm⟩ : ∃ s, (cT A U == 0) = s := ⟨_, rfl⟩
  rw [hEA, hSA] at c3
  rw [hEU, hSU] at c4
  rw [hsm] at c5
  have hfin : Hid (EA = 0 → EU = 0 → ((SA.toList == SU.toList) = sm)) := hid (fun e1 e2 => by
    have p1 := (prE_zero (hEA.trans e1)).2.2
    have p2 := (prE_zero (hEU.trans e2)).2.2
    rw [← hsm, ← hSA, ← hSU, p1, p2]
    by_cases hx : tx A = tx U
    · rw [hx, hun.1 hx]; simp
    · have h1 : (⟨(tx A).toArray⟩ : ByteArray) ≠ ⟨(tx U).toArray⟩ := fun e => hx (tx_same.1 e)
      rw [tl_ne h1]
      have : ¬ cT A U = 0 := fun e => hx (hun.2 e)
      exact (beq_eq_false_iff_ne.2 this).symm)
  have hcA := hid (prE_cases A hmA)
  have hcU := hid (prE_cases U hmU)
  rw [hEA] at hcA
  rw [hEU] at hcU
  clear hEA hEU hSA hSU hsm hun hdA hdU hmA hmU hokA hokU Hf hbb hT3 kX3 kY3
  go_wp2_with fail
  refine c3.mono ?_
  rintro e w4 ⟨rfl, b4⟩
  have c4 := c4 w4 b4
  have kX4 := kX3H.out.below b4
  have kY4 := kY3H.out.below b4
  clear x0 x1 x2 x3 x4 x5 x6 y0 y1 y2 y3 y4 y5 y6
  obtain ⟨x0, x1, x2, x3, x4, x5, x6⟩ := kX4.res
  obtain ⟨y0, y1, y2, y3, y4, y5, y6⟩ := kY4.res
  clear kX4 kY4 c3
  go_wp2_with fail
  refine c4.mono ?_
  rintro e w5 ⟨rfl, b5⟩
  have b45 := below_and b4 (Nat.le_refl _) b5
  have c5 := c5 w5 b45
  have kX5 := kX3H.out.below b45
  have kY5 := kY3H.out.below b45
  have hB5 := hid (below_and hB3.out (Nat.le_refl _) b45)
  clear x0 x1 x2 x3 x4 x5 x6 y0 y1 y2 y3 y4 y5 y6
  obtain ⟨x0, x1, x2, x3, x4, x5, x6⟩ := kX5.res
  obtain ⟨y0, y1, y2, y3, y4, y5, y6⟩ := kY5.res
  clear kX5 kY5 c4 b4 b5 b45
  rcases hcA.out with rfl | rfl
  · rcases hcU.out with rfl | rfl
    · have hfq := hfin.out rfl rfl
      go_wp2_with fail
      refine c5.mono ?_
      rintro e w6 ⟨rfl, b6⟩
      have hB6 := hid (below_and hB5.out (Nat.le_refl _) b6)
      clear c5 b6 hfin
      go_wp2
      go_ret
      exact ⟨by simp, hB6.out⟩
    · clear c5 hfin
      go_wp2
      go_ret
      exact ⟨rfl, hB5.out⟩
  · clear c5 hfin
    go_wp2
    go_ret
    exact ⟨rfl, hB5.out⟩
end Go.Proofs.YtjacoodfhkaioaaGreatDoor.textUnlike
