/- Texts of mine, one behind the other: TextBk6, TextBk7, TextRdC, TextRdD. -/
import Derived.Test.YtjacoodfhkaioaaGreatDoorSbQ
import Derived.Test.YtjacoodfhkaioaaGreatDoorSbN
import Derived.Test.YtjacoodfhkaioaaGreatDoorSbP
import Derived.Deep.AppendLies
import Derived.Deep.RegionHeld3
import Derived.Deep.CutRange
namespace Go.Proofs.YtjacoodfhkaioaaGreatDoor
open Go.ChangeShapes Go.WideShapes Go.ChangeAt Go.RowKit Go.Shelf
set_option linter.unusedSimpArgs false
set_option linter.unusedVariables false
set_option maxRecDepth 2000

theorem lx_z {x y : Int} (h : lx x y = 0) : x = 0 ∧ y = 0 := by
  unfold lx at h
  by_cases hx : x = 0
  · rw [if_neg (by simp [hx])] at h; exact ⟨hx, h⟩
  · rw [if_pos hx] at h; exact absurd h hx
theorem cmpZ_z {x y : Int} (h : cmpZ x y = 0) : x = y := by
  unfold cmpZ at h
  split at h
  · omega
  · split at h
    · omega
    · omega
theorem lexZ_z : ∀ a b : List Nat, lexZ_o a b = 0 → a = b
  | [], [], _ => rfl
  | [], _ :: _, h => by simp [lexZ_o] at h
  | _ :: _, [], h => by simp [lexZ_o] at h
  | x :: a, y :: b, h => by
    unfold lexZ_o at h
    by_cases hxy : x = y
    · rw [if_pos hxy] at h
      rw [hxy, lexZ_z a b h]
    · rw [if_neg hxy] at h
      have := cmpZ_z h
      omega
theorem lessZ_z {a b : List UInt8} (ha : Lib.validD a = true) (hb : Lib.validD b = true) (h : lessZ_o a b = 0) : a = b := by
  unfold lessZ_o at h
  rw [ha, hb] at h
  simp only [Bool.and_self, if_true] at h
  have h1 := lexZ_z _ _ h
  rw [← en_of_valid ha, ← en_of_valid hb, h1]
theorem cT_kind0 {A B : Tm} (h : cT A B = 0) : A.kind = B.kind := by
  cases A with | mk k neg d nm n l b =>
  cases B with | mk k' neg' d' nm' n' l' b' =>
  rw [cT] at h
  exact cmpZ_z (lx_z h).1
theorem cT_rest {k k' : Int} {neg neg' : Bool} {d d' : List Nat} {nm nm' : ByteArray} {n n' : Int} {l l' : List Tm} {b b' : List Nat} (h : cT (.mk k neg d nm n l b) (.mk k' neg' d' nm' n' l' b') = 0) :
    (if k = 0 then cmpZ (sv neg (gval 4294967296 d)) (sv neg' (gval 4294967296 d')) else if k = 1 then lessZ_o nm.data.toList nm'.data.toList else if k = 2 ∨ k = 3 then cmpZ n n' else if k = 7 then lexZ_o b b' else if k = 4 ∨ k = 6 then lx (cmpZ (l.length : Int) (l'.length : Int)) (cR l l') else 0) = 0 := by
  rw [cT] at h
  exact (lx_z h).2
theorem ba_eq {a b : ByteArray} (h : a.data.toList = b.data.toList) : a = b := ByteArray.ext (Array.toList_inj.1 h)
theorem cT_eq : ∀ (N : Nat) (A B : Tm), (parts A).length ≤ N → Mg A → Mg B → cT A B = 0 → A = B
  | 0, A, _, h, _, _, _ => by have := parts_pos A; omega
  | N + 1, A, B, hN, hA, hB, h => by
    have rows : ∀ (l l' : List Tm), (partsL l).length ≤ N → (∀ t ∈ l, Mg t) → (∀ t ∈ l', Mg t) → l.length = l'.length → cR l l' = 0 → l = l' := by
      intro l
      induction l with
      | nil => intro l' _ _ _ hl _; exact (List.eq_nil_of_length_eq_zero hl.symm).symm
      | cons t l ih =>
        intro l' hp h1 h2 hl hc
        cases l' with
        | nil => simp at hl
        | cons t' l' =>
          simp only [partsL, List.length_append] at hp
          rw [cR_cons] at hc
          obtain ⟨c1, c2⟩ := lx_z hc
          rw [cT_eq N t t' (by omega) (h1 t (by simp)) (h2 t' (by simp)) c1, ih l' (by omega) (fun u hu => h1 u (by simp [hu])) (fun u hu => h2 u (by simp [hu])) (by simpa using hl) c2]
    have hk := cT_kind0 h
    have sA := hA.shp
    have sB := hB.shp
    cases sA with
    | int Z hZ =>
      cases sB with
      | int Z' hZ' =>
        have h2 := cT_rest h
        rw [if_pos rfl] at h2
        have h3 := cmpZ_z h2
        rw [sv_int, sv_int] at h3
        rw [h3]
      | _ => simp [intT, atomT, numT, tupT, nilT, consT, binT, Tm.kind] at hk
    | atom nm h1 h2 =>
      cases sB with
      | atom nm' h1' h2' =>
        have h2 := cT_rest h
        rw [if_neg (by decide), if_pos rfl] at h2
        rw [ba_eq (lessZ_z h1 h1' h2)]
      | _ => simp [intT, atomT, numT, tupT, nilT, consT, binT, Tm.kind] at hk
    | ref n h0 h1 =>
      cases sB with
      | ref n' h0' h1' =>
        have h2 := cT_rest h
        rw [if_neg (by decide), if_neg (by decide), if_pos (by decide)] at h2
        rw [cmpZ_z h2]
      | _ => simp [intT, atomT, numT, tupT, nilT, consT, binT, Tm.kind] at hk
    | pid n h0 h1 =>
      cases sB with
      | pid n' h0' h1' =>
        have h2 := cT_rest h
        rw [if_neg (by decide), if_neg (by decide), if_pos (by decide)] at h2
        rw [cmpZ_z h2]
      | _ => simp [intT, atomT, numT, tupT, nilT, consT, binT, Tm.kind] at hk
    | tup l hl =>
      cases sB with
      | tup l' hl' =>
        have h2 := cT_rest h
        rw [if_neg (by decide), if_neg (by decide), if_neg (by decide), if_neg (by decide), if_pos (by decide)] at h2
        obtain ⟨c1, c2⟩ := lx_z h2
        have c3 := cmpZ_z c1
        rw [parts_tup, List.length_cons] at hN
        rw [rows l l' (by omega) (mg_list hA (kids_tup l)) (mg_list hB (kids_tup l')) (by omega) c2]
      | _ => simp [intT, atomT, numT, tupT, nilT, consT, binT, Tm.kind] at hk
    | nil =>
      cases sB with
      | nil => rfl
      | _ => simp [intT, atomT, numT, tupT, nilT, consT, binT, Tm.kind] at hk
    | cons a b =>
      cases sB with
      | cons a' b' =>
        have h2 := cT_rest h
        rw [if_neg (by decide), if_neg (by decide), if_neg (by decide), if_neg (by decide), if_pos (by decide)] at h2
        obtain ⟨c1, c2⟩ := lx_z h2
        have hp : (partsL [a, b]).length ≤ N := by
          rw [parts_cons, List.length_cons, List.length_append] at hN
          simp only [partsL, List.length_append, List.append_nil]
          omega
        have e := rows [a, b] [a', b'] hp (mg_list hA (kids_cons a b)) (mg_list hB (kids_cons a' b')) rfl c2
        injection e with e1 e2
        injection e2 with e2 _
        rw [e1, e2]
      | _ => simp [intT, atomT, numT, tupT, nilT, consT, binT, Tm.kind] at hk
    | bin b h1 h2 =>
      cases sB with
      | bin b' h1' h2' =>
        have h2 := cT_rest h
        rw [if_neg (by decide), if_neg (by decide), if_neg (by decide), if_pos rfl] at h2
        rw [lexZ_z b b' h2]
      | _ => simp [intT, atomT, numT, tupT, nilT, consT, binT, Tm.kind] at hk
mutual
theorem cT_me : ∀ a : Tm, cT a a = 0
  | .mk k neg d nm n l b => by
    have hz : ∀ x : Int, cmpZ x x = 0 := fun x => by unfold cmpZ; simp
    rw [cT, hz, lx_zero]
    by_cases h0 : k = 0
    · rw [if_pos h0, hz]
    rw [if_neg h0]
    by_cases h1 : k = 1
    · rw [if_pos h1]
      unfold lessZ_o
      split
      · exact lexZ_self _
      · have cb : ∀ a : List UInt8, Lib.compareBytes a a = 0 := by
          intro a
          induction a with
          | nil => rfl
          | cons x xs ih => unfold Lib.compareBytes; simp [UInt8.lt_irrefl, ih]
        exact cb _
    rw [if_neg h1]
    by_cases h2 : k = 2 ∨ k = 3
    · rw [if_pos h2, hz]
    rw [if_neg h2]
    by_cases h7 : k = 7
    · rw [if_pos h7, lexZ_self]
    rw [if_neg h7]
    by_cases h4 : k = 4 ∨ k = 6
    · rw [if_pos h4, hz, lx_zero, cR_me l]
    rw [if_neg h4]
theorem cR_me : ∀ l : List Tm, cR l l = 0
  | [] => cR_nil _
  | t :: l => by rw [cR_cons, cT_me t, lx_zero, cR_me l]
end
/-- TEXTS ARE ALIKE JUST IF TERMS ARE -/
theorem tx_unlike {A B : Tm} (hA : Mg A) (hB : Mg B) : tx A = tx B ↔ cT A B = 0 := by
  constructor
  · intro h
    have h1 := read_back (q := []) hA rfl fol_nil
    have h2 := read_back (q := []) hB rfl fol_nil
    rw [h, h2] at h1
    injection h1 with h1 _
    injection h1 with h1
    rw [h1]
    exact cT_me _
  · intro h
    rw [cT_eq _ A B (Nat.le_refl _) hA hB h]
end Go.Proofs.YtjacoodfhkaioaaGreatDoor
namespace Go.Proofs.YtjacoodfhkaioaaGreatDoor
open Go.ChangeShapes Go.WideShapes Go.ChangeAt Go.RowKit Go.Shelf
set_option linter.unusedSimpArgs false
set_option linter.unusedVariables false
set_option maxRecDepth 2000

theorem skB_eq {c : UInt8} {r : List UInt8} (h : skB c r = true) : r = c :: skR c r := by
  unfold skB at h
  cases r with
  | nil => simp at h
  | cons b t =>
    simp at h
    subst h
    rw [(skB_self b t).2]
theorem nm_write {m : Int} {l : List UInt8} (hl : pneg l = false) (h : nmB m l = true) : Lib.itoa (nmN m l) = l ∧ 0 ≤ nmN m l := by
  obtain ⟨h0, _⟩ := nm_range hl h
  refine ⟨?_, h0⟩
  rw [itoa_txt h0]
  unfold nmN
  rw [if_pos h]
  unfold nmB at h
  simp only [Bool.and_eq_true, beq_iff_eq] at h
  unfold smlN
  rw [if_pos h.1.2]
  exact write_read h.1.1
theorem tw_dw2 (r : List UInt8) : r.takeWhile digB ++ r.dropWhile digB = r := List.takeWhile_append_dropWhile
/-- a leaf's text is what was taken off -/
def LfTx (p : Option Tm × List UInt8) (pre r : List UInt8) : Prop := ∀ T, p.1 = some T → tx T ++ p.2 = pre ++ r
theorem lt_pid (r : List UInt8) : LfTx (pidL r) [60] r := by
  intro T h
  unfold pidL at h ⊢
  split at h
  · rename_i hn
    rw [if_pos hn]
    simp only [] at h ⊢
    split at h
    · rename_i hs
      cases h
      rw [tx_pid, (nm_write (pneg_digs r) hn).1]
      have e1 := skB_eq hs
      have e2 := tw_dw2 r
      show 60 :: (r.takeWhile digB ++ [62]) ++ skR 62 (r.dropWhile digB) = 60 :: r
      rw [List.cons_append, List.append_assoc, List.singleton_append, ← e1, e2]
    · cases h
  · cases h
theorem lt_ref (r : List UInt8) : LfTx (refL r) [35] r := by
  intro T h
  unfold refL at h ⊢
  simp only [] at h ⊢
  split at h
  · rename_i hn
    cases h
    rw [tx_ref, (nm_write (pneg_digs r) hn).1]
    show 35 :: r.takeWhile digB ++ r.dropWhile digB = 35 :: r
    rw [List.cons_append, tw_dw2]
  · cases h
theorem lt_int (m r : List UInt8) : LfTx (intL m r) m r := by
  intro T h
  unfold intL at h ⊢
  simp only [] at h ⊢
  split at h
  · rename_i hn
    cases h
    rw [tx_int, write_read hn, List.append_assoc, tw_dw2]
  · cases h
theorem lt_name (r : List UInt8) : LfTx (nameL r) [] r := by
  intro T h
  unfold nameL at h ⊢
  split at h
  · rename_i h0
    split at h
    · rename_i h1
      rw [if_pos h0, if_pos h1]
      simp only [Option.some.injEq] at h
      subst h
      rw [tx_atom]
      have : (bs (unqQ (r.take (nearN r))).2.1).data.toList = (unqQ (r.take (nearN r))).2.1 := bs_list _
      rw [this, ← h1]
      exact List.take_append_drop _ _
    · cases h
  · cases h
/-- numbers with a comma ahead of each but the first -/
def rowB : List Nat → List UInt8 := fun acc => joinC (acc.map byT)
theorem rowB_snoc (acc : List Nat) (x : Nat) : rowB (acc ++ [x]) = if acc = [] then byT x else rowB acc ++ 44 :: byT x := by
  unfold rowB
  rw [List.map_append, List.map_cons, List.map_nil, joinC_snoc]
  by_cases h : acc = []
  · subst h; rfl
  · rw [if_neg h, if_neg (by simpa using h)]
theorem lt_bin : ∀ (k : Nat) (r : List UInt8) (acc : List Nat) (T : Tm), (binGo k r acc).1 = some T → tx T ++ (binGo k r acc).2 = [60, 60] ++ (rowB acc ++ r)
  | 0, _, _, _, h => by simp [binGo] at h
  | k + 1, r, acc, T, h => by
    rw [bin_one] at h ⊢
    by_cases h1 : skB 62 r = true
    · rw [if_pos h1] at h ⊢
      by_cases h2 : skB 62 (skR 62 r) = true
      · rw [if_pos h2] at h ⊢
        simp only [Option.some.injEq] at h
        subst h
        have e1 := skB_eq h1
        have e2 := skB_eq h2
        rw [tx_bin]
        show 60 :: 60 :: (joinC (acc.map byT) ++ [62, 62]) ++ skR 62 (skR 62 r) = 60 :: 60 :: (rowB acc ++ r)
        unfold rowB
        have e3 : r = 62 :: 62 :: skR 62 (skR 62 r) := by rw [← e2]; exact e1
        rw [List.cons_append, List.cons_append, List.append_assoc]
        congr 2
        rw [show [62, 62] ++ skR 62 (skR 62 r) = r from e3.symm]
      · rw [if_neg h2] at h; cases h
    · rw [if_neg h1] at h ⊢
      by_cases h3 : acc ≠ [] ∧ skB 44 r = false
      · rw [if_pos h3] at h; cases h
      · rw [if_neg h3] at h ⊢
        obtain ⟨q, hq⟩ : ∃ q, (if acc = [] then r else skR 44 r) = q := ⟨_, rfl⟩
        rw [hq] at h ⊢
        by_cases h4 : nmB 255 (q.takeWhile digB) = true
        · rw [if_pos h4] at h ⊢
          rw [lt_bin k _ _ T h]
          obtain ⟨w1, w2⟩ := nm_write (pneg_digs q) h4
          have hby : byT (nmN 255 (q.takeWhile digB)).toNat = q.takeWhile digB := by
            unfold byT
            rw [Int.toNat_of_nonneg w2, w1]
          rw [rowB_snoc, hby]
          by_cases ha : acc = []
          · rw [if_pos ha] at hq ⊢
            subst hq
            rw [tw_dw2, ha]
            rfl
          · rw [if_neg ha] at hq ⊢
            have hs : skB 44 r = true := by
              cases hh : skB 44 r with
              | true => rfl
              | false => exact absurd ⟨ha, hh⟩ h3
            have e1 := skB_eq hs
            rw [hq] at e1
            simp only [List.append_assoc, List.cons_append, tw_dw2]
            rw [← e1]
        · rw [if_neg h4] at h; cases h
/-- what was taken off of a row that is open -/
def sepd : List Tm → Bool → List UInt8
  | [], _ => []
  | [t], b => tx t ++ [if b then 124 else 44]
  | t :: u :: l, b => tx t ++ 44 :: sepd (u :: l) b
def preO (o : Op) : List UInt8 := (if o.c = 125 then 123 else 91) :: sepd o.its o.bar
def preS : List Op → List UInt8
  | [] => []
  | o :: st => preS st ++ preO o
def preH : Hd → List UInt8
  | .no => []
  | .tm T => tx T
  | .rw o => preO o
theorem sepd_snoc (l : List Tm) (t : Tm) (b : Bool) : sepd (l ++ [t]) b = sepd l false ++ (tx t ++ [if b then 124 else 44]) := by
  induction l with
  | nil => rfl
  | cons x l ih =>
    cases l with
    | nil => simp [sepd]
    | cons y l =>
      simp only [List.cons_append] at ih ⊢
      rw [sepd, ih, sepd]
      simp
theorem sepd_join (l : List Tm) (t : Tm) : sepd l false ++ tx t = joinC ((l ++ [t]).map tx) := by
  induction l with
  | nil => simp [sepd, joinC]
  | cons x l ih =>
    cases l with
    | nil => simp [sepd, joinC]
    | cons y l =>
      simp only [List.cons_append, List.map_cons] at ih ⊢
      rw [joinC, ← ih]
      simp [sepd]
theorem tx_consL : ∀ (l : List Tm) (t E : Tm), tx (consL (l ++ [t]) E) = 91 :: (sepd l false ++ (tx t ++ tb E))
  | [], t, E => by
    show tx (consT t E) = _
    rw [tx_consT]; rfl
  | x :: l, t, E => by
    have ih := tx_consL l t E
    show tx (consT x (consL (l ++ [t]) E)) = _
    rw [tx_consT]
    have hb : tb (consL (l ++ [t]) E) = 44 :: (sepd l false ++ (tx t ++ tb E)) := by
      cases l with
      | nil =>
        show tb (consT t E) = _
        rw [tb_consT]; rfl
      | cons y l =>
        have h1 : tx (consT y (consL (l ++ [t]) E)) = 91 :: (sepd (y :: l) false ++ (tx t ++ tb E)) := ih
        rw [tx_consT] at h1
        injection h1 with _ h1
        show tb (consT y (consL (l ++ [t]) E)) = _
        rw [tb_consT, h1]
    rw [hb]
    cases l with
    | nil => simp [sepd]
    | cons y l => simp [sepd]
theorem begin_tx {r : List UInt8} (h : bgH (beginL r).1 ≠ .no) : preH (bgH (beginL r).1) ++ (beginL r).2 = r := by
  have lf : ∀ (p : Option Tm × List UInt8) (pre q : List UInt8), LfTx p pre q → bgH (lfL p).1 ≠ .no → preH (bgH (lfL p).1) ++ (lfL p).2 = pre ++ q := by
    rintro ⟨o, q2⟩ pre q hl hn
    cases o with
    | none => exact absurd rfl hn
    | some T => exact hl T rfl
  have op : ∀ (c o : UInt8) (T : Tm) (q : List UInt8), (c = 125 ∧ o = 123 ∧ tx T = [123, 125]) ∨ (c = 93 ∧ o = 91 ∧ tx T = [91, 93]) → preH (bgH (opL c T q).1) ++ (opL c T q).2 = o :: q := by
    intro c o T q hco
    unfold opL
    by_cases hs : skB c q = true
    · rw [if_pos hs]
      have e := skB_eq hs
      show tx T ++ skR c q = o :: q
      rcases hco with ⟨rfl, rfl, ht⟩ | ⟨rfl, rfl, ht⟩
      · rw [ht]
        show 123 :: 125 :: skR 125 q = _
        rw [← e]
      · rw [ht]
        show 91 :: 93 :: skR 93 q = _
        rw [← e]
    · rw [if_neg hs]
      rcases hco with ⟨rfl, rfl, ht⟩ | ⟨rfl, rfl, ht⟩ <;> rfl
  unfold beginL at h ⊢
  by_cases h1 : skB 91 r = true
  · rw [if_pos h1, op 93 91 nilT _ (.inr ⟨rfl, rfl, tx_nil⟩)]
    exact (skB_eq h1).symm
  rw [if_neg h1] at h ⊢
  by_cases h2 : skB 123 r = true
  · rw [if_pos h2, op 125 123 (tupT []) _ (.inl ⟨rfl, rfl, by rw [tx_tupT]; rfl⟩)]
    exact (skB_eq h2).symm
  rw [if_neg h2] at h ⊢
  by_cases h3 : skB 60 r = true
  · rw [if_pos h3] at h ⊢
    by_cases h4 : skB 60 (skR 60 r) = true
    · rw [if_pos h4] at h ⊢
      rw [lf _ [60, 60] (skR 60 (skR 60 r)) (fun T hT => by
        have h9 := lt_bin _ _ _ T hT
        unfold binL
        simpa [rowB, joinC] using h9) h]
      show 60 :: 60 :: skR 60 (skR 60 r) = r
      rw [← skB_eq h4, ← skB_eq h3]
    · rw [if_neg h4] at h ⊢
      rw [lf _ [60] (skR 60 r) (lt_pid _) h]
      exact (skB_eq h3).symm
  rw [if_neg h3] at h ⊢
  by_cases h5 : skB 35 r = true
  · rw [if_pos h5] at h ⊢
    rw [lf _ [35] (skR 35 r) (lt_ref _) h]
    exact (skB_eq h5).symm
  rw [if_neg h5] at h ⊢
  by_cases h6 : skB 45 r = true
  · rw [if_pos h6] at h ⊢
    rw [lf _ [45] (skR 45 r) (lt_int _ _) h]
    exact (skB_eq h6).symm
  rw [if_neg h6] at h ⊢
  by_cases h7 : digH r = true
  · rw [if_pos h7] at h ⊢
    exact lf _ [] r (lt_int _ _) h
  · rw [if_neg h7] at h ⊢
    exact lf _ [] r (lt_name _) h
theorem tb_other2 {T : Tm} (h : ¬ (T.kind = 5 ∨ T.kind = 6)) : tb T = 124 :: (tx T ++ [93]) := tb_other (fun e => h (.inl e)) (fun e => h (.inr e))
theorem whole_tx {o : Op} {T t : Tm} (ho : okOp o) (h : wholeL (o.add T) = some t) : tx t = preO o ++ (tx T ++ [o.c]) := by
  obtain ⟨c, its, bar⟩ := o
  obtain ⟨h1, h2⟩ := ho
  simp only at h1 h2
  unfold wholeL Op.add at h
  simp only at h
  unfold preO
  simp only
  by_cases hc : c = 125
  · subst hc
    rw [if_pos rfl] at h ⊢
    cases h
    have hbar : bar = false := by
      cases bar with
      | false => rfl
      | true => have := (h2 rfl).2; revert this; decide
    subst hbar
    rw [tx_tupT, ← sepd_join]
    simp
  · have hc3 : c = 93 := h1.elim id (fun e => absurd e hc)
    subst hc3
    rw [if_neg hc] at h ⊢
    cases bar with
    | false =>
      rw [if_neg (by simp)] at h
      cases h
      rw [tx_consL, tb_nilT]
      simp
    | true =>
      rw [if_pos rfl, List.getLast?_concat, List.dropLast_concat] at h
      simp only at h
      split at h
      · cases h
      · rename_i hk
        cases h
        obtain ⟨hne, _⟩ := h2 rfl
        obtain ⟨L, E, rfl⟩ : ∃ L E, its = L ++ [E] := ⟨its.dropLast, its.getLast hne, (List.dropLast_concat_getLast hne).symm⟩
        rw [tx_consL, tb_other2 hk, sepd_snoc]
        simp
theorem put_tx {o : Op} {T : Tm} {r : List UInt8} (ho : okOp o) (h : (putL o T r).1 ≠ .no) : preH (putL o T r).1 ++ (putL o T r).2 = preO o ++ (tx T ++ r) := by
  unfold putL at h ⊢
  by_cases h1 : skB o.c r = true
  · rw [if_pos h1] at h ⊢
    cases hw : wholeL (o.add T) with
    | none => rw [hw] at h; exact absurd rfl h
    | some t =>
      show tx t ++ skR o.c r = _
      rw [whole_tx ho hw, List.append_assoc, List.append_assoc, List.singleton_append, ← skB_eq h1]
  · rw [if_neg h1] at h ⊢
    by_cases hb : o.bar = true
    · rw [if_pos hb] at h; exact absurd rfl h
    · rw [if_neg hb] at h ⊢
      have hb2 : o.bar = false := by simpa using hb
      by_cases h4 : skB 44 r = true
      · rw [if_pos h4] at h ⊢
        show preO (o.add T) ++ skR 44 r = _
        unfold preO Op.add
        simp only
        rw [sepd_snoc, hb2]
        have := skB_eq h4
        rw [List.cons_append, List.append_assoc, List.append_assoc]
        simp only [Bool.false_eq_true, if_false, List.singleton_append]
        rw [← this]
        rfl
      · rw [if_neg h4] at h ⊢
        by_cases h9 : o.c = 93 ∧ skB 124 r = true
        · rw [if_pos h9] at h ⊢
          show preO ⟨o.c, o.its ++ [T], true⟩ ++ skR 124 r = _
          unfold preO
          simp only
          rw [sepd_snoc, hb2]
          have := skB_eq h9.2
          rw [List.cons_append, List.append_assoc, List.append_assoc]
          simp only [if_true, List.singleton_append]
          rw [← this]
          rfl
        · rw [if_neg h9] at h; exact absurd rfl h
theorem run_tx : ∀ (n : Nat) (r : List UInt8) (st : List Op) (hd : Hd) (T : Tm), okH hd → (∀ o ∈ st, okOp o) → (runL n r st hd).1 = some T → tx T ++ (runL n r st hd).2 = preS st ++ (preH hd ++ r)
  | 0, _, _, _, _, _, _, h => by simp [runL] at h
  | n + 1, r, st, .no, T, _, _, h => by simp [runL] at h
  | n + 1, r, st, .rw o, T, hok, hst, h => by
    have hno : bgH (beginL r).1 ≠ .no := fun e => by
      simp only [runL] at h
      rw [e] at h
      cases n <;> simp [runL] at h
    have h1 := begin_tx hno
    have h2 := run_tx n (beginL r).2 (o :: st) (bgH (beginL r).1) T (beginL_ok r).1 (fun o' ho' => (List.mem_cons.1 ho').elim (fun e => e ▸ hok) (hst o')) h
    show tx T ++ (runL n _ _ _).2 = _
    rw [h2, h1]
    simp [preS, preH]
  | n + 1, r, [], .tm T', T, _, _, h => by
    have e : T' = T := by simpa [runL] using h
    subst e
    rfl
  | n + 1, r, o :: st, .tm T', T, hok, hst, h => by
    have hno : (putL o T' r).1 ≠ .no := fun e => by
      simp only [runL] at h
      rw [e] at h
      cases n <;> simp [runL] at h
    have hoo := hst o (by simp)
    have h1 := put_tx hoo hno
    have h2 := run_tx n (putL o T' r).2 st (putL o T' r).1 T (putL_ok hoo).1 (fun o' ho' => hst o' (List.mem_cons_of_mem _ ho')) h
    show tx T ++ (runL n _ _ _).2 = _
    rw [h2, h1]
    simp [preS, preH]
/-- WHAT WAS READ STOOD THERE AS IT IS PRINTED -/
theorem read_tx {r : List UInt8} {T : Tm} (h : (readL r).1 = some T) : tx T ++ (readL r).2 = r := by
  have hno : bgH (beginL r).1 ≠ .no := fun e => by
    unfold readL at h
    rw [e] at h
    simp [runL] at h
  have h2 := run_tx (r.length + 2) (beginL r).2 [] (bgH (beginL r).1) T (beginL_ok r).1 (fun o ho => by simp at ho) h
  have h3 : tx T ++ (readL r).2 = [] ++ (preH (bgH (beginL r).1) ++ (beginL r).2) := h2
  rw [h3, List.nil_append, begin_tx hno]
end Go.Proofs.YtjacoodfhkaioaaGreatDoor
namespace Go.Proofs.YtjacoodfhkaioaaGreatDoor
open Go.ChangeShapes Go.WideShapes Go.ChangeAt Go.RowKit Go.Shelf
set_option linter.unusedSimpArgs false
set_option linter.unusedVariables false
set_option maxRecDepth 2000

/-- where a row lies: its object, its items' row, their cells -/
structure Un where
  b : Nat
  v : Value
  xs : List Value
def Un.owns (u : Un) (k : Nat) : Prop := k = u.b ∨ u.v.ownBlock = some k
abbrev ptrU (u : Un) : Value := .pointer (some ⟨u.b, 0, none⟩)
structure RowM (B : Nat) (Z : Nat → Prop) (w : World) (o : Op) (u : Un) : Prop where
  at_ : w.heap[u.b]? = some (.cells #[.int .i32 (o.c.toNat : Int), u.v, .bool o.bar] 109 (0, 0))
  own : w.ownsRow B 27 7 u.v o.its.length u.xs
  rc : RC Z w o.its u.xs
  lo : B ≤ u.b
  nz : ∀ k, u.owns k → ¬ Z k
def Apart (u : Un) (us : List Un) : Prop := ∀ k, u.owns k → ∀ u' ∈ us, ¬ u'.owns k
def StkM (B : Nat) (Z : Nat → Prop) (w : World) : List Op → List Un → Prop
  | [], us => us = []
  | o :: st, us => ∃ u us', us = u :: us' ∧ RowM B Z w o u ∧ Apart u us' ∧ StkM B Z w st us'
theorem RowM.lt {B : Nat} {Z : Nat → Prop} {w : World} {o : Op} {u : Un} (h : RowM B Z w o u) : ∀ k, u.owns k → B ≤ k ∧ k < w.heap.size := by
  rintro k (rfl | hk)
  · exact ⟨h.lo, (Array.getElem?_eq_some_iff.1 h.at_).1⟩
  · exact World.ownsRow.lt h.own k hk
/-- a row's blocks bear its types -/
theorem RowM.ty {B : Nat} {Z : Nat → Prop} {w : World} {o : Op} {u : Un} (h : RowM B Z w o u) : ∀ k, u.owns k → ∃ c e, w.heap[k]? = some (.cells c e (0, 0)) ∧ (e = 109 ∨ e = 27) := by
  rintro k (rfl | hk)
  · exact ⟨_, _, h.at_, .inl rfl⟩
  · obtain ⟨_, ⟨h2, _⟩ | ⟨g, cap, cur, h2, hB, hg, _⟩⟩ := h.own
    · rw [h2] at hk; simp [Value.ownBlock] at hk
    · rw [h2] at hk
      simp only [Value.ownBlock, Option.some.injEq] at hk
      subst hk
      exact ⟨_, _, hg, .inr rfl⟩
/-- a row whose blocks, and whose terms, are as they were; the zone may have grown elsewhere -/
theorem RowM.on {B : Nat} {Z Z' : Nat → Prop} {w w' : World} {o : Op} {u : Un} (h : RowM B Z w o u) (hz : ∀ k, Z k → w'.heap[k]? = w.heap[k]?) (hu : ∀ k, u.owns k → w'.heap[k]? = w.heap[k]?) (hZ : ∀ k, Z k → Z' k) (hn : ∀ k, u.owns k → ¬ Z' k) : RowM B Z' w' o u :=
  ⟨(hu _ (.inl rfl)).trans h.at_, own_blkS h.own (fun k hk => hu k (.inr hk)), RC.mono (fun k _ hk => hZ k hk) (h.rc.zs hz), h.lo, hn⟩
theorem StkM.mem {B : Nat} {Z : Nat → Prop} {w : World} : ∀ {st : List Op} {us : List Un}, StkM B Z w st us → ∀ u ∈ us, ∃ o, RowM B Z w o u
  | [], us, h, u, hu => by have : us = [] := h; subst this; simp at hu
  | o :: st, us, h, u, hu => by
    obtain ⟨u1, us', rfl, h1, _, h3⟩ := h
    rcases List.mem_cons.1 hu with rfl | hu
    · exact ⟨o, h1⟩
    · exact StkM.mem h3 u hu
theorem StkM.on {B : Nat} {Z Z' : Nat → Prop} {w w' : World} : ∀ {st : List Op} {us : List Un}, StkM B Z w st us → (∀ k, Z k → w'.heap[k]? = w.heap[k]?) → (∀ u ∈ us, ∀ k, u.owns k → w'.heap[k]? = w.heap[k]?) → (∀ k, Z k → Z' k) → (∀ u ∈ us, ∀ k, u.owns k → ¬ Z' k) → StkM B Z' w' st us
  | [], us, h, _, _, _, _ => h
  | o :: st, us, h, hz, hu, hZ, hn => by
    obtain ⟨u1, us', rfl, h1, h2, h3⟩ := h
    exact ⟨u1, us', rfl, h1.on hz (hu u1 (by simp)) hZ (hn u1 (by simp)), h2, StkM.on h3 hz (fun u hu' => hu u (by simp [hu'])) hZ (fun u hu' => hn u (by simp [hu']))⟩
theorem StkM.len {B : Nat} {Z : Nat → Prop} {w : World} : ∀ {st : List Op} {us : List Un}, StkM B Z w st us → us.length = st.length
  | [], us, h => by have : us = [] := h; subst this; rfl
  | o :: st, us, h => by
    obtain ⟨u1, us', rfl, _, _, h3⟩ := h
    simp [StkM.len h3]
/-- the reader and what is open -/
structure RdS (B g : Nat) (Z : Nat → Prop) (r : List UInt8) (st : List Op) (us : List Un) (ov : Value) (w : World) : Prop where
  rdr : Rdr g r ov w
  own : w.ownsRow B 69 1 ov st.length (us.reverse.map ptrU)
  stk : StkM B Z w st us
  gl : B ≤ w.heap.size
  zl : ∀ k, Z k → k < w.heap.size
  zb : ∀ k, Z k → B ≤ k
  zg : ¬ Z g
  zo : ∀ k, ov.ownBlock = some k → ¬ Z k
def HdV (B : Nat) (Z : Nat → Prop) (us : List Un) (w : World) : Hd → Value → Prop
  | .no, v => v = .nilIface
  | .tm T, v => ∃ x, v = .iface 27 x ∧ TV Z w T x
  | .rw o, v => ∃ u, v = .iface 69 (ptrU u) ∧ RowM B Z w o u ∧ Apart u us
def StH (B g : Nat) (r : List UInt8) (st : List Op) (hd : Hd) (v : Value) (w : World) : Prop := ∃ Z us ov, RdS B g Z r st us ov w ∧ HdV B Z us w hd v
/-- the pointers' row bears its type -/
theorem RdS.oty {B g : Nat} {Z : Nat → Prop} {r : List UInt8} {st : List Op} {us : List Un} {ov : Value} {w : World} (h : RdS B g Z r st us ov w) : ∀ k, ov.ownBlock = some k → B ≤ k ∧ ∃ c, w.heap[k]? = some (.cells c 69 (0, 0)) := fun k hk => by
  obtain ⟨c, hc⟩ := own_block h.own k hk
  exact ⟨(World.ownsRow.lt h.own k hk).1, c, hc⟩
theorem RdS.ne_g {B g : Nat} {Z : Nat → Prop} {r : List UInt8} {st : List Op} {us : List Un} {ov : Value} {w : World} (h : RdS B g Z r st us ov w) {k : Nat} {c : Array Value} {e : TypeId} {f : Nat × Nat} (hk : w.heap[k]? = some (.cells c e f)) (he : e ≠ 53) : k ≠ g := fun e2 => by
  subst e2
  have := h.rdr.at_
  rw [hk] at this
  simp only [Option.some.injEq, Obj.cells.injEq] at this
  exact he this.2.1
/-- nothing but the reader's own object has changed, and new blocks: the zone may take them -/
theorem RdS.on {B g : Nat} {Z Z' : Nat → Prop} {r r' : List UInt8} {st : List Op} {us : List Un} {ov : Value} {w w' : World} (h : RdS B g Z r st us ov w) (hr : Rdr g r' ov w') (hk : Kpt (fun b => b = g) w w') (hZ : ∀ k, Z k → Z' k) (hZ' : ∀ k, Z' k → k < w'.heap.size ∧ (Z k ∨ w.heap.size ≤ k)) : RdS B g Z' r' st us ov w' := by
  have hz : ∀ k, Z k → w'.heap[k]? = w.heap[k]? := fun k hk' => hk.block k (h.zl k hk') (fun e => h.zg (e ▸ hk'))
  have hu : ∀ u ∈ us, ∀ k, u.owns k → w'.heap[k]? = w.heap[k]? := fun u hu k hk' => by
    obtain ⟨o, ho⟩ := h.stk.mem u hu
    obtain ⟨c, e, hc, he⟩ := ho.ty k hk'
    exact hk.block k (ho.lt k hk').2 (h.ne_g hc (by rcases he with rfl | rfl <;> decide))
  have hnn : ∀ u ∈ us, ∀ k, u.owns k → ¬ Z' k := fun u hu' k hk' hz' => by
    obtain ⟨o, ho⟩ := h.stk.mem u hu'
    rcases (hZ' k hz').2 with h1 | h1
    · exact ho.nz k hk' h1
    · have := (ho.lt k hk').2; omega
  refine ⟨hr, own_blkS h.own (fun k hk' => ?_), h.stk.on hz hu hZ hnn, Nat.le_trans h.gl hk.size, fun k hk' => (hZ' k hk').1, fun k hk' => (hZ' k hk').2.elim (h.zb k) (fun h1 => Nat.le_trans h.gl h1), fun hk' => ?_, fun k hk' hk2 => ?_⟩
  · obtain ⟨_, c, hc⟩ := h.oty k hk'
    exact hk.block k (World.ownsRow.lt h.own k hk').2 (h.ne_g hc (by decide))
  · rcases (hZ' g hk').2 with h1 | h1
    · exact h.zg h1
    · have := h.rdr.lt; omega
  · rcases (hZ' k hk2).2 with h1 | h1
    · exact h.zo k hk' h1
    · have := (World.ownsRow.lt h.own k hk').2; omega
/-- what the reader may write: its own object, and what is new since -/
abbrev FR (B g : Nat) : Nat → Prop := fun k => k = g ∨ B ≤ k
/-- begin, with what is open -/
theorem begin_s (B g : Nat) (Z : Nat → Prop) (r : List UInt8) (st : List Op) (us : List Un) (ov : Value) (w W : World) (hr : r.length ≤ 900000) (h : RdS B g Z r st us ov w) (hv : Lib.validD r = true) (hT : TabsQ W) (hWg : W.heap.size ≤ g) (hb : Below W.heap.size W w) :
    Calls Tryz.prog 34 #[.pointer (some ⟨g, 0, none⟩)] w fun e w' => ∃ v, e = .returned v ∧ StH B g (beginL r).2 st (bgH (beginL r).1) v w' ∧ Kpt (FR B g) w w' := by
  have hst : ∀ b, r[0]? = some b → stB b.toNat = true := fun b hb0 => by
    cases r with
    | nil => simp at hb0
    | cons x t =>
      simp only [List.getElem?_cons_zero, Option.some.injEq] at hb0
      subst hb0
      exact vd_head hv
  have hbs : B ≤ w.heap.size := h.gl
  have hg : ∀ w', Kpt (fun b => b = g) w w' → TabsQ w' := fun w' hk => hT.below (hb.trans (hk.below hb.size (fun k hk' => hk' ▸ hWg)))
  refine (begin_w g r ov w hr h.rdr hst hg).mono ?_
  rintro e w1 ⟨v, rfl, hV, hR, hK⟩
  refine ⟨v, rfl, ?_, hK.mono (fun k hk' => .inl hk')⟩
  cases hbg : (beginL r).1 with
  | lf o =>
    rw [hbg] at hV
    refine ⟨fun k => Z k ∨ (w.heap.size ≤ k ∧ k < w1.heap.size), us, ov, h.on hR hK (fun k hk => .inl hk) (fun k hk => ?_), ?_⟩
    · rcases hk with hk | hk
      · exact ⟨Nat.lt_of_lt_of_le (h.zl k hk) hK.size, .inl hk⟩
      · exact ⟨hk.2, .inr hk.1⟩
    · cases o with
      | none => exact hV
      | some T =>
        obtain ⟨x, rfl, hx⟩ := hV
        exact ⟨x, rfl, TV.mono (fun k hk hz => .inr ⟨hz.1, hk⟩) _ _ hx⟩
  | rw c =>
    rw [hbg] at hV
    obtain ⟨b, rfl, hb1, hb2⟩ := hV
    refine ⟨Z, us, ov, h.on hR hK (fun k hk => hk) (fun k hk => ⟨Nat.lt_of_lt_of_le (h.zl k hk) hK.size, .inl hk⟩), ⟨b, .slice none 0 0, []⟩, rfl, ⟨hb2, World.ownsRow_nil _ _ _ _, rfl, by show B ≤ b; omega, ?_⟩, ?_⟩
    · rintro k (hk | hk) hz
      · have e : k = b := hk
        have := h.zl k hz; omega
      · simp [Value.ownBlock] at hk
    · rintro k (hk | hk) u' hu' hk'
      · have e : k = b := hk
        obtain ⟨o', ho'⟩ := h.stk.mem u' hu'
        have := (ho'.lt k hk').2
        omega
      · simp [Value.ownBlock] at hk
end Go.Proofs.YtjacoodfhkaioaaGreatDoor
namespace Go.Proofs.YtjacoodfhkaioaaGreatDoor
open Go.ChangeShapes Go.WideShapes Go.ChangeAt Go.RowKit Go.Shelf
set_option linter.unusedSimpArgs false
set_option linter.unusedVariables false
set_option maxRecDepth 2000

def LfV (Z : Nat → Prop) (w : World) (o : Option Tm) (v : Value) : Prop :=
  match o with
  | none => v = .nilIface
  | some T => ∃ x, v = .iface 27 x ∧ TV Z w T x
def NewZ (Z : Nat → Prop) (S : Nat) (w : World) : Nat → Prop := fun k => Z k ∨ (S ≤ k ∧ k < w.heap.size)
theorem TR.get3 {Z : Nat → Prop} {w : World} {l : List Tm} {o : Option Addr} {i : Nat} {t : Tm} (h : TR Z w l o) (ht : l[i]? = some t) :
    ∃ a k neg od ld cd nm n ol ll cl ob lb cb, o = some a ∧ TV Z w t (tmV k neg (.slice od ld cd) nm n (.slice ol ll cl) (.slice ob lb cb)) ∧ w.cell? (a.add (i * 7)) = some (.int .i64 k) ∧ w.cell? ⟨(a.add (i * 7)).block, (a.add (i * 7)).off + 1, none⟩ = some (.bool neg) ∧ w.cell? ⟨(a.add (i * 7)).block, (a.add (i * 7)).off + 2, none⟩ = some (.slice od ld cd) ∧ w.cell? ⟨(a.add (i * 7)).block, (a.add (i * 7)).off + 3, none⟩ = some (.string nm) ∧ w.cell? ⟨(a.add (i * 7)).block, (a.add (i * 7)).off + 4, none⟩ = some (.int .i64 n) ∧ w.cell? ⟨(a.add (i * 7)).block, (a.add (i * 7)).off + 5, none⟩ = some (.slice ol ll cl) ∧ w.cell? ⟨(a.add (i * 7)).block, (a.add (i * 7)).off + 6, none⟩ = some (.slice ob lb cb) := by
  obtain ⟨a, rfl⟩ : ∃ a, o = some a := by
    cases l with
    | nil => simp at ht
    | cons q qs =>
      unfold TR at h
      obtain ⟨a, _, ha, _⟩ := h
      exact ⟨a, ha⟩
  obtain ⟨vt, hZ, hA, hTv⟩ := TR.at _ _ i t h ht
  rw [Nat.mul_comm] at hA
  obtain ⟨k', neg', od', ld', cd', nm', n', ol', ll', cl', ob', lb', cb', rfl⟩ := hTv.form
  exact ⟨a, k', neg', od', ld', cd', nm', n', ol', ll', cl', ob', lb', cb', rfl, hTv, hA.tm⟩
theorem cell3 {w : World} {g : Nat} {a0 a1 a2 : Value} {T : TypeId} (h : w.heap[g]? = some (.cells #[a0, a1, a2] T (0, 0))) :
    w.cell? ⟨g, 0, none⟩ = some a0 ∧ w.cell? ⟨g, 1, none⟩ = some a1 ∧ w.cell? ⟨g, 2, none⟩ = some a2 := by
  simp [World.cell?, h]
set_option maxHeartbeats 1000000 in
theorem whole_t (Z : Nat → Prop) (b : Nat) (its : List Tm) (bar : Bool) (ol : Option Addr) (cl : Nat) (w : World) (hb : w.heap[b]? = some (.cells #[.int .i32 125, .slice ol its.length cl, .bool bar] 109 (0, 0))) (hcl : its.length ≤ cl) (hT : TR Z w its ol) :
    Calls Tryz.prog 72 #[.pointer (some ⟨b, 0, none⟩)] w fun e w' => ∃ v, e = .returned v ∧ LfV (NewZ Z w.heap.size w') w' (some (tupT its)) v ∧ Below w.heap.size w w' := by
  obtain ⟨y0, y1, y2⟩ := cell3 hb
  have hTT : Hid (TV Z w (tupT its) (tmV 4 false nilS noS 0 (.slice ol its.length cl) nilS)) := hid (by
    unfold tupT TV
    exact ⟨none, 0, ol, cl, none, 0, rfl, Ls.nil _ _ _, by simp, Lm.nil _, LsB.nil _ _ _, by simp, hcl, hT⟩)
  clear hT hb hcl
  go_enter Tryz.func72, Tryz.ntmps72
  go_wp2
  go_ret
  exact ⟨_, rfl, ⟨_, rfl, TV.mono (fun k _ hz => .inl hz) _ _ hTT.out⟩, Below.refl _ _⟩
/-- the world while a list is put together -/
structure Lp (Z : Nat → Prop) (S gt : Nat) (w : World) (T : Tm) (k : Int) (neg : Bool) (D : Value) (nm : ByteArray) (n : Int) (L Bb : Value) (wr : World) : Prop where
  tv : TV (fun q => Z q ∨ (S ≤ q ∧ q < wr.heap.size ∧ q ≠ gt)) wr T (tmV k neg D nm n L Bb)
  box : wr.heap[gt]? = some (.cells #[.int .i64 k, .bool neg, D, .string nm, .int .i64 n, L, Bb] 27 (0, 0))
  bel : Below S w wr
theorem Lp.step {Z : Nat → Prop} {S gt : Nat} {w wr : World} {T t : Tm} {k : Int} {neg : Bool} {od : Option Addr} {ld cd : Nat} {nm : ByteArray} {n : Int} {ol : Option Addr} {ll cl : Nat} {ob : Option Addr} {lb cb : Nat}
    {k' : Int} {neg' : Bool} {od' : Option Addr} {ld' cd' : Nat} {nm' : ByteArray} {n' : Int} {ol' : Option Addr} {ll' cl' : Nat} {ob' : Option Addr} {lb' cb' : Nat}
    (h : Lp Z S gt w T k neg (.slice od ld cd) nm n (.slice ol ll cl) (.slice ob lb cb) wr) (hS : S = w.heap.size) (hgt : S ≤ gt) (hz : ∀ q, Z q → q < S) (ht : TV Z w t (tmV k' neg' (.slice od' ld' cd') nm' n' (.slice ol' ll' cl') (.slice ob' lb' cb'))) :
    Lp Z S gt w (consT t T) 6 false nilS noS 0 (.slice (some ⟨wr.heap.size, 0, none⟩) 2 2) nilS (((((((((wr.setCell ⟨gt, 0, none⟩ (.int .i64 6)).setCell ⟨gt, 1, none⟩ (.bool false)).setCell ⟨gt, 2, none⟩ nilS).setCell ⟨gt, 3, none⟩ (.string noS)).setCell ⟨gt, 4, none⟩ (.int .i64 0)).setCell ⟨gt, 5, none⟩ (.slice (some ⟨wr.heap.size, 0, none⟩) 2 2)).setCell ⟨gt, 6, none⟩ nilS).alloc (.cells #[.int .i64 k', .bool neg', .slice od' ld' cd', .string nm', .int .i64 n', .slice ol' ll' cl', .slice ob' lb' cb', .int .i64 k, .bool neg, .slice od ld cd, .string nm, .int .i64 n, .slice ol ll cl, .slice ob lb cb] 27)).drew) := by
  have hgl := (Array.getElem?_eq_some_iff.1 h.box).1
  have hon := only_put wr gt (.int .i64 6) (.bool false) nilS (.string noS) (.int .i64 0) (.slice (some ⟨wr.heap.size, 0, none⟩) 2 2) nilS
  have hb2 := heap_put7 h.box (.int .i64 6) (.bool false) nilS (.string noS) (.int .i64 0) (.slice (some ⟨wr.heap.size, 0, none⟩) 2 2) nilS
  generalize (((((((wr.setCell ⟨gt, 0, none⟩ (.int .i64 6)).setCell ⟨gt, 1, none⟩ (.bool false)).setCell ⟨gt, 2, none⟩ nilS).setCell ⟨gt, 3, none⟩ (.string noS)).setCell ⟨gt, 4, none⟩ (.int .i64 0)).setCell ⟨gt, 5, none⟩ (.slice (some ⟨wr.heap.size, 0, none⟩) 2 2)).setCell ⟨gt, 6, none⟩ nilS) = W at *
  have hWs : W.heap.size = wr.heap.size := hon.2.1
  have hBd : Below W.heap.size W (W.alloc (.cells #[.int .i64 k', .bool neg', .slice od' ld' cd', .string nm', .int .i64 n', .slice ol' ll' cl', .slice ob' lb' cb', .int .i64 k, .bool neg, .slice od ld cd, .string nm, .int .i64 n, .slice ol ll cl, .slice ob lb cb] 27)) := (Below.refl _ W).alloc (Nat.le_refl _) _
  have hnw := heap_alloc_new W (.cells #[.int .i64 k', .bool neg', .slice od' ld' cd', .string nm', .int .i64 n', .slice ol' ll' cl', .slice ob' lb' cb', .int .i64 k, .bool neg, .slice od ld cd, .string nm, .int .i64 n, .slice ol ll cl, .slice ob lb cb] 27)
  have hsz : (W.alloc (.cells #[.int .i64 k', .bool neg', .slice od' ld' cd', .string nm', .int .i64 n', .slice ol' ll' cl', .slice ob' lb' cb', .int .i64 k, .bool neg, .slice od ld cd, .string nm, .int .i64 n, .slice ol ll cl, .slice ob lb cb] 27)).heap.size = W.heap.size + 1 := by simp
  rw [hWs] at hnw
  generalize (W.alloc (.cells #[.int .i64 k', .bool neg', .slice od' ld' cd', .string nm', .int .i64 n', .slice ol' ll' cl', .slice ob' lb' cb', .int .i64 k, .bool neg, .slice od ld cd, .string nm, .int .i64 n, .slice ol ll cl, .slice ob lb cb] 27)) = V at *
  have hVs : V.drew.heap.size = wr.heap.size + 1 := hsz.trans (by rw [hWs])
  have hVd : ∀ q : Nat, V.drew.heap[q]? = V.heap[q]? := fun q => rfl
  have hSw := h.bel.size
  have e1 : ∀ q, q < wr.heap.size → q ≠ gt → V.drew.heap[q]? = wr.heap[q]? := fun q hq hne => (hVd q).trans ((hBd.block q (by omega)).trans (hon.2.2 q hne))
  have e2 : ∀ q, q < S → V.drew.heap[q]? = w.heap[q]? := fun q hq => (e1 q (by omega) (by omega)).trans (h.bel.block q hq)
  have t1 : TV (fun q => Z q ∨ (S ≤ q ∧ q < V.drew.heap.size ∧ q ≠ gt)) V.drew t (tmV k' neg' (.slice od' ld' cd') nm' n' (.slice ol' ll' cl') (.slice ob' lb' cb')) :=
    TV.mono (fun q _ hq => .inl hq) _ _ (TV.zs (fun q hq => e2 q (hz q hq)) _ _ ht)
  have t2 : TV (fun q => Z q ∨ (S ≤ q ∧ q < V.drew.heap.size ∧ q ≠ gt)) V.drew T (tmV k neg (.slice od ld cd) nm n (.slice ol ll cl) (.slice ob lb cb)) :=
    TV.mono (fun q _ hq => hq.elim (fun a => .inl a) (fun a => .inr ⟨a.1, by omega, a.2.2⟩)) _ _ (TV.zs (fun q hq => by
      rcases hq with hq | hq
      · exact e1 q (by have := hz q hq; omega) (by have := hz q hq; omega)
      · exact e1 q hq.2.1 hq.2.2) _ _ h.tv)
  refine ⟨?_, (hVd gt).trans ((hBd.block gt (by omega)).trans hb2), ?_⟩
  · unfold consT TV
    exact ⟨none, 0, some ⟨wr.heap.size, 0, none⟩, 2, none, 0, rfl, Ls.nil _ _ _, by simp, Lm.nil _, LsB.nil _ _ _, by simp, by simp, tr_two t1 t2 ((hVd _).trans hnw) (.inr ⟨by omega, by omega, by omega⟩)⟩
  · exact ((h.bel.trans (hon.below (B := S) hgt)).trans (below_le hBd (by omega))).drew
theorem Lp.first {Z : Nat → Prop} {S gt : Nat} {w wc : World} {E : Tm} {a0 a1 a2 a3 a4 a5 a6 : Value} {k : Int} {neg : Bool} {od : Option Addr} {ld cd : Nat} {nm : ByteArray} {n : Int} {ol : Option Addr} {ll cl : Nat} {ob : Option Addr} {lb cb : Nat}
    (hbx : wc.heap[gt]? = some (.cells #[a0, a1, a2, a3, a4, a5, a6] 27 (0, 0))) (hbel : Below S w wc) (hS : S = w.heap.size) (hgt : S ≤ gt) (hz : ∀ q, Z q → q < S) (hT : TV Z w E (tmV k neg (.slice od ld cd) nm n (.slice ol ll cl) (.slice ob lb cb))) :
    Lp Z S gt w E k neg (.slice od ld cd) nm n (.slice ol ll cl) (.slice ob lb cb) (((((((wc.setCell ⟨gt, 0, none⟩ (.int .i64 k)).setCell ⟨gt, 1, none⟩ (.bool neg)).setCell ⟨gt, 2, none⟩ (.slice od ld cd)).setCell ⟨gt, 3, none⟩ (.string nm)).setCell ⟨gt, 4, none⟩ (.int .i64 n)).setCell ⟨gt, 5, none⟩ (.slice ol ll cl)).setCell ⟨gt, 6, none⟩ (.slice ob lb cb)).drew := by
  have hon := only_put wc gt (.int .i64 k) (.bool neg) (.slice od ld cd) (.string nm) (.int .i64 n) (.slice ol ll cl) (.slice ob lb cb)
  have hb2 := heap_put7 hbx (.int .i64 k) (.bool neg) (.slice od ld cd) (.string nm) (.int .i64 n) (.slice ol ll cl) (.slice ob lb cb)
  generalize (((((((wc.setCell ⟨gt, 0, none⟩ (.int .i64 k)).setCell ⟨gt, 1, none⟩ (.bool neg)).setCell ⟨gt, 2, none⟩ (.slice od ld cd)).setCell ⟨gt, 3, none⟩ (.string nm)).setCell ⟨gt, 4, none⟩ (.int .i64 n)).setCell ⟨gt, 5, none⟩ (.slice ol ll cl)).setCell ⟨gt, 6, none⟩ (.slice ob lb cb)) = W at *
  have hVd : ∀ q : Nat, W.drew.heap[q]? = W.heap[q]? := fun q => rfl
  refine ⟨TV.mono (fun q _ hq => .inl hq) _ _ (TV.zs (fun q hq => ?_) _ _ hT), (hVd gt).trans hb2, (hbel.trans (hon.below (B := S) hgt)).drew⟩
  exact (hVd q).trans ((hon.2.2 q (by have := hz q hq; omega)).trans (hbel.block q (hz q hq)))
theorem put_far {w : World} {b j g : Nat} {v : Value} (h : w.cell? ⟨b, j, none⟩ = some v) (hne : b ≠ g) (b0 b1 b2 b3 b4 b5 b6 : Value) : (((((((w.setCell ⟨g, 0, none⟩ b0).setCell ⟨g, 1, none⟩ b1).setCell ⟨g, 2, none⟩ b2).setCell ⟨g, 3, none⟩ b3).setCell ⟨g, 4, none⟩ b4).setCell ⟨g, 5, none⟩ b5).setCell ⟨g, 6, none⟩ b6).cell? ⟨b, j, none⟩ = some v :=
  (World.cell?_of_block (a := ⟨b, j, none⟩) ((only_put w g b0 b1 b2 b3 b4 b5 b6).2.2 b hne)).trans h
set_option maxHeartbeats 8000000 in
theorem whole_l (Z : Nat → Prop) (b : Nat) (its : List Tm) (ol : Option Addr) (cl : Nat) (w : World) (hb : w.heap[b]? = some (.cells #[.int .i32 93, .slice ol its.length cl, .bool false] 109 (0, 0))) (hn : its.length ≤ 900000) (hT : TR Z w its ol) (hz : ∀ q, Z q → q < w.heap.size) :
    Calls Tryz.prog 72 #[.pointer (some ⟨b, 0, none⟩)] w fun e w' => ∃ v, e = .returned v ∧ LfV (NewZ Z w.heap.size w') w' (some (consL its nilT)) v ∧ Below w.heap.size w w' := by
  obtain ⟨y0, y1, y2⟩ := cell3 hb
  have hTR := hT
  clear hT
  have hbl := (Array.getElem?_eq_some_iff.1 hb).1
  have hbne : b ≠ w.heap.size := by omega
  go_enter Tryz.func72, Tryz.ntmps72
  go_upto_region 3 with fail
  go_cut [3, 4] from 18 to 26 (fun p3 p4 wx => p3 = .slice ol its.length cl ∧ ∃ gt, p4 = .pointer (some ⟨gt, 0, none⟩) ∧ w.heap.size ≤ gt ∧ wx.heap[gt]? = some (.cells #[.int .i64 5, .bool false, nilS, .string noS, .int .i64 0, nilS, nilS] 27 (0, 0)) ∧ Below w.heap.size w wx)
  case first =>
    go_region_held3 (fun w' => w'.cell? ⟨b, 0, none⟩ = some (.int .i32 93) ∧ w'.cell? ⟨b, 1, none⟩ = some (.slice ol its.length cl)) (first | (refine ⟨?_, ?_⟩ <;> (with_reducible refine put_far (g := w.heap.size) ?_ ?_ _ _ _ _ _ _ _) <;> first | assumption | omega) | go_keep) (first | (
      go_at_call 63
      refine (Nil_w _).mono ?_
      rintro e w3 ⟨rfl, b3⟩
      have hs3 := b3.size
      have hb3 : Below w.heap.size w w3 := by first | exact b3 | exact ((Below.refl w.heap.size w).drew).trans b3 | exact (((Below.refl w.heap.size w).drew).alloc (Nat.le_refl _) _).trans (below_le b3 (by simp))
      have z0 : w3.cell? ⟨b, 0, none⟩ = some (.int .i32 93) := (hb3.cell (World.block_lt_of_cell? _ _ y0)).trans y0
      have z1 : w3.cell? ⟨b, 1, none⟩ = some (.slice ol its.length cl) := (hb3.cell (World.block_lt_of_cell? _ _ y1)).trans y1
      first
        | (have kM3 : w3.heap[w.heap.size]? = some (.cells zC 27 (0, 0)) := (b3.block _ (by simp)).trans (heap_alloc_new _ _)
           obtain ⟨m0, m1, m2, m3, m4, m5, m6⟩ := cell7 kM3
           have mf := (res7 kM3).fr)
        | skip))
    all_goals (go_wp2_with fail; go_meet)
    · exact ⟨rfl, w3.heap.size, rfl, hb3.size, heap_alloc_new w3 _, hb3.alloc hb3.size _⟩
    · exact ⟨rfl, w.heap.size, rfl, Nat.le_refl _, heap_put7 kM3 _ _ _ _ _ _ _, hb3.trans ((only_put w3 w.heap.size _ _ _ _ _ _ _).below (B := w.heap.size) (Nat.le_refl _))⟩
  case rest =>
    obtain ⟨rfl, gt, rfl, hgt, hbx, hbel⟩ := hcut
    have hgl := (Array.getElem?_eq_some_iff.1 hbx).1
    have hLp0 : Hid (Lp Z w.heap.size gt w nilT 5 false nilS noS 0 nilS nilS wc) := hid ⟨by unfold nilT TV; exact ⟨none, 0, none, 0, none, 0, rfl, Ls.nil _ _ _, by simp, Lm.nil _, LsB.nil _ _ _, by simp, by simp, by unfold TR; trivial⟩, hbx, hbel⟩
    replace y2 := (hbel.cell (World.block_lt_of_cell? _ _ y2)).trans y2
    have hLi : Hid (its ++ [] = its) := hid (List.append_nil _)
    clear y0 y1 hb hbx hbel
    have hnz : (its.length : Int) ≤ 900000 := by omega
    go_wp2_with fail
    have hgtw : w.heap.size ≤ gt := hgt
    have hzz := hid hz
    have hTRH := hid hTR
    go_loopg [6] its.length (fun t v6 wr => ∃ (k : Int) (neg : Bool) (od : Option Addr) (ld cd : Nat) (nm : ByteArray) (n : Int) (ol1 : Option Addr) (ll cl1 : Nat) (ob : Option Addr) (lb cb : Nat), v6 = .int .i64 ((t : Int) - 1) ∧ t ≤ its.length ∧ Lp Z w.heap.size gt w (consL (its.drop t) nilT) k neg (.slice od ld cd) nm n (.slice ol1 ll cl1) (.slice ob lb cb) wr)
    case atStart => exact ⟨5, false, none, 0, 0, noS, 0, none, 0, 0, none, 0, 0, by first | rfl | go_num, Nat.le_refl _, by rw [List.drop_length]; exact hLp0.out⟩
    case round =>
      obtain ⟨k, neg, od, ld, cd, nm, n, ol1, ll, cl1, ob, lb, cb, rfl, hgk, hLp⟩ := hrel
      generalize gk = m at *
      obtain ⟨c0, c1, c2, c3, c4, c5, c6⟩ := cell7 hLp.box
      have hfr : ∀ j, wr.frozen? ⟨gt, j, none⟩ = false := (res7 hLp.box).fr
      cases m with
      | zero =>
        rw [List.drop_zero] at hLp
        have hLpH := hid hLp
        clear hLp
        go_wp2
        go_ret
        refine ⟨_, rfl, ⟨_, rfl, TV.mono (fun q _ hq => hq.elim (fun a => .inl a) (fun a => .inr ⟨a.1, a.2.1⟩)) _ _ hLpH.out.tv⟩, hLpH.out.bel⟩
      | succ m =>
        obtain ⟨t, ht⟩ : ∃ t, its[m]? = some t := ⟨its[m]'(by omega), by simp⟩
        have hta : (its)[m]? = some t := by first | exact ht | (rw [List.getElem?_append_left (by omega)]; exact ht)
        obtain ⟨pa, pk, pneg, pod, pld, pcd, pnm, pn, pol, pll, pcl, pob, plb, pcb, hpa, hTp, y0, y1, y2, y3, y4, y5, y6⟩ := hTRH.out.get3 hta
        first | subst hpa | obtain rfl := Option.some.inj hpa
        have hpz : Hid (pa.block < w.heap.size) := hid (hzz.out _ (by
          obtain ⟨_, hq, _⟩ := TR.at _ _ m t hTRH.out hta
          exact hq))
        have hq : ∀ {x : Addr} {v : Value}, w.cell? x = some v → wr.cell? x = some v := fun hc => (hLp.bel.cell (World.block_lt_of_cell? _ _ hc)).trans hc
        replace y0 := hq y0
        replace y1 := hq y1
        replace y2 := hq y2
        replace y3 := hq y3
        replace y4 := hq y4
        replace y5 := hq y5
        replace y6 := hq y6
        clear hq
        have hgeq : (0 : Int) ≤ ((m + 1 : Nat) : Int) - 1 := by omega
        have hHt : Hid (its.drop m = t :: its.drop (m + 1)) := hid (drop_at ht)
        have hstep := hid (hLp.step rfl hgtw hzz.out hTp)
        have hglt : gt < wr.heap.size := (Array.getElem?_eq_some_iff.1 hLp.box).1
        obtain ⟨W, hW⟩ : ∃ W, W = wr.alloc (.cells #[.int .i64 pk, .bool pneg, .slice pod pld pcd, .string pnm, .int .i64 pn, .slice pol pll pcl, .slice pob plb pcb, .int .i64 k, .bool neg, .slice od ld cd, .string nm, .int .i64 n, .slice ol1 ll cl1, .slice ob lb cb] 27) := ⟨_, rfl⟩
        have hbx2 : W.heap[gt]? = some (.cells #[.int .i64 k, .bool neg, .slice od ld cd, .string nm, .int .i64 n, .slice ol1 ll cl1, .slice ob lb cb] 27 (0, 0)) := by rw [hW]; exact (((Below.refl _ wr).alloc (Nat.le_refl _) _).block gt hglt).trans hLp.box
        obtain ⟨z0, z1, z2, z3, z4, z5, z6⟩ := cell7 hbx2
        have hfr2 : ∀ j, W.frozen? ⟨gt, j, none⟩ = false := (res7 hbx2).fr
        rw [hW] at z0 z1 z2 z3 z4 z5 z6 hfr2
        have hmL : m < its.length := by omega
        clear hLp hW hbx2 ht hta hTp
        go_wp2_with fail
        go_region
        go_wp2
        go_roundg m
        case measure => omega
        case rel =>
          refine ⟨6, false, none, 0, 0, noS, 0, some ⟨wr.heap.size, 0, none⟩, 2, 2, none, 0, 0, by first | rfl | go_num, by omega, ?_⟩
          rw [hHt.out]
          have hh := hstep.out
          exact hh
set_option maxHeartbeats 8000000 in
theorem whole_b (Z : Nat → Prop) (b : Nat) (L : List Tm) (E : Tm) (pa : Addr) (cl : Nat) (w : World) (hb : w.heap[b]? = some (.cells #[.int .i32 93, .slice (some pa) (L.length + 1) cl, .bool true] 109 (0, 0))) (hn : L.length ≤ 900000) (hcl : L.length + 1 ≤ cl) (hT : TR Z w (L ++ [E]) (some pa)) (hz : ∀ q, Z q → q < w.heap.size) :
    Calls Tryz.prog 72 #[.pointer (some ⟨b, 0, none⟩)] w fun e w' => ∃ v, e = .returned v ∧ LfV (NewZ Z w.heap.size w') w' (if E.kind = 5 ∨ E.kind = 6 then none else some (consL L E)) v ∧ Below w.heap.size w w' := by
  obtain ⟨y0, y1, y2⟩ := cell3 hb
  have hTR := hT
  obtain ⟨pa', pk, pneg, pod, pld, pcd, pnm, pn, pol, pll, pcl, pob, plb, pcb, hpa, hTp, t0, t1, t2, t3, t4, t5, t6⟩ := hT.get3 (i := L.length) (t := E) (by simp)
  obtain rfl := Option.some.inj hpa
  clear hT hpa
  have hEk : E.kind = pk := by
    cases E with | mk ek en ed em ei el eb =>
    unfold TV at hTp
    obtain ⟨od', cd', ol', cl', ob', cb', e, _⟩ := hTp
    simp only [tmV, Value.agg.injEq, Array.mk.injEq, List.cons.injEq, Value.int.injEq, true_and] at e
    exact e.1.symm
  rw [hEk]
  obtain ⟨R, hR⟩ : ∃ R, (if pk = 5 ∨ pk = 6 then none else some (consL L E)) = R := ⟨_, rfl⟩
  rw [hR]
  have hRH := hid hR
  have hbl := (Array.getElem?_eq_some_iff.1 hb).1
  have hbne : b ≠ w.heap.size := by omega
  clear hR hEk
  go_enter Tryz.func72, Tryz.ntmps72
  go_upto_region 3 with fail
  go_cut [3, 4] from 18 to 26 (fun p3 p4 wx => p3 = .slice (some pa) (L.length + 1) cl ∧ ∃ gt, p4 = .pointer (some ⟨gt, 0, none⟩) ∧ w.heap.size ≤ gt ∧ wx.heap[gt]? = some (.cells #[.int .i64 5, .bool false, nilS, .string noS, .int .i64 0, nilS, nilS] 27 (0, 0)) ∧ Below w.heap.size w wx)
  case first =>
    clear t0 t1 t2 t3 t4 t5 t6
    go_region_held3 (fun w' => w'.cell? ⟨b, 0, none⟩ = some (.int .i32 93) ∧ w'.cell? ⟨b, 1, none⟩ = some (.slice (some pa) (L.length + 1) cl)) (first | (refine ⟨?_, ?_⟩ <;> (with_reducible refine put_far (g := w.heap.size) ?_ ?_ _ _ _ _ _ _ _) <;> first | assumption | omega) | go_keep) (first | (
      go_at_call 63
      refine (Nil_w _).mono ?_
      rintro e w3 ⟨rfl, b3⟩
      have hs3 := b3.size
      have hb3 : Below w.heap.size w w3 := by first | exact b3 | exact ((Below.refl w.heap.size w).drew).trans b3 | exact (((Below.refl w.heap.size w).drew).alloc (Nat.le_refl _) _).trans (below_le b3 (by simp))
      have z0 : w3.cell? ⟨b, 0, none⟩ = some (.int .i32 93) := (hb3.cell (World.block_lt_of_cell? _ _ y0)).trans y0
      have z1 : w3.cell? ⟨b, 1, none⟩ = some (.slice (some pa) (L.length + 1) cl) := (hb3.cell (World.block_lt_of_cell? _ _ y1)).trans y1
      first
        | (have kM3 : w3.heap[w.heap.size]? = some (.cells zC 27 (0, 0)) := (b3.block _ (by simp)).trans (heap_alloc_new _ _)
           obtain ⟨m0, m1, m2, m3, m4, m5, m6⟩ := cell7 kM3
           have mf := (res7 kM3).fr)
        | skip))
    all_goals (go_wp2_with fail; go_meet)
    · exact ⟨rfl, w3.heap.size, rfl, hb3.size, heap_alloc_new w3 _, hb3.alloc hb3.size _⟩
    · exact ⟨rfl, w.heap.size, rfl, Nat.le_refl _, heap_put7 kM3 _ _ _ _ _ _ _, hb3.trans ((only_put w3 w.heap.size _ _ _ _ _ _ _).below (B := w.heap.size) (Nat.le_refl _))⟩
  case rest =>
    obtain ⟨rfl, gt, rfl, hgt, hbx, hbel⟩ := hcut
    have hgl := (Array.getElem?_eq_some_iff.1 hbx).1
    have hq : ∀ {x : Addr} {v : Value}, w.cell? x = some v → wc.cell? x = some v := fun hc => (hbel.cell (World.block_lt_of_cell? _ _ hc)).trans hc
    replace y2 := hq y2
    replace t0 := hq t0
    replace t1 := hq t1
    replace t2 := hq t2
    replace t3 := hq t3
    replace t4 := hq t4
    replace t5 := hq t5
    replace t6 := hq t6
    clear hq
    obtain ⟨c0, c1, c2, c3, c4, c5, c6⟩ := cell7 hbx
    have hfr : ∀ j, wc.frozen? ⟨gt, j, none⟩ = false := (res7 hbx).fr
    have hLp1 := Lp.first hbx hbel rfl hgt hz hTp
    obtain ⟨W, hW⟩ : ∃ W, W = (((((((wc.setCell ⟨gt, 0, none⟩ (.int .i64 pk)).setCell ⟨gt, 1, none⟩ (.bool pneg)).setCell ⟨gt, 2, none⟩ (.slice pod pld pcd)).setCell ⟨gt, 3, none⟩ (.string pnm)).setCell ⟨gt, 4, none⟩ (.int .i64 pn)).setCell ⟨gt, 5, none⟩ (.slice pol pll pcl)).setCell ⟨gt, 6, none⟩ (.slice pob plb pcb)).drew := ⟨_, rfl⟩
    rw [← hW] at hLp1
    have hLp0 := hid hLp1
    obtain ⟨x0, x1, x2, x3, x4, x5, x6⟩ := cell7 hLp1.box
    have hWH := hid hW
    clear hW hLp1
    have hLi : Hid (L ++ [E] = L ++ [E]) := hid rfl
    have hlz : (L.length : Int) ≤ 900000 := by omega
    have hlc : (L.length : Int) ≤ (cl : Int) := by omega
    clear y0 y1 hb hbx hbel hTp
    go_upto_region 6 with fail
    go_region
    rw [← hWH.out]
    clear hWH c0 c1 c2 c3 c4 c5 c6 t0 t1 t2 t3 t4 t5 t6 y2
    by_cases h5 : pk = 5
    · have e5 : (pk == 5) = true := by simp [h5]
      have hR2 : Hid (R = none) := hid (by rw [← hRH.out, if_pos (.inl h5)])
      have hbl2 := hid hLp0.out.bel
      clear h5 hRH
      go_wp2
      go_ret
      rw [hR2.out]
      exact ⟨_, rfl, rfl, hbl2.out⟩
    · have e5 : (pk == 5) = false := by simp [h5]
      by_cases h6 : pk = 6
      · have e6 : (pk == 6) = true := by simp [h6]
        have hR2 : Hid (R = none) := hid (by rw [← hRH.out, if_pos (.inr h6)])
        have hbl2 := hid hLp0.out.bel
        clear h5 h6 hRH
        go_wp2
        go_ret
        rw [hR2.out]
        exact ⟨_, rfl, rfl, hbl2.out⟩
      · have e6 : (pk == 6) = false := by simp [h6]
        have hR2 : R = some (consL L E) := by rw [← hRH.out, if_neg (by simp [h5, h6])]
        clear h5 h6 hRH
        subst hR2
        go_wp2_with fail
        have hgtw : w.heap.size ≤ gt := hgt
        have hzz := hid hz
        have hTRH := hid hTR
        go_loopg [6] L.length (fun t v6 wr => ∃ (k : Int) (neg : Bool) (od : Option Addr) (ld cd : Nat) (nm : ByteArray) (n : Int) (ol1 : Option Addr) (ll cl1 : Nat) (ob : Option Addr) (lb cb : Nat), v6 = .int .i64 ((t : Int) - 1) ∧ t ≤ L.length ∧ Lp Z w.heap.size gt w (consL (L.drop t) E) k neg (.slice od ld cd) nm n (.slice ol1 ll cl1) (.slice ob lb cb) wr)
        case atStart => exact ⟨pk, pneg, pod, pld, pcd, pnm, pn, pol, pll, pcl, pob, plb, pcb, by first | rfl | go_num, Nat.le_refl _, by rw [List.drop_length]; exact hLp0.out⟩
        case round =>
          obtain ⟨k, neg, od, ld, cd, nm, n, ol1, ll, cl1, ob, lb, cb, rfl, hgk, hLp⟩ := hrel
          generalize gk = m at *
          obtain ⟨c0, c1, c2, c3, c4, c5, c6⟩ := cell7 hLp.box
          have hfr : ∀ j, wr.frozen? ⟨gt, j, none⟩ = false := (res7 hLp.box).fr
          cases m with
          | zero =>
            rw [List.drop_zero] at hLp
            have hLpH := hid hLp
            clear hLp
            go_wp2
            go_ret
            refine ⟨_, rfl, ⟨_, rfl, TV.mono (fun q _ hq => hq.elim (fun a => .inl a) (fun a => .inr ⟨a.1, a.2.1⟩)) _ _ hLpH.out.tv⟩, hLpH.out.bel⟩
          | succ m =>
            obtain ⟨t, ht⟩ : ∃ t, L[m]? = some t := ⟨L[m]'(by omega), by simp⟩
            have hta : (L ++ [E])[m]? = some t := by first | exact ht | (rw [List.getElem?_append_left (by omega)]; exact ht)
            obtain ⟨pa, pk, pneg, pod, pld, pcd, pnm, pn, pol, pll, pcl, pob, plb, pcb, hpa, hTp, y0, y1, y2, y3, y4, y5, y6⟩ := hTRH.out.get3 hta
            first | subst hpa | obtain rfl := Option.some.inj hpa
            have hpz : Hid (pa.block < w.heap.size) := hid (hzz.out _ (by
              obtain ⟨_, hq, _⟩ := TR.at _ _ m t hTRH.out hta
              exact hq))
            have hq : ∀ {x : Addr} {v : Value}, w.cell? x = some v → wr.cell? x = some v := fun hc => (hLp.bel.cell (World.block_lt_of_cell? _ _ hc)).trans hc
            replace y0 := hq y0
            replace y1 := hq y1
            replace y2 := hq y2
            replace y3 := hq y3
            replace y4 := hq y4
            replace y5 := hq y5
            replace y6 := hq y6
            clear hq
            have hgeq : (0 : Int) ≤ ((m + 1 : Nat) : Int) - 1 := by omega
            have hHt : Hid (L.drop m = t :: L.drop (m + 1)) := hid (drop_at ht)
            have hstep := hid (hLp.step rfl hgtw hzz.out hTp)
            have hglt : gt < wr.heap.size := (Array.getElem?_eq_some_iff.1 hLp.box).1
            obtain ⟨W, hW⟩ : ∃ W, W = wr.alloc (.cells #[.int .i64 pk, .bool pneg, .slice pod pld pcd, .string pnm, .int .i64 pn, .slice pol pll pcl, .slice pob plb pcb, .int .i64 k, .bool neg, .slice od ld cd, .string nm, .int .i64 n, .slice ol1 ll cl1, .slice ob lb cb] 27) := ⟨_, rfl⟩
            have hbx2 : W.heap[gt]? = some (.cells #[.int .i64 k, .bool neg, .slice od ld cd, .string nm, .int .i64 n, .slice ol1 ll cl1, .slice ob lb cb] 27 (0, 0)) := by rw [hW]; exact (((Below.refl _ wr).alloc (Nat.le_refl _) _).block gt hglt).trans hLp.box
            obtain ⟨z0, z1, z2, z3, z4, z5, z6⟩ := cell7 hbx2
            have hfr2 : ∀ j, W.frozen? ⟨gt, j, none⟩ = false := (res7 hbx2).fr
            rw [hW] at z0 z1 z2 z3 z4 z5 z6 hfr2
            have hmL : m < L.length := by omega
            clear hLp hW hbx2 ht hta hTp
            go_wp2_with fail
            go_region
            go_wp2
            go_roundg m
            case measure => omega
            case rel =>
              refine ⟨6, false, none, 0, 0, noS, 0, some ⟨wr.heap.size, 0, none⟩, 2, 2, none, 0, 0, by first | rfl | go_num, by omega, ?_⟩
              rw [hHt.out]
              have hh := hstep.out
              exact hh
/-- a row that has ended -/
theorem whole_w (Z : Nat → Prop) (b : Nat) (o : Op) (ol : Option Addr) (cl : Nat) (w : World) (hb : w.heap[b]? = some (.cells #[.int .i32 (o.c.toNat : Int), .slice ol o.its.length cl, .bool o.bar] 109 (0, 0))) (hcl : o.its.length ≤ cl) (hT : TR Z w o.its ol) (hn : o.its.length ≤ 900000) (hok : okOp o) (hz : ∀ q, Z q → q < w.heap.size) :
    Calls Tryz.prog 72 #[.pointer (some ⟨b, 0, none⟩)] w fun e w' => ∃ v, e = .returned v ∧ LfV (NewZ Z w.heap.size w') w' (wholeL o) v ∧ Below w.heap.size w w' := by
  obtain ⟨c, its, bar⟩ := o
  obtain ⟨h1, h2⟩ := hok
  unfold wholeL
  simp only at h1 h2 hb hcl hT hn ⊢
  by_cases hc : c = 125
  · subst hc
    rw [if_pos rfl]
    exact whole_t Z b its bar ol cl w hb hcl hT
  · rw [if_neg hc]
    have hc3 : c = 93 := h1.elim id (fun e => absurd e hc)
    subst hc3
    cases bar with
    | false => exact whole_l Z b its ol cl w hb hn hT hz
    | true =>
      obtain ⟨hne, _⟩ := h2 rfl
      obtain ⟨L, E, rfl⟩ : ∃ L E, its = L ++ [E] := ⟨its.dropLast, its.getLast hne, (List.dropLast_concat_getLast hne).symm⟩
      rw [if_pos rfl, List.getLast?_concat, List.dropLast_concat]
      simp only [List.length_append, List.length_cons, List.length_nil, Nat.zero_add] at hb hcl hn
      obtain ⟨pa, rfl⟩ : ∃ a, ol = some a := by
        cases L with
        | nil => unfold TR at hT; obtain ⟨a, _, ha, _⟩ := hT; exact ⟨a, ha⟩
        | cons q qs => rw [List.cons_append] at hT; unfold TR at hT; obtain ⟨a, _, ha, _⟩ := hT; exact ⟨a, ha⟩
      exact whole_b Z b L E pa cl w hb (by omega) hcl hT hz
end Go.Proofs.YtjacoodfhkaioaaGreatDoor
