/- Texts of mine, one behind the other: TextBk5, TextBk6, TextRdC, TextRdD, TextRdE. -/
import Derived.Test.YtjacoodfhkaioabGreatDoorSrP
import Derived.Test.YtjacoodfhkaioabGreatDoorSrN
import Derived.Deep.AppendLies
import Derived.Deep.RegionHeld3
import Derived.Deep.CutRange
import Derived.Test.YtjacoodfhkaioabGreatDoorSrK
import Derived.Deep.RegionLaw
namespace Go.Proofs.YtjacoodfhkaioabGreatDoor
open Go.ChangeShapes Go.WideShapes Go.ChangeAt Go.RowKit Go.Shelf
set_option linter.unusedSimpArgs false
set_option linter.unusedVariables false
set_option maxRecDepth 2000

theorem tx_tupT (l : List Tm) : tx (tupT l) = 123 :: (joinC (l.map tx) ++ [125]) := tx_tuple
theorem tx_consT (a b : Tm) : tx (consT a b) = 91 :: (tx a ++ tb b) := tx_cons
theorem tb_consT (a b : Tm) : tb (consT a b) = 44 :: (tx a ++ tb b) := tb_cons
theorem tb_nilT : tb nilT = [93] := tb_nil
/-- how a text begins -/
theorem tx_hd {T : Tm} (h : Shp T) : ∃ b t, tx T = b :: t ∧ b ≠ 93 ∧ b ≠ 125 := by
  cases h with
  | int Z hl =>
    rw [tx_int]
    by_cases h0 : 0 ≤ Z
    · cases e : txt Z with
      | nil => exact absurd e (txt_ne h0)
      | cons b t =>
        have hd : digB b = true := txt_dig h0 b (by rw [e]; simp)
        exact ⟨b, t, rfl, fun e2 => by rw [e2] at hd; revert hd; decide, fun e2 => by rw [e2] at hd; revert hd; decide⟩
    · obtain ⟨d, hd, _⟩ := txt_neg (n := Z) (by omega)
      exact ⟨45, d, hd, by decide, by decide⟩
  | atom nm h1 h2 =>
    rw [tx_atom]
    obtain ⟨b, t, hb, hbb⟩ := quote_hd h1
    refine ⟨b, t, hb, fun e => ?_, fun e => ?_⟩
    · subst e; rcases hbb with h | h <;> revert h <;> decide
    · subst e; rcases hbb with h | h <;> revert h <;> decide
  | ref n h0 h1 => rw [tx_ref]; exact ⟨_, _, rfl, by decide, by decide⟩
  | pid n h0 h1 => rw [tx_pid]; exact ⟨_, _, rfl, by decide, by decide⟩
  | tup l h => rw [tx_tupT]; exact ⟨_, _, rfl, by decide, by decide⟩
  | nil => rw [tx_nil]; exact ⟨_, _, rfl, by decide, by decide⟩
  | cons a b => rw [tx_consT]; exact ⟨_, _, rfl, by decide, by decide⟩
  | bin b h1 h2 => rw [tx_bin]; exact ⟨_, _, rfl, by decide, by decide⟩
/-- what stands behind an item -/
theorem tb_cases {T : Tm} (h : Shp T) : T = nilT ∨ (∃ a b, T = consT a b) ∨ (tb T = 124 :: (tx T ++ [93]) ∧ ¬ (T.kind = 5 ∨ T.kind = 6)) := by
  cases h with
  | int Z hl => exact .inr (.inr ⟨tb_other (by simp [intT, Tm.kind]) (by simp [intT, Tm.kind]), by simp [intT, Tm.kind]⟩)
  | atom nm h1 h2 => exact .inr (.inr ⟨tb_other (by simp [atomT, Tm.kind]) (by simp [atomT, Tm.kind]), by simp [atomT, Tm.kind]⟩)
  | ref n h0 h1 => exact .inr (.inr ⟨tb_other (by simp [numT, Tm.kind]) (by simp [numT, Tm.kind]), by simp [numT, Tm.kind]⟩)
  | pid n h0 h1 => exact .inr (.inr ⟨tb_other (by simp [numT, Tm.kind]) (by simp [numT, Tm.kind]), by simp [numT, Tm.kind]⟩)
  | tup l h => exact .inr (.inr ⟨tb_other (by simp [tupT, Tm.kind]) (by simp [tupT, Tm.kind]), by simp [tupT, Tm.kind]⟩)
  | nil => exact .inl rfl
  | cons a b => exact .inr (.inl ⟨a, b, rfl⟩)
  | bin b h1 h2 => exact .inr (.inr ⟨tb_other (by simp [binT, Tm.kind]) (by simp [binT, Tm.kind]), by simp [binT, Tm.kind]⟩)
theorem Mg.shp {T : Tm} (h : Mg T) : Shp T := shp_of h.self.1 h.self.2.1 h.self.2.2
theorem tb_hd {T : Tm} (h : Shp T) (q : List UInt8) : ∃ b t, tb T ++ q = b :: t ∧ (b = 93 ∨ b = 44 ∨ b = 124) := by
  rcases tb_cases h with rfl | ⟨a, b, rfl⟩ | ⟨e, _⟩
  · rw [tb_nilT]; exact ⟨_, _, rfl, .inl rfl⟩
  · rw [tb_consT]; exact ⟨_, _, rfl, .inr (.inl rfl)⟩
  · rw [e]; exact ⟨_, _, rfl, .inr (.inr rfl)⟩
theorem fol_of {q : List UInt8} {b : UInt8} {t : List UInt8} (h : q = b :: t) (hb : bareB b.toNat false = false) : Fol q := by subst h; exact fol_cons t hb
theorem fol_tb {T : Tm} (h : Shp T) (q : List UInt8) : Fol (tb T ++ q) := by
  obtain ⟨b, t, e, hb⟩ := tb_hd h q
  refine fol_of e ?_
  rcases hb with rfl | rfl | rfl <;> decide
theorem kids_tup (l : List Tm) : (tupT l).kids = l := by simp [tupT, Tm.kids]
theorem kids_cons (a b : Tm) : (consT a b).kids = [a, b] := by simp [consT, Tm.kids]
theorem vd_dig {d : List UInt8} (h : ∀ x ∈ d, digB x = true) (q : List UInt8) : Lib.validD (d ++ q) = Lib.validD q := by
  induction d with
  | nil => rfl
  | cons x d ih =>
    have hx := h x (by simp)
    simp only [digB, Bool.and_eq_true, decide_eq_true_eq] at hx
    rw [List.cons_append, vd_asc x (by omega)]
    exact ih (fun y hy => h y (by simp [hy]))
theorem vd_txt (Z : Int) (q : List UInt8) : Lib.validD (txt Z ++ q) = Lib.validD q := by
  by_cases h0 : 0 ≤ Z
  · exact vd_dig (txt_dig h0) q
  · obtain ⟨d, hd, _, hdd⟩ := txt_neg (n := Z) (by omega)
    rw [hd, List.cons_append, vd_asc 45 (by decide)]
    exact vd_dig hdd q
theorem vd_comb : ∀ (l : List Nat) (q : List UInt8), Lib.validD (comL (l.map byT) ++ q) = Lib.validD q
  | [], q => rfl
  | x :: l, q => by
    rw [List.map_cons, comL, List.cons_append, vd_asc 44 (by decide), List.append_assoc, vd_dig (byT_dig x)]
    exact vd_comb l q
/-- a text is valid -/
theorem vd_tx : ∀ (N : Nat), (∀ T, (parts T).length ≤ N → Mg T → ∀ q, Lib.validD (tx T ++ q) = Lib.validD q) ∧ (∀ T, (parts T).length ≤ N → Mg T → ∀ q, Lib.validD (tb T ++ q) = Lib.validD q)
  | 0 => ⟨fun T h => by have := parts_pos T; omega, fun T h => by have := parts_pos T; omega⟩
  | N + 1 => by
    obtain ⟨ih1, ih2⟩ := vd_tx N
    have items : ∀ l : List Tm, (partsL l).length ≤ N → (∀ t ∈ l, Mg t) → ∀ q, Lib.validD (comL (l.map tx) ++ q) = Lib.validD q := by
      intro l
      induction l with
      | nil => intro _ _ q; rfl
      | cons t l ih =>
        intro hl hm q
        simp only [partsL, List.length_append] at hl
        rw [List.map_cons, comL, List.cons_append, vd_asc 44 (by decide), List.append_assoc, ih1 t (by omega) (hm t (by simp)), ih (by omega) (fun u hu => hm u (by simp [hu]))]
    have A : ∀ T, (parts T).length ≤ N + 1 → Mg T → ∀ q, Lib.validD (tx T ++ q) = Lib.validD q := by
      intro T hN hM q
      have hs := hM.shp
      cases hs with
      | int Z hl => rw [tx_int]; exact vd_txt Z q
      | atom nm h1 h2 => rw [tx_atom, vd_app (vd_quote _)]
      | ref n h0 h1 => rw [tx_ref, List.cons_append, vd_asc 35 (by decide), itoa_txt h0]; exact vd_txt n q
      | pid n h0 h1 => rw [tx_pid, List.cons_append, vd_asc 60 (by decide), itoa_txt h0, List.append_assoc, vd_txt]; exact vd_asc 62 (by decide) q
      | tup l h =>
        rw [tx_tupT, List.cons_append, vd_asc 123 (by decide), List.append_assoc]
        rw [parts_tup, List.length_cons] at hN
        have hk := mg_list hM (kids_tup l)
        cases l with
        | nil => exact vd_asc 125 (by decide) q
        | cons t l =>
          simp only [partsL, List.length_append] at hN
          rw [List.map_cons, joinC_com, List.append_assoc, ih1 t (by omega) (hk t (by simp)), items l (by omega) (fun u hu => hk u (by simp [hu]))]
          exact vd_asc 125 (by decide) q
      | nil => rw [tx_nil]; exact (vd_asc 91 (by decide) _).trans (vd_asc 93 (by decide) q)
      | cons a b =>
        have hk := mg_list hM (kids_cons a b)
        rw [parts_cons, List.length_cons, List.length_append] at hN
        rw [tx_consT, List.cons_append, vd_asc 91 (by decide), List.append_assoc, ih1 a (by omega) (hk a (by simp)), ih2 b (by omega) (hk b (by simp))]
      | bin b h1 h2 =>
        rw [tx_bin]
        have e : [60, 60] ++ (joinC (b.map byT) ++ [62, 62]) ++ q = 60 :: 60 :: (joinC (b.map byT) ++ 62 :: 62 :: q) := by simp
        rw [e, vd_asc 60 (by decide), vd_asc 60 (by decide)]
        have e2 : Lib.validD (62 :: 62 :: q) = Lib.validD q := by rw [vd_asc 62 (by decide), vd_asc 62 (by decide)]
        cases b with
        | nil => exact e2
        | cons x b => rw [List.map_cons, joinC_com, List.append_assoc, vd_dig (byT_dig x), vd_comb, e2]
    refine ⟨A, fun T hN hM q => ?_⟩
    rcases tb_cases hM.shp with rfl | ⟨a, b, rfl⟩ | ⟨e, _⟩
    · rw [tb_nilT]; exact vd_asc 93 (by decide) q
    · have hk := mg_list hM (kids_cons a b)
      rw [parts_cons, List.length_cons, List.length_append] at hN
      rw [tb_consT, List.cons_append, vd_asc 44 (by decide), List.append_assoc, ih1 a (by omega) (hk a (by simp)), ih2 b (by omega) (hk b (by simp))]
    · rw [e, List.cons_append, vd_asc 124 (by decide), List.append_assoc, A T hN hM]
      exact vd_asc 93 (by decide) q
/-- read at its beginning, whatever is open -/
def Bk (T : Tm) : Prop := ∀ (q : List UInt8) (st : List Op), Lib.validD q = true → Fol q → goL (beginL (tx T ++ q)).2 st (bgH (beginL (tx T ++ q)).1) = goL q st (.tm T)
def BkT (T : Tm) : Prop := ∀ (q : List UInt8) (st : List Op) (its : List Tm) (H : Tm), Lib.validD q = true → goL (tb T ++ q) (⟨93, its, false⟩ :: st) (.tm H) = goL q st (.tm (consL (its ++ [H]) T))
theorem bk_leaf {T : Tm} (h : ∀ q, Lib.validD q = true → Fol q → beginL (tx T ++ q) = (.lf (some T), q)) : Bk T := fun q st hv hf => by rw [h q hv hf]; rfl
theorem consL_snoc (l : List Tm) (a b : Tm) : consL (l ++ [a]) b = consL l (consT a b) := by
  induction l with
  | nil => rfl
  | cons x l ih => show consT x (consL (l ++ [a]) b) = consT x (consL l (consT a b)); rw [ih]
theorem bk_all : ∀ (N : Nat), (∀ T, (parts T).length ≤ N → Mg T → Bk T) ∧ (∀ T, (parts T).length ≤ N → Mg T → BkT T)
  | 0 => ⟨fun T h => by have := parts_pos T; omega, fun T h => by have := parts_pos T; omega⟩
  | N + 1 => by
    obtain ⟨ih1, ih2⟩ := bk_all N
    have items : ∀ (l : List Tm) (t : Tm), (parts t).length + (partsL l).length ≤ N → Mg t → (∀ u ∈ l, Mg u) → ∀ (its : List Tm) (q : List UInt8) (st : List Op), Lib.validD q = true →
        goL (beginL (tx t ++ (comL (l.map tx) ++ 125 :: q))).2 (⟨125, its, false⟩ :: st) (bgH (beginL (tx t ++ (comL (l.map tx) ++ 125 :: q))).1) = goL q st (.tm (tupT (its ++ t :: l))) := by
      intro l
      induction l with
      | nil =>
        intro t hl hm _ its q st hv
        have hv2 : Lib.validD (125 :: q) = true := by rw [vd_asc 125 (by decide)]; exact hv
        rw [List.map_nil, comL, List.nil_append, ih1 t (by omega) hm (125 :: q) _ hv2 (fol_cons q (by decide)), goL_tm]
        unfold putL
        rw [(skB_self 125 q).1, if_pos rfl, (skB_self 125 q).2]
        rfl
      | cons u l ih =>
        intro t hl hm hms its q st hv
        simp only [partsL, List.length_append] at hl
        have hv2 : Lib.validD (comL ((u :: l).map tx) ++ 125 :: q) = true := by
          have h1 : ∀ (l : List Tm), (∀ x ∈ l, Mg x) → ∀ q, Lib.validD (comL (l.map tx) ++ q) = Lib.validD q := by
            intro l
            induction l with
            | nil => intro _ q; rfl
            | cons t l ih => intro hm q; rw [List.map_cons, comL, List.cons_append, vd_asc 44 (by decide), List.append_assoc, (vd_tx _).1 t (Nat.le_refl _) (hm t (by simp)), ih (fun u hu => hm u (by simp [hu]))]
          rw [h1 (u :: l) hms, vd_asc 125 (by decide)]
          exact hv
        rw [ih1 t (by omega) hm _ _ hv2 (fol_of (by rw [List.map_cons, comL, List.cons_append]) (by decide)), goL_tm]
        have hp : putL ⟨125, its, false⟩ t (comL ((u :: l).map tx) ++ 125 :: q) = (.rw ⟨125, its ++ [t], false⟩, tx u ++ (comL (l.map tx) ++ 125 :: q)) := by
          rw [List.map_cons, comL, List.cons_append, List.append_assoc]
          unfold putL
          rw [(skB_no (c := 125) (b := 44) _ (by decide)).1, if_neg (by simp), if_neg (by simp), (skB_self 44 _).1, if_pos rfl, (skB_self 44 _).2]
          rfl
        rw [hp, goL_rw, ih u (by omega) (hms u (by simp)) (fun x hx => hms x (by simp [hx])) (its ++ [t]) q st hv, List.append_assoc]
        rfl
    have A : ∀ T, (parts T).length ≤ N + 1 → Mg T → Bk T := by
      intro T hN hM
      have hs := hM.shp
      cases hs with
      | int Z hl => exact bk_leaf (fun q hv hf => by rw [tx_int]; exact begin_int hl hf)
      | atom nm h1 h2 => exact bk_leaf (fun q hv hf => by rw [tx_atom]; exact begin_atom h1 h2 hv hf)
      | ref n h0 h1 => exact bk_leaf (fun q hv hf => by rw [tx_ref]; exact begin_ref h0 h1 hf)
      | pid n h0 h1 => exact bk_leaf (fun q hv hf => by rw [tx_pid]; exact begin_pid h0 h1)
      | nil => exact bk_leaf (fun q hv hf => by rw [tx_nil]; exact begin_nil q)
      | bin b h1 h2 => exact bk_leaf (fun q hv hf => by rw [tx_bin]; exact begin_bin q h2)
      | tup l h =>
        rw [parts_tup, List.length_cons] at hN
        have hk := mg_list hM (kids_tup l)
        cases l with
        | nil => exact bk_leaf (fun q hv hf => by rw [tx_tupT]; exact begin_tup0 q)
        | cons t l =>
          intro q st hv hf
          simp only [partsL, List.length_append] at hN
          have e : tx (tupT (t :: l)) ++ q = 123 :: (tx t ++ (comL (l.map tx) ++ 125 :: q)) := by
            rw [tx_tupT, List.map_cons, joinC_com]; simp
          have hsk : skB 125 (tx t ++ (comL (l.map tx) ++ 125 :: q)) = false := by
            obtain ⟨b, u, hb, _, hb2⟩ := tx_hd (hk t (by simp)).shp
            rw [hb, List.cons_append]
            exact (skB_no _ hb2).1
          rw [e, begin_tup hsk]
          show goL _ st (.rw ⟨125, [], false⟩) = _
          rw [goL_rw, items l t (by omega) (hk t (by simp)) (fun u hu => hk u (by simp [hu])) [] q st hv]
          rfl
      | cons a b =>
        intro q st hv hf
        have hk := mg_list hM (kids_cons a b)
        have hN2 := hN
        rw [parts_cons, List.length_cons, List.length_append] at hN2
        have e : tx (consT a b) ++ q = 91 :: (tx a ++ (tb b ++ q)) := by rw [tx_consT]; simp
        have hsk : skB 93 (tx a ++ (tb b ++ q)) = false := by
          obtain ⟨c, u, hb, hb2, _⟩ := tx_hd (hk a (by simp)).shp
          rw [hb, List.cons_append]
          exact (skB_no _ hb2).1
        have hv2 : Lib.validD (tb b ++ q) = true := by rw [(vd_tx _).2 b (Nat.le_refl _) (hk b (by simp))]; exact hv
        rw [e, begin_list hsk]
        show goL _ st (.rw ⟨93, [], false⟩) = _
        rw [goL_rw, ih1 a (by omega) (hk a (by simp)) _ _ hv2 (fol_tb (hk b (by simp)).shp q), ih2 b (by omega) (hk b (by simp)) q st [] a hv]
        rfl
    refine ⟨A, fun T hN hM q st its H hv => ?_⟩
    rcases tb_cases hM.shp with rfl | ⟨a, b, rfl⟩ | ⟨e, hk⟩
    · rw [tb_nilT]
      show goL (93 :: q) _ _ = _
      rw [goL_tm]
      unfold putL
      rw [(skB_self 93 q).1, if_pos rfl, (skB_self 93 q).2]
      rfl
    · have hk := mg_list hM (kids_cons a b)
      rw [parts_cons, List.length_cons, List.length_append] at hN
      have hv2 : Lib.validD (tb b ++ q) = true := by rw [(vd_tx _).2 b (Nat.le_refl _) (hk b (by simp))]; exact hv
      have hp : putL ⟨93, its, false⟩ H (tb (consT a b) ++ q) = (.rw ⟨93, its ++ [H], false⟩, tx a ++ (tb b ++ q)) := by
        rw [tb_consT, List.cons_append, List.append_assoc]
        unfold putL
        rw [(skB_no (c := 93) (b := 44) _ (by decide)).1, if_neg (by simp), if_neg (by simp), (skB_self 44 _).1, if_pos rfl, (skB_self 44 _).2]
        rfl
      rw [goL_tm, hp, goL_rw, ih1 a (by omega) (hk a (by simp)) _ _ hv2 (fol_tb (hk b (by simp)).shp q), ih2 b (by omega) (hk b (by simp)) q st (its ++ [H]) a hv, consL_snoc]
    · have hv2 : Lib.validD (93 :: q) = true := by rw [vd_asc 93 (by decide)]; exact hv
      have hp : putL ⟨93, its, false⟩ H (tb T ++ q) = (.rw ⟨93, its ++ [H], true⟩, tx T ++ (93 :: q)) := by
        rw [e, List.cons_append, List.append_assoc]
        unfold putL
        rw [(skB_no (c := 93) (b := 124) _ (by decide)).1, if_neg (by simp), if_neg (by simp), (skB_no (c := 44) (b := 124) _ (by decide)).1, if_neg (by simp), (skB_self 124 _).1, if_pos ⟨rfl, rfl⟩, (skB_self 124 _).2]
        rfl
      rw [goL_tm, hp, goL_rw, A T hN hM (93 :: q) _ hv2 (fol_cons q (by decide)), goL_tm]
      have hw : wholeL (Op.add ⟨93, its ++ [H], true⟩ T) = some (consL (its ++ [H]) T) := by
        unfold wholeL Op.add
        simp only
        rw [if_neg (by decide), if_pos trivial, List.getLast?_concat, List.dropLast_concat]
        simp only
        rw [if_neg hk]
      unfold putL
      rw [(skB_self 93 q).1, if_pos rfl, (skB_self 93 q).2, hw]
      rfl
/-- WHAT WAS PRINTED IS READ -/
theorem read_back {T : Tm} {q : List UInt8} (hM : Mg T) (hv : Lib.validD q = true) (hf : Fol q) : readL (tx T ++ q) = (some T, q) := by
  rw [readL_go, (bk_all _).1 T (Nat.le_refl _) hM q [] hv hf]
  rfl
end Go.Proofs.YtjacoodfhkaioabGreatDoor
namespace Go.Proofs.YtjacoodfhkaioabGreatDoor
open Go.ChangeShapes Go.WideShapes Go.ChangeAt Go.RowKit Go.Shelf
set_option linter.unusedSimpArgs false
set_option linter.unusedVariables false
set_option maxRecDepth 2000

mutual
theorem cT_me : ∀ a : Tm, cT a a = 0
  | .mk k neg d nm n l b => by
    have hz : ∀ x : Int, cmpZ x x = 0 := fun x => by unfold cmpZ; simp
    rw [cT, hz, lx_zero]
    by_cases h0 : k = 0
    · rw [if_pos h0, hz]
    rw [if_neg h0]
    by_cases h1 : k = 1
    · rw [if_pos h1]
      unfold lessZ_o
      split
      · exact lexZ_self _
      · have cb : ∀ a : List UInt8, Lib.compareBytes a a = 0 := by
          intro a
          induction a with
          | nil => rfl
          | cons x xs ih => unfold Lib.compareBytes; simp [UInt8.lt_irrefl, ih]
        exact cb _
    rw [if_neg h1]
    by_cases h2 : k = 2 ∨ k = 3
    · rw [if_pos h2, hz]
    rw [if_neg h2]
    by_cases h7 : k = 7
    · rw [if_pos h7, lexZ_self]
    rw [if_neg h7]
    by_cases h4 : k = 4 ∨ k = 6
    · rw [if_pos h4, hz, lx_zero, cR_me l]
    rw [if_neg h4]
theorem cR_me : ∀ l : List Tm, cR l l = 0
  | [] => cR_nil _
  | t :: l => by rw [cR_cons, cT_me t, lx_zero, cR_me l]
end
end Go.Proofs.YtjacoodfhkaioabGreatDoor
namespace Go.Proofs.YtjacoodfhkaioabGreatDoor
open Go.ChangeShapes Go.WideShapes Go.ChangeAt Go.RowKit Go.Shelf
set_option linter.unusedSimpArgs false
set_option linter.unusedVariables false
set_option maxRecDepth 2000

/-- where a row lies: its object, its items' row, their cells -/
structure Un where
  b : Nat
  v : Value
  xs : List Value
def Un.owns (u : Un) (k : Nat) : Prop := k = u.b ∨ u.v.ownBlock = some k
abbrev ptrU (u : Un) : Value := .pointer (some ⟨u.b, 0, none⟩)
structure RowM (B : Nat) (Z : Nat → Prop) (w : World) (o : Op) (u : Un) : Prop where
  at_ : w.heap[u.b]? = some (.cells #[.int .i32 (o.c.toNat : Int), u.v, .bool o.bar] 101 (0, 0))
  own : w.ownsRow B 26 7 u.v o.its.length u.xs
  rc : RC Z w o.its u.xs
  lo : B ≤ u.b
  nz : ∀ k, u.owns k → ¬ Z k
def Apart (u : Un) (us : List Un) : Prop := ∀ k, u.owns k → ∀ u' ∈ us, ¬ u'.owns k
def StkM (B : Nat) (Z : Nat → Prop) (w : World) : List Op → List Un → Prop
  | [], us => us = []
  | o :: st, us => ∃ u us', us = u :: us' ∧ RowM B Z w o u ∧ Apart u us' ∧ StkM B Z w st us'
theorem RowM.lt {B : Nat} {Z : Nat → Prop} {w : World} {o : Op} {u : Un} (h : RowM B Z w o u) : ∀ k, u.owns k → B ≤ k ∧ k < w.heap.size := by
  rintro k (rfl | hk)
  · exact ⟨h.lo, (Array.getElem?_eq_some_iff.1 h.at_).1⟩
  · exact World.ownsRow.lt h.own k hk
/-- a row's blocks bear its types -/
theorem RowM.ty {B : Nat} {Z : Nat → Prop} {w : World} {o : Op} {u : Un} (h : RowM B Z w o u) : ∀ k, u.owns k → ∃ c e, w.heap[k]? = some (.cells c e (0, 0)) ∧ (e = 101 ∨ e = 26) := by
  rintro k (rfl | hk)
  · exact ⟨_, _, h.at_, .inl rfl⟩
  · obtain ⟨_, ⟨h2, _⟩ | ⟨g, cap, cur, h2, hB, hg, _⟩⟩ := h.own
    · rw [h2] at hk; simp [Value.ownBlock] at hk
    · rw [h2] at hk
      simp only [Value.ownBlock, Option.some.injEq] at hk
      subst hk
      exact ⟨_, _, hg, .inr rfl⟩
/-- a row whose blocks, and whose terms, are as they were; the zone may have grown elsewhere -/
theorem RowM.on {B : Nat} {Z Z' : Nat → Prop} {w w' : World} {o : Op} {u : Un} (h : RowM B Z w o u) (hz : ∀ k, Z k → w'.heap[k]? = w.heap[k]?) (hu : ∀ k, u.owns k → w'.heap[k]? = w.heap[k]?) (hZ : ∀ k, Z k → Z' k) (hn : ∀ k, u.owns k → ¬ Z' k) : RowM B Z' w' o u :=
  ⟨(hu _ (.inl rfl)).trans h.at_, own_blkS h.own (fun k hk => hu k (.inr hk)), RC.mono (fun k _ hk => hZ k hk) (h.rc.zs hz), h.lo, hn⟩
theorem StkM.mem {B : Nat} {Z : Nat → Prop} {w : World} : ∀ {st : List Op} {us : List Un}, StkM B Z w st us → ∀ u ∈ us, ∃ o, RowM B Z w o u
  | [], us, h, u, hu => by have : us = [] := h; subst this; simp at hu
  | o :: st, us, h, u, hu => by
    obtain ⟨u1, us', rfl, h1, _, h3⟩ := h
    rcases List.mem_cons.1 hu with rfl | hu
    · exact ⟨o, h1⟩
    · exact StkM.mem h3 u hu
theorem StkM.on {B : Nat} {Z Z' : Nat → Prop} {w w' : World} : ∀ {st : List Op} {us : List Un}, StkM B Z w st us → (∀ k, Z k → w'.heap[k]? = w.heap[k]?) → (∀ u ∈ us, ∀ k, u.owns k → w'.heap[k]? = w.heap[k]?) → (∀ k, Z k → Z' k) → (∀ u ∈ us, ∀ k, u.owns k → ¬ Z' k) → StkM B Z' w' st us
  | [], us, h, _, _, _, _ => h
  | o :: st, us, h, hz, hu, hZ, hn => by
    obtain ⟨u1, us', rfl, h1, h2, h3⟩ := h
    exact ⟨u1, us', rfl, h1.on hz (hu u1 (by simp)) hZ (hn u1 (by simp)), h2, StkM.on h3 hz (fun u hu' => hu u (by simp [hu'])) hZ (fun u hu' => hn u (by simp [hu']))⟩
theorem StkM.len {B : Nat} {Z : Nat → Prop} {w : World} : ∀ {st : List Op} {us : List Un}, StkM B Z w st us → us.length = st.length
  | [], us, h => by have : us = [] := h; subst this; rfl
  | o :: st, us, h => by
    obtain ⟨u1, us', rfl, _, _, h3⟩ := h
    simp [StkM.len h3]
/-- the reader and what is open -/
structure RdS (B g : Nat) (Z : Nat → Prop) (r : List UInt8) (st : List Op) (us : List Un) (ov : Value) (w : World) : Prop where
  rdr : Rdr g r ov w
  own : w.ownsRow B 67 1 ov st.length (us.reverse.map ptrU)
  stk : StkM B Z w st us
  gl : B ≤ w.heap.size
  zl : ∀ k, Z k → k < w.heap.size
  zb : ∀ k, Z k → B ≤ k
  zg : ¬ Z g
  zo : ∀ k, ov.ownBlock = some k → ¬ Z k
def HdV (B : Nat) (Z : Nat → Prop) (us : List Un) (w : World) : Hd → Value → Prop
  | .no, v => v = .nilIface
  | .tm T, v => ∃ x, v = .iface 26 x ∧ TV Z w T x
  | .rw o, v => ∃ u, v = .iface 67 (ptrU u) ∧ RowM B Z w o u ∧ Apart u us
def StH (B g : Nat) (r : List UInt8) (st : List Op) (hd : Hd) (v : Value) (w : World) : Prop := ∃ Z us ov, RdS B g Z r st us ov w ∧ HdV B Z us w hd v
/-- the pointers' row bears its type -/
theorem RdS.oty {B g : Nat} {Z : Nat → Prop} {r : List UInt8} {st : List Op} {us : List Un} {ov : Value} {w : World} (h : RdS B g Z r st us ov w) : ∀ k, ov.ownBlock = some k → B ≤ k ∧ ∃ c, w.heap[k]? = some (.cells c 67 (0, 0)) := fun k hk => by
  obtain ⟨c, hc⟩ := own_block h.own k hk
  exact ⟨(World.ownsRow.lt h.own k hk).1, c, hc⟩
theorem RdS.ne_g {B g : Nat} {Z : Nat → Prop} {r : List UInt8} {st : List Op} {us : List Un} {ov : Value} {w : World} (h : RdS B g Z r st us ov w) {k : Nat} {c : Array Value} {e : TypeId} {f : Nat × Nat} (hk : w.heap[k]? = some (.cells c e f)) (he : e ≠ 49) : k ≠ g := fun e2 => by
  subst e2
  have := h.rdr.at_
  rw [hk] at this
  simp only [Option.some.injEq, Obj.cells.injEq] at this
  exact he this.2.1
/-- nothing but the reader's own object has changed, and new blocks: the zone may take them -/
theorem RdS.on {B g : Nat} {Z Z' : Nat → Prop} {r r' : List UInt8} {st : List Op} {us : List Un} {ov : Value} {w w' : World} (h : RdS B g Z r st us ov w) (hr : Rdr g r' ov w') (hk : Kpt (fun b => b = g) w w') (hZ : ∀ k, Z k → Z' k) (hZ' : ∀ k, Z' k → k < w'.heap.size ∧ (Z k ∨ w.heap.size ≤ k)) : RdS B g Z' r' st us ov w' := by
  have hz : ∀ k, Z k → w'.heap[k]? = w.heap[k]? := fun k hk' => hk.block k (h.zl k hk') (fun e => h.zg (e ▸ hk'))
  have hu : ∀ u ∈ us, ∀ k, u.owns k → w'.heap[k]? = w.heap[k]? := fun u hu k hk' => by
    obtain ⟨o, ho⟩ := h.stk.mem u hu
    obtain ⟨c, e, hc, he⟩ := ho.ty k hk'
    exact hk.block k (ho.lt k hk').2 (h.ne_g hc (by rcases he with rfl | rfl <;> decide))
  have hnn : ∀ u ∈ us, ∀ k, u.owns k → ¬ Z' k := fun u hu' k hk' hz' => by
    obtain ⟨o, ho⟩ := h.stk.mem u hu'
    rcases (hZ' k hz').2 with h1 | h1
    · exact ho.nz k hk' h1
    · have := (ho.lt k hk').2; omega
  refine ⟨hr, own_blkS h.own (fun k hk' => ?_), h.stk.on hz hu hZ hnn, Nat.le_trans h.gl hk.size, fun k hk' => (hZ' k hk').1, fun k hk' => (hZ' k hk').2.elim (h.zb k) (fun h1 => Nat.le_trans h.gl h1), fun hk' => ?_, fun k hk' hk2 => ?_⟩
  · obtain ⟨_, c, hc⟩ := h.oty k hk'
    exact hk.block k (World.ownsRow.lt h.own k hk').2 (h.ne_g hc (by decide))
  · rcases (hZ' g hk').2 with h1 | h1
    · exact h.zg h1
    · have := h.rdr.lt; omega
  · rcases (hZ' k hk2).2 with h1 | h1
    · exact h.zo k hk' h1
    · have := (World.ownsRow.lt h.own k hk').2; omega
/-- what the reader may write: its own object, and what is new since -/
abbrev FR (B g : Nat) : Nat → Prop := fun k => k = g ∨ B ≤ k
/-- begin, with what is open -/
theorem begin_s (B g : Nat) (Z : Nat → Prop) (r : List UInt8) (st : List Op) (us : List Un) (ov : Value) (w W : World) (hr : r.length ≤ 900000) (h : RdS B g Z r st us ov w) (hv : Lib.validD r = true) (hT : TabsQ W) (hWg : W.heap.size ≤ g) (hb : Below W.heap.size W w) :
    Calls Tryz.prog 29 #[.pointer (some ⟨g, 0, none⟩)] w fun e w' => ∃ v, e = .returned v ∧ StH B g (beginL r).2 st (bgH (beginL r).1) v w' ∧ Kpt (FR B g) w w' := by
  have hst : ∀ b, r[0]? = some b → stB b.toNat = true := fun b hb0 => by
    cases r with
    | nil => simp at hb0
    | cons x t =>
      simp only [List.getElem?_cons_zero, Option.some.injEq] at hb0
      subst hb0
      exact vd_head hv
  have hbs : B ≤ w.heap.size := h.gl
  have hg : ∀ w', Kpt (fun b => b = g) w w' → TabsQ w' := fun w' hk => hT.below (hb.trans (hk.below hb.size (fun k hk' => hk' ▸ hWg)))
  refine (begin_w g r ov w hr h.rdr hst hg).mono ?_
  rintro e w1 ⟨v, rfl, hV, hR, hK⟩
  refine ⟨v, rfl, ?_, hK.mono (fun k hk' => .inl hk')⟩
  cases hbg : (beginL r).1 with
  | lf o =>
    rw [hbg] at hV
    refine ⟨fun k => Z k ∨ (w.heap.size ≤ k ∧ k < w1.heap.size), us, ov, h.on hR hK (fun k hk => .inl hk) (fun k hk => ?_), ?_⟩
    · rcases hk with hk | hk
      · exact ⟨Nat.lt_of_lt_of_le (h.zl k hk) hK.size, .inl hk⟩
      · exact ⟨hk.2, .inr hk.1⟩
    · cases o with
      | none => exact hV
      | some T =>
        obtain ⟨x, rfl, hx⟩ := hV
        exact ⟨x, rfl, TV.mono (fun k hk hz => .inr ⟨hz.1, hk⟩) _ _ hx⟩
  | rw c =>
    rw [hbg] at hV
    obtain ⟨b, rfl, hb1, hb2⟩ := hV
    refine ⟨Z, us, ov, h.on hR hK (fun k hk => hk) (fun k hk => ⟨Nat.lt_of_lt_of_le (h.zl k hk) hK.size, .inl hk⟩), ⟨b, .slice none 0 0, []⟩, rfl, ⟨hb2, World.ownsRow_nil _ _ _ _, rfl, by show B ≤ b; omega, ?_⟩, ?_⟩
    · rintro k (hk | hk) hz
      · have e : k = b := hk
        have := h.zl k hz; omega
      · simp [Value.ownBlock] at hk
    · rintro k (hk | hk) u' hu' hk'
      · have e : k = b := hk
        obtain ⟨o', ho'⟩ := h.stk.mem u' hu'
        have := (ho'.lt k hk').2
        omega
      · simp [Value.ownBlock] at hk
end Go.Proofs.YtjacoodfhkaioabGreatDoor
namespace Go.Proofs.YtjacoodfhkaioabGreatDoor
open Go.ChangeShapes Go.WideShapes Go.ChangeAt Go.RowKit Go.Shelf
set_option linter.unusedSimpArgs false
set_option linter.unusedVariables false
set_option maxRecDepth 2000

def LfV (Z : Nat → Prop) (w : World) (o : Option Tm) (v : Value) : Prop :=
  match o with
  | none => v = .nilIface
  | some T => ∃ x, v = .iface 26 x ∧ TV Z w T x
def NewZ (Z : Nat → Prop) (S : Nat) (w : World) : Nat → Prop := fun k => Z k ∨ (S ≤ k ∧ k < w.heap.size)
theorem TR.get3 {Z : Nat → Prop} {w : World} {l : List Tm} {o : Option Addr} {i : Nat} {t : Tm} (h : TR Z w l o) (ht : l[i]? = some t) :
    ∃ a k neg od ld cd nm n ol ll cl ob lb cb, o = some a ∧ TV Z w t (tmV k neg (.slice od ld cd) nm n (.slice ol ll cl) (.slice ob lb cb)) ∧ w.cell? (a.add (i * 7)) = some (.int .i64 k) ∧ w.cell? ⟨(a.add (i * 7)).block, (a.add (i * 7)).off + 1, none⟩ = some (.bool neg) ∧ w.cell? ⟨(a.add (i * 7)).block, (a.add (i * 7)).off + 2, none⟩ = some (.slice od ld cd) ∧ w.cell? ⟨(a.add (i * 7)).block, (a.add (i * 7)).off + 3, none⟩ = some (.string nm) ∧ w.cell? ⟨(a.add (i * 7)).block, (a.add (i * 7)).off + 4, none⟩ = some (.int .i64 n) ∧ w.cell? ⟨(a.add (i * 7)).block, (a.add (i * 7)).off + 5, none⟩ = some (.slice ol ll cl) ∧ w.cell? ⟨(a.add (i * 7)).block, (a.add (i * 7)).off + 6, none⟩ = some (.slice ob lb cb) := by
  obtain ⟨a, rfl⟩ : ∃ a, o = some a := by
    cases l with
    | nil => simp at ht
    | cons q qs =>
      unfold TR at h
      obtain ⟨a, _, ha, _⟩ := h
      exact ⟨a, ha⟩
  obtain ⟨vt, hZ, hA, hTv⟩ := TR.at _ _ i t h ht
  rw [Nat.mul_comm] at hA
  obtain ⟨k', neg', od', ld', cd', nm', n', ol', ll', cl', ob', lb', cb', rfl⟩ := hTv.form
  exact ⟨a, k', neg', od', ld', cd', nm', n', ol', ll', cl', ob', lb', cb', rfl, hTv, hA.tm⟩
theorem cell3 {w : World} {g : Nat} {a0 a1 a2 : Value} {T : TypeId} (h : w.heap[g]? = some (.cells #[a0, a1, a2] T (0, 0))) :
    w.cell? ⟨g, 0, none⟩ = some a0 ∧ w.cell? ⟨g, 1, none⟩ = some a1 ∧ w.cell? ⟨g, 2, none⟩ = some a2 := by
  simp [World.cell?, h]
set_option maxHeartbeats 1000000 in
theorem whole_t (Z : Nat → Prop) (b : Nat) (its : List Tm) (bar : Bool) (ol : Option Addr) (cl : Nat) (w : World) (hb : w.heap[b]? = some (.cells #[.int .i32 125, .slice ol its.length cl, .bool bar] 101 (0, 0))) (hcl : its.length ≤ cl) (hT : TR Z w its ol) :
    Calls Tryz.prog 64 #[.pointer (some ⟨b, 0, none⟩)] w fun e w' => ∃ v, e = .returned v ∧ LfV (NewZ Z w.heap.size w') w' (some (tupT its)) v ∧ Below w.heap.size w w' := by
  obtain ⟨y0, y1, y2⟩ := cell3 hb
  have hTT : Hid (TV Z w (tupT its) (tmV 4 false nilS noS 0 (.slice ol its.length cl) nilS)) := hid (by
    unfold tupT TV
    exact ⟨none, 0, ol, cl, none, 0, rfl, Ls.nil _ _ _, by simp, Lm.nil _, LsB.nil _ _ _, by simp, hcl, hT⟩)
  clear hT hb hcl
  go_enter Tryz.func64, Tryz.ntmps64
  go_wp2
  go_ret
  exact ⟨_, rfl, ⟨_, rfl, TV.mono (fun k _ hz => .inl hz) _ _ hTT.out⟩, Below.refl _ _⟩
/-- the world while a list is put together -/
structure Lp (Z : Nat → Prop) (S gt : Nat) (w : World) (T : Tm) (k : Int) (neg : Bool) (D : Value) (nm : ByteArray) (n : Int) (L Bb : Value) (wr : World) : Prop where
  tv : TV (fun q => Z q ∨ (S ≤ q ∧ q < wr.heap.size ∧ q ≠ gt)) wr T (tmV k neg D nm n L Bb)
  box : wr.heap[gt]? = some (.cells #[.int .i64 k, .bool neg, D, .string nm, .int .i64 n, L, Bb] 26 (0, 0))
  bel : Below S w wr
theorem Lp.step {Z : Nat → Prop} {S gt : Nat} {w wr : World} {T t : Tm} {k : Int} {neg : Bool} {od : Option Addr} {ld cd : Nat} {nm : ByteArray} {n : Int} {ol : Option Addr} {ll cl : Nat} {ob : Option Addr} {lb cb : Nat}
    {k' : Int} {neg' : Bool} {od' : Option Addr} {ld' cd' : Nat} {nm' : ByteArray} {n' : Int} {ol' : Option Addr} {ll' cl' : Nat} {ob' : Option Addr} {lb' cb' : Nat}
    (h : Lp Z S gt w T k neg (.slice od ld cd) nm n (.slice ol ll cl) (.slice ob lb cb) wr) (hS : S = w.heap.size) (hgt : S ≤ gt) (hz : ∀ q, Z q → q < S) (ht : TV Z w t (tmV k' neg' (.slice od' ld' cd') nm' n' (.slice ol' ll' cl') (.slice ob' lb' cb'))) :
    Lp Z S gt w (consT t T) 6 false nilS noS 0 (.slice (some ⟨wr.heap.size, 0, none⟩) 2 2) nilS (((((((((wr.setCell ⟨gt, 0, none⟩ (.int .i64 6)).setCell ⟨gt, 1, none⟩ (.bool false)).setCell ⟨gt, 2, none⟩ nilS).setCell ⟨gt, 3, none⟩ (.string noS)).setCell ⟨gt, 4, none⟩ (.int .i64 0)).setCell ⟨gt, 5, none⟩ (.slice (some ⟨wr.heap.size, 0, none⟩) 2 2)).setCell ⟨gt, 6, none⟩ nilS).alloc (.cells #[.int .i64 k', .bool neg', .slice od' ld' cd', .string nm', .int .i64 n', .slice ol' ll' cl', .slice ob' lb' cb', .int .i64 k, .bool neg, .slice od ld cd, .string nm, .int .i64 n, .slice ol ll cl, .slice ob lb cb] 26)).drew) := by
  have hgl := (Array.getElem?_eq_some_iff.1 h.box).1
  have hon := only_put wr gt (.int .i64 6) (.bool false) nilS (.string noS) (.int .i64 0) (.slice (some ⟨wr.heap.size, 0, none⟩) 2 2) nilS
  have hb2 := heap_put7 h.box (.int .i64 6) (.bool false) nilS (.string noS) (.int .i64 0) (.slice (some ⟨wr.heap.size, 0, none⟩) 2 2) nilS
  generalize (((((((wr.setCell ⟨gt, 0, none⟩ (.int .i64 6)).setCell ⟨gt, 1, none⟩ (.bool false)).setCell ⟨gt, 2, none⟩ nilS).setCell ⟨gt, 3, none⟩ (.string noS)).setCell ⟨gt, 4, none⟩ (.int .i64 0)).setCell ⟨gt, 5, none⟩ (.slice (some ⟨wr.heap.size, 0, none⟩) 2 2)).setCell ⟨gt, 6, none⟩ nilS) = W at *
  have hWs : W.heap.size = wr.heap.size := hon.2.1
  have hBd : Below W.heap.size W (W.alloc (.cells #[.int .i64 k', .bool neg', .slice od' ld' cd', .string nm', .int .i64 n', .slice ol' ll' cl', .slice ob' lb' cb', .int .i64 k, .bool neg, .slice od ld cd, .string nm, .int .i64 n, .slice ol ll cl, .slice ob lb cb] 26)) := (Below.refl _ W).alloc (Nat.le_refl _) _
  have hnw := heap_alloc_new W (.cells #[.int .i64 k', .bool neg', .slice od' ld' cd', .string nm', .int .i64 n', .slice ol' ll' cl', .slice ob' lb' cb', .int .i64 k, .bool neg, .slice od ld cd, .string nm, .int .i64 n, .slice ol ll cl, .slice ob lb cb] 26)
  have hsz : (W.alloc (.cells #[.int .i64 k', .bool neg', .slice od' ld' cd', .string nm', .int .i64 n', .slice ol' ll' cl', .slice ob' lb' cb', .int .i64 k, .bool neg, .slice od ld cd, .string nm, .int .i64 n, .slice ol ll cl, .slice ob lb cb] 26)).heap.size = W.heap.size + 1 := by simp
  rw [hWs] at hnw
  generalize (W.alloc (.cells #[.int .i64 k', .bool neg', .slice od' ld' cd', .string nm', .int .i64 n', .slice ol' ll' cl', .slice ob' lb' cb', .int .i64 k, .bool neg, .slice od ld cd, .string nm, .int .i64 n, .slice ol ll cl, .slice ob lb cb] 26)) = V at *
  have hVs : V.drew.heap.size = wr.heap.size + 1 := hsz.trans (by rw [hWs])
  have hVd : ∀ q : Nat, V.drew.heap[q]? = V.heap[q]? := fun q => rfl
  have hSw := h.bel.size
  have e1 : ∀ q, q < wr.heap.size → q ≠ gt → V.drew.heap[q]? = wr.heap[q]? := fun q hq hne => (hVd q).trans ((hBd.block q (by omega)).trans (hon.2.2 q hne))
  have e2 : ∀ q, q < S → V.drew.heap[q]? = w.heap[q]? := fun q hq => (e1 q (by omega) (by omega)).trans (h.bel.block q hq)
  have t1 : TV (fun q => Z q ∨ (S ≤ q ∧ q < V.drew.heap.size ∧ q ≠ gt)) V.drew t (tmV k' neg' (.slice od' ld' cd') nm' n' (.slice ol' ll' cl') (.slice ob' lb' cb')) :=
    TV.mono (fun q _ hq => .inl hq) _ _ (TV.zs (fun q hq => e2 q (hz q hq)) _ _ ht)
  have t2 : TV (fun q => Z q ∨ (S ≤ q ∧ q < V.drew.heap.size ∧ q ≠ gt)) V.drew T (tmV k neg (.slice od ld cd) nm n (.slice ol ll cl) (.slice ob lb cb)) :=
    TV.mono (fun q _ hq => hq.elim (fun a => .inl a) (fun a => .inr ⟨a.1, by omega, a.2.2⟩)) _ _ (TV.zs (fun q hq => by
      rcases hq with hq | hq
      · exact e1 q (by have := hz q hq; omega) (by have := hz q hq; omega)
      · exact e1 q hq.2.1 hq.2.2) _ _ h.tv)
  refine ⟨?_, (hVd gt).trans ((hBd.block gt (by omega)).trans hb2), ?_⟩
  · unfold consT TV
    exact ⟨none, 0, some ⟨wr.heap.size, 0, none⟩, 2, none, 0, rfl, Ls.nil _ _ _, by simp, Lm.nil _, LsB.nil _ _ _, by simp, by simp, tr_two t1 t2 ((hVd _).trans hnw) (.inr ⟨by omega, by omega, by omega⟩)⟩
  · exact ((h.bel.trans (hon.below (B := S) hgt)).trans (below_le hBd (by omega))).drew
theorem Lp.first {Z : Nat → Prop} {S gt : Nat} {w wc : World} {E : Tm} {a0 a1 a2 a3 a4 a5 a6 : Value} {k : Int} {neg : Bool} {od : Option Addr} {ld cd : Nat} {nm : ByteArray} {n : Int} {ol : Option Addr} {ll cl : Nat} {ob : Option Addr} {lb cb : Nat}
    (hbx : wc.heap[gt]? = some (.cells #[a0, a1, a2, a3, a4, a5, a6] 26 (0, 0))) (hbel : Below S w wc) (hS : S = w.heap.size) (hgt : S ≤ gt) (hz : ∀ q, Z q → q < S) (hT : TV Z w E (tmV k neg (.slice od ld cd) nm n (.slice ol ll cl) (.slice ob lb cb))) :
    Lp Z S gt w E k neg (.slice od ld cd) nm n (.slice ol ll cl) (.slice ob lb cb) (((((((wc.setCell ⟨gt, 0, none⟩ (.int .i64 k)).setCell ⟨gt, 1, none⟩ (.bool neg)).setCell ⟨gt, 2, none⟩ (.slice od ld cd)).setCell ⟨gt, 3, none⟩ (.string nm)).setCell ⟨gt, 4, none⟩ (.int .i64 n)).setCell ⟨gt, 5, none⟩ (.slice ol ll cl)).setCell ⟨gt, 6, none⟩ (.slice ob lb cb)).drew := by
  have hon := only_put wc gt (.int .i64 k) (.bool neg) (.slice od ld cd) (.string nm) (.int .i64 n) (.slice ol ll cl) (.slice ob lb cb)
  have hb2 := heap_put7 hbx (.int .i64 k) (.bool neg) (.slice od ld cd) (.string nm) (.int .i64 n) (.slice ol ll cl) (.slice ob lb cb)
  generalize (((((((wc.setCell ⟨gt, 0, none⟩ (.int .i64 k)).setCell ⟨gt, 1, none⟩ (.bool neg)).setCell ⟨gt, 2, none⟩ (.slice od ld cd)).setCell ⟨gt, 3, none⟩ (.string nm)).setCell ⟨gt, 4, none⟩ (.int .i64 n)).setCell ⟨gt, 5, none⟩ (.slice ol ll cl)).setCell ⟨gt, 6, none⟩ (.slice ob lb cb)) = W at *
  have hVd : ∀ q : Nat, W.drew.heap[q]? = W.heap[q]? := fun q => rfl
  refine ⟨TV.mono (fun q _ hq => .inl hq) _ _ (TV.zs (fun q hq => ?_) _ _ hT), (hVd gt).trans hb2, (hbel.trans (hon.below (B := S) hgt)).drew⟩
  exact (hVd q).trans ((hon.2.2 q (by have := hz q hq; omega)).trans (hbel.block q (hz q hq)))
theorem put_far {w : World} {b j g : Nat} {v : Value} (h : w.cell? ⟨b, j, none⟩ = some v) (hne : b ≠ g) (b0 b1 b2 b3 b4 b5 b6 : Value) : (((((((w.setCell ⟨g, 0, none⟩ b0).setCell ⟨g, 1, none⟩ b1).setCell ⟨g, 2, none⟩ b2).setCell ⟨g, 3, none⟩ b3).setCell ⟨g, 4, none⟩ b4).setCell ⟨g, 5, none⟩ b5).setCell ⟨g, 6, none⟩ b6).cell? ⟨b, j, none⟩ = some v :=
  (World.cell?_of_block (a := ⟨b, j, none⟩) ((only_put w g b0 b1 b2 b3 b4 b5 b6).2.2 b hne)).trans h
set_option maxHeartbeats 8000000 in
theorem whole_l (Z : Nat → Prop) (b : Nat) (its : List Tm) (ol : Option Addr) (cl : Nat) (w : World) (hb : w.heap[b]? = some (.cells #[.int .i32 93, .slice ol its.length cl, .bool false] 101 (0, 0))) (hn : its.length ≤ 900000) (hT : TR Z w its ol) (hz : ∀ q, Z q → q < w.heap.size) :
    Calls Tryz.prog 64 #[.pointer (some ⟨b, 0, none⟩)] w fun e w' => ∃ v, e = .returned v ∧ LfV (NewZ Z w.heap.size w') w' (some (consL its nilT)) v ∧ Below w.heap.size w w' := by
  obtain ⟨y0, y1, y2⟩ := cell3 hb
  have hTR := hT
  clear hT
  have hbl := (Array.getElem?_eq_some_iff.1 hb).1
  have hbne : b ≠ w.heap.size := by omega
  go_enter Tryz.func64, Tryz.ntmps64
  go_upto_region 3 with fail
  go_cut [3, 4] from 18 to 26 (fun p3 p4 wx => p3 = .slice ol its.length cl ∧ ∃ gt, p4 = .pointer (some ⟨gt, 0, none⟩) ∧ w.heap.size ≤ gt ∧ wx.heap[gt]? = some (.cells #[.int .i64 5, .bool false, nilS, .string noS, .int .i64 0, nilS, nilS] 26 (0, 0)) ∧ Below w.heap.size w wx)
  case first =>
    go_region_held3 (fun w' => w'.cell? ⟨b, 0, none⟩ = some (.int .i32 93) ∧ w'.cell? ⟨b, 1, none⟩ = some (.slice ol its.length cl)) (first | (refine ⟨?_, ?_⟩ <;> (with_reducible refine put_far (g := w.heap.size) ?_ ?_ _ _ _ _ _ _ _) <;> first | assumption | omega) | go_keep) (first | (
      go_at_call 55
      refine (Nil_w _).mono ?_
      rintro e w3 ⟨rfl, b3⟩
      have hs3 := b3.size
      have hb3 : Below w.heap.size w w3 := by first | exact b3 | exact ((Below.refl w.heap.size w).drew).trans b3 | exact (((Below.refl w.heap.size w).drew).alloc (Nat.le_refl _) _).trans (below_le b3 (by simp))
      have z0 : w3.cell? ⟨b, 0, none⟩ = some (.int .i32 93) := (hb3.cell (World.block_lt_of_cell? _ _ y0)).trans y0
      have z1 : w3.cell? ⟨b, 1, none⟩ = some (.slice ol its.length cl) := (hb3.cell (World.block_lt_of_cell? _ _ y1)).trans y1
      first
        | (have kM3 : w3.heap[w.heap.size]? = some (.cells zC 26 (0, 0)) := (b3.block _ (by simp)).trans (heap_alloc_new _ _)
           obtain ⟨m0, m1, m2, m3, m4, m5, m6⟩ := cell7 kM3
           have mf := (res7 kM3).fr)
        | skip))
    all_goals (go_wp2_with fail; go_meet)
    · exact ⟨rfl, w3.heap.size, rfl, hb3.size, heap_alloc_new w3 _, hb3.alloc hb3.size _⟩
    · exact ⟨rfl, w.heap.size, rfl, Nat.le_refl _, heap_put7 kM3 _ _ _ _ _ _ _, hb3.trans ((only_put w3 w.heap.size _ _ _ _ _ _ _).below (B := w.heap.size) (Nat.le_refl _))⟩
  case rest =>
    obtain ⟨rfl, gt, rfl, hgt, hbx, hbel⟩ := hcut
    have hgl := (Array.getElem?_eq_some_iff.1 hbx).1
    have hLp0 : Hid (Lp Z w.heap.size gt w nilT 5 false nilS noS 0 nilS nilS wc) := hid ⟨by unfold nilT TV; exact ⟨none, 0, none, 0, none, 0, rfl, Ls.nil _ _ _, by simp, Lm.nil _, LsB.nil _ _ _, by simp, by simp, by unfold TR; trivial⟩, hbx, hbel⟩
    replace y2 := (hbel.cell (World.block_lt_of_cell? _ _ y2)).trans y2
    have hLi : Hid (its ++ [] = its) := hid (List.append_nil _)
    clear y0 y1 hb hbx hbel
    have hnz : (its.length : Int) ≤ 900000 := by omega
    go_wp2_with fail
    have hgtw : w.heap.size ≤ gt := hgt
    have hzz := hid hz
    have hTRH := hid hTR
    go_loopg [6] its.length (fun t v6 wr => ∃ (k : Int) (neg : Bool) (od : Option Addr) (ld cd : Nat) (nm : ByteArray) (n : Int) (ol1 : Option Addr) (ll cl1 : Nat) (ob : Option Addr) (lb cb : Nat), v6 = .int .i64 ((t : Int) - 1) ∧ t ≤ its.length ∧ Lp Z w.heap.size gt w (consL (its.drop t) nilT) k neg (.slice od ld cd) nm n (.slice ol1 ll cl1) (.slice ob lb cb) wr)
    case atStart => exact ⟨5, false, none, 0, 0, noS, 0, none, 0, 0, none, 0, 0, by first | rfl | go_num, Nat.le_refl _, by rw [List.drop_length]; exact hLp0.out⟩
    case round =>
      obtain ⟨k, neg, od, ld, cd, nm, n, ol1, ll, cl1, ob, lb, cb, rfl, hgk, hLp⟩ := hrel
      generalize gk = m at *
      obtain ⟨c0, c1, c2, c3, c4, c5, c6⟩ := cell7 hLp.box
      have hfr : ∀ j, wr.frozen? ⟨gt, j, none⟩ = false := (res7 hLp.box).fr
      cases m with
      | zero =>
        rw [List.drop_zero] at hLp
        have hLpH := hid hLp
        clear hLp
        go_wp2
        go_ret
        refine ⟨_, rfl, ⟨_, rfl, TV.mono (fun q _ hq => hq.elim (fun a => .inl a) (fun a => .inr ⟨a.1, a.2.1⟩)) _ _ hLpH.out.tv⟩, hLpH.out.bel⟩
      | succ m =>
        obtain ⟨t, ht⟩ : ∃ t, its[m]? = some t := ⟨its[m]'(by omega), by simp⟩
        have hta : (its)[m]? = some t := by first | exact ht | (rw [List.getElem?_append_left (by omega)]; exact ht)
        obtain ⟨pa, pk, pneg, pod, pld, pcd, pnm, pn, pol, pll, pcl, pob, plb, pcb, hpa, hTp, y0, y1, y2, y3, y4, y5, y6⟩ := hTRH.out.get3 hta
        first | subst hpa | obtain rfl := Option.some.inj hpa
        have hpz : Hid (pa.block < w.heap.size) := hid (hzz.out _ (by
          obtain ⟨_, hq, _⟩ := TR.at _ _ m t hTRH.out hta
          exact hq))
        have hq : ∀ {x : Addr} {v : Value}, w.cell? x = some v → wr.cell? x = some v := fun hc => (hLp.bel.cell (World.block_lt_of_cell? _ _ hc)).trans hc
        replace y0 := hq y0
        replace y1 := hq y1
        replace y2 := hq y2
        replace y3 := hq y3
        replace y4 := hq y4
        replace y5 := hq y5
        replace y6 := hq y6
        clear hq
        have hgeq : (0 : Int) ≤ ((m + 1 : Nat) : Int) - 1 := by omega
        have hHt : Hid (its.drop m = t :: its.drop (m + 1)) := hid (drop_at ht)
        have hstep := hid (hLp.step rfl hgtw hzz.out hTp)
        have hglt : gt < wr.heap.size := (Array.getElem?_eq_some_iff.1 hLp.box).1
        obtain ⟨W, hW⟩ : ∃ W, W = wr.alloc (.cells #[.int .i64 pk, .bool pneg, .slice pod pld pcd, .string pnm, .int .i64 pn, .slice pol pll pcl, .slice pob plb pcb, .int .i64 k, .bool neg, .slice od ld cd, .string nm, .int .i64 n, .slice ol1 ll cl1, .slice ob lb cb] 26) := ⟨_, rfl⟩
        have hbx2 : W.heap[gt]? = some (.cells #[.int .i64 k, .bool neg, .slice od ld cd, .string nm, .int .i64 n, .slice ol1 ll cl1, .slice ob lb cb] 26 (0, 0)) := by rw [hW]; exact (((Below.refl _ wr).alloc (Nat.le_refl _) _).block gt hglt).trans hLp.box
        obtain ⟨z0, z1, z2, z3, z4, z5, z6⟩ := cell7 hbx2
        have hfr2 : ∀ j, W.frozen? ⟨gt, j, none⟩ = false := (res7 hbx2).fr
        rw [hW] at z0 z1 z2 z3 z4 z5 z6 hfr2
        have hmL : m < its.length := by omega
        clear hLp hW hbx2 ht hta hTp
        go_wp2_with fail
        go_region
        go_wp2
        go_roundg m
        case measure => omega
        case rel =>
          refine ⟨6, false, none, 0, 0, noS, 0, some ⟨wr.heap.size, 0, none⟩, 2, 2, none, 0, 0, by first | rfl | go_num, by omega, ?_⟩
          rw [hHt.out]
          have hh := hstep.out
          exact hh
set_option maxHeartbeats 8000000 in
theorem whole_b (Z : Nat → Prop) (b : Nat) (L : List Tm) (E : Tm) (pa : Addr) (cl : Nat) (w : World) (hb : w.heap[b]? = some (.cells #[.int .i32 93, .slice (some pa) (L.length + 1) cl, .bool true] 101 (0, 0))) (hn : L.length ≤ 900000) (hcl : L.length + 1 ≤ cl) (hT : TR Z w (L ++ [E]) (some pa)) (hz : ∀ q, Z q → q < w.heap.size) :
    Calls Tryz.prog 64 #[.pointer (some ⟨b, 0, none⟩)] w fun e w' => ∃ v, e = .returned v ∧ LfV (NewZ Z w.heap.size w') w' (if E.kind = 5 ∨ E.kind = 6 then none else some (consL L E)) v ∧ Below w.heap.size w w' := by
  obtain ⟨y0, y1, y2⟩ := cell3 hb
  have hTR := hT
  obtain ⟨pa', pk, pneg, pod, pld, pcd, pnm, pn, pol, pll, pcl, pob, plb, pcb, hpa, hTp, t0, t1, t2, t3, t4, t5, t6⟩ := hT.get3 (i := L.length) (t := E) (by simp)
  obtain rfl := Option.some.inj hpa
  clear hT hpa
  have hEk : E.kind = pk := by
    cases E with | mk ek en ed em ei el eb =>
    unfold TV at hTp
    obtain ⟨od', cd', ol', cl', ob', cb', e, _⟩ := hTp
    simp only [tmV, Value.agg.injEq, Array.mk.injEq, List.cons.injEq, Value.int.injEq, true_and] at e
    exact e.1.symm
  rw [hEk]
  obtain ⟨R, hR⟩ : ∃ R, (if pk = 5 ∨ pk = 6 then none else some (consL L E)) = R := ⟨_, rfl⟩
  rw [hR]
  have hRH := hid hR
  have hbl := (Array.getElem?_eq_some_iff.1 hb).1
  have hbne : b ≠ w.heap.size := by omega
  clear hR hEk
  go_enter Tryz.func64, Tryz.ntmps64
  go_upto_region 3 with fail
  go_cut [3, 4] from 18 to 26 (fun p3 p4 wx => p3 = .slice (some pa) (L.length + 1) cl ∧ ∃ gt, p4 = .pointer (some ⟨gt, 0, none⟩) ∧ w.heap.size ≤ gt ∧ wx.heap[gt]? = some (.cells #[.int .i64 5, .bool false, nilS, .string noS, .int .i64 0, nilS, nilS] 26 (0, 0)) ∧ Below w.heap.size w wx)
  case first =>
    clear t0 t1 t2 t3 t4 t5 t6
    go_region_held3 (fun w' => w'.cell? ⟨b, 0, none⟩ = some (.int .i32 93) ∧ w'.cell? ⟨b, 1, none⟩ = some (.slice (some pa) (L.length + 1) cl)) (first | (refine ⟨?_, ?_⟩ <;> (with_reducible refine put_far (g := w.heap.size) ?_ ?_ _ _ _ _ _ _ _) <;> first | assumption | omega) | go_keep) (first | (
      go_at_call 55
      refine (Nil_w _).mono ?_
      rintro e w3 ⟨rfl, b3⟩
      have hs3 := b3.size
      have hb3 : Below w.heap.size w w3 := by first | exact b3 | exact ((Below.refl w.heap.size w).drew).trans b3 | exact (((Below.refl w.heap.size w).drew).alloc (Nat.le_refl _) _).trans (below_le b3 (by simp))
      have z0 : w3.cell? ⟨b, 0, none⟩ = some (.int .i32 93) := (hb3.cell (World.block_lt_of_cell? _ _ y0)).trans y0
      have z1 : w3.cell? ⟨b, 1, none⟩ = some (.slice (some pa) (L.length + 1) cl) := (hb3.cell (World.block_lt_of_cell? _ _ y1)).trans y1
      first
        | (have kM3 : w3.heap[w.heap.size]? = some (.cells zC 26 (0, 0)) := (b3.block _ (by simp)).trans (heap_alloc_new _ _)
           obtain ⟨m0, m1, m2, m3, m4, m5, m6⟩ := cell7 kM3
           have mf := (res7 kM3).fr)
        | skip))
    all_goals (go_wp2_with fail; go_meet)
    · exact ⟨rfl, w3.heap.size, rfl, hb3.size, heap_alloc_new w3 _, hb3.alloc hb3.size _⟩
    · exact ⟨rfl, w.heap.size, rfl, Nat.le_refl _, heap_put7 kM3 _ _ _ _ _ _ _, hb3.trans ((only_put w3 w.heap.size _ _ _ _ _ _ _).below (B := w.heap.size) (Nat.le_refl _))⟩
  case rest =>
    obtain ⟨rfl, gt, rfl, hgt, hbx, hbel⟩ := hcut
    have hgl := (Array.getElem?_eq_some_iff.1 hbx).1
    have hq : ∀ {x : Addr} {v : Value}, w.cell? x = some v → wc.cell? x = some v := fun hc => (hbel.cell (World.block_lt_of_cell? _ _ hc)).trans hc
    replace y2 := hq y2
    replace t0 := hq t0
    replace t1 := hq t1
    replace t2 := hq t2
    replace t3 := hq t3
    replace t4 := hq t4
    replace t5 := hq t5
    replace t6 := hq t6
    clear hq
    obtain ⟨c0, c1, c2, c3, c4, c5, c6⟩ := cell7 hbx
    have hfr : ∀ j, wc.frozen? ⟨gt, j, none⟩ = false := (res7 hbx).fr
    have hLp1 := Lp.first hbx hbel rfl hgt hz hTp
    obtain ⟨W, hW⟩ : ∃ W, W = (((((((wc.setCell ⟨gt, 0, none⟩ (.int .i64 pk)).setCell ⟨gt, 1, none⟩ (.bool pneg)).setCell ⟨gt, 2, none⟩ (.slice pod pld pcd)).setCell ⟨gt, 3, none⟩ (.string pnm)).setCell ⟨gt, 4, none⟩ (.int .i64 pn)).setCell ⟨gt, 5, none⟩ (.slice pol pll pcl)).setCell ⟨gt, 6, none⟩ (.slice pob plb pcb)).drew := ⟨_, rfl⟩
    rw [← hW] at hLp1
    have hLp0 := hid hLp1
    obtain ⟨x0, x1, x2, x3, x4, x5, x6⟩ := cell7 hLp1.box
    have hWH := hid hW
    clear hW hLp1
    have hLi : Hid (L ++ [E] = L ++ [E]) := hid rfl
    have hlz : (L.length : Int) ≤ 900000 := by omega
    have hlc : (L.length : Int) ≤ (cl : Int) := by omega
    clear y0 y1 hb hbx hbel hTp
    go_upto_region 6 with fail
    go_region
    rw [← hWH.out]
    clear hWH c0 c1 c2 c3 c4 c5 c6 t0 t1 t2 t3 t4 t5 t6 y2
    by_cases h5 : pk = 5
    · have e5 : (pk == 5) = true := by simp [h5]
      have hR2 : Hid (R = none) := hid (by rw [← hRH.out, if_pos (.inl h5)])
      have hbl2 := hid hLp0.out.bel
      clear h5 hRH
      go_wp2
      go_ret
      rw [hR2.out]
      exact ⟨_, rfl, rfl, hbl2.out⟩
    · have e5 : (pk == 5) = false := by simp [h5]
      by_cases h6 : pk = 6
      · have e6 : (pk == 6) = true := by simp [h6]
        have hR2 : Hid (R = none) := hid (by rw [← hRH.out, if_pos (.inr h6)])
        have hbl2 := hid hLp0.out.bel
        clear h5 h6 hRH
        go_wp2
        go_ret
        rw [hR2.out]
        exact ⟨_, rfl, rfl, hbl2.out⟩
      · have e6 : (pk == 6) = false := by simp [h6]
        have hR2 : R = some (consL L E) := by rw [← hRH.out, if_neg (by simp [h5, h6])]
        clear h5 h6 hRH
        subst hR2
        go_wp2_with fail
        have hgtw : w.heap.size ≤ gt := hgt
        have hzz := hid hz
        have hTRH := hid hTR
        go_loopg [6] L.length (fun t v6 wr => ∃ (k : Int) (neg : Bool) (od : Option Addr) (ld cd : Nat) (nm : ByteArray) (n : Int) (ol1 : Option Addr) (ll cl1 : Nat) (ob : Option Addr) (lb cb : Nat), v6 = .int .i64 ((t : Int) - 1) ∧ t ≤ L.length ∧ Lp Z w.heap.size gt w (consL (L.drop t) E) k neg (.slice od ld cd) nm n (.slice ol1 ll cl1) (.slice ob lb cb) wr)
        case atStart => exact ⟨pk, pneg, pod, pld, pcd, pnm, pn, pol, pll, pcl, pob, plb, pcb, by first | rfl | go_num, Nat.le_refl _, by rw [List.drop_length]; exact hLp0.out⟩
        case round =>
          obtain ⟨k, neg, od, ld, cd, nm, n, ol1, ll, cl1, ob, lb, cb, rfl, hgk, hLp⟩ := hrel
          generalize gk = m at *
          obtain ⟨c0, c1, c2, c3, c4, c5, c6⟩ := cell7 hLp.box
          have hfr : ∀ j, wr.frozen? ⟨gt, j, none⟩ = false := (res7 hLp.box).fr
          cases m with
          | zero =>
            rw [List.drop_zero] at hLp
            have hLpH := hid hLp
            clear hLp
            go_wp2
            go_ret
            refine ⟨_, rfl, ⟨_, rfl, TV.mono (fun q _ hq => hq.elim (fun a => .inl a) (fun a => .inr ⟨a.1, a.2.1⟩)) _ _ hLpH.out.tv⟩, hLpH.out.bel⟩
          | succ m =>
            obtain ⟨t, ht⟩ : ∃ t, L[m]? = some t := ⟨L[m]'(by omega), by simp⟩
            have hta : (L ++ [E])[m]? = some t := by first | exact ht | (rw [List.getElem?_append_left (by omega)]; exact ht)
            obtain ⟨pa, pk, pneg, pod, pld, pcd, pnm, pn, pol, pll, pcl, pob, plb, pcb, hpa, hTp, y0, y1, y2, y3, y4, y5, y6⟩ := hTRH.out.get3 hta
            first | subst hpa | obtain rfl := Option.some.inj hpa
            have hpz : Hid (pa.block < w.heap.size) := hid (hzz.out _ (by
              obtain ⟨_, hq, _⟩ := TR.at _ _ m t hTRH.out hta
              exact hq))
            have hq : ∀ {x : Addr} {v : Value}, w.cell? x = some v → wr.cell? x = some v := fun hc => (hLp.bel.cell (World.block_lt_of_cell? _ _ hc)).trans hc
            replace y0 := hq y0
            replace y1 := hq y1
            replace y2 := hq y2
            replace y3 := hq y3
            replace y4 := hq y4
            replace y5 := hq y5
            replace y6 := hq y6
            clear hq
            have hgeq : (0 : Int) ≤ ((m + 1 : Nat) : Int) - 1 := by omega
            have hHt : Hid (L.drop m = t :: L.drop (m + 1)) := hid (drop_at ht)
            have hstep := hid (hLp.step rfl hgtw hzz.out hTp)
            have hglt : gt < wr.heap.size := (Array.getElem?_eq_some_iff.1 hLp.box).1
            obtain ⟨W, hW⟩ : ∃ W, W = wr.alloc (.cells #[.int .i64 pk, .bool pneg, .slice pod pld pcd, .string pnm, .int .i64 pn, .slice pol pll pcl, .slice pob plb pcb, .int .i64 k, .bool neg, .slice od ld cd, .string nm, .int .i64 n, .slice ol1 ll cl1, .slice ob lb cb] 26) := ⟨_, rfl⟩
            have hbx2 : W.heap[gt]? = some (.cells #[.int .i64 k, .bool neg, .slice od ld cd, .string nm, .int .i64 n, .slice ol1 ll cl1, .slice ob lb cb] 26 (0, 0)) := by rw [hW]; exact (((Below.refl _ wr).alloc (Nat.le_refl _) _).block gt hglt).trans hLp.box
            obtain ⟨z0, z1, z2, z3, z4, z5, z6⟩ := cell7 hbx2
            have hfr2 : ∀ j, W.frozen? ⟨gt, j, none⟩ = false := (res7 hbx2).fr
            rw [hW] at z0 z1 z2 z3 z4 z5 z6 hfr2
            have hmL : m < L.length := by omega
            clear hLp hW hbx2 ht hta hTp
            go_wp2_with fail
            go_region
            go_wp2
            go_roundg m
            case measure => omega
            case rel =>
              refine ⟨6, false, none, 0, 0, noS, 0, some ⟨wr.heap.size, 0, none⟩, 2, 2, none, 0, 0, by first | rfl | go_num, by omega, ?_⟩
              rw [hHt.out]
              have hh := hstep.out
              exact hh
/-- a row that has ended -/
theorem whole_w (Z : Nat → Prop) (b : Nat) (o : Op) (ol : Option Addr) (cl : Nat) (w : World) (hb : w.heap[b]? = some (.cells #[.int .i32 (o.c.toNat : Int), .slice ol o.its.length cl, .bool o.bar] 101 (0, 0))) (hcl : o.its.length ≤ cl) (hT : TR Z w o.its ol) (hn : o.its.length ≤ 900000) (hok : okOp o) (hz : ∀ q, Z q → q < w.heap.size) :
    Calls Tryz.prog 64 #[.pointer (some ⟨b, 0, none⟩)] w fun e w' => ∃ v, e = .returned v ∧ LfV (NewZ Z w.heap.size w') w' (wholeL o) v ∧ Below w.heap.size w w' := by
  obtain ⟨c, its, bar⟩ := o
  obtain ⟨h1, h2⟩ := hok
  unfold wholeL
  simp only at h1 h2 hb hcl hT hn ⊢
  by_cases hc : c = 125
  · subst hc
    rw [if_pos rfl]
    exact whole_t Z b its bar ol cl w hb hcl hT
  · rw [if_neg hc]
    have hc3 : c = 93 := h1.elim id (fun e => absurd e hc)
    subst hc3
    cases bar with
    | false => exact whole_l Z b its ol cl w hb hn hT hz
    | true =>
      obtain ⟨hne, _⟩ := h2 rfl
      obtain ⟨L, E, rfl⟩ : ∃ L E, its = L ++ [E] := ⟨its.dropLast, its.getLast hne, (List.dropLast_concat_getLast hne).symm⟩
      rw [if_pos rfl, List.getLast?_concat, List.dropLast_concat]
      simp only [List.length_append, List.length_cons, List.length_nil, Nat.zero_add] at hb hcl hn
      obtain ⟨pa, rfl⟩ : ∃ a, ol = some a := by
        cases L with
        | nil => unfold TR at hT; obtain ⟨a, _, ha, _⟩ := hT; exact ⟨a, ha⟩
        | cons q qs => rw [List.cons_append] at hT; unfold TR at hT; obtain ⟨a, _, ha, _⟩ := hT; exact ⟨a, ha⟩
      exact whole_b Z b L E pa cl w hb (by omega) hcl hT hz
end Go.Proofs.YtjacoodfhkaioabGreatDoor
namespace Go.Proofs.YtjacoodfhkaioabGreatDoor
open Go.ChangeShapes Go.WideShapes Go.ChangeAt Go.RowKit Go.Shelf
set_option linter.unusedSimpArgs false
set_option linter.unusedVariables false
set_option maxRecDepth 2000

theorem rd_top {B g : Nat} {Z : Nat → Prop} {r : List UInt8} {o : Op} {st : List Op} {us : List Un} {ov : Value} {w : World} (h : RdS B g Z r (o :: st) us ov w) :
    ∃ u us' q c, us = u :: us' ∧ RowM B Z w o u ∧ Apart u us' ∧ StkM B Z w st us' ∧ ov = .slice (some ⟨q, 0, none⟩) (st.length + 1) c ∧ w.cell? ⟨q, st.length, none⟩ = some (ptrU u) ∧ st.length + 1 ≤ c ∧ w.ownsRow B 67 1 (.slice (some ⟨q, 0, none⟩) st.length c) st.length (us'.reverse.map ptrU) := by
  obtain ⟨u, us', rfl, h1, h2, h3⟩ := h.stk
  have hl := h3.len
  have ho := h.own
  simp only [List.length_cons, List.reverse_cons, List.map_append, List.map_cons, List.map_nil] at ho
  rcases ho.2 with ⟨_, h0⟩ | ⟨q, c, cur, e, hq, hc, hn, hm, _⟩
  · simp at h0
  · subst e
    have hcell := ho.cells (g := q) rfl st.length (ptrU u) (by simp [hl])
    rw [addr_add, Nat.zero_add] at hcell
    exact ⟨u, us', q, c, rfl, h1, h2, h3, rfl, hcell, hn, own_cut ho (by simp [hl])⟩
/-- an element of seven cells is laid over noughts at the end -/
theorem own_last {w : World} {B g n c : Nat} {e : TypeId} {xs : List Value} {z0 z1 z2 z3 z4 z5 z6 : Value} (h : w.ownsRow B e 7 (.slice (some ⟨g, 0, none⟩) (n + 1) c) (n + 1) (xs ++ [z0, z1, z2, z3, z4, z5, z6])) (hx : xs.length = n * 7) (a0 a1 a2 a3 a4 a5 a6 : Value) (h1 : ∀ u ∈ [a0, a1, a2, a3, a4, a5, a6], u.oneCell' = true) :
    (((((((w.setCell ⟨g, n * 7, none⟩ a0).setCell ⟨g, n * 7 + 1, none⟩ a1).setCell ⟨g, n * 7 + 2, none⟩ a2).setCell ⟨g, n * 7 + 3, none⟩ a3).setCell ⟨g, n * 7 + 4, none⟩ a4).setCell ⟨g, n * 7 + 5, none⟩ a5).setCell ⟨g, n * 7 + 6, none⟩ a6).ownsRow B e 7 (.slice (some ⟨g, 0, none⟩) (n + 1) c) (n + 1) (xs ++ [a0, a1, a2, a3, a4, a5, a6]) := by
  have k := ((((((((((((h.stored (n * 7) a0).1).stored (n * 7 + 1) a1).1).stored (n * 7 + 2) a2).1).stored (n * 7 + 3) a3).1).stored (n * 7 + 4) a4).1).stored (n * 7 + 5) a5).1.stored (n * 7 + 6) a6).1
  rw [← hx] at k ⊢
  simpa [List.set_append] using k
theorem only_last (w : World) (g p : Nat) (a0 a1 a2 a3 a4 a5 a6 : Value) : Only g w (((((((w.setCell ⟨g, p, none⟩ a0).setCell ⟨g, p + 1, none⟩ a1).setCell ⟨g, p + 2, none⟩ a2).setCell ⟨g, p + 3, none⟩ a3).setCell ⟨g, p + 4, none⟩ a4).setCell ⟨g, p + 5, none⟩ a5).setCell ⟨g, p + 6, none⟩ a6) :=
  ((((((only_set w g p a0).setCell (p + 1) a1).setCell (p + 2) a2).setCell (p + 3) a3).setCell (p + 4) a4).setCell (p + 5) a5).setCell (p + 6) a6
/-- an element was stored into the row's last place, and the row into its object, in whatever order -/
structure Fin (B g2 b cap2 N : Nat) (xs : List Value) (c bar : Value) (wA wC : World) : Prop where
  os : wC.os = wA.os
  tape : wC.tape = wA.tape
  output : wC.output = wA.output
  size : wC.heap.size = wA.heap.size
  other : ∀ q, q ≠ g2 → q ≠ b → wC.heap[q]? = wA.heap[q]?
  own : wC.ownsRow B 26 7 (.slice (some ⟨g2, 0, none⟩) (N + 1) cap2) (N + 1) xs
  row : wC.heap[b]? = some (.cells #[c, .slice (some ⟨g2, 0, none⟩) (N + 1) cap2, bar] 101 (0, 0))
theorem finA {B g2 b cap2 N : Nat} {uxs : List Value} {c bar v0 z0 z1 z2 z3 z4 z5 z6 : Value} {wA : World} (h : wA.ownsRow B 26 7 (.slice (some ⟨g2, 0, none⟩) (N + 1) cap2) (N + 1) (uxs ++ [z0, z1, z2, z3, z4, z5, z6])) (hx : uxs.length = N * 7) (hb : wA.heap[b]? = some (.cells #[c, v0, bar] 101 (0, 0))) (hne : b ≠ g2) (a0 a1 a2 a3 a4 a5 a6 : Value) (h1 : ∀ u ∈ [a0, a1, a2, a3, a4, a5, a6], u.oneCell' = true) :
    Fin B g2 b cap2 N (uxs ++ [a0, a1, a2, a3, a4, a5, a6]) c bar wA ((((((((wA.setCell ⟨g2, N * 7, none⟩ a0).setCell ⟨g2, N * 7 + 1, none⟩ a1).setCell ⟨g2, N * 7 + 2, none⟩ a2).setCell ⟨g2, N * 7 + 3, none⟩ a3).setCell ⟨g2, N * 7 + 4, none⟩ a4).setCell ⟨g2, N * 7 + 5, none⟩ a5).setCell ⟨g2, N * 7 + 6, none⟩ a6).setCell ⟨b, 1, none⟩ (.slice (some ⟨g2, 0, none⟩) (N + 1) cap2)) := by
  have hon := only_last wA g2 (N * 7) a0 a1 a2 a3 a4 a5 a6
  have hown := own_last h hx a0 a1 a2 a3 a4 a5 a6 h1
  generalize (((((((wA.setCell ⟨g2, N * 7, none⟩ a0).setCell ⟨g2, N * 7 + 1, none⟩ a1).setCell ⟨g2, N * 7 + 2, none⟩ a2).setCell ⟨g2, N * 7 + 3, none⟩ a3).setCell ⟨g2, N * 7 + 4, none⟩ a4).setCell ⟨g2, N * 7 + 5, none⟩ a5).setCell ⟨g2, N * 7 + 6, none⟩ a6) = wB at *
  have ho2 := only_set wB b 1 (.slice (some ⟨g2, 0, none⟩) (N + 1) cap2)
  have hb2 := (hon.2.2 b hne).trans hb
  exact ⟨ho2.1.os.trans hon.1.os, ho2.1.tape.trans hon.1.tape, ho2.1.output.trans hon.1.output, ho2.2.1.trans hon.2.1, fun q h1 h2 => (ho2.2.2 q h2).trans (hon.2.2 q h1), own_blkS hown (fun q hq => ho2.2.2 q (fun e => by simp only [Value.ownBlock, Option.some.injEq] at hq; exact hne (e ▸ hq.symm))), heap_setc hb2 _⟩
theorem finB {B g2 b cap2 N : Nat} {uxs : List Value} {c bar v0 z0 z1 z2 z3 z4 z5 z6 : Value} {wA : World} (h : wA.ownsRow B 26 7 (.slice (some ⟨g2, 0, none⟩) (N + 1) cap2) (N + 1) (uxs ++ [z0, z1, z2, z3, z4, z5, z6])) (hx : uxs.length = N * 7) (hb : wA.heap[b]? = some (.cells #[c, v0, bar] 101 (0, 0))) (hne : b ≠ g2) (a0 a1 a2 a3 a4 a5 a6 : Value) (h1 : ∀ u ∈ [a0, a1, a2, a3, a4, a5, a6], u.oneCell' = true) :
    Fin B g2 b cap2 N (uxs ++ [a0, a1, a2, a3, a4, a5, a6]) c bar wA ((((((((wA.setCell ⟨b, 1, none⟩ (.slice (some ⟨g2, 0, none⟩) (N + 1) cap2)).setCell ⟨g2, N * 7, none⟩ a0).setCell ⟨g2, N * 7 + 1, none⟩ a1).setCell ⟨g2, N * 7 + 2, none⟩ a2).setCell ⟨g2, N * 7 + 3, none⟩ a3).setCell ⟨g2, N * 7 + 4, none⟩ a4).setCell ⟨g2, N * 7 + 5, none⟩ a5).setCell ⟨g2, N * 7 + 6, none⟩ a6) := by
  have ho2 := only_set wA b 1 (.slice (some ⟨g2, 0, none⟩) (N + 1) cap2)
  have hb2 : (wA.setCell ⟨b, 1, none⟩ (.slice (some ⟨g2, 0, none⟩) (N + 1) cap2)).heap[b]? = some (.cells #[c, .slice (some ⟨g2, 0, none⟩) (N + 1) cap2, bar] 101 (0, 0)) := heap_setc hb _
  have h2 := own_blkS h (w' := wA.setCell ⟨b, 1, none⟩ (.slice (some ⟨g2, 0, none⟩) (N + 1) cap2)) (fun q hq => ho2.2.2 q (fun e => by simp only [Value.ownBlock, Option.some.injEq] at hq; exact hne (e ▸ hq.symm)))
  generalize wA.setCell ⟨b, 1, none⟩ (.slice (some ⟨g2, 0, none⟩) (N + 1) cap2) = wB at *
  have hon := only_last wB g2 (N * 7) a0 a1 a2 a3 a4 a5 a6
  have hown := own_last h2 hx a0 a1 a2 a3 a4 a5 a6 h1
  generalize (((((((wB.setCell ⟨g2, N * 7, none⟩ a0).setCell ⟨g2, N * 7 + 1, none⟩ a1).setCell ⟨g2, N * 7 + 2, none⟩ a2).setCell ⟨g2, N * 7 + 3, none⟩ a3).setCell ⟨g2, N * 7 + 4, none⟩ a4).setCell ⟨g2, N * 7 + 5, none⟩ a5).setCell ⟨g2, N * 7 + 6, none⟩ a6) = wC at *
  exact ⟨hon.1.os.trans ho2.1.os, hon.1.tape.trans ho2.1.tape, hon.1.output.trans ho2.1.output, hon.2.1.trans ho2.2.1, fun q h1 h2 => (hon.2.2 q h1).trans (ho2.2.2 q h2), hown, (hon.2.2 b hne).trans hb2⟩
/-- what the popped row, and the rows behind it, are when an item was put -/
theorem put_mem {B g : Nat} {Z : Nat → Prop} {r : List UInt8} {o : Op} {st : List Op} {u : Un} {us' : List Un} {ov ov2 : Value} {w w3 wA wC : World} {T : Tm} {k : Int} {neg : Bool} {od : Option Addr} {ld cd : Nat} {nm : ByteArray} {n : Int} {ol : Option Addr} {ll cl : Nat} {ob : Option Addr} {lb cb g2 cap2 : Nat} {bar : Bool}
    (h : RdS B g Z r (o :: st) (u :: us') ov w) (hT : TV Z w T (tmV k neg (.slice od ld cd) nm n (.slice ol ll cl) (.slice ob lb cb)))
    (hR3 : Rdr g r ov2 w3) (hK3 : Kpt (fun b => b = g) w w3) (hov : ov2.ownBlock = ov.ownBlock) (hO3 : w3.ownsRow B 67 1 ov2 st.length (us'.reverse.map ptrU))
    (hg : w3.grownBy wA u.v.ownBlock) (hg2 : u.v.ownBlock = some g2 ∨ (w.heap.size ≤ g2 ∧ w3.heap.size ≤ g2)) (hF : Fin B g2 u.b cap2 o.its.length (u.xs ++ [.int .i64 k, .bool neg, .slice od ld cd, .string nm, .int .i64 n, .slice ol ll cl, .slice ob lb cb]) (.int .i32 (o.c.toNat : Int)) (.bool bar) wA wC) :
    RdS B g Z r st us' ov2 wC ∧ RowM B Z wC ⟨o.c, o.its ++ [T], bar⟩ ⟨u.b, .slice (some ⟨g2, 0, none⟩) (o.its.length + 1) cap2, u.xs ++ [.int .i64 k, .bool neg, .slice od ld cd, .string nm, .int .i64 n, .slice ol ll cl, .slice ob lb cb]⟩ ∧ Apart ⟨u.b, .slice (some ⟨g2, 0, none⟩) (o.its.length + 1) cap2, u.xs ++ [.int .i64 k, .bool neg, .slice od ld cd, .string nm, .int .i64 n, .slice ol ll cl, .slice ob lb cb]⟩ us' ∧ Kpt (FR B g) w wC := by
  obtain ⟨u0, us0, e0, hrow, hap, hst⟩ := h.stk
  injection e0 with e1 e2
  subst e1 e2
  have hul := hrow.lt
  have hs1 := hK3.size
  have hs2 := hg.size
  have hs3 := hF.size
  have hgl := h.rdr.lt
  have hub := hul u.b (.inl rfl)
  -- a block that was there, and is neither the reader, nor of this row
  have key : ∀ q, q < w.heap.size → q ≠ g → ¬ u.owns q → wC.heap[q]? = w.heap[q]? := fun q hq hqg hqu => by
    have n1 : q ≠ u.b := fun e => hqu (.inl e)
    have n2 : u.v.ownBlock ≠ some q := fun e => hqu (.inr e)
    have n3 : q ≠ g2 := fun e => by
      rcases hg2 with h2 | h2
      · exact n2 (e ▸ h2)
      · omega
    rw [hF.other q n3 n1, hg.block q (by omega) (fun e => n2 e.symm), hK3.block q hq hqg]
  have g_own : ¬ u.owns g := fun hk => by
    obtain ⟨c, e, hc, he⟩ := hrow.ty g hk
    exact h.ne_g hc (by rcases he with rfl | rfl <;> decide) rfl
  have hz : ∀ q, Z q → wC.heap[q]? = w.heap[q]? := fun q hq => key q (h.zl q hq) (fun e => h.zg (e ▸ hq)) (fun hk => hrow.nz q hk hq)
  have hother : ∀ u' ∈ us', ∀ q, u'.owns q → wC.heap[q]? = w.heap[q]? := fun u' hu' q hq => by
    obtain ⟨o', ho'⟩ := hst.mem u' hu'
    obtain ⟨c, e, hc, he⟩ := ho'.ty q hq
    exact key q (ho'.lt q hq).2 (h.ne_g hc (by rcases he with rfl | rfl <;> decide)) (fun hk => hap q hk u' hu' hq)
  have hgC : wC.heap[g]? = w3.heap[g]? := by
    have n1 : g ≠ u.b := fun e => g_own (.inl e)
    have n2 : u.v.ownBlock ≠ some g := fun e => g_own (.inr e)
    have n3 : g ≠ g2 := fun e => by
      rcases hg2 with h2 | h2
      · exact n2 (e ▸ h2)
      · omega
    rw [hF.other g n3 n1, hg.block g (by omega) (fun e => n2 e.symm)]
  have hoC : ∀ q, ov2.ownBlock = some q → wC.heap[q]? = w3.heap[q]? := fun q hq => by
    rw [hov] at hq
    obtain ⟨hqB, c, hc⟩ := h.oty q hq
    have hql := (World.ownsRow.lt h.own q hq).2
    have hqg : q ≠ g := h.ne_g hc (by decide)
    have hqu : ¬ u.owns q := fun hk => by
      obtain ⟨c', e, hc', he⟩ := hrow.ty q hk
      rw [hc] at hc'
      simp only [Option.some.injEq, Obj.cells.injEq] at hc'
      obtain ⟨_, rfl, _⟩ := hc'
      rcases he with he | he <;> revert he <;> decide
    exact (key q hql hqg hqu).trans (hK3.block q hql hqg).symm
  refine ⟨⟨⟨hgC.trans hR3.at_⟩, own_blkS hO3 hoC, hst.on hz hother (fun _ hk => hk) (fun u' hu' q hq => ?_), by have := h.gl; omega, fun q hq => by have := h.zl q hq; omega, h.zb, h.zg, fun q hq => h.zo q (hov ▸ hq)⟩, ⟨hF.row, ?_, ?_, hrow.lo, ?_⟩, ?_, ?_⟩
  · obtain ⟨o', ho'⟩ := hst.mem u' hu'
    exact ho'.nz q hq
  · rw [show (o.its ++ [T]).length = o.its.length + 1 by simp]
    exact hF.own
  · exact RC.snoc (TV.zs hz _ _ hT) (hrow.rc.zs hz)
  · rintro q (rfl | hq) hzq
    · exact hrow.nz _ (.inl rfl) hzq
    · simp only [Value.ownBlock, Option.some.injEq] at hq
      subst hq
      rcases hg2 with h2 | h2
      · exact hrow.nz _ (.inr h2) hzq
      · have := h.zl _ hzq; omega
  · rintro q (rfl | hq) u' hu' hk
    · exact hap _ (.inl rfl) u' hu' hk
    · simp only [Value.ownBlock, Option.some.injEq] at hq
      subst hq
      rcases hg2 with h2 | h2
      · exact hap _ (.inr h2) u' hu' hk
      · obtain ⟨o', ho'⟩ := hst.mem u' hu'
        have := (ho'.lt _ hk).2
        omega
  · exact ⟨by rw [hF.os, hg.os, hK3.os], by rw [hF.tape, hg.tape, hK3.tape], by rw [hF.output, hg.output, hK3.output], by omega, fun q hq hn => key q hq (fun e => hn (.inl e)) (fun hk => hn (.inr (hul q hk).1))⟩
theorem RowM.kpt {B g : Nat} {Z : Nat → Prop} {r : List UInt8} {st : List Op} {us : List Un} {ov : Value} {w w' : World} {o : Op} {u : Un} (h : RowM B Z w o u) (hS : RdS B g Z r st us ov w) (hK : Kpt (fun b => b = g) w w') : RowM B Z w' o u :=
  h.on (fun k hk => hK.block k (hS.zl k hk) (fun e => hS.zg (e ▸ hk))) (fun k hk => by
    obtain ⟨c, e, hc, he⟩ := h.ty k hk
    exact hK.block k (h.lt k hk).2 (hS.ne_g hc (by rcases he with rfl | rfl <;> decide))) (fun _ hk => hk) h.nz
theorem RdS.more {B g : Nat} {Z P : Nat → Prop} {r : List UInt8} {st : List Op} {us : List Un} {ov : Value} {w : World} (h : RdS B g Z r st us ov w) (hl : ∀ k, P k → B ≤ k ∧ k < w.heap.size) (hg : ¬ P g) (ho : ∀ k, ov.ownBlock = some k → ¬ P k) (hu : ∀ u ∈ us, ∀ k, u.owns k → ¬ P k) : RdS B g (fun k => Z k ∨ P k) r st us ov w :=
  ⟨h.rdr, h.own, h.stk.on (fun _ _ => rfl) (fun _ _ _ _ => rfl) (fun _ hk => .inl hk) (fun u hu' k hk => by
    obtain ⟨o, ho'⟩ := h.stk.mem u hu'
    exact fun hz => hz.elim (ho'.nz k hk) (hu u hu' k hk)), h.gl, fun k hk => hk.elim (h.zl k) (fun a => (hl k a).2), fun k hk => hk.elim (h.zb k) (fun a => (hl k a).1), fun hk => hk.elim h.zg hg, fun k hk hz => hz.elim (h.zo k hk) (ho k hk)⟩
/-- the zone of a row's items and its own row -/
def RowZ (Z : Nat → Prop) (v : Value) : Nat → Prop := fun k => Z k ∨ v.ownBlock = some k
theorem RowM.tr {B : Nat} {Z : Nat → Prop} {w : World} {o : Op} {b c : Nat} {ol : Option Addr} {xs : List Value} (h : RowM B Z w o ⟨b, .slice ol o.its.length c, xs⟩) : TR (RowZ Z (.slice ol o.its.length c)) w o.its ol := by
  refine own_trz (B := B) h.own (RC.mono (fun k _ hk => .inl hk) h.rc) (fun g hg _ _ => .inr ?_)
  rw [hg]; rfl
theorem put_end {B g : Nat} {Z : Nat → Prop} {r : List UInt8} {st : List Op} {us : List Un} {ov : Value} {w w' : World} {o : Op} {u : Un} {t : Option Tm} {v : Value} (hS : RdS B g Z r st us ov w) (hR : RowM B Z w o u) (hA : Apart u us) (hL : LfV (NewZ (RowZ Z u.v) w.heap.size w') w' t v) (hb : Below w.heap.size w w') : StH B g r st (hdO t) v w' := by
  have h1 : RdS B g (RowZ Z u.v) r st us ov w := hS.more (P := fun k => u.v.ownBlock = some k) (fun k hk => hR.lt k (.inr hk)) (fun hk => by
      obtain ⟨c, e, hc, he⟩ := hR.ty g (.inr hk)
      exact hS.ne_g hc (by rcases he with rfl | rfl <;> decide) rfl) (fun k hk hk2 => by
      obtain ⟨_, c, hc⟩ := hS.oty k hk
      obtain ⟨c', e, hc', he⟩ := hR.ty k (.inr hk2)
      rw [hc] at hc'
      simp only [Option.some.injEq, Obj.cells.injEq] at hc'
      obtain ⟨_, rfl, _⟩ := hc'
      rcases he with he | he <;> revert he <;> decide) (fun u' hu' k hk hk2 => hA k (.inr hk2) u' hu' hk)
  have h2 : RdS B g (NewZ (RowZ Z u.v) w.heap.size w') r st us ov w' := h1.on (h1.rdr.below hb) (Kpt.of_below hb) (fun k hk => .inl hk) (fun k hk => hk.elim (fun a => ⟨Nat.lt_of_lt_of_le (h1.zl k a) hb.size, .inl a⟩) (fun a => ⟨a.2, .inr a.1⟩))
  refine ⟨_, us, ov, h2, ?_⟩
  cases t with
  | none => exact hL
  | some T => exact hL
/-- the row's bar is set -/
theorem put_bar {B g : Nat} {Z : Nat → Prop} {r : List UInt8} {st : List Op} {us : List Un} {ov : Value} {w : World} {c : UInt8} {its : List Tm} {bar : Bool} {u : Un} (hS : RdS B g Z r st us ov w) (hR : RowM B Z w ⟨c, its, bar⟩ u) (hA : Apart u us) : RdS B g Z r st us ov (w.setCell ⟨u.b, 2, none⟩ (.bool true)) ∧ RowM B Z (w.setCell ⟨u.b, 2, none⟩ (.bool true)) ⟨c, its, true⟩ u := by
  have hon := only_set w u.b 2 (.bool true)
  have hrow : (w.setCell ⟨u.b, 2, none⟩ (.bool true)).heap[u.b]? = some (.cells #[.int .i32 (c.toNat : Int), u.v, .bool true] 101 (0, 0)) := heap_setc hR.at_ _
  generalize w.setCell ⟨u.b, 2, none⟩ (.bool true) = W at *
  have hz : ∀ k, Z k → W.heap[k]? = w.heap[k]? := fun k hk => hon.2.2 k (fun e => hR.nz _ (.inl rfl) (e ▸ hk))
  have hgb : g ≠ u.b := fun e => by
    have := hS.ne_g hR.at_ (by decide)
    exact this e.symm
  have hvb : ∀ k, u.v.ownBlock = some k → k ≠ u.b := fun k hk e => by
    subst e
    obtain ⟨_, ⟨h2, _⟩ | ⟨g', cap, cur, h2, _, hcc, _⟩⟩ := hR.own
    · rw [h2] at hk; simp [Value.ownBlock] at hk
    · rw [h2] at hk
      simp only [Value.ownBlock, Option.some.injEq] at hk
      subst hk
      rw [hR.at_] at hcc
      simp only [Option.some.injEq, Obj.cells.injEq] at hcc
      exact absurd hcc.2.1 (by decide)
  refine ⟨⟨⟨(hon.2.2 g hgb).trans hS.rdr.at_⟩, own_blkS hS.own (fun k hk => hon.2.2 k (fun e => ?_)), hS.stk.on hz (fun u' hu' k hk => hon.2.2 k (fun e => hA _ (.inl rfl) u' hu' (e ▸ hk))) (fun _ hk => hk) (fun u' hu' k hk => ?_), by rw [hon.2.1]; exact hS.gl, fun k hk => by rw [hon.2.1]; exact hS.zl k hk, hS.zb, hS.zg, hS.zo⟩, ⟨hrow, own_blkS hR.own (fun k hk => hon.2.2 k (hvb k hk)), hR.rc.zs hz, hR.lo, hR.nz⟩⟩
  · subst e
    obtain ⟨_, c', hc⟩ := hS.oty _ hk
    rw [hR.at_] at hc
    simp only [Option.some.injEq, Obj.cells.injEq] at hc
    exact absurd hc.2.1 (by decide)
  · obtain ⟨o', ho'⟩ := hS.stk.mem u' hu'
    exact ho'.nz k hk
end Go.Proofs.YtjacoodfhkaioabGreatDoor
