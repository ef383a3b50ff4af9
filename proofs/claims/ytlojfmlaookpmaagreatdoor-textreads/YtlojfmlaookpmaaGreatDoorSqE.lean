/- Texts of mine, one behind the other: Lays, RunesMath, TermSmall, TermCount, RunesSmall, RunesCount, RunesBuilder, RunesHex. -/
import Derived.Shelf.Small.Utf8
import Derived.Shelf.Small.Strs
import Derived.Shelf.Small.Wraps
import Derived.Shelf.Utf8.AppendRune
import Derived.Shelf.LaysM
import Derived.Shelf.Strconv.AppendIntPublic10
import Derived.Shelf.Strconv.Clone
import Derived.Shelf.Strings.Prefix
import Derived.Shelf.Unicode.DecodeAny
import Derived.Shelf.Unicode.ValidAny
import Derived.Shelf.Spec.EncodeRune
import Derived.Shelf.Spec.TrailingZeros
import Derived.Shelf.Lays7
import Derived.Ground.NamesProg
import Derived.Ground.Names7Prog
import Derived.Ground.Names2Prog
import Derived.Test.YtlojfmlaookpmaaGreatDoorProg
import Derived.Lib.ValidLaws
import Derived.Lib.MapLaws
import Derived.Lib.RuneBytes
import Derived.Test.YtlojfmlaookpmaaGreatDoorSqD
import Derived.Below
import Derived.Handy
import Derived.Deep.Light
import Derived.WalkKit
import Derived.Laws.Closers25
import Derived.Lib.OthersKept
import Derived.Test.YtlojfmlaookpmaaGreatDoorRows
import Derived.Lib.FrozenHead2
import Derived.Lib.UnsafeStr
import Derived.Shelf.Strings.Builder1
import Derived.Laws.IdiomStrings
set_option linter.unusedSimpArgs false
set_option linter.unusedVariables false
set_option maxRecDepth 2000
namespace Go.Proofs
open Go.Shelf
def Tryz.lays119_ren : Go.Shelf.Ren := ⟨fun | 119 => 127 | n => n, fun | 21 => 21 | 4 => 4 | n => n, fun | n => n⟩
theorem Tryz.lays119 : Go.Proofs.Lays.n119 Tryz.prog Tryz.lays119_ren := {
 mixed := by kernel_rfl
 f119 := Tryz.func127.trans (congrArg some (by kernel_rfl))
 t4 := Tryz.underlying4
 a4 := Tryz.isAgg4
 z4 := Tryz.sizeOf4
 v4 := Tryz.zeroValue4
 t21 := Tryz.underlying21
 a21 := Tryz.isAgg21
 z21 := Tryz.sizeOf21
 v21 := Tryz.zeroValue21 }
def Tryz.lays242_ren : Go.Shelf.Ren := ⟨fun | 242 => 74 | 278 => 103 | n => n, fun | 37 => 25 | 21 => 21 | 51 => 133 | 4 => 4 | 5 => 5 | 46 => 91 | n => n, fun | n => n⟩
theorem Tryz.lays242 : Go.Proofs.Lays.n242 Tryz.prog Tryz.lays242_ren := {
 mixed := by kernel_rfl
 f242 := Tryz.func74.trans (congrArg some (by kernel_rfl))
 f278 := Tryz.func103.trans (congrArg some (by kernel_rfl))
 t4 := Tryz.underlying4
 a4 := Tryz.isAgg4
 z4 := Tryz.sizeOf4
 v4 := Tryz.zeroValue4
 t5 := Tryz.underlying5
 a5 := Tryz.isAgg5
 z5 := Tryz.sizeOf5
 v5 := Tryz.zeroValue5
 t21 := Tryz.underlying21
 a21 := Tryz.isAgg21
 z21 := Tryz.sizeOf21
 v21 := Tryz.zeroValue21
 t37 := Tryz.underlying25
 a37 := Tryz.isAgg25
 z37 := Tryz.sizeOf25
 v37 := Tryz.zeroValue25
 t46 := Tryz.underlying91
 a46 := Tryz.isAgg91
 z46 := Tryz.sizeOf91
 v46 := Tryz.zeroValue91
 t51 := Tryz.underlying133
 a51 := Tryz.isAgg133
 z51 := Tryz.sizeOf133
 v51 := Tryz.zeroValue133 }
def Tryz.lays99_ren : Go.Shelf.Ren := ⟨fun | 99 => 120 | 206 => 139 | n => n, fun | 9 => 9 | 4 => 4 | 3 => 3 | n => n, fun | n => n⟩
theorem Tryz.lays99 : Go.Proofs.Lays.n99 Tryz.prog Tryz.lays99_ren := {
 mixed := by kernel_rfl
 f99 := Tryz.func120.trans (congrArg some (by kernel_rfl))
 f206 := Tryz.func139.trans (congrArg some (by kernel_rfl))
 t3 := Tryz.underlying3
 a3 := Tryz.isAgg3
 z3 := Tryz.sizeOf3
 v3 := Tryz.zeroValue3
 t4 := Tryz.underlying4
 a4 := Tryz.isAgg4
 z4 := Tryz.sizeOf4
 v4 := Tryz.zeroValue4
 t9 := Tryz.underlying9
 a9 := Tryz.isAgg9
 z9 := Tryz.sizeOf9
 v9 := Tryz.zeroValue9 }
def Tryz.lays197_ren : Go.Shelf.Ren := ⟨fun | 197 => 83 | 260 => 114 | n => n, fun | 9 => 9 | 21 => 21 | 3 => 3 | 4 => 4 | 5 => 5 | 105 => 122 | 119 => 87 | 0 => 0 | 46 => 91 | 139 => 90 | 138 => 89 | n => n, fun | 3 => 0 | 4 => 1 | n => n⟩
theorem Tryz.lays197 : Go.Proofs.Lays.n197 Tryz.prog Tryz.lays197_ren := {
 mixed := by kernel_rfl
 f197 := Tryz.func83.trans (congrArg some (by kernel_rfl))
 f260 := Tryz.func114.trans (congrArg some (by kernel_rfl))
 t0 := Tryz.underlying0
 a0 := Tryz.isAgg0
 z0 := Tryz.sizeOf0
 v0 := Tryz.zeroValue0
 t3 := Tryz.underlying3
 a3 := Tryz.isAgg3
 z3 := Tryz.sizeOf3
 v3 := Tryz.zeroValue3
 t4 := Tryz.underlying4
 a4 := Tryz.isAgg4
 z4 := Tryz.sizeOf4
 v4 := Tryz.zeroValue4
 t5 := Tryz.underlying5
 a5 := Tryz.isAgg5
 z5 := Tryz.sizeOf5
 v5 := Tryz.zeroValue5
 t9 := Tryz.underlying9
 a9 := Tryz.isAgg9
 z9 := Tryz.sizeOf9
 v9 := Tryz.zeroValue9
 t21 := Tryz.underlying21
 a21 := Tryz.isAgg21
 z21 := Tryz.sizeOf21
 v21 := Tryz.zeroValue21
 t46 := Tryz.underlying91
 a46 := Tryz.isAgg91
 z46 := Tryz.sizeOf91
 v46 := Tryz.zeroValue91
 t105 := Tryz.underlying122
 a105 := Tryz.isAgg122
 z105 := Tryz.sizeOf122
 v105 := Tryz.zeroValue122
 t119 := Tryz.underlying87
 a119 := Tryz.isAgg87
 z119 := Tryz.sizeOf87
 t138 := Tryz.underlying89
 a138 := Tryz.isAgg89
 z138 := Tryz.sizeOf89
 v138 := Tryz.zeroValue89
 t139 := Tryz.underlying90
 a139 := Tryz.isAgg90
 z139 := Tryz.sizeOf90
 v139 := Tryz.zeroValue90
 g3 := by kernel_rfl
 g4 := by kernel_rfl }
def Tryz.lays196_ren : Go.Shelf.Ren := ⟨fun | 196 => 22 | 259 => 47 | n => n, fun | 9 => 9 | 4 => 4 | 3 => 3 | 5 => 5 | 12 => 12 | 119 => 87 | 0 => 0 | 46 => 91 | 139 => 90 | 138 => 89 | 53 => 121 | n => n, fun | 3 => 0 | 4 => 1 | n => n⟩
theorem Tryz.lays196 : Go.Proofs.Lays.n196 Tryz.prog Tryz.lays196_ren := {
 mixed := by kernel_rfl
 f196 := Tryz.func22.trans (congrArg some (by kernel_rfl))
 f259 := Tryz.func47.trans (congrArg some (by kernel_rfl))
 t0 := Tryz.underlying0
 a0 := Tryz.isAgg0
 z0 := Tryz.sizeOf0
 v0 := Tryz.zeroValue0
 t3 := Tryz.underlying3
 a3 := Tryz.isAgg3
 z3 := Tryz.sizeOf3
 v3 := Tryz.zeroValue3
 t4 := Tryz.underlying4
 a4 := Tryz.isAgg4
 z4 := Tryz.sizeOf4
 v4 := Tryz.zeroValue4
 t5 := Tryz.underlying5
 a5 := Tryz.isAgg5
 z5 := Tryz.sizeOf5
 v5 := Tryz.zeroValue5
 t9 := Tryz.underlying9
 a9 := Tryz.isAgg9
 z9 := Tryz.sizeOf9
 v9 := Tryz.zeroValue9
 t12 := Tryz.underlying12
 a12 := Tryz.isAgg12
 z12 := Tryz.sizeOf12
 v12 := Tryz.zeroValue12
 t46 := Tryz.underlying91
 a46 := Tryz.isAgg91
 z46 := Tryz.sizeOf91
 v46 := Tryz.zeroValue91
 t53 := Tryz.underlying121
 a53 := Tryz.isAgg121
 z53 := Tryz.sizeOf121
 v53 := Tryz.zeroValue121
 t119 := Tryz.underlying87
 a119 := Tryz.isAgg87
 z119 := Tryz.sizeOf87
 t138 := Tryz.underlying89
 a138 := Tryz.isAgg89
 z138 := Tryz.sizeOf89
 v138 := Tryz.zeroValue89
 t139 := Tryz.underlying90
 a139 := Tryz.isAgg90
 z139 := Tryz.sizeOf90
 v139 := Tryz.zeroValue90
 g3 := by kernel_rfl
 g4 := by kernel_rfl }
def Tryz.lays7_27_ren : Go.Shelf.Ren := ⟨fun | 27 => 156 | 28 => 157 | 29 => 158 | n => n, fun | 25 => 91 | 3 => 3 | 27 => 133 | 22 => 121 | 4 => 4 | 53 => 187 | 0 => 0 | 5 => 5 | 54 => 188 | n => n, fun | 0 => 3 | 1 => 4 | n => n⟩
theorem Tryz.lays7_27 : Go.Proofs.Lays7.n27 Tryz.prog Tryz.lays7_27_ren := {
 mixed := by kernel_rfl
 f27 := Tryz.func156.trans (congrArg some (by kernel_rfl))
 f28 := Tryz.func157.trans (congrArg some (by kernel_rfl))
 f29 := Tryz.func158.trans (congrArg some (by kernel_rfl))
 t0 := Tryz.underlying0
 a0 := Tryz.isAgg0
 z0 := Tryz.sizeOf0
 v0 := Tryz.zeroValue0
 i0 := by kernel_rfl
 t3 := Tryz.underlying3
 a3 := Tryz.isAgg3
 z3 := Tryz.sizeOf3
 v3 := Tryz.zeroValue3
 i3 := by kernel_rfl
 t4 := Tryz.underlying4
 a4 := Tryz.isAgg4
 z4 := Tryz.sizeOf4
 v4 := Tryz.zeroValue4
 i4 := by kernel_rfl
 t5 := Tryz.underlying5
 a5 := Tryz.isAgg5
 z5 := Tryz.sizeOf5
 v5 := Tryz.zeroValue5
 i5 := by kernel_rfl
 t22 := Tryz.underlying121
 a22 := Tryz.isAgg121
 z22 := Tryz.sizeOf121
 v22 := Tryz.zeroValue121
 i22 := by kernel_rfl
 t25 := Tryz.underlying91
 a25 := Tryz.isAgg91
 z25 := Tryz.sizeOf91
 v25 := Tryz.zeroValue91
 i25 := by kernel_rfl
 t27 := Tryz.underlying133
 a27 := Tryz.isAgg133
 z27 := Tryz.sizeOf133
 v27 := Tryz.zeroValue133
 i27 := by kernel_rfl
 t53 := Tryz.underlying187
 a53 := Tryz.isAgg187
 z53 := Tryz.sizeOf187
 v53 := Tryz.zeroValue187
 i53 := by kernel_rfl
 t54 := Tryz.underlying188
 a54 := Tryz.isAgg188
 z54 := Tryz.sizeOf188
 g0 := by kernel_rfl
 g1 := by kernel_rfl }
def Tryz.laysM176_ren : Go.Shelf.Ren := ⟨fun | 176 => 113 | 249 => 136 | 288 => 143 | 283 => 147 | 284 => 148 | 285 => 149 | 286 => 150 | 129 => 153 | 317 => 152 | 318 => 154 | 319 => 155 | 320 => 156 | 337 => 157 | 338 => 158 | n => n, fun | 37 => 25 | 2 => 2 | 3 => 3 | 53 => 121 | 4 => 4 | 9 => 9 | 171 => 174 | 0 => 0 | 173 => 177 | 212 => 182 | 51 => 133 | 5 => 5 | 20 => 20 | 213 => 183 | 46 => 91 | 232 => 187 | 233 => 188 | n => n, fun | 17 => 2 | 18 => 3 | 19 => 4 | n => n⟩
theorem Tryz.laysM176 : Go.Proofs.LaysM.n176 Tryz.prog Tryz.laysM176_ren := {
 mixed := by kernel_rfl
 f129 := Tryz.func153.trans (congrArg some (by kernel_rfl))
 f176 := Tryz.func113.trans (congrArg some (by kernel_rfl))
 f249 := Tryz.func136.trans (congrArg some (by kernel_rfl))
 f283 := Tryz.func147.trans (congrArg some (by kernel_rfl))
 f284 := Tryz.func148.trans (congrArg some (by kernel_rfl))
 f285 := Tryz.func149.trans (congrArg some (by kernel_rfl))
 f286 := Tryz.func150.trans (congrArg some (by kernel_rfl))
 f288 := Tryz.func143.trans (congrArg some (by kernel_rfl))
 f317 := Tryz.func152.trans (congrArg some (by kernel_rfl))
 f318 := Tryz.func154.trans (congrArg some (by kernel_rfl))
 f319 := Tryz.func155.trans (congrArg some (by kernel_rfl))
 f320 := Tryz.func156.trans (congrArg some (by kernel_rfl))
 f337 := Tryz.func157.trans (congrArg some (by kernel_rfl))
 f338 := Tryz.func158.trans (congrArg some (by kernel_rfl))
 t0 := Tryz.underlying0
 a0 := Tryz.isAgg0
 z0 := Tryz.sizeOf0
 v0 := Tryz.zeroValue0
 t2 := Tryz.underlying2
 a2 := Tryz.isAgg2
 z2 := Tryz.sizeOf2
 v2 := Tryz.zeroValue2
 t3 := Tryz.underlying3
 a3 := Tryz.isAgg3
 z3 := Tryz.sizeOf3
 v3 := Tryz.zeroValue3
 t4 := Tryz.underlying4
 a4 := Tryz.isAgg4
 z4 := Tryz.sizeOf4
 v4 := Tryz.zeroValue4
 t5 := Tryz.underlying5
 a5 := Tryz.isAgg5
 z5 := Tryz.sizeOf5
 v5 := Tryz.zeroValue5
 t9 := Tryz.underlying9
 a9 := Tryz.isAgg9
 z9 := Tryz.sizeOf9
 v9 := Tryz.zeroValue9
 t20 := Tryz.underlying20
 a20 := Tryz.isAgg20
 z20 := Tryz.sizeOf20
 v20 := Tryz.zeroValue20
 t37 := Tryz.underlying25
 a37 := Tryz.isAgg25
 z37 := Tryz.sizeOf25
 v37 := Tryz.zeroValue25
 t46 := Tryz.underlying91
 a46 := Tryz.isAgg91
 z46 := Tryz.sizeOf91
 v46 := Tryz.zeroValue91
 t51 := Tryz.underlying133
 a51 := Tryz.isAgg133
 z51 := Tryz.sizeOf133
 v51 := Tryz.zeroValue133
 t53 := Tryz.underlying121
 a53 := Tryz.isAgg121
 z53 := Tryz.sizeOf121
 v53 := Tryz.zeroValue121
 t171 := Tryz.underlying174
 a171 := Tryz.isAgg174
 z171 := Tryz.sizeOf174
 v171 := Tryz.zeroValue174
 t173 := Tryz.underlying177
 a173 := Tryz.isAgg177
 z173 := Tryz.sizeOf177
 v173 := Tryz.zeroValue177
 t212 := Tryz.underlying182
 a212 := Tryz.isAgg182
 z212 := Tryz.sizeOf182
 v212 := Tryz.zeroValue182
 t213 := Tryz.underlying183
 a213 := Tryz.isAgg183
 z213 := Tryz.sizeOf183
 t232 := Tryz.underlying187
 a232 := Tryz.isAgg187
 z232 := Tryz.sizeOf187
 v232 := Tryz.zeroValue187
 t233 := Tryz.underlying188
 a233 := Tryz.isAgg188
 z233 := Tryz.sizeOf188
 v233 := Tryz.zeroValue188
 g17 := by kernel_rfl
 g18 := by kernel_rfl
 g19 := by kernel_rfl
 i0 := by kernel_rfl
 i2 := by kernel_rfl
 i3 := by kernel_rfl
 i4 := by kernel_rfl
 i5 := by kernel_rfl
 i9 := by kernel_rfl
 i20 := by kernel_rfl
 i37 := by kernel_rfl
 i46 := by kernel_rfl
 i51 := by kernel_rfl
 i53 := by kernel_rfl
 i171 := by kernel_rfl
 i173 := by kernel_rfl
 i212 := by kernel_rfl
 i232 := by kernel_rfl
 i233 := by kernel_rfl
 m17 := by kernel_rfl
 m18 := by kernel_rfl
 m19 := by kernel_rfl }
def Tryz.lays103_ren : Go.Shelf.Ren := ⟨fun | 103 => 117 | 210 => 138 | 206 => 139 | n => n, fun | 9 => 9 | 4 => 4 | 24 => 151 | 3 => 3 | n => n, fun | n => n⟩
theorem Tryz.lays103 : Go.Proofs.Lays.n103 Tryz.prog Tryz.lays103_ren := {
 mixed := by kernel_rfl
 f103 := Tryz.func117.trans (congrArg some (by kernel_rfl))
 f206 := Tryz.func139.trans (congrArg some (by kernel_rfl))
 f210 := Tryz.func138.trans (congrArg some (by kernel_rfl))
 t3 := Tryz.underlying3
 a3 := Tryz.isAgg3
 z3 := Tryz.sizeOf3
 v3 := Tryz.zeroValue3
 t4 := Tryz.underlying4
 a4 := Tryz.isAgg4
 z4 := Tryz.sizeOf4
 v4 := Tryz.zeroValue4
 t9 := Tryz.underlying9
 a9 := Tryz.isAgg9
 z9 := Tryz.sizeOf9
 v9 := Tryz.zeroValue9
 t24 := Tryz.underlying151
 a24 := Tryz.isAgg151
 z24 := Tryz.sizeOf151
 v24 := Tryz.zeroValue151 }
def Tryz.laysM316_ren : Go.Shelf.Ren := ⟨fun | 316 => 130 | n => n, fun | 9 => 9 | 3 => 3 | 4 => 4 | 37 => 25 | 0 => 0 | 127 => 165 | 5 => 5 | n => n, fun | n => n⟩
theorem Tryz.laysM316 : Go.Proofs.LaysM.n316 Tryz.prog Tryz.laysM316_ren := {
 mixed := by kernel_rfl
 f316 := Tryz.func130.trans (congrArg some (by kernel_rfl))
 t0 := Tryz.underlying0
 a0 := Tryz.isAgg0
 z0 := Tryz.sizeOf0
 v0 := Tryz.zeroValue0
 t3 := Tryz.underlying3
 a3 := Tryz.isAgg3
 z3 := Tryz.sizeOf3
 v3 := Tryz.zeroValue3
 t4 := Tryz.underlying4
 a4 := Tryz.isAgg4
 z4 := Tryz.sizeOf4
 v4 := Tryz.zeroValue4
 t9 := Tryz.underlying9
 a9 := Tryz.isAgg9
 z9 := Tryz.sizeOf9
 v9 := Tryz.zeroValue9
 t37 := Tryz.underlying25
 a37 := Tryz.isAgg25
 z37 := Tryz.sizeOf25
 v37 := Tryz.zeroValue25
 t127 := Tryz.underlying165
 a127 := Tryz.isAgg165
 z127 := Tryz.sizeOf165
 v127 := Tryz.zeroValue165
 t5 := Tryz.underlying5
 a5 := Tryz.isAgg5
 z5 := Tryz.sizeOf5
 v5 := Tryz.zeroValue5
 i0 := by kernel_rfl
 i3 := by kernel_rfl
 i4 := by kernel_rfl
 i5 := by kernel_rfl
 i9 := by kernel_rfl
 i37 := by kernel_rfl
 i127 := by kernel_rfl }
end Go.Proofs
namespace Go.Proofs.YtlojfmlaookpmaaGreatDoor
open Go.Lib
def sgGo : Nat → List UInt8 → List Nat
 | 0, _ => []
 | n + 1, l => if l = [] then [] else (decodeL l).1 :: sgGo n (l.drop (decodeL l).2)
def sg (l : List UInt8) : List Nat := sgGo l.length l
def okR (r : Nat) : Prop := r < 55296 ∨ (57344 ≤ r ∧ r ≤ 1114111)
def okRs (rs : List Nat) : Prop := ∀ r ∈ rs, okR r
def e1 (r : Nat) : List UInt8 := encodeRune (r : Int)
def en : List Nat → List UInt8
 | [] => []
 | r :: t => e1 r ++ en t
theorem sgGo_nil : ∀ n, sgGo n [] = []
 | 0 => rfl
 | _ + 1 => by simp [sgGo]
theorem sgGo_fuel : ∀ (n m : Nat) (l : List UInt8), l.length ≤ n → l.length ≤ m → sgGo n l = sgGo m l
 | 0, m, l, hn, _ => by
   have : l = [] := List.eq_nil_of_length_eq_zero (by omega)
   subst this; rw [sgGo_nil, sgGo_nil]
 | n + 1, 0, l, _, hm => by
   have : l = [] := List.eq_nil_of_length_eq_zero (by omega)
   subst this; rw [sgGo_nil, sgGo_nil]
 | n + 1, m + 1, l, hn, hm => by
   unfold sgGo
   by_cases hne : l = []
   · simp [hne]
   · have hw := decodeL_width l
     have hl : 0 < l.length := List.length_pos_iff.2 hne
     rw [if_neg hne, if_neg hne, sgGo_fuel n m (l.drop (decodeL l).2) (by rw [List.length_drop]; omega) (by rw [List.length_drop]; omega)]
theorem sg_nil : sg [] = [] := rfl
theorem sg_step (l : List UInt8) (hne : l ≠ []) : sg l = (decodeL l).1 :: sg (l.drop (decodeL l).2) := by
 have hl : 0 < l.length := List.length_pos_iff.2 hne
 have hw := decodeL_width l
 obtain ⟨n, hn⟩ : ∃ n, l.length = n + 1 := ⟨l.length - 1, by omega⟩
 unfold sg
 rw [hn]
 show (if l = [] then [] else _) = _
 rw [if_neg hne, sgGo_fuel n (l.drop (decodeL l).2).length _ (by rw [List.length_drop]; omega) (Nat.le_refl _)]
theorem sg_at (s : ByteArray) (pos : Nat) (h : pos < s.size) : sg (s.data.toList.drop pos) = (Utf8.decode s pos).1 :: sg (s.data.toList.drop (pos + (Utf8.decode s pos).2)) := by
 have hs : s.data.toList.length = s.size := rfl
 rw [sg_step _ (by intro e; have := congrArg List.length e; simp [List.length_drop] at this; omega), decodeL_drop, List.drop_drop]
theorem sg_end (s : ByteArray) (pos : Nat) (h : ¬ pos < s.size) : sg (s.data.toList.drop pos) = [] := by
 have hs : s.data.toList.length = s.size := rfl
 rw [List.drop_eq_nil_of_le (by omega)]; rfl
theorem sg_le : ∀ l : List UInt8, (sg l).length ≤ l.length := by
 have h : ∀ (n : Nat) (l : List UInt8), (sgGo n l).length ≤ n := by
   intro n
   induction n with
   | zero => intro l; simp [sgGo]
   | succ n ih =>
     intro l; unfold sgGo; split
     · simp
     · have := ih (l.drop (decodeL l).2); simp; omega
 exact fun l => h _ l
theorem okR_decode (l : List UInt8) (hne : l ≠ []) : okR (decodeL l).1 := by
 have k0 := (l.getD 0 0).toNat_lt
 rw [decodeL_N]
 unfold okR
 rcases decodeN_shape l.length (l.getD 0 0).toNat (l.getD 1 0).toNat (l.getD 2 0).toNat (l.getD 3 0).toNat with ⟨c, e⟩ | ⟨c1, c2, c3, cv, e⟩ | ⟨c1, c2, c3, c4, cv, cs, e⟩ | ⟨c1, c2, c3, c4, c5, cv, cw, e⟩ | e
 all_goals (rw [e]; dsimp only; omega)
theorem okRs_sg (l : List UInt8) : okRs (sg l) := by
 have h : ∀ (n : Nat) (l : List UInt8), okRs (sgGo n l) := by
   intro n
   induction n with
   | zero => intro l r hr; simp [sgGo] at hr
   | succ n ih =>
     intro l r hr
     unfold sgGo at hr
     split at hr
     · simp at hr
     · rename_i hne
       rcases List.mem_cons.1 hr with rfl | hr
       · exact okR_decode l hne
       · exact ih _ r hr
 exact h _ l
theorem en_sg : ∀ (n : Nat) (l : List UInt8), l.length ≤ n → validD l = true → en (sg l) = l := by
 intro n
 induction n with
 | zero =>
   intro l hl _
   have : l = [] := List.eq_nil_of_length_eq_zero (by omega)
   subst this; rfl
 | succ n ih =>
   intro l hl hv
   by_cases hne : l = []
   · subst hne; rfl
   · have hw := decodeL_width l
     have hp : 0 < l.length := List.length_pos_iff.2 hne
     rw [validD_step l hne] at hv
     split at hv
     · cases hv
     · rename_i hb
       rw [sg_step l hne]
       show e1 _ ++ en _ = l
       rw [ih (l.drop (decodeL l).2) (by rw [List.length_drop]; omega) hv]
       unfold e1
       rw [encode_decode l hne hb]
       exact List.take_append_drop _ _
theorem en_of_valid {l : List UInt8} (h : validD l = true) : en (sg l) = l := en_sg _ l (Nat.le_refl _) h
theorem e1_length (r : Nat) : 1 ≤ (e1 r).length ∧ (e1 r).length ≤ 4 := by
 have := runeCells_le (r : Int)
 rw [runeCells_length] at this
 exact this
theorem e1_ascii (r : Nat) (h : r < 128) : e1 r = [r.toUInt8] := by
 unfold e1 encodeRune
 rw [encodeRuneZ_one (by omega) (by omega)]
 simp
theorem e1_ne (r : Nat) : e1 r ≠ [] := by
 intro e; have := (e1_length r).1; rw [e] at this; simp at this
theorem toU (n : Nat) (h : n < 256) : (n.toUInt8).toNat = n := by
 simp; omega
theorem decode_e1 (r : Nat) (h : okR r) (t : List UInt8) : decodeL (e1 r ++ t) = (r, (e1 r).length) := by
 rw [decodeL_N]
 unfold okR at h
 by_cases h1 : r < 128
 · rw [e1_ascii r h1]
   simp only [List.cons_append, List.nil_append, List.getD_cons_zero, List.length_cons, List.length_nil]
   rw [decodeN_ascii _ _ _ _ _ (by rw [toU r (by omega)]; exact h1), toU r (by omega)]
 by_cases h2 : r ≤ 2047
 · have e : e1 r = [(192 + r / 64).toUInt8, (128 + r % 64).toUInt8] := by
     unfold e1 encodeRune
     rw [encodeRuneZ_two (by omega) (by omega)]
     simp only [List.map_cons, List.map_nil]
     congr 1
   rw [e]
   simp only [List.cons_append, List.nil_append, List.getD_cons_zero, List.getD_cons_succ, List.length_cons, List.length_nil]
   rw [toU _ (by omega), toU _ (by omega)]
   unfold decodeN
   rw [if_neg (by omega), if_pos ⟨by omega, by omega, by omega⟩, if_pos (by omega)]
   congr 1
   omega
 by_cases h3 : r ≤ 65535
 · have e : e1 r = [(224 + r / 4096).toUInt8, (128 + r / 64 % 64).toUInt8, (128 + r % 64).toUInt8] := by
     unfold e1 encodeRune
     rw [encodeRuneZ_three (by omega)]
     simp only [List.map_cons, List.map_nil]
     congr 1
   rw [e]
   simp only [List.cons_append, List.nil_append, List.getD_cons_zero, List.getD_cons_succ, List.length_cons, List.length_nil]
   rw [toU _ (by omega), toU _ (by omega), toU _ (by omega)]
   have ev : (224 + r / 4096) % 16 * 4096 + (128 + r / 64 % 64) % 64 * 64 + (128 + r % 64) % 64 = r := by omega
   unfold decodeN
   rw [ev, if_neg (by omega), if_neg (by omega), if_pos ⟨by omega, ⟨by omega, by omega⟩, by omega, by omega⟩, if_pos ⟨by omega, by omega⟩]
 · have e : e1 r = [(240 + r / 262144).toUInt8, (128 + r / 4096 % 64).toUInt8, (128 + r / 64 % 64).toUInt8, (128 + r % 64).toUInt8] := by
     unfold e1 encodeRune
     rw [encodeRuneZ_four (by omega) (by omega)]
     simp only [List.map_cons, List.map_nil]
     congr 1
   rw [e]
   simp only [List.cons_append, List.nil_append, List.getD_cons_zero, List.getD_cons_succ, List.length_cons, List.length_nil]
   rw [toU _ (by omega), toU _ (by omega), toU _ (by omega), toU _ (by omega)]
   have ev : (240 + r / 262144) % 8 * 262144 + (128 + r / 4096 % 64) % 64 * 4096 + (128 + r / 64 % 64) % 64 * 64 + (128 + r % 64) % 64 = r := by omega
   unfold decodeN
   rw [ev, if_neg (by omega), if_neg (by omega), if_neg (by omega), if_pos ⟨by omega, ⟨by omega, by omega⟩, ⟨by omega, by omega⟩, by omega, by omega⟩, if_pos ⟨by omega, by omega⟩]
theorem okR_not_bad (r : Nat) (h : okR r) : ¬ (r = 65533 ∧ (e1 r).length = 1) := by
 rintro ⟨rfl, h1⟩
 revert h1
 unfold e1 encodeRune
 rw [encodeRuneZ_three (by omega)]
 simp
theorem sg_e1 (r : Nat) (h : okR r) (t : List UInt8) : sg (e1 r ++ t) = r :: sg t := by
 rw [sg_step _ (by simp [e1_ne]), decode_e1 r h t]
 simp
theorem valid_e1 (r : Nat) (h : okR r) (t : List UInt8) : validD (e1 r ++ t) = validD t := by
 rw [validD_step _ (by simp [e1_ne]), decode_e1 r h t]
 rw [if_neg (okR_not_bad r h)]
 simp
theorem okRs_cons {r : Nat} {t : List Nat} (h : okRs (r :: t)) : okR r ∧ okRs t := ⟨h r (by simp), fun x hx => h x (by simp [hx])⟩
theorem okRs_append {a b : List Nat} (ha : okRs a) (hb : okRs b) : okRs (a ++ b) := fun x hx => by
 rcases List.mem_append.1 hx with h | h
 · exact ha x h
 · exact hb x h
theorem okRs_nil : okRs [] := fun x hx => by simp at hx
theorem sg_en : ∀ (rs : List Nat), okRs rs → ∀ t, sg (en rs ++ t) = rs ++ sg t
 | [], _, t => rfl
 | r :: rs, h, t => by
   show sg ((e1 r ++ en rs) ++ t) = r :: (rs ++ sg t)
   rw [List.append_assoc, sg_e1 r (okRs_cons h).1, sg_en rs (okRs_cons h).2 t]
theorem valid_en : ∀ (rs : List Nat), okRs rs → ∀ t, validD (en rs ++ t) = validD t
 | [], _, t => rfl
 | r :: rs, h, t => by
   show validD ((e1 r ++ en rs) ++ t) = _
   rw [List.append_assoc, valid_e1 r (okRs_cons h).1, valid_en rs (okRs_cons h).2 t]
theorem sg_en0 (rs : List Nat) (h : okRs rs) : sg (en rs) = rs := by
 have := sg_en rs h []
 simpa [sg_nil] using this
theorem valid_en0 (rs : List Nat) (h : okRs rs) : validD (en rs) = true := by
 have := valid_en rs h []
 simpa [validD_nil] using this
theorem en_append : ∀ a b : List Nat, en (a ++ b) = en a ++ en b
 | [], b => rfl
 | r :: a, b => by
   show e1 r ++ en (a ++ b) = (e1 r ++ en a) ++ en b
   rw [en_append a b, List.append_assoc]
theorem en_one (r : Nat) : en [r] = e1 r := by simp [en]
theorem en_eq_nil {a : List Nat} : en a = [] ↔ a = [] := by
 cases a with
 | nil => simp [en]
 | cons r t => simp [en, e1_ne]
theorem valid_iff (l : List UInt8) : validD l = true ↔ ∃ rs, okRs rs ∧ l = en rs :=
 ⟨fun h => ⟨sg l, okRs_sg l, (en_of_valid h).symm⟩, fun ⟨rs, ho, e⟩ => e ▸ valid_en0 rs ho⟩
def countZ (l : List UInt8) : Int := if validD l then ((sg l).length : Int) else -1
def bareB (r : Nat) (first : Bool) : Bool :=
 (decide (97 ≤ r) && decide (r ≤ 122)) || (!first && ((decide (65 ≤ r) && decide (r ≤ 90)) || (decide (48 ≤ r) && decide (r ≤ 57)) || decide (r = 95) || decide (r = 64)))
def plainGo (first : Bool) : List Nat → Bool
 | [] => true
 | r :: t => bareB r first && plainGo false t
def plainB (l : List UInt8) : Bool := plainGo true (sg l) && decide (l ≠ [])
end Go.Proofs.YtlojfmlaookpmaaGreatDoor
namespace Go.Proofs.YtlojfmlaookpmaaGreatDoor
open Go.ChangeShapes Go.WideShapes Go.ChangeAt Go.RowKit Go.Shelf
theorem validString_w (s : ByteArray) (w : World) (hs : s.size ≤ 9223372036854775807) (hT : Lib.Utf8Tabs 0 1 w) :
   Calls Tryz.prog 22 #[.string s] w fun e w' => e = .returned (.bool (Lib.validD s.data.toList)) ∧ Below w.heap.size w w' := Any.utf8_ValidString Tryz.lays196 s w hs hT
theorem sliteClone_w (s : ByteArray) (w : World) (hlim : s.size ≤ 281474976710656) :
   Calls Tryz.prog 130 #[.string s] w fun e w' => e = .returned (.string s) ∧ Below w.heap.size w w' := Any.stringslite_Clone Tryz.laysM316 s w hlim
theorem sclone_w (s : ByteArray) (w : World) (hlim : s.size ≤ 281474976710656) :
   Calls Tryz.prog 109 #[.string s] w fun e w' => e = .returned (.string s) ∧ Below w.heap.size w w' := by
 go_enter Tryz.func109, Tryz.ntmps109
 go_wp2_with (go_at_call 130; refine (sliteClone_w s _ hlim).mono ?_; rintro e w1 ⟨rfl, hb⟩)
 go_ret
 exact ⟨rfl, hb⟩
theorem isEmpty_bytes (s : ByteArray) : (!s.toList.isEmpty) = decide (s.data.toList ≠ []) := by
 rw [← decide_eq_emptyBytes, ← decide_not, decide_eq_decide]
 constructor
 · intro h e; apply h; cases s with | mk d => (simp at e; subst e; rfl)
 · rintro h rfl; exact h rfl
theorem valid_w (s : ByteArray) (w : World) (hs : s.size ≤ 9223372036854775807) (hT : Lib.Utf8Tabs 0 1 w) :
   Calls Tryz.prog 13 #[.string s] w fun e w' => e = .returned (.bool (Lib.validD s.data.toList)) ∧ Below w.heap.size w w' := by
 go_enter Tryz.func13, Tryz.ntmps13
 go_wp2_with (go_at_call 22; refine (validString_w s _ hs hT).mono ?_; rintro e w1 ⟨rfl, hb⟩)
 go_ret
 exact ⟨rfl, hb⟩
theorem rvalid_w (s : ByteArray) (w : World) (hs : s.size ≤ 9223372036854775807) (hT : Lib.Utf8Tabs 0 1 w) :
   Calls Tryz.prog 16 #[.string s] w fun e w' => e = .returned (.bool (Lib.validD s.data.toList)) ∧ Below w.heap.size w w' := by
 go_enter Tryz.func16, Tryz.ntmps16
 go_wp2_with (go_at_call 22; refine (validString_w s _ hs hT).mono ?_; rintro e w1 ⟨rfl, hb⟩)
 go_ret
 exact ⟨rfl, hb⟩
theorem iter_fresh {w w1 : World} (hb : Below w.heap.size w w1) (s : ByteArray) : (w1.iter s 0).heap[w1.heap.size]? = some (.stringIter s 0) ∧ Below w.heap.size w (w1.iter s 0) :=
 ⟨World.iter_heap w1 s 0, hb.alloc hb.size _⟩
set_option maxHeartbeats 1000000 in
theorem count_w (s : ByteArray) (w : World) (hs : s.size ≤ 9223372036854775807) (hT : Lib.Utf8Tabs 0 1 w) :
   Calls Tryz.prog 96 #[.string s] w fun e w' => e = .returned (.int .i64 (countZ s.data.toList)) ∧ Below w.heap.size w w' := by
 obtain ⟨R, hR⟩ : ∃ R, countZ s.data.toList = R := ⟨_, rfl⟩
 rw [hR]
 unfold countZ at hR
 by_cases hv : Lib.validD s.data.toList = true
 · rw [if_pos hv] at hR
   go_enter Tryz.func96, Tryz.ntmps96
   go_wp2_with (go_at_call 13; refine (valid_w s _ hs hT).mono ?_; rintro e w1 ⟨rfl, hb⟩)
   go_loopw [3] (fun n wr => ∃ (pos k : Nat), n = .int .i64 (k : Int) ∧ k ≤ pos ∧ wr.heap[w1.heap.size]? = some (.stringIter s pos) ∧ Below w.heap.size w wr ∧ Hid (k + (sg (s.data.toList.drop pos)).length = (sg s.data.toList).length)) (fun _ wr => s.size - wr.iterPos w1.heap.size)
   case atStart => exact ⟨0, 0, rfl, Nat.le_refl _, (iter_fresh hb s).1, (iter_fresh hb s).2, hid (by simp)⟩
   case round =>
     obtain ⟨pos, k, rfl, hkp, hit, hbw, hH⟩ := hrel
     by_cases hp : pos < s.size
     · have hnx : ∀ ty, (Instr.next (.pointer (some ⟨w1.heap.size, 0, none⟩)) true ty).run Tryz.prog wr = _ := fun ty => Lib.run_next_any_at wr w1.heap.size s pos ty hit hp
       have hwd := Lib.width_pos s pos
       have hit2 := Lib.iterAt_heap wr w1.heap.size s pos (pos + (Utf8.decode s pos).2) hit
       have hbw2 := Lib.below_iterAt hbw (k := w1.heap.size) hb.size s (pos + (Utf8.decode s pos).2)
       have hst : Hid (sg (s.data.toList.drop pos) = _) := hid (sg_at s pos hp)
       go_wp2
       go_roundw
       case rel =>
         refine ⟨pos + (Utf8.decode s pos).2, k + 1, by go_num, by omega, hit2, hbw2, hid ?_⟩
         have h1 := hH.out
         rw [hst.out] at h1
         simp only [List.length_cons] at h1
         omega
       case measure =>
         simp only [World.iterPos, hit2, hit]
         omega
     · have hnx : ∀ ty, (Instr.next (.pointer (some ⟨w1.heap.size, 0, none⟩)) true ty).run Tryz.prog wr = _ := fun ty => Lib.run_next_end_at wr w1.heap.size s pos ty hit hp
       go_wp2
       go_ret
       have h1 := hH.out
       rw [sg_end s pos hp] at h1
       refine ⟨?_, hbw⟩
       rw [← hR, ← h1]
       simp
 · rw [if_neg hv] at hR
   subst hR
   have hv' : Lib.validD s.data.toList = false := by simpa using hv
   go_enter Tryz.func96, Tryz.ntmps96
   go_wp2_with (go_at_call 13; refine (valid_w s _ hs hT).mono ?_; rintro e w1 ⟨rfl, hb⟩)
   go_ret
   exact ⟨rfl, hb⟩
set_option maxHeartbeats 1000000 in
theorem rcount_w (s : ByteArray) (w : World) (hs : s.size ≤ 9223372036854775807) (hT : Lib.Utf8Tabs 0 1 w) :
   Calls Tryz.prog 72 #[.string s] w fun e w' => e = .returned (.int .i64 (countZ s.data.toList)) ∧ Below w.heap.size w w' := by
 obtain ⟨R, hR⟩ : ∃ R, countZ s.data.toList = R := ⟨_, rfl⟩
 rw [hR]
 unfold countZ at hR
 by_cases hv : Lib.validD s.data.toList = true
 · rw [if_pos hv] at hR
   go_enter Tryz.func72, Tryz.ntmps72
   go_wp2_with (go_at_call 16; refine (rvalid_w s _ hs hT).mono ?_; rintro e w1 ⟨rfl, hb⟩)
   go_loopw [3] (fun n wr => ∃ (pos k : Nat), n = .int .i64 (k : Int) ∧ k ≤ pos ∧ wr.heap[w1.heap.size]? = some (.stringIter s pos) ∧ Below w.heap.size w wr ∧ Hid (k + (sg (s.data.toList.drop pos)).length = (sg s.data.toList).length)) (fun _ wr => s.size - wr.iterPos w1.heap.size)
   case atStart => exact ⟨0, 0, rfl, Nat.le_refl _, (iter_fresh hb s).1, (iter_fresh hb s).2, hid (by simp)⟩
   case round =>
     obtain ⟨pos, k, rfl, hkp, hit, hbw, hH⟩ := hrel
     by_cases hp : pos < s.size
     · have hnx : ∀ ty, (Instr.next (.pointer (some ⟨w1.heap.size, 0, none⟩)) true ty).run Tryz.prog wr = _ := fun ty => Lib.run_next_any_at wr w1.heap.size s pos ty hit hp
       have hwd := Lib.width_pos s pos
       have hit2 := Lib.iterAt_heap wr w1.heap.size s pos (pos + (Utf8.decode s pos).2) hit
       have hbw2 := Lib.below_iterAt hbw (k := w1.heap.size) hb.size s (pos + (Utf8.decode s pos).2)
       have hst : Hid (sg (s.data.toList.drop pos) = _) := hid (sg_at s pos hp)
       go_wp2
       go_roundw
       case rel =>
         refine ⟨pos + (Utf8.decode s pos).2, k + 1, by go_num, by omega, hit2, hbw2, hid ?_⟩
         have h1 := hH.out
         rw [hst.out] at h1
         simp only [List.length_cons] at h1
         omega
       case measure =>
         simp only [World.iterPos, hit2, hit]
         omega
     · have hnx : ∀ ty, (Instr.next (.pointer (some ⟨w1.heap.size, 0, none⟩)) true ty).run Tryz.prog wr = _ := fun ty => Lib.run_next_end_at wr w1.heap.size s pos ty hit hp
       go_wp2
       go_ret
       have h1 := hH.out
       rw [sg_end s pos hp] at h1
       refine ⟨?_, hbw⟩
       rw [← hR, ← h1]
       simp
 · rw [if_neg hv] at hR
   subst hR
   have hv' : Lib.validD s.data.toList = false := by simpa using hv
   go_enter Tryz.func72, Tryz.ntmps72
   go_wp2_with (go_at_call 16; refine (rvalid_w s _ hs hT).mono ?_; rintro e w1 ⟨rfl, hb⟩)
   go_ret
   exact ⟨rfl, hb⟩
theorem decodeRune_w (s : ByteArray) (w : World) (hT : Lib.Utf8Tabs 0 1 w) :
   Calls Tryz.prog 83 #[.string s] w fun e w' => e = .returned (.tuple #[.int .i32 (Lib.decodeGo s).1, .int .i64 (Lib.decodeGo s).2]) ∧ Below w.heap.size w w' := Any.utf8_DecodeRuneInString Tryz.lays197 s w hT
theorem validRune_w (r : Int) (w : World) :
   Calls Tryz.prog 127 #[.int .i32 r] w fun e w' => e = .returned (.bool (Lib.validRune r)) ∧ w' = w := Any.utf8_ValidRune Tryz.lays119 r w
theorem hasPrefix_w (s p : ByteArray) (w : World) :
   Calls Tryz.prog 120 #[.string s, .string p] w fun e w' => e = .returned (.bool (Lib.hasPrefix s.data.toList p.data.toList)) ∧ w' = w := Any.strings_HasPrefix Tryz.lays99 s p w
theorem appendRune_w (B : Nat) (v : Value) (n : Nat) (xs : List Value) (r : Int) (hr0 : -2147483648 ≤ r) (hr1 : r ≤ 2147483647) (w : World) (hown : w.ownsRowF B 5 1 v n xs) (hlen : n + 4 ≤ 140737488355328) (hBw : B ≤ w.heap.size) :
   Calls Tryz.prog 74 #[v, .int .i32 r] w fun e w' => ∃ v', e = .returned v' ∧ w'.ownsRowF B 5 1 v' (n + (Lib.runeCells r).length) (xs ++ Lib.runeCells r) ∧ ∃ o, (w.alloc o).grownBy w' v.ownBlock := Any.utf8_AppendRune_row Tryz.lays242 (by kernel_rfl) B v n xs r hr0 hr1 w hown hlen hBw
theorem trailing_w (x : Nat) (hx : x < 18446744073709551616) (w : World) (hT : x ≠ 0 → TabAt 4 Lib.deBruijn64tab w) :
   Calls Tryz.prog 156 #[.int .u64 x] w fun e w' => e = .returned (.int .i64 (Lib.ctz 64 x)) ∧ w' = w := Any7.bits_TrailingZeros Tryz.lays7_27 x hx w hT
def hiddenB (r : Nat) : Bool := decide (r < 32) || decide (r = 127)
theorem hidden_w (r : Nat) (w : World) :
   Calls Tryz.prog 134 #[.int .i32 (r : Int)] w fun e w' => e = .returned (.bool (hiddenB r)) ∧ w = w' := by
 go_enter Tryz.func134, Tryz.ntmps134
 go_wp2
 all_goals go_ret
 all_goals (refine ⟨?_, rfl⟩; first | (simp [hiddenB]; done) | (simp [hiddenB]; omega) | (simp [hiddenB]; rw [Bool.eq_iff_iff]; simp; omega))
theorem bare_w (r : Nat) (k : Int) (w : World) :
   Calls Tryz.prog 129 #[.int .i32 (r : Int), .int .i64 k] w fun e w' => e = .returned (.bool (bareB r (!decide (0 < k)))) ∧ w = w' := by
 go_enter Tryz.func129, Tryz.ntmps129
 go_wp2
 all_goals go_ret
 all_goals (refine ⟨?_, rfl⟩; go_light; simp only [beq_iff_eq, beq_eq_false_iff_ne, ne_eq] at *; by_cases hk : 0 < k)
 all_goals (simp [bareB, hk]; try omega)
theorem rplain_w (r : Nat) (b : Bool) (w : World) :
   Calls Tryz.prog 99 #[.int .i32 (r : Int), .bool b] w fun e w' => e = .returned (.bool (bareB r b)) ∧ w = w' := by
 go_enter Tryz.func99, Tryz.ntmps99
 go_wp2
 all_goals go_ret
 all_goals (refine ⟨?_, rfl⟩; go_light; simp only [beq_iff_eq, beq_eq_false_iff_ne, ne_eq] at *; cases b)
 all_goals (simp [bareB] at *; try (first | omega | (rw [Bool.eq_iff_iff]; simp; omega)))
set_option maxHeartbeats 1000000 in
theorem plain_w (s : ByteArray) (w : World) :
   Calls Tryz.prog 108 #[.string s] w fun e w' => e = .returned (.bool (plainB s.data.toList)) ∧ Below w.heap.size w w' := by
 obtain ⟨R, hR⟩ : ∃ R, plainB s.data.toList = R := ⟨_, rfl⟩
 rw [hR]
 unfold plainB at hR
 go_enter Tryz.func108, Tryz.ntmps108
 go_wp2
 go_loopw [] (fun wr => ∃ (pos : Nat), wr.heap[w.heap.size]? = some (.stringIter s pos) ∧ Below w.heap.size w wr ∧ Hid (plainGo (decide (pos = 0)) (sg (s.data.toList.drop pos)) = plainGo true (sg s.data.toList))) (fun wr => s.size - wr.iterPos w.heap.size)
 case atStart => exact ⟨0, (iter_fresh (Below.refl _ w) s).1, (iter_fresh (Below.refl _ w) s).2, hid (by simp)⟩
 case round =>
   obtain ⟨pos, hit, hbw, hH⟩ := hrel
   by_cases hp : pos < s.size
   · have hnx : ∀ ty, (Instr.next (.pointer (some ⟨w.heap.size, 0, none⟩)) true ty).run Tryz.prog wr = _ := fun ty => Lib.run_next_any_at wr w.heap.size s pos ty hit hp
     have hwd := Lib.width_pos s pos
     have hit2 := Lib.iterAt_heap wr w.heap.size s pos (pos + (Utf8.decode s pos).2) hit
     have hbw2 := Lib.below_iterAt hbw (k := w.heap.size) (Nat.le_refl _) s (pos + (Utf8.decode s pos).2)
     have hst : Hid (sg (s.data.toList.drop pos) = _) := hid (sg_at s pos hp)
     have hfi : (!decide ((0:Int) < (pos : Int))) = decide (pos = 0) := by rw [Bool.eq_iff_iff]; simp
     cases hbb : bareB (Utf8.decode s pos).1 (decide (pos = 0)) with
     | true =>
       go_wp2_with (go_at_call 129; refine (bare_w _ _ _).mono ?_; (try rw [hfi]); rw [hbb]; rintro e w1 ⟨rfl, rfl⟩)
       go_roundw
       case rel =>
         refine ⟨pos + (Utf8.decode s pos).2, hit2, hbw2, hid ?_⟩
         have h1 := hH.out
         rw [hst.out] at h1
         simp only [plainGo, hbb, Bool.true_and] at h1
         have : decide (pos + (Utf8.decode s pos).2 = 0) = false := by simp; omega
         rw [this, h1]
       case measure =>
         simp only [World.iterPos, hit2, hit]
         omega
     | false =>
       go_wp2_with (go_at_call 129; refine (bare_w _ _ _).mono ?_; (try rw [hfi]); rw [hbb]; rintro e w1 ⟨rfl, rfl⟩)
       go_ret
       have h1 := hH.out
       rw [hst.out] at h1
       simp only [plainGo, hbb, Bool.false_and] at h1
       refine ⟨?_, hbw2⟩
       rw [← hR, ← h1]
       rfl
   · have hnx : ∀ ty, (Instr.next (.pointer (some ⟨w.heap.size, 0, none⟩)) true ty).run Tryz.prog wr = _ := fun ty => Lib.run_next_end_at wr w.heap.size s pos ty hit hp
     have h1 := hH.out
     rw [sg_end s pos hp] at h1
     have h2 : R = decide (s.data.toList ≠ []) := by rw [← hR, ← h1]; simp [plainGo]
     clear hR h1 hH
     go_wp2
     go_ret
     refine ⟨?_, hbw⟩
     rw [h2, ← isEmpty_bytes]
     rfl
set_option maxHeartbeats 1000000 in
theorem rPlain_w (s : ByteArray) (w : World) :
   Calls Tryz.prog 101 #[.string s] w fun e w' => e = .returned (.bool (plainB s.data.toList)) ∧ Below w.heap.size w w' := by
 obtain ⟨R, hR⟩ : ∃ R, plainB s.data.toList = R := ⟨_, rfl⟩
 rw [hR]
 unfold plainB at hR
 go_enter Tryz.func101, Tryz.ntmps101
 go_wp2
 go_loopw [] (fun wr => ∃ (pos : Nat), wr.heap[w.heap.size]? = some (.stringIter s pos) ∧ Below w.heap.size w wr ∧ Hid (plainGo (decide (pos = 0)) (sg (s.data.toList.drop pos)) = plainGo true (sg s.data.toList))) (fun wr => s.size - wr.iterPos w.heap.size)
 case atStart => exact ⟨0, (iter_fresh (Below.refl _ w) s).1, (iter_fresh (Below.refl _ w) s).2, hid (by simp)⟩
 case round =>
   obtain ⟨pos, hit, hbw, hH⟩ := hrel
   by_cases hp : pos < s.size
   · have hnx : ∀ ty, (Instr.next (.pointer (some ⟨w.heap.size, 0, none⟩)) true ty).run Tryz.prog wr = _ := fun ty => Lib.run_next_any_at wr w.heap.size s pos ty hit hp
     have hwd := Lib.width_pos s pos
     have hit2 := Lib.iterAt_heap wr w.heap.size s pos (pos + (Utf8.decode s pos).2) hit
     have hbw2 := Lib.below_iterAt hbw (k := w.heap.size) (Nat.le_refl _) s (pos + (Utf8.decode s pos).2)
     have hst : Hid (sg (s.data.toList.drop pos) = _) := hid (sg_at s pos hp)
     have hfi : ((pos : Int) == 0) = decide (pos = 0) := by rw [Bool.eq_iff_iff]; simp
     cases hbb : bareB (Utf8.decode s pos).1 (decide (pos = 0)) with
     | true =>
       go_wp2_with (go_at_call 99; refine (rplain_w _ _ _).mono ?_; (try rw [hfi]); rw [hbb]; rintro e w1 ⟨rfl, rfl⟩)
       go_roundw
       case rel =>
         refine ⟨pos + (Utf8.decode s pos).2, hit2, hbw2, hid ?_⟩
         have h1 := hH.out
         rw [hst.out] at h1
         simp only [plainGo, hbb, Bool.true_and] at h1
         have : decide (pos + (Utf8.decode s pos).2 = 0) = false := by simp; omega
         rw [this, h1]
       case measure =>
         simp only [World.iterPos, hit2, hit]
         omega
     | false =>
       go_wp2_with (go_at_call 99; refine (rplain_w _ _ _).mono ?_; (try rw [hfi]); rw [hbb]; rintro e w1 ⟨rfl, rfl⟩)
       go_ret
       have h1 := hH.out
       rw [hst.out] at h1
       simp only [plainGo, hbb, Bool.false_and] at h1
       refine ⟨?_, hbw2⟩
       rw [← hR, ← h1]
       rfl
   · have hnx : ∀ ty, (Instr.next (.pointer (some ⟨w.heap.size, 0, none⟩)) true ty).run Tryz.prog wr = _ := fun ty => Lib.run_next_end_at wr w.heap.size s pos ty hit hp
     have h1 := hH.out
     rw [sg_end s pos hp] at h1
     have h2 : R = decide (s.data.toList ≠ []) := by rw [← hR, ← h1]; simp [plainGo]
     clear hR h1 hH
     go_wp2
     go_ret
     refine ⟨?_, hbw⟩
     rw [h2, ← isEmpty_bytes]
     rfl
def Bld (T : TypeId) (B b : Nat) (pre post : List Value) (bs : List UInt8) (w : World) : Prop :=
 B ≤ b ∧ T ≠ 5 ∧ ∃ p v, (p = .pointer none ∨ p = .pointer (some ⟨b, pre.length, none⟩)) ∧ w.heap[b]? = some (.cells (pre ++ p :: v :: post).toArray T (0, 0)) ∧ w.ownsRowF B 5 1 v bs.length (Lib.byteCells bs) ∧ (bs = [] → v = .slice none 0 0)
theorem set_at (pre post : List Value) (p q v : Value) : (pre ++ p :: v :: post).set pre.length q = pre ++ q :: v :: post := by
 simp
theorem set_at1 (pre post : List Value) (p q v : Value) : (pre ++ p :: v :: post).set (pre.length + 1) q = pre ++ p :: q :: post := by
 rw [List.set_append_right _ _ (by omega)]
 have : pre.length + 1 - pre.length = 1 := by omega
 rw [this]; rfl
theorem heap_set {w : World} {b j : Nat} {cs : List Value} {T : TypeId} (h : w.heap[b]? = some (.cells cs.toArray T (0, 0))) (q : Value) :
   (w.setCell ⟨b, j, none⟩ q).heap[b]? = some (.cells (cs.set j q).toArray T (0, 0)) := by
 simp [World.setCell, Array.getElem?_modify, h]
theorem sown_set {w : World} {B b j : Nat} {cs : List Value} {T : TypeId} {v : Value} {n : Nat} {xs : List Value} (h : w.heap[b]? = some (.cells cs.toArray T (0, 0))) (hT : T ≠ 5) (hown : w.ownsRowF B 5 1 v n xs) (q : Value) :
   (w.setCell ⟨b, j, none⟩ q).ownsRowF B 5 1 v n xs :=
 hown.kept (row := some b) ⟨rfl, rfl, rfl, by simp [World.setCell], fun k _ hk => Below.heap_setCell _ _ _ _ (fun e => hk (by simp [e]))⟩ (Or.inr (Lib.ownBlock_neF hown h hT))
theorem lt_of_heap {w : World} {b : Nat} {x : Obj} (h : w.heap[b]? = some x) : b < w.heap.size := (Array.getElem?_eq_some_iff.1 h).1
theorem sizeBuilder : (Tryz.prog.info? 143).map (·.size) = some 2 := by kernel_rfl
def Home (T : TypeId) (o n : Nat) : Prop := liesAt Tryz.prog Tryz.prog.depth T (n / Tryz.prog.cellsOf T) o 143 1 = true
theorem home0 : Home 143 0 2 := by unfold Home; kernel_rfl
theorem home1 : Home 167 1 6 := by unfold Home; kernel_rfl
set_option maxHeartbeats 1000000 in
set_option maxRecDepth 100000 in
theorem copyCheck_used (b o : Nat) (w : World) (h0 : w.cell? ⟨b, o, none⟩ = some (.pointer (some ⟨b, o, none⟩))) :
   Calls Tryz.prog 131 #[.pointer (some ⟨b, o, none⟩)] w fun e w' => e = .returned (.tuple #[]) ∧ w' = w := by
 obtain ⟨j, hj, _⟩ := Option.map_eq_some_iff.1 sizeBuilder
 go_enter Tryz.func131, Tryz.ntmps131
 go_wp2
 rw [Lib.run_neq_ptr_same w _ Tryz.underlying141 hj]
 go_wp2
 go_end0
 exact ⟨rfl, rfl⟩
set_option maxHeartbeats 1000000 in
set_option maxRecDepth 100000 in
theorem copyCheck_fresh (T : TypeId) (b o n : Nat) (w : World) (h0 : w.cell? ⟨b, o, none⟩ = some (.pointer none)) (hsh : w.shape? b = some (T, n)) (ho : o < n) (hl : Home T o n) (hfz : w.frozen? ⟨b, o, none⟩ = false) :
   Calls Tryz.prog 131 #[.pointer (some ⟨b, o, none⟩)] w fun e w' => e = .returned (.tuple #[]) ∧ w' = w.setCell ⟨b, o, none⟩ (.pointer (some ⟨b, o, none⟩)) := by
 obtain ⟨j, hj, hjs⟩ := Option.map_eq_some_iff.1 sizeBuilder
 have hr1 := World.cell?_setCell_same w ⟨b, o, none⟩ (.pointer (some ⟨b, o, none⟩)) h0
 go_enter Tryz.func131, Tryz.ntmps131
 go_wp2
 rw [Lib.run_to_unsafe w ⟨b, o, none⟩ Tryz.underlying141 Tryz.underlying169 hj (by rw [hjs]; decide) hsh ho]
 simp only [Result.andThen]
 rw [Oper.upon_value]
 go_wp2
 rw [run_callFunc_extern Tryz.func141 (by kernel_rfl) (by kernel_rfl) (by kernel_rfl) (e := Extern.AbiNoEscape.same) (by kernel_rfl)]
 rw [Lib.run_noEscape]
 simp only [Result.andThen]
 rw [Oper.upon_value]
 go_wp2
 rw [Lib.run_from_unsafe w ⟨b, o, none⟩ Tryz.underlying169 Tryz.underlying141 hj hsh hl]
 simp only [Result.andThen]
 rw [Oper.upon_value]
 go_wp2
 go_end0
 exact ⟨rfl, rfl⟩
theorem copyCheck_w (T : TypeId) (B b : Nat) (pre post : List Value) (bs : List UInt8) (w : World) (h : Bld T B b pre post bs w) (hl : Home T pre.length (pre.length + 2 + post.length)) :
   Calls Tryz.prog 131 #[.pointer (some ⟨b, pre.length, none⟩)] w fun e w' => e = .returned (.tuple #[]) ∧
     (∃ v, w'.heap[b]? = some (.cells (pre ++ (.pointer (some ⟨b, pre.length, none⟩)) :: v :: post).toArray T (0, 0)) ∧ w'.ownsRowF B 5 1 v bs.length (Lib.byteCells bs)) ∧ Below B w w' ∧ Lib.OthersKept 5 (some b) w w' := by
 obtain ⟨hB, hT, p, v, hp, hb, hown, _⟩ := h
 have hc : w.cell? ⟨b, pre.length, none⟩ = some p := by rw [Lib.cell_of_heap hb]; simp
 rcases hp with rfl | rfl
 · have hsh : w.shape? b = some (T, pre.length + 2 + post.length) := by simp [World.shape?, hb]; omega
   refine (copyCheck_fresh T b pre.length _ w hc hsh (by omega) hl (Lib.frozen_of_heap hb _)).mono ?_
   rintro e w' ⟨rfl, rfl⟩
   refine ⟨rfl, ⟨v, ?_, sown_set hb hT hown _⟩, (Below.refl B w).setCell (p := ⟨b, pre.length, none⟩) hB _, (Lib.OthersKept.refl _ _ w).setCell ⟨b, pre.length, none⟩ rfl _⟩
   rw [heap_set hb, set_at]
 · refine (copyCheck_used b pre.length w hc).mono ?_
   rintro e w' ⟨rfl, rfl⟩
   exact ⟨rfl, ⟨v, hb, hown⟩, Below.refl B _, Lib.OthersKept.refl _ _ _⟩
theorem Bld.put {T : TypeId} {B b : Nat} {pre post : List Value} {v v' : Value} {bs : List UInt8} {w : World} (hB : B ≤ b) (hT : T ≠ 5)
   (hb : w.heap[b]? = some (.cells (pre ++ (.pointer (some ⟨b, pre.length, none⟩)) :: v :: post).toArray T (0, 0))) (hown : w.ownsRowF B 5 1 v' bs.length (Lib.byteCells bs)) (hn : bs ≠ []) :
   Bld T B b pre post bs (w.setCell ⟨b, pre.length + 1, none⟩ v') :=
 ⟨hB, hT, _, v', Or.inr rfl, by rw [heap_set hb, set_at1], sown_set hb hT hown _, fun e => absurd e hn⟩
theorem byteCells_one (c : UInt8) : Lib.byteCells [c] = [.int .u8 (c.toNat : Int)] := by simp [Lib.byteCells]
set_option maxHeartbeats 2000000 in
set_option maxRecDepth 100000 in
theorem writeByte_w (T : TypeId) (B b : Nat) (pre post : List Value) (bs : List UInt8) (c : UInt8) (w : World) (h : Bld T B b pre post bs w) (hl : Home T pre.length (pre.length + 2 + post.length)) (hlen : bs.length + 1 ≤ 140737488355328) (hBw : B ≤ w.heap.size) :
   Calls Tryz.prog 110 #[.pointer (some ⟨b, pre.length, none⟩), .int .u8 (c.toNat : Int)] w fun e w' => e = .returned .nilIface ∧ Bld T B b pre post (bs ++ [c]) w' ∧ Below B w w' ∧ Lib.OthersKept 5 (some b) w w' := by
 obtain ⟨i0, hi, hz0, hz1, hz2⟩ := info_parts info8
 go_enter Tryz.func110, Tryz.ntmps110
 go_wp2_with (go_at_call 131; refine (copyCheck_w T B b pre post bs _ h hl).mono ?_)
 rintro e w1 ⟨rfl, ⟨v, hbk, hown⟩, hb1, hk1⟩
 obtain ⟨hB, hT, _⟩ := h
 have hne := Lib.ownBlock_neF hown hbk hT
 have c0 : w1.cell? ⟨b, pre.length, none⟩ = some (.pointer (some ⟨b, pre.length, none⟩)) := by rw [Lib.cell_of_heap hbk]; simp
 have c1 : w1.cell? ⟨b, pre.length + 1, none⟩ = some v := by rw [Lib.cell_of_heap hbk]; simp
 go_wp2_with (at_builtin; refine wpList_append_ownF _ rfl _ _ 25 rfl B 5 i0 (.int .u8 0) 1 1 Tryz.underlying25 hi hz0 hz1 hz2 rfl (by decide) _ _ _ rfl (hown.alloc _) ⟨w1.heap.size, 0, none⟩ 1 1 [.int .u8 (c.toNat : Int)] rfl rfl ?c1 ?c2 ?c3 ?c4 ?c5 ?_)
 case c1 =>
   intro j u hj
   match j, hj with
   | 0, hj => simp at hj; subst hj; simp [Addr.add]
 case c2 => intro u hu; simp at hu; subst hu; rfl
 case c3 => unfold maxLen; omega
 case c4 => omega
 case c5 => have := hb1.size; simp; omega
 intro v' w2 hown' hgrow _
 have hlt := lt_of_heap hbk
 have hb2 : w2.heap[b]? = some (.cells (pre ++ (.pointer (some ⟨b, pre.length, none⟩)) :: v :: post).toArray T (0, 0)) := by
   rw [hgrow.block b (by simp; omega) (fun e => hne e.symm), Lib.alloc_old w1 _ b hlt]
   exact hbk
 have d1 : w2.cell? ⟨b, pre.length + 1, none⟩ = some v := by rw [Lib.cell_of_heap hb2]; simp
 have f1 : w2.frozen? ⟨b, pre.length + 1, none⟩ = false := Lib.frozen_of_heap hb2 _
 obtain ⟨g, cap, rfl⟩ : ∃ g cap, v' = .slice (some ⟨g, 0, none⟩) (bs.length + 1) cap := by
   rcases hown'.2 with ⟨_, h0⟩ | ⟨g, cap, cur, fz, hv, _⟩
   · omega
   · exact ⟨g, cap, hv⟩
 go_wp2
 go_ret
 refine ⟨rfl, ?_, ?_, ((hk1.alloc _).grown hgrow (Lib.ownsRowF_kind (hown.alloc _))).setCell ⟨b, pre.length + 1, none⟩ rfl _⟩
 · exact Bld.put hB hT hb2 (bs := bs ++ [c]) (by rw [Lib.byteCells_append, byteCells_one]; simpa using hown') (by simp)
 · exact ((hb1.alloc (by have := hb1.size; omega) _).grown hgrow (by have := hb1.size; simp; omega) (fun k hk => (hown.lt k hk).1)).setCell (p := ⟨b, pre.length + 1, none⟩) hB _
set_option maxHeartbeats 2000000 in
set_option maxRecDepth 100000 in
theorem writeString_w (T : TypeId) (B b : Nat) (pre post : List Value) (bs : List UInt8) (s : ByteArray) (w : World) (h : Bld T B b pre post bs w) (hl : Home T pre.length (pre.length + 2 + post.length)) (hs0 : s.data.toList ≠ []) (hlen : bs.length + s.size ≤ 140737488355328) (hBw : B ≤ w.heap.size) :
   Calls Tryz.prog 133 #[.pointer (some ⟨b, pre.length, none⟩), .string s] w fun e w' => e = .returned (.tuple #[.int .i64 s.size, .nilIface]) ∧ Bld T B b pre post (bs ++ s.data.toList) w' ∧ Below B w w' ∧ Lib.OthersKept 5 (some b) w w' := by
 obtain ⟨i0, hi, hz0, hz1, hz2⟩ := info_parts info8
 go_enter Tryz.func133, Tryz.ntmps133
 go_wp2_with (go_at_call 131; refine (copyCheck_w T B b pre post bs _ h hl).mono ?_)
 rintro e w1 ⟨rfl, ⟨v, hbk, hown⟩, hb1, hk1⟩
 obtain ⟨hB, hT, _⟩ := h
 have hne := Lib.ownBlock_neF hown hbk hT
 have c0 : w1.cell? ⟨b, pre.length, none⟩ = some (.pointer (some ⟨b, pre.length, none⟩)) := by rw [Lib.cell_of_heap hbk]; simp
 have c1 : w1.cell? ⟨b, pre.length + 1, none⟩ = some v := by rw [Lib.cell_of_heap hbk]; simp
 go_wp2_with (at_builtin; refine Lib.wpList_append_own_stringF _ rfl _ _ 25 9 rfl B 5 i0 Tryz.underlying25 Tryz.underlying9 hi hz0 hz1 hz2 _ _ _ rfl hown s rfl ?c3 ?c4 ?c5 ?_)
 case c3 => unfold maxLen; omega
 case c4 => omega
 case c5 => have := hb1.size; omega
 intro v' w2 hown' hgrow _
 have hlt := lt_of_heap hbk
 have hb2 : w2.heap[b]? = some (.cells (pre ++ (.pointer (some ⟨b, pre.length, none⟩)) :: v :: post).toArray T (0, 0)) := by
   rw [hgrow.block b hlt (fun e => hne e.symm)]
   exact hbk
 have d1 : w2.cell? ⟨b, pre.length + 1, none⟩ = some v := by rw [Lib.cell_of_heap hb2]; simp
 have f1 : w2.frozen? ⟨b, pre.length + 1, none⟩ = false := Lib.frozen_of_heap hb2 _
 obtain ⟨ao, n', cap, rfl⟩ : ∃ ao n' cap, v' = .slice ao n' cap := by
   rcases hown'.2 with ⟨hv, _⟩ | ⟨g, cap, cur, fz, hv, _⟩
   · exact ⟨_, _, _, hv⟩
   · exact ⟨_, _, _, hv⟩
 go_wp2
 go_ret2
 refine ⟨rfl, ?_, ?_, (hk1.grown hgrow (Lib.ownsRowF_kind hown)).setCell ⟨b, pre.length + 1, none⟩ rfl _⟩
 · refine Bld.put hB hT hb2 (bs := bs ++ s.data.toList) ?_ (by simp [hs0])
   rw [Lib.byteCells_append]
   have e1 : Lib.byteCells s.data.toList = Lib.strCells s := by simp [Lib.byteCells, Lib.strCells]
   have e2 : (bs ++ s.data.toList).length = bs.length + s.size := by rw [List.length_append]; rfl
   rw [e1, e2]
   exact hown'
 · exact (hb1.grown hgrow (by have := hb1.size; omega) (fun k hk => (hown.lt k hk).1)).setCell (p := ⟨b, pre.length + 1, none⟩) hB _
set_option maxHeartbeats 2000000 in
set_option maxRecDepth 100000 in
theorem writeRune_w (T : TypeId) (B b : Nat) (pre post : List Value) (bs : List UInt8) (r : Nat) (hr : r ≤ 1114111) (w : World) (h : Bld T B b pre post bs w) (hl : Home T pre.length (pre.length + 2 + post.length)) (hlen : bs.length + 4 ≤ 140737488355328) (hBw : B ≤ w.heap.size) :
   Calls Tryz.prog 132 #[.pointer (some ⟨b, pre.length, none⟩), .int .i32 (r : Int)] w fun e w' => e = .returned (.tuple #[.int .i64 (e1 r).length, .nilIface]) ∧ Bld T B b pre post (bs ++ e1 r) w' ∧ Below B w w' ∧ Lib.OthersKept 5 (some b) w w' := by
 go_enter Tryz.func132, Tryz.ntmps132
 go_wp2_with (go_at_call 131; refine (copyCheck_w T B b pre post bs _ h hl).mono ?_)
 rintro e w1 ⟨rfl, ⟨v, hbk, hown⟩, hb1, hk1⟩
 obtain ⟨hB, hT, _⟩ := h
 have hne := Lib.ownBlock_neF hown hbk hT
 obtain ⟨ao, cap, rfl⟩ : ∃ ao cap, v = .slice ao bs.length cap := by
   rcases hown.2 with ⟨hv, h0⟩ | ⟨g, cap, cur, fz, hv, _⟩
   · exact ⟨none, 0, by rw [hv, h0]⟩
   · exact ⟨_, _, hv⟩
 have c1 : w1.cell? ⟨b, pre.length + 1, none⟩ = some (.slice ao bs.length cap) := by rw [Lib.cell_of_heap hbk]; simp
 have hle := Lib.runeCells_le (r : Int)
 go_wp2_with (go_at_call 74; refine (appendRune_w B _ _ _ (r : Int) (by omega) (by omega) _ hown (by omega) (by have := hb1.size; omega)).mono ?_)
 rintro e w2 ⟨v', rfl, hown', o, hgrow⟩
 have hlt := lt_of_heap hbk
 have hb2 : w2.heap[b]? = some (.cells (pre ++ (.pointer (some ⟨b, pre.length, none⟩)) :: (.slice ao bs.length cap) :: post).toArray T (0, 0)) := by
   rw [hgrow.block b (by simp; omega) (fun e => hne e.symm), Lib.alloc_old w1 _ b hlt]
   exact hbk
 have d1 : w2.cell? ⟨b, pre.length + 1, none⟩ = some (.slice ao bs.length cap) := by rw [Lib.cell_of_heap hb2]; simp
 have f1 : w2.frozen? ⟨b, pre.length + 1, none⟩ = false := Lib.frozen_of_heap hb2 _
 obtain ⟨g, cap', rfl⟩ : ∃ g cap', v' = .slice (some ⟨g, 0, none⟩) (bs.length + (Lib.runeCells r).length) cap' := by
   rcases hown'.2 with ⟨_, h0⟩ | ⟨g, cap, cur, fz, hv, _⟩
   · omega
   · exact ⟨g, cap, hv⟩
 have d2 : (w2.setCell ⟨b, pre.length + 1, none⟩ (.slice (some ⟨g, 0, none⟩) (bs.length + (Lib.runeCells r).length) cap')).cell? ⟨b, pre.length + 1, none⟩ = some (.slice (some ⟨g, 0, none⟩) (bs.length + (Lib.runeCells r).length) cap') := World.cell?_setCell_same _ _ _ d1
 go_wp2
 go_ret2
 have hrl : (Lib.runeCells r).length = (e1 r).length := Lib.runeCells_length r
 refine ⟨?_, ?_, ?_, ((hk1.alloc _).grown hgrow (Lib.ownsRowF_kind (hown.alloc _))).setCell ⟨b, pre.length + 1, none⟩ rfl _⟩
 · rw [hrl]
   congr 3
   go_num
 · refine Bld.put hB hT hb2 (bs := bs ++ e1 r) ?_ (by simp [e1_ne])
   rw [Lib.byteCells_append, show Lib.byteCells (e1 r) = Lib.runeCells (r : Int) from Lib.byteCells_encodeRune r, List.length_append, ← hrl]
   exact hown'
 · exact ((hb1.alloc (by have := hb1.size; omega) _).grown hgrow (by have := hb1.size; simp; omega) (fun k hk => (hown.lt k hk).1)).setCell (p := ⟨b, pre.length + 1, none⟩) hB _
theorem cells8 : Tryz.prog.cellsOf 5 = 1 := by kernel_rfl
set_option maxHeartbeats 2000000 in
set_option maxRecDepth 100000 in
theorem string_w (T : TypeId) (B b : Nat) (pre post : List Value) (l : List UInt8) (w : World) (h : Bld T B b pre post l w) :
   Calls Tryz.prog 112 #[.pointer (some ⟨b, pre.length, none⟩)] w fun e w' => e = .returned (.string ⟨l.toArray⟩) ∧ Below B w w' := by
 obtain ⟨hB, hT, p, v, hp, hbk, hown, hemp⟩ := h
 by_cases h0 : l = []
 · subst h0
   obtain rfl := hemp rfl
   have c1 : w.drew.cell? ⟨b, pre.length + 1, none⟩ = some (.slice none 0 0) := by
     have : w.drew.heap[b]? = some (.cells (pre ++ p :: (.slice none 0 0) :: post).toArray T (0, 0)) := hbk
     rw [Lib.cell_of_heap this]; simp
   have hSD : (Builtin.unsafeSliceData_ #[25] 165 #[.slice none 0 0]).run Tryz.prog w.drew = .ok (.pointer none) w.drew := rfl
   have hUS : (Builtin.unsafeString_ #[165, 3] 9 #[.pointer none, .int .i64 0]).run Tryz.prog w.drew = .ok (.string .empty) w.drew := Lib.run_unsafeString_none w.drew _ _ _ none
   go_enter Tryz.func112, Tryz.ntmps112
   go_wp2
   go_region
   all_goals (go_wp2; go_ret; exact ⟨rfl, Below.drew (Below.refl B w)⟩)
 · have hl0 : l.length ≠ 0 := by simpa using h0
   obtain ⟨g, cap, cur, fz, rfl, hbg, hg, hfz, hnc, hcm, hcs, htake⟩ : ∃ g cap cur fz, v = .slice (some ⟨g, 0, none⟩) l.length cap ∧ B ≤ g ∧ w.heap[g]? = some (.cells cur 5 fz) ∧ fz.2 ≤ l.length * 1 ∧ l.length ≤ cap ∧ cap ≤ maxLen ∧ cur.size = cap * 1 ∧ cur.toList.take (l.length * 1) = Lib.byteCells l := by
     rcases hown.2 with ⟨_, hz⟩ | ⟨g, cap, cur, fz, hv, r⟩
     · exact absurd hz hl0
     · exact ⟨g, cap, cur, fz, hv, r⟩
   have c1 : w.drew.cell? ⟨b, pre.length + 1, none⟩ = some (.slice (some ⟨g, 0, none⟩) l.length cap) := by
     have : w.drew.heap[b]? = some (.cells (pre ++ p :: (.slice (some ⟨g, 0, none⟩) l.length cap) :: post).toArray T (0, 0)) := hbk
     rw [Lib.cell_of_heap this]; simp
   have hSD : (Builtin.unsafeSliceData_ #[25] 165 #[.slice (some ⟨g, 0, none⟩) l.length cap]).run Tryz.prog w.drew = .ok (.pointer (some ⟨g, 0, none⟩)) w.drew :=
     Lib.run_unsafeSliceData_row _ _ _ _ _ _ (by omega)
   have hUS : (Builtin.unsafeString_ #[165, 3] 9 #[.pointer (some ⟨g, 0, none⟩), .int .i64 l.length]).run Tryz.prog w.drew = .ok (.string ⟨l.toArray⟩) (w.drew.freeze ⟨g, 0, none⟩ l.length) := by
     refine Lib.run_unsafeString_row w.drew 165 3 9 5 Tryz.underlying165 cells8 g cur.size (by have hg' : w.drew.heap[g]? = some (.cells cur 5 fz) := hg; simp [World.shape?, hg']) l h0 (by omega) (by unfold maxLen at hcm; omega) ?_
     intro j x hx
     have := hown.cells (g := g) rfl j (.int .u8 x.toNat) (by simp [Lib.byteCells, hx])
     exact this
   go_enter Tryz.func112, Tryz.ntmps112
   go_wp2
   go_region
   all_goals (go_wp2; go_ret; exact ⟨rfl, Lib.below_freeze (Below.drew (Below.refl B w)) (p := ⟨g, 0, none⟩) hbg _⟩)
theorem Bld.alloc {T : TypeId} {B b : Nat} {pre post : List Value} {bs : List UInt8} {w : World} (h : Bld T B b pre post bs w) (o : Obj) : Bld T B b pre post bs (w.alloc o) := by
 obtain ⟨hB, hT, p, v, hp, hb, hown, he⟩ := h
 exact ⟨hB, hT, p, v, hp, (Lib.alloc_old w o b (lt_of_heap hb)).trans hb, hown.alloc o, he⟩
theorem ownsRowF_iterAt {w : World} {B : Nat} {v : Value} {n : Nat} {xs : List Value} (hown : w.ownsRowF B 5 1 v n xs) {k : Nat} {s : ByteArray} {pos : Nat} (hk : w.heap[k]? = some (.stringIter s pos)) (pos' : Nat) : (w.iterAt k s pos').ownsRowF B 5 1 v n xs := by
 refine ⟨hown.1, ?_⟩
 rcases hown.2 with hn | ⟨g, cap, cur, fz, hv, hbg, hg, rest⟩
 · exact .inl hn
 · have hkg : g ≠ k := by
     intro e1
     rw [e1, hk] at hg
     cases hg
   exact .inr ⟨g, cap, cur, fz, hv, hbg, (Lib.iterAt_other w k g s pos' hkg).trans hg, rest⟩
theorem Bld.iterAt {T : TypeId} {B b : Nat} {pre post : List Value} {bs : List UInt8} {w : World} (h : Bld T B b pre post bs w) {k : Nat} {s : ByteArray} {pos : Nat} (hk : w.heap[k]? = some (.stringIter s pos)) (pos' : Nat) : Bld T B b pre post bs (w.iterAt k s pos') := by
 obtain ⟨hB, hT, p, v, hp, hb, hown, he⟩ := h
 have hkb : b ≠ k := by
   intro e1
   rw [e1, hk] at hb
   cases hb
 exact ⟨hB, hT, p, v, hp, (Lib.iterAt_other w k b s pos' hkb).trans hb, ownsRowF_iterAt hown hk pos', he⟩
theorem Bld.below {T : TypeId} {B b : Nat} {pre post : List Value} {bs : List UInt8} {w w' : World} (h : Bld T B b pre post bs w) (hb' : Below w.heap.size w w') : Bld T B b pre post bs w' := by
 obtain ⟨hB, hT, p, v, hp, hb, hown, he⟩ := h
 refine ⟨hB, hT, p, v, hp, (hb'.block b (lt_of_heap hb)).trans hb, ⟨hown.1, ?_⟩, he⟩
 rcases hown.2 with hn | ⟨g, cap, cur, fz, hv, hbg, hg, rest⟩
 · exact .inl hn
 · exact .inr ⟨g, cap, cur, fz, hv, hbg, (hb'.block g (lt_of_heap hg)).trans hg, rest⟩
def hexD (n : Nat) : Nat := if n < 10 then 48 + n else 87 + n
def hex2 (r : Nat) : List Nat := if r < 16 then [hexD r] else [hexD (r / 16), hexD (r % 16)]
theorem digits_at : ∀ k : Fin 16, ((⟨#[48, 49, 50, 51, 52, 53, 54, 55, 56, 57, 97, 98, 99, 100, 101, 102, 103, 104, 105, 106, 107, 108, 109, 110, 111, 112, 113, 114, 115, 116, 117, 118, 119, 120, 121, 122]⟩ : ByteArray)[k.val]'(by have := k.isLt; show k.val < 36; omega)).toNat = hexD k.val := by decide +kernel
theorem and15n (r : Nat) (hr : r < 128) : bits .and .u64 (r : Int) 15 = ((r % 16 : Nat) : Int) := by
 have h := bits_and_u64_nat r 15 (by omega) (by decide)
 rw [show ((15 : Nat) : Int) = 15 from rfl] at h
 rw [h]
 congr 1
 exact Nat.and_two_pow_sub_one_eq_mod r 4
theorem hexD_lt (k : Nat) (h : k < 16) : hexD k < 128 := by unfold hexD; split <;> omega
theorem heap_set' {w : World} {b j : Nat} {cs : Array Value} {T : TypeId} (h : w.heap[b]? = some (.cells cs T (0, 0))) (q : Value) :
   (w.setCell ⟨b, j, none⟩ q).heap[b]? = some (.cells (cs.setIfInBounds j q) T (0, 0)) := by
 simp [World.setCell, Array.getElem?_modify, h]
theorem tabAt_below {g : Nat} {tab : List Nat} {w w' : World} (h : TabAt g tab w) (hb : Below w.heap.size w w') : TabAt g tab w' := fun j hj =>
 (hb.cell (World.block_lt_of_cell? _ _ (h j hj))).trans (h j hj)
theorem pow2_w (w : World) :
   Calls Tryz.prog 155 #[.int .i64 16] w fun e w' => e = .returned (.bool true) ∧ w = w' := by
 have h : bits .and .i64 16 15 = 0 := by decide +kernel
 go_enter Tryz.func155, Tryz.ntmps155
 go_wp2
 all_goals go_ret
 all_goals (refine ⟨?_, rfl⟩; simp [h])
set_option maxHeartbeats 1000000 in
set_option maxRecDepth 100000 in
theorem formatBits_w (r : Nat) (hr : r < 128) (w : World) (hT : TabAt 4 Lib.deBruijn64tab w) :
   Calls Tryz.prog 150 #[.slice none 0 0, .int .u64 (r : Int), .int .i64 16, .bool false, .bool false] w fun e w' => e = .returned (.tuple #[.slice none 0 0, .string ⟨(en (hex2 r)).toArray⟩]) ∧ Below w.heap.size w w' := by
 have hz : Lib.ctz 64 16 = 4 := by decide +kernel
 have hT1 : ∀ o, TabAt 4 Lib.deBruijn64tab (w.alloc o) := fun o => tabAt_below hT ((Below.refl w.heap.size w).alloc (Nat.le_refl _) o)
 go_enter Tryz.func150, Tryz.ntmps150
 go_wp2_with (first
   | (go_at_call 155; refine (pow2_w _).mono ?_; rintro e w1 ⟨rfl, rfl⟩)
   | (go_at_call 156; refine (trailing_w 16 (by decide) _ (fun _ => hT1 _)).mono ?_; rintro e w1 ⟨rfl, rfl⟩))
 go_loopw [1, 13] (fun u i wr => ∃ cs : Array Value, wr.heap[w.heap.size]? = some (.cells cs 183 (0, 0)) ∧ cs.size = 65 ∧ Below w.heap.size w wr ∧ Hid ((u = .int .u64 (r : Int) ∧ i = .int .i64 65) ∨ (16 ≤ r ∧ u = .int .u64 ((r / 16 : Nat) : Int) ∧ i = .int .i64 64 ∧ cs[64]? = some (.int .u8 (hexD (r % 16) : Int))))) (fun u _ _ => (intOf u).toNat)
 case atStart =>
   refine ⟨Tryz.zeroCells183, Go.heap_alloc_new w _, by decide +kernel, (Below.refl _ w).alloc (Nat.le_refl _) _, hid (Or.inl ⟨rfl, rfl⟩)⟩
 case round =>
   obtain ⟨cs, hblk, hcs, hbw, hor⟩ := hrel
   have cell : ∀ j, wr.cell? ⟨w.heap.size, j, none⟩ = cs[j]? := fun j => Lib.cell_of_heap hblk j
   have fz : ∀ j, wr.frozen? ⟨w.heap.size, j, none⟩ = false := fun j => Lib.frozen_of_heap hblk j
   rcases hor.out with ⟨rfl, rfl⟩ | ⟨h16, rfl, rfl, h64⟩
   · by_cases h16 : 16 ≤ r
     · have hand := and15n r hr
       obtain ⟨x, hx⟩ : ∃ x, cs[64]? = some x := ⟨cs[64]'(by omega), by simp [hcs]⟩
       have c64 := (cell 64).trans hx
       have f64 := fz 64
       have h16z : (16 : Int) ≤ (r : Int) := by omega
       have hdg := digits_at ⟨r % 16, by omega⟩
       go_wp2
       refine ⟨⟨_, heap_set' hblk _, by simpa using hcs, hbw.setCell (p := ⟨w.heap.size, 64, none⟩) (Nat.le_refl _) _, hid (Or.inr ⟨h16, by simp, rfl, ?_⟩)⟩, by simp [intOf]; omega⟩
       simp [hcs, hdg]
     · have h16z : (r : Int) < 16 := by omega
       obtain ⟨x, hx⟩ : ∃ x, cs[64]? = some x := ⟨cs[64]'(by omega), by simp [hcs]⟩
       have c64 := (cell 64).trans hx
       have f64 := fz 64
       have hdg := digits_at ⟨r, by omega⟩
       have hlt := hexD_lt r (by omega)
       have d0 := World.cell?_setCell_same wr ⟨w.heap.size, 64, none⟩ (.int .u8 (hexD r : Int)) c64
       have hcv : (convert 25 9 (.slice (some ⟨w.heap.size, 64, none⟩) 1 1)).run Tryz.prog (wr.setCell ⟨w.heap.size, 64, none⟩ (.int .u8 (hexD r : Int))) = .ok (.string ⟨#[(hexD r).toUInt8]⟩) (wr.setCell ⟨w.heap.size, 64, none⟩ (.int .u8 (hexD r : Int))) := by
         refine run_convert_bytes_back _ _ _ 5 ⟨w.heap.size, 64, none⟩ 1 [(hexD r).toUInt8] Tryz.underlying25 Tryz.underlying5 Tryz.underlying9 ?_
         intro j hj
         match j, hj with
         | 0, _ => simp only [List.getElem_cons_zero]; rw [toU _ (by omega)]; exact d0
       have hen : en (hex2 r) = [(hexD r).toUInt8] := by unfold hex2; rw [if_pos (by omega), en_one, e1_ascii _ hlt]
       go_wp2
       go_ret2
       exact ⟨by first | rfl | (rw [hen]; rfl), hbw.setCell (p := ⟨w.heap.size, 64, none⟩) (Nat.le_refl _) _⟩
   · have hrz : ((r / 16 : Nat) : Int) < 16 := by omega
     obtain ⟨x, hx⟩ : ∃ x, cs[63]? = some x := ⟨cs[63]'(by omega), by simp [hcs]⟩
     have c63 := (cell 63).trans hx
     have f63 := fz 63
     have hdg := digits_at ⟨r / 16, by omega⟩
     have hlt := hexD_lt (r / 16) (by omega)
     have hlt2 := hexD_lt (r % 16) (by omega)
     have d0 := World.cell?_setCell_same wr ⟨w.heap.size, 63, none⟩ (.int .u8 (hexD (r / 16) : Int)) c63
     have d1 : (wr.setCell ⟨w.heap.size, 63, none⟩ (.int .u8 (hexD (r / 16) : Int))).cell? ⟨w.heap.size, 64, none⟩ = some (.int .u8 (hexD (r % 16) : Int)) := by
       rw [World.cell?_setCell_other _ _ _ _ (by simp)]
       exact (cell 64).trans h64
     have hcv : (convert 25 9 (.slice (some ⟨w.heap.size, 63, none⟩) 2 2)).run Tryz.prog (wr.setCell ⟨w.heap.size, 63, none⟩ (.int .u8 (hexD (r / 16) : Int))) = .ok (.string ⟨#[(hexD (r / 16)).toUInt8, (hexD (r % 16)).toUInt8]⟩) (wr.setCell ⟨w.heap.size, 63, none⟩ (.int .u8 (hexD (r / 16) : Int))) := by
       refine run_convert_bytes_back _ _ _ 5 ⟨w.heap.size, 63, none⟩ 2 [(hexD (r / 16)).toUInt8, (hexD (r % 16)).toUInt8] Tryz.underlying25 Tryz.underlying5 Tryz.underlying9 ?_
       intro j hj
       match j, hj with
       | 0, _ => simp only [List.getElem_cons_zero]; rw [toU _ (by omega)]; exact d0
       | 1, _ => simp only [List.getElem_cons_succ, List.getElem_cons_zero]; rw [toU _ (by omega)]; exact d1
     have hen : en (hex2 r) = [(hexD (r / 16)).toUInt8, (hexD (r % 16)).toUInt8] := by
       unfold hex2; rw [if_neg (by omega)]; show e1 _ ++ (e1 _ ++ []) = _; rw [e1_ascii _ hlt, e1_ascii _ hlt2]; rfl
     go_wp2
     go_ret2
     exact ⟨by first | rfl | (rw [hen]; rfl), hbw.setCell (p := ⟨w.heap.size, 63, none⟩) (Nat.le_refl _) _⟩
theorem iformatInt_w (r : Nat) (hr : r < 128) (w : World) (hT : TabAt 4 Lib.deBruijn64tab w) :
   Calls Tryz.prog 142 #[.int .i64 (r : Int), .int .i64 16] w fun e w' => e = .returned (.string ⟨(en (hex2 r)).toArray⟩) ∧ Below w.heap.size w w' := by
 have h0 : ¬ (r : Int) < 0 := by omega
 go_enter Tryz.func142, Tryz.ntmps142
 go_wp2_with (go_at_call 150; refine (formatBits_w r hr _ hT).mono ?_; rintro e w1 ⟨rfl, hb⟩)
 go_ret
 exact ⟨rfl, hb⟩
theorem formatInt_w (r : Nat) (hr : r < 128) (w : World) (hT : TabAt 4 Lib.deBruijn64tab w) :
   Calls Tryz.prog 135 #[.int .i64 (r : Int), .int .i64 16] w fun e w' => e = .returned (.string ⟨(en (hex2 r)).toArray⟩) ∧ Below w.heap.size w w' := by
 go_enter Tryz.func135, Tryz.ntmps135
 go_wp2_with (go_at_call 142; refine (iformatInt_w r hr _ hT).mono ?_; rintro e w1 ⟨rfl, hb⟩)
 go_ret
 exact ⟨rfl, hb⟩
end Go.Proofs.YtlojfmlaookpmaaGreatDoor
