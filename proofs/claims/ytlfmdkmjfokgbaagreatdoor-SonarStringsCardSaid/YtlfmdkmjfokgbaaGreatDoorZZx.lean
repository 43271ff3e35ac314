/-
  Contracts of the library, proved once for every program, at this program (written by tools/shelf.py).
-/
import Derived.Shelf.Strings.Builder1
import Derived.Shelf.Strings.Builder2
import Derived.Shelf.Strings.OnBuilder
import Derived.Shelf.Small.Wraps
import Derived.Shelf.Strconv.Itoa0
import Derived.Shelf.Strconv.Itoa1
import Derived.Shelf.LaysM
import Derived.Shelf.Strconv.Itoa2
import Derived.Shelf.Strconv.Itoa3
import Derived.Shelf.Strings.Search1
import Derived.Shelf.Strings.Search2
import Derived.Shelf.Strings.Search3
import Derived.Shelf.Strings.Count
import Derived.Shelf.Strings.Prefix
import Derived.Shelf.Strings.Split
import Derived.Shelf.Strings.SplitShaped
import Derived.Test.YtlfmdkmjfokgbaaGreatDoorZZs
import Derived.Test.YtlfmdkmjfokgbaaGreatDoorProg
set_option linter.all false
namespace Go.Proofs
open Go.Shelf
def Tryz.laysM171_ren : Go.Shelf.Ren := ⟨fun | 171 => 191 | 243 => 296 | 246 => 366 | 283 => 422 | 284 => 423 | 285 => 424 | 286 => 425 | 129 => 386 | 317 => 457 | 318 => 458 | 319 => 459 | 320 => 460 | 337 => 471 | 338 => 472 | n => n, fun | 3 => 3 | 9 => 9 | 2 => 2 | 4 => 4 | 171 => 534 | 0 => 0 | 53 => 417 | 37 => 286 | 5 => 5 | 173 => 536 | 212 => 563 | 51 => 501 | 20 => 20 | 213 => 564 | 46 => 448 | 232 => 577 | 233 => 578 | n => n, fun | 17 => 1 | 18 => 4 | 19 => 5 | n => n⟩
theorem Tryz.laysM171 : Go.Proofs.LaysM.n171 Tryz.prog Tryz.laysM171_ren := {
 mixed := by kernel_rfl
 f129 := Tryz.func386.trans (congrArg some (by kernel_rfl))
 f171 := Tryz.func191.trans (congrArg some (by kernel_rfl))
 f243 := Tryz.func296.trans (congrArg some (by kernel_rfl))
 f246 := Tryz.func366.trans (congrArg some (by kernel_rfl))
 f283 := Tryz.func422.trans (congrArg some (by kernel_rfl))
 f284 := Tryz.func423.trans (congrArg some (by kernel_rfl))
 f285 := Tryz.func424.trans (congrArg some (by kernel_rfl))
 f286 := Tryz.func425.trans (congrArg some (by kernel_rfl))
 f317 := Tryz.func457.trans (congrArg some (by kernel_rfl))
 f318 := Tryz.func458.trans (congrArg some (by kernel_rfl))
 f319 := Tryz.func459.trans (congrArg some (by kernel_rfl))
 f320 := Tryz.func460.trans (congrArg some (by kernel_rfl))
 f337 := Tryz.func471.trans (congrArg some (by kernel_rfl))
 f338 := Tryz.func472.trans (congrArg some (by kernel_rfl))
 t0 := Tryz.underlying0
 a0 := Tryz.isAgg0
 z0 := Tryz.sizeOf0
 v0 := Tryz.zeroValue0
 t2 := Tryz.underlying2
 a2 := Tryz.isAgg2
 z2 := Tryz.sizeOf2
 v2 := Tryz.zeroValue2
 t3 := Tryz.underlying3
 a3 := Tryz.isAgg3
 z3 := Tryz.sizeOf3
 v3 := Tryz.zeroValue3
 t4 := Tryz.underlying4
 a4 := Tryz.isAgg4
 z4 := Tryz.sizeOf4
 v4 := Tryz.zeroValue4
 t5 := Tryz.underlying5
 a5 := Tryz.isAgg5
 z5 := Tryz.sizeOf5
 v5 := Tryz.zeroValue5
 t9 := Tryz.underlying9
 a9 := Tryz.isAgg9
 z9 := Tryz.sizeOf9
 v9 := Tryz.zeroValue9
 t20 := Tryz.underlying20
 a20 := Tryz.isAgg20
 z20 := Tryz.sizeOf20
 v20 := Tryz.zeroValue20
 t37 := Tryz.underlying286
 a37 := Tryz.isAgg286
 z37 := Tryz.sizeOf286
 v37 := Tryz.zeroValue286
 t46 := Tryz.underlying448
 a46 := Tryz.isAgg448
 z46 := Tryz.sizeOf448
 v46 := Tryz.zeroValue448
 t51 := Tryz.underlying501
 a51 := Tryz.isAgg501
 z51 := Tryz.sizeOf501
 v51 := Tryz.zeroValue501
 t53 := Tryz.underlying417
 a53 := Tryz.isAgg417
 z53 := Tryz.sizeOf417
 v53 := Tryz.zeroValue417
 t171 := Tryz.underlying534
 a171 := Tryz.isAgg534
 z171 := Tryz.sizeOf534
 v171 := Tryz.zeroValue534
 t173 := Tryz.underlying536
 a173 := Tryz.isAgg536
 z173 := Tryz.sizeOf536
 v173 := Tryz.zeroValue536
 t212 := Tryz.underlying563
 a212 := Tryz.isAgg563
 z212 := Tryz.sizeOf563
 v212 := Tryz.zeroValue563
 t213 := Tryz.underlying564
 a213 := Tryz.isAgg564
 z213 := Tryz.sizeOf564
 t232 := Tryz.underlying577
 a232 := Tryz.isAgg577
 z232 := Tryz.sizeOf577
 v232 := Tryz.zeroValue577
 t233 := Tryz.underlying578
 a233 := Tryz.isAgg578
 z233 := Tryz.sizeOf578
 v233 := Tryz.zeroValue578
 g17 := by kernel_rfl
 g18 := by kernel_rfl
 g19 := by kernel_rfl
 i0 := by kernel_rfl
 i2 := by kernel_rfl
 i3 := by kernel_rfl
 i4 := by kernel_rfl
 i5 := by kernel_rfl
 i9 := by kernel_rfl
 i20 := by kernel_rfl
 i37 := by kernel_rfl
 i46 := by kernel_rfl
 i51 := by kernel_rfl
 i53 := by kernel_rfl
 i171 := by kernel_rfl
 i173 := by kernel_rfl
 i212 := by kernel_rfl
 i232 := by kernel_rfl
 i233 := by kernel_rfl
 m17 := by kernel_rfl
 m18 := by kernel_rfl
 m19 := by kernel_rfl }
open Go.RowKit Go.Sort Go.Lib in
theorem Tryz.strconv_Itoa (n : Int) (h0 : -9223372036854775808 ≤ n) (h1 : n ≤ 9223372036854775807) (w : World) (htab : Lib.TabIs Tryz.prog w "internal/strconv.uint64pow10" .u64 Lib.pow10Tab) :
  Calls Tryz.prog 191 #[.int .i64 n] w fun e w' => e = .returned (.string ⟨(Lib.itoa n).toArray⟩) ∧ ∃ k os, w' = grow (w.drewN k) os := Any.strconv_Itoa Tryz.laysM171 n h0 h1 w htab
def Tryz.lays156_ren : Go.Shelf.Ren := ⟨fun | 156 => 88 | 165 => 192 | 166 => 193 | 169 => 194 | 240 => 297 | 241 => 298 | 276 => 367 | 277 => 368 | n => n, fun | 31 => 148 | 9 => 9 | 3 => 3 | 4 => 4 | 0 => 0 | 20 => 20 | 72 => 288 | 76 => 292 | 70 => 285 | 37 => 286 | 75 => 291 | 127 => 427 | 164 => 485 | 5 => 5 | 80 => 294 | n => n, fun | n => n⟩
theorem Tryz.Builder_Extra_156 : Builder.Extra Tryz.prog Tryz.lays156_ren := {
 sizeBuilder := by kernel_rfl
 liesBuilder := by kernel_rfl
 t5 := Tryz.underlying5
 a5 := Tryz.isAgg5
 z5 := Tryz.sizeOf5
 v5 := Tryz.zeroValue5
 infoByte := by kernel_rfl
 cellsByte := by kernel_rfl
 sizeByte := by kernel_rfl
 neB5 := by decide }
theorem Tryz.lays156 : Go.Proofs.Lays.n156 Tryz.prog Tryz.lays156_ren := {
 mixed := by kernel_rfl
 f156 := Tryz.func88.trans (congrArg some (by kernel_rfl))
 f165 := Tryz.func192.trans (congrArg some (by kernel_rfl))
 f166 := Tryz.func193.trans (congrArg some (by kernel_rfl))
 f169 := Tryz.func194.trans (congrArg some (by kernel_rfl))
 f240 := Tryz.func297.trans (congrArg some (by kernel_rfl))
 f241 := Tryz.func298.trans (congrArg some (by kernel_rfl))
 f276 := Tryz.func367.trans (congrArg some (by kernel_rfl))
 f277 := Tryz.func368.trans (congrArg some (by kernel_rfl))
 t0 := Tryz.underlying0
 a0 := Tryz.isAgg0
 z0 := Tryz.sizeOf0
 v0 := Tryz.zeroValue0
 t3 := Tryz.underlying3
 a3 := Tryz.isAgg3
 z3 := Tryz.sizeOf3
 v3 := Tryz.zeroValue3
 t4 := Tryz.underlying4
 a4 := Tryz.isAgg4
 z4 := Tryz.sizeOf4
 v4 := Tryz.zeroValue4
 t9 := Tryz.underlying9
 a9 := Tryz.isAgg9
 z9 := Tryz.sizeOf9
 v9 := Tryz.zeroValue9
 t20 := Tryz.underlying20
 a20 := Tryz.isAgg20
 z20 := Tryz.sizeOf20
 v20 := Tryz.zeroValue20
 t31 := Tryz.underlying148
 a31 := Tryz.isAgg148
 z31 := Tryz.sizeOf148
 v31 := Tryz.zeroValue148
 t37 := Tryz.underlying286
 a37 := Tryz.isAgg286
 z37 := Tryz.sizeOf286
 v37 := Tryz.zeroValue286
 t70 := Tryz.underlying285
 a70 := Tryz.isAgg285
 z70 := Tryz.sizeOf285
 v70 := Tryz.zeroValue285
 t72 := Tryz.underlying288
 a72 := Tryz.isAgg288
 z72 := Tryz.sizeOf288
 v72 := Tryz.zeroValue288
 t75 := Tryz.underlying291
 a75 := Tryz.isAgg291
 z75 := Tryz.sizeOf291
 v75 := Tryz.zeroValue291
 t76 := Tryz.underlying292
 a76 := Tryz.isAgg292
 z76 := Tryz.sizeOf292
 v76 := Tryz.zeroValue292
 t127 := Tryz.underlying427
 a127 := Tryz.isAgg427
 z127 := Tryz.sizeOf427
 v127 := Tryz.zeroValue427
 t164 := Tryz.underlying485
 a164 := Tryz.isAgg485
 z164 := Tryz.sizeOf485
 v164 := Tryz.zeroValue485 }
open Go.RowKit in
theorem Tryz.strings_Join (bk o c : Nat) (xs : List ByteArray) (sep : ByteArray) (w : World) (hcells : ∀ (j : Nat) x, xs[j]? = some x → w.cell? ⟨bk, o + j, none⟩ = some (.string x)) (hbk : bk < w.heap.size) (hN : xs.length ≤ 140737488355328) (hcap : xs.length ≤ c) (hlen : (Lib.join (xs.map (·.data.toList)) sep.data.toList).length ≤ 140737488355328) :
  Calls Tryz.prog 88 #[.slice (some ⟨bk, o, none⟩) xs.length c, .string sep] w fun e w' => e = .returned (.string ⟨(Lib.join (xs.map (·.data.toList)) sep.data.toList).toArray⟩) ∧ Below w.heap.size w w' := Any.strings_Join Tryz.lays156 Tryz.Builder_Extra_156 bk o c xs sep w hcells hbk hN hcap hlen
def Tryz.lays146_ren : Go.Shelf.Ren := ⟨fun | 146 => 195 | 221 => 299 | 268 => 369 | 138 => 370 | 143 => 371 | 195 => 426 | 197 => 427 | 218 => 428 | 219 => 421 | 260 => 461 | 217 => 453 | 225 => 454 | 224 => 455 | 267 => 456 | 266 => 469 | 314 => 470 | n => n, fun | 9 => 9 | 31 => 148 | 3 => 3 | 4 => 4 | 0 => 0 | 105 => 539 | 21 => 21 | 5 => 5 | 46 => 448 | 119 => 572 | 139 => 575 | 138 => 574 | 146 => 570 | 51 => 501 | n => n, fun | 1 => 0 | 3 => 2 | 4 => 3 | n => n⟩
theorem Tryz.lays146 : Go.Proofs.Lays.n146 Tryz.prog Tryz.lays146_ren := {
 mixed := by kernel_rfl
 f138 := Tryz.func370.trans (congrArg some (by kernel_rfl))
 f143 := Tryz.func371.trans (congrArg some (by kernel_rfl))
 f146 := Tryz.func195.trans (congrArg some (by kernel_rfl))
 f195 := Tryz.func426.trans (congrArg some (by kernel_rfl))
 f197 := Tryz.func427.trans (congrArg some (by kernel_rfl))
 f217 := Tryz.func453.trans (congrArg some (by kernel_rfl))
 f218 := Tryz.func428.trans (congrArg some (by kernel_rfl))
 f219 := Tryz.func421.trans (congrArg some (by kernel_rfl))
 f221 := Tryz.func299.trans (congrArg some (by kernel_rfl))
 f224 := Tryz.func455.trans (congrArg some (by kernel_rfl))
 f225 := Tryz.func454.trans (congrArg some (by kernel_rfl))
 f260 := Tryz.func461.trans (congrArg some (by kernel_rfl))
 f266 := Tryz.func469.trans (congrArg some (by kernel_rfl))
 f267 := Tryz.func456.trans (congrArg some (by kernel_rfl))
 f268 := Tryz.func369.trans (congrArg some (by kernel_rfl))
 f314 := Tryz.func470.trans (congrArg some (by kernel_rfl))
 t0 := Tryz.underlying0
 a0 := Tryz.isAgg0
 z0 := Tryz.sizeOf0
 v0 := Tryz.zeroValue0
 t3 := Tryz.underlying3
 a3 := Tryz.isAgg3
 z3 := Tryz.sizeOf3
 v3 := Tryz.zeroValue3
 t4 := Tryz.underlying4
 a4 := Tryz.isAgg4
 z4 := Tryz.sizeOf4
 v4 := Tryz.zeroValue4
 t5 := Tryz.underlying5
 a5 := Tryz.isAgg5
 z5 := Tryz.sizeOf5
 v5 := Tryz.zeroValue5
 t9 := Tryz.underlying9
 a9 := Tryz.isAgg9
 z9 := Tryz.sizeOf9
 v9 := Tryz.zeroValue9
 t21 := Tryz.underlying21
 a21 := Tryz.isAgg21
 z21 := Tryz.sizeOf21
 v21 := Tryz.zeroValue21
 t31 := Tryz.underlying148
 a31 := Tryz.isAgg148
 z31 := Tryz.sizeOf148
 v31 := Tryz.zeroValue148
 t46 := Tryz.underlying448
 a46 := Tryz.isAgg448
 z46 := Tryz.sizeOf448
 v46 := Tryz.zeroValue448
 t51 := Tryz.underlying501
 a51 := Tryz.isAgg501
 z51 := Tryz.sizeOf501
 v51 := Tryz.zeroValue501
 t105 := Tryz.underlying539
 a105 := Tryz.isAgg539
 z105 := Tryz.sizeOf539
 v105 := Tryz.zeroValue539
 t119 := Tryz.underlying572
 a119 := Tryz.isAgg572
 z119 := Tryz.sizeOf572
 t138 := Tryz.underlying574
 a138 := Tryz.isAgg574
 z138 := Tryz.sizeOf574
 v138 := Tryz.zeroValue574
 t139 := Tryz.underlying575
 a139 := Tryz.isAgg575
 z139 := Tryz.sizeOf575
 v139 := Tryz.zeroValue575
 t146 := Tryz.underlying570
 a146 := Tryz.isAgg570
 z146 := Tryz.sizeOf570
 v146 := Tryz.zeroValue570
 g1 := by kernel_rfl
 g3 := by kernel_rfl
 g4 := by kernel_rfl }
open Go.RowKit Go.Lib in
theorem Tryz.strings_Split (s sep : ByteArray) (m : Int) (w : World) (hs : s.size < 4294967281) (hm : w.cell? ⟨0, 0, none⟩ = some (.int .i64 m)) (h1 : 1 ≤ sep.size) :
  Calls Tryz.prog 195 #[.string s, .string sep] w fun e w' =>
   e = .returned (.slice (some ⟨w.heap.size, 0, none⟩) (Lib.countB s sep + 1) (Lib.countB s sep + 1)) ∧ w' = w.alloc (.cells ((Lib.splitB sep 0 (Lib.countB s sep) s).map Value.string).toArray 9) := Any.strings_Split Tryz.lays146 (by kernel_rfl) s sep m w hs hm h1
def Tryz.lays103_ren : Go.Shelf.Ren := ⟨fun | 103 => 302 | 210 => 373 | 206 => 429 | n => n, fun | 9 => 9 | 4 => 4 | 24 => 431 | 3 => 3 | n => n, fun | n => n⟩
theorem Tryz.lays103 : Go.Proofs.Lays.n103 Tryz.prog Tryz.lays103_ren := {
 mixed := by kernel_rfl
 f103 := Tryz.func302.trans (congrArg some (by kernel_rfl))
 f206 := Tryz.func429.trans (congrArg some (by kernel_rfl))
 f210 := Tryz.func373.trans (congrArg some (by kernel_rfl))
 t3 := Tryz.underlying3
 a3 := Tryz.isAgg3
 z3 := Tryz.sizeOf3
 v3 := Tryz.zeroValue3
 t4 := Tryz.underlying4
 a4 := Tryz.isAgg4
 z4 := Tryz.sizeOf4
 v4 := Tryz.zeroValue4
 t9 := Tryz.underlying9
 a9 := Tryz.isAgg9
 z9 := Tryz.sizeOf9
 v9 := Tryz.zeroValue9
 t24 := Tryz.underlying431
 a24 := Tryz.isAgg431
 z24 := Tryz.sizeOf431
 v24 := Tryz.zeroValue431 }
open Go.RowKit in
theorem Tryz.strings_CutPrefix (s p : ByteArray) (w : World) :
  Calls Tryz.prog 302 #[.string s, .string p] w fun e w' => e = .returned (.tuple #[.string ⟨(Lib.trimPrefix s.data.toList p.data.toList).toArray⟩, .bool (Lib.hasPrefix s.data.toList p.data.toList)]) ∧ w' = w := Any.strings_CutPrefix Tryz.lays103 s p w
end Go.Proofs
namespace Go.Proofs.YtlfmdkmjfokgbaaGreatDoor
open Go
theorem strconv_Itoa_C : Cm.ItoaC Tryz.prog 191 := fun x0 x1 x2 x3 x4 => Go.Proofs.Tryz.strconv_Itoa x0 x1 x2 x3 x4
theorem strings_Join_C : Cm.JoinC Tryz.prog 88 := fun x0 x1 x2 x3 x4 x5 x6 x7 x8 x9 x10 => Go.Proofs.Tryz.strings_Join x0 x1 x2 x3 x4 x5 x6 x7 x8 x9 x10
theorem strings_Split_C : Cm.SplitC Tryz.prog 195 9 := Cm.split_one { Go.Proofs.Tryz.lays146 with } (by kernel_rfl)
theorem strings_CutPrefix_C : Cm.CutPrefixC Tryz.prog 302 := fun s p w => Go.Proofs.Tryz.strings_CutPrefix s p w
def strings_Split (a0 a1 : Int) : Option (List (Int)) := if (Cm.strOf a0).size < 4294967281 ∧ (Cm.strOf a1).size = 1 then some (Cm.pieces a0 a1) else none
theorem strings_Split_ok (a0 a1 : Int) (y : List (Int)) (h : strings_Split a0 a1 = some y) : Cm.CallOk Tryz.prog 195 (Cm.vals [a0, a1] []) [.ss (.v 0), .ss (.v 1)] [] 0 (Cm.vals [(y.length : Int)] [(y.flatMap Cm.enS)]) (.gs 0 0 (.v 0) 1 true) [some (.rows 0 [] 9 false)] := by
 unfold strings_Split at h
 split at h
 ·rename_i c
  injection h with h; subst h
  exact Cm.ext_split strings_Split_C (by kernel_rfl) a0 a1 c.1 c.2
 ·cases h
def strings_CutPrefix (a0 a1 : Int) : Option (Int × Bool) := some (Cm.cutPre a0 a1)
theorem strings_CutPrefix_ok (a0 a1 : Int) (y : Int × Bool) (h : strings_CutPrefix a0 a1 = some y) : Cm.CallOk Tryz.prog 302 (Cm.vals [a0, a1] []) [.ss (.v 0), .ss (.v 1)] [] 0 (Cm.vals [y.1, Cm.bI y.2] []) (.tup [.ss (.v 0), .bs (.v 1)]) [] := by
 injection h with h; subst h
 exact Cm.ext_cutprefix strings_CutPrefix_C (by kernel_rfl) a0 a1
def strconv_Itoa (a0 : Int) : Option (Int) := if -9223372036854775808 ≤ a0 ∧ a0 ≤ 9223372036854775807 then some (Cm.itoaS a0) else none
theorem strconv_Itoa_ok (a0 y : Int) (h : strconv_Itoa a0 = some y) : Cm.CallOk Tryz.prog 191 (Cm.vals [a0] []) [.sym .i64 (.v 0)] [some (.glob 1 .u64 [1, 10, 100, 1000, 10000, 100000, 1000000, 10000000, 100000000, 1000000000, 10000000000, 100000000000, 1000000000000, 10000000000000, 100000000000000, 1000000000000000, 10000000000000000, 100000000000000000, 1000000000000000000, 10000000000000000000])] 1 (Cm.vals [y] []) (.ss (.v 0)) [none] := by
 unfold strconv_Itoa at h
 split at h
 ·rename_i c
  injection h with h; subst h
  exact Cm.ext_itoaS strconv_Itoa_C (by kernel_rfl) (by kernel_rfl) (by kernel_rfl) a0 c
 ·cases h
def strings_Join (a0 : List (Int)) (a1 : Int) : Option (Int) := if a0.length ≤ 140737488355328 ∧ (Cm.joinS a0 a1).length ≤ 140737488355328 then some (Cm.codeS ⟨(Cm.joinS a0 a1).toArray⟩) else none
theorem strings_Join_ok (a0 : List (Int)) (a1 y : Int) (h : strings_Join a0 a1 = some y) : Cm.CallOk Tryz.prog 88 (Cm.vals [(a0.length : Int), a1] [(a0.flatMap Cm.enS)]) [.gs 0 0 (.v 0) 1 false, .ss (.v 1)] [some (.rows 0 [] 9 true)] 1 (Cm.vals [y] []) (.ss (.v 0)) [none] := by
 unfold strings_Join at h
 split at h
 ·rename_i c
  injection h with h; subst h
  exact Cm.ext_joinS strings_Join_C (fun a c sep w => Go.Proofs.Any.strings_Join_none Go.Proofs.Tryz.lays156 Go.Proofs.Tryz.Builder_Extra_156 a c sep w) (by kernel_rfl) a0 a1 c
 ·cases h
end Go.Proofs.YtlfmdkmjfokgbaaGreatDoor
