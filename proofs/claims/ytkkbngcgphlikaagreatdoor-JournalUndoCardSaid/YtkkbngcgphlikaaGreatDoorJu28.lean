/-
  Part of the proof of JournalUndo.
-/
import Derived.Test.YtkkbngcgphlikaaGreatDoorRows
import Derived.Shelf.SlIterI.Nil
import Derived.Shelf.SlLaysM
import Derived.Test.YtkkbngcgphlikaaGreatDoorJu0
set_option linter.unusedVariables false
set_option linter.unusedSimpArgs false
namespace Go.Proofs.YtkkbngcgphlikaaGreatDoor
open Go.Shelf
def keysU_ren : Go.Shelf.Ren := ⟨fun | 7 => 153 | 10 => 182 | n => n, fun | 23 => 101 | 26 => 3 | 3 => 40 | 28 => 161 | 0 => 0 | 27 => 160 | 33 => 153 | 4 => 4 | n => n, fun | n => n⟩
theorem keysU : Go.Proofs.SlLaysZI.n7 Tryz.prog keysU_ren where
 mixed := by kernel_rfl
 f7 := ⟨ "maps.Keys[map[int]uint64,int,uint64]", by decide, Tryz.func153.trans (congrArg some (by kernel_rfl))⟩
 f10 := ⟨ "maps.Keys[map[int]uint64,int,uint64]$1", by decide, Tryz.func182.trans (congrArg some (by kernel_rfl))⟩
 t0 := Tryz.underlying0
 a0 := Tryz.isAgg0
 z0 := Tryz.sizeOf0
 v0 := Tryz.zeroValue0
 t4 := Tryz.underlying4
 a4 := Tryz.isAgg4
 z4 := Tryz.sizeOf4
 v4 := Tryz.zeroValue4
 t23 := Tryz.underlying101
 a23 := Tryz.isAgg101
 z23 := Tryz.sizeOf101
 v23 := Tryz.zeroValue101
 t26 := Tryz.underlying3
 a26 := Tryz.isAgg3
 z26 := Tryz.sizeOf3
 v26 := Tryz.zeroValue3
 t27 := Tryz.underlying160
 a27 := Tryz.isAgg160
 z27 := Tryz.sizeOf160
 v27 := Tryz.zeroValue160
 t28 := Tryz.underlying161
 a28 := Tryz.isAgg161
 z28 := Tryz.sizeOf161
 v28 := Tryz.zeroValue161
 t33 := Tryz.underlying153
 a33 := Tryz.isAgg153
 z33 := Tryz.sizeOf153
 v33 := Tryz.zeroValue153
def sortedA_ren : Go.Shelf.Ren := ⟨fun | 6 => 152 | 8 => 180 | 9 => 181 | 11 => 194 | 13 => 196 | 12 => 195 | 23 => 211 | 24 => 212 | 14 => 202 | 15 => 203 | 16 => 204 | 17 => 205 | 18 => 206 | 19 => 207 | 20 => 208 | 21 => 209 | 22 => 210 | 25 => 218 | 26 => 219 | 27 => 220 | 28 => 221 | 29 => 222 | 30 => 223 | 31 => 225 | n => n, fun | 26 => 3 | 28 => 161 | 24 => 84 | 0 => 0 | 3 => 3 | 37 => 201 | 48 => 24 | 50 => 40 | 4 => 4 | 40 => 229 | 39 => 228 | 45 => 233 | 5 => 5 | 9 => 9 | 51 => 243 | 55 => 247 | 57 => 249 | 58 => 181 | 33 => 153 | n => n, fun | n => n⟩
theorem sortedA : Go.Proofs.SlLaysZI.n6 Tryz.prog sortedA_ren where
 mixed := by kernel_rfl
 f6 := ⟨ "slices.Sorted[int]", by decide, Tryz.func152.trans (congrArg some (by kernel_rfl))⟩
 f8 := ⟨ "slices.Collect[int]", by decide, Tryz.func180.trans (congrArg some (by kernel_rfl))⟩
 f11 := ⟨ "slices.AppendSeq[[]int,int]", by decide, Tryz.func194.trans (congrArg some (by kernel_rfl))⟩
 t0 := Tryz.underlying0
 a0 := Tryz.isAgg0
 z0 := Tryz.sizeOf0
 v0 := Tryz.zeroValue0
 t24 := Tryz.underlying84
 a24 := Tryz.isAgg84
 z24 := Tryz.sizeOf84
 v24 := Tryz.zeroValue84
 t26 := Tryz.underlying3
 a26 := Tryz.isAgg3
 z26 := Tryz.sizeOf3
 v26 := Tryz.zeroValue3
 t28 := Tryz.underlying161
 a28 := Tryz.isAgg161
 z28 := Tryz.sizeOf161
 v28 := Tryz.zeroValue161
 i26 := by kernel_rfl
def sortA_ren : Go.Shelf.Ren := ⟨fun | 5 => 181 | 8 => 196 | 7 => 195 | 19 => 211 | 20 => 212 | 10 => 202 | 11 => 203 | 12 => 204 | 13 => 205 | 14 => 206 | 15 => 207 | 16 => 208 | 17 => 209 | 18 => 210 | 30 => 218 | 31 => 219 | 32 => 220 | 33 => 221 | 34 => 222 | 35 => 223 | 40 => 225 | n => n, fun | 23 => 84 | 25 => 3 | 3 => 3 | 32 => 201 | 22 => 84 | 0 => 0 | 44 => 24 | 46 => 40 | 4 => 4 | 36 => 229 | 35 => 228 | 41 => 233 | 5 => 5 | 9 => 9 | 53 => 243 | 57 => 247 | 63 => 249 | 64 => 181 | n => n, fun | n => n⟩
theorem sortA : Go.Proofs.SlLaysM.n5 Tryz.prog sortA_ren where
 mixed := by kernel_rfl
 f5 := ⟨ "slices.Sort[[]int,int]", by decide, Tryz.func181.trans (congrArg some (by kernel_rfl))⟩
 f7 := ⟨ "slices.pdqsortOrdered[int]", by decide, Tryz.func195.trans (congrArg some (by kernel_rfl))⟩
 f8 := Tryz.func196.trans (congrArg some (by kernel_rfl))
 f10 := ⟨ "slices.insertionSortOrdered[int]", by decide, Tryz.func202.trans (congrArg some (by kernel_rfl))⟩
 f11 := ⟨ "slices.heapSortOrdered[int]", by decide, Tryz.func203.trans (congrArg some (by kernel_rfl))⟩
 f12 := ⟨ "slices.breakPatternsOrdered[int]", by decide, Tryz.func204.trans (congrArg some (by kernel_rfl))⟩
 f13 := ⟨ "slices.choosePivotOrdered[int]", by decide, Tryz.func205.trans (congrArg some (by kernel_rfl))⟩
 f14 := ⟨ "slices.reverseRangeOrdered[int]", by decide, Tryz.func206.trans (congrArg some (by kernel_rfl))⟩
 f15 := ⟨ "slices.partialInsertionSortOrdered[int]", by decide, Tryz.func207.trans (congrArg some (by kernel_rfl))⟩
 f16 := ⟨ "cmp.Less[int]", by decide, Tryz.func208.trans (congrArg some (by kernel_rfl))⟩
 f17 := ⟨ "slices.partitionEqualOrdered[int]", by decide, Tryz.func209.trans (congrArg some (by kernel_rfl))⟩
 f18 := ⟨ "slices.partitionOrdered[int]", by decide, Tryz.func210.trans (congrArg some (by kernel_rfl))⟩
 f19 := Tryz.func211.trans (congrArg some (by kernel_rfl))
 f20 := Tryz.func212.trans (congrArg some (by kernel_rfl))
 f30 := ⟨ "slices.siftDownOrdered[int]", by decide, Tryz.func218.trans (congrArg some (by kernel_rfl))⟩
 f31 := Tryz.func219.trans (congrArg some (by kernel_rfl))
 f32 := Tryz.func220.trans (congrArg some (by kernel_rfl))
 f33 := ⟨ "slices.medianAdjacentOrdered[int]", by decide, Tryz.func221.trans (congrArg some (by kernel_rfl))⟩
 f34 := ⟨ "slices.medianOrdered[int]", by decide, Tryz.func222.trans (congrArg some (by kernel_rfl))⟩
 f35 := ⟨ "cmp.isNaN[int]", by decide, Tryz.func223.trans (congrArg some (by kernel_rfl))⟩
 f40 := ⟨ "slices.order2Ordered[int]", by decide, Tryz.func225.trans (congrArg some (by kernel_rfl))⟩
 t0 := Tryz.underlying0
 a0 := Tryz.isAgg0
 z0 := Tryz.sizeOf0
 v0 := Tryz.zeroValue0
 t3 := Tryz.underlying3
 a3 := Tryz.isAgg3
 z3 := Tryz.sizeOf3
 v3 := Tryz.zeroValue3
 t4 := Tryz.underlying4
 a4 := Tryz.isAgg4
 z4 := Tryz.sizeOf4
 v4 := Tryz.zeroValue4
 t5 := Tryz.underlying5
 a5 := Tryz.isAgg5
 z5 := Tryz.sizeOf5
 v5 := Tryz.zeroValue5
 t9 := Tryz.underlying9
 a9 := Tryz.isAgg9
 z9 := Tryz.sizeOf9
 v9 := Tryz.zeroValue9
 t22 := Tryz.underlying84
 a22 := Tryz.isAgg84
 z22 := Tryz.sizeOf84
 v22 := Tryz.zeroValue84
 t23 := Tryz.underlying84
 a23 := Tryz.isAgg84
 z23 := Tryz.sizeOf84
 v23 := Tryz.zeroValue84
 t25 := Tryz.underlying3
 a25 := Tryz.isAgg3
 z25 := Tryz.sizeOf3
 v25 := Tryz.zeroValue3
 t32 := Tryz.underlying201
 a32 := Tryz.isAgg201
 z32 := Tryz.sizeOf201
 v32 := Tryz.zeroValue201
 t35 := Tryz.underlying228
 a35 := Tryz.isAgg228
 z35 := Tryz.sizeOf228
 v35 := Tryz.zeroValue228
 t36 := Tryz.underlying229
 a36 := Tryz.isAgg229
 z36 := Tryz.sizeOf229
 v36 := Tryz.zeroValue229
 t41 := Tryz.underlying233
 a41 := Tryz.isAgg233
 z41 := Tryz.sizeOf233
 v41 := Tryz.zeroValue233
 t44 := Tryz.underlying24
 a44 := Tryz.isAgg24
 z44 := Tryz.sizeOf24
 v44 := Tryz.zeroValue24
 t46 := Tryz.underlying40
 a46 := Tryz.isAgg40
 z46 := Tryz.sizeOf40
 v46 := Tryz.zeroValue40
 t53 := Tryz.underlying243
 a53 := Tryz.isAgg243
 z53 := Tryz.sizeOf243
 v53 := Tryz.zeroValue243
 t57 := Tryz.underlying247
 a57 := Tryz.isAgg247
 z57 := Tryz.sizeOf247
 v57 := Tryz.zeroValue247
 t63 := Tryz.underlying249
 a63 := Tryz.isAgg249
 z63 := Tryz.sizeOf249
 v63 := Tryz.zeroValue249
 t64 := Tryz.underlying181
 a64 := Tryz.isAgg181
 z64 := Tryz.sizeOf181
 v64 := Tryz.zeroValue181
end Go.Proofs.YtkkbngcgphlikaaGreatDoor
