/-
  Where the functions and types of slices.Sort and slices.Compact stand in this program.
-/
import Derived.Test.YtmnhbkehicpohaaProg
import Derived.Shelf.Slices.In.SortNone
import Derived.Shelf.Slices.In.CompactS
namespace Go.Proofs.Ytmnhbkehicpohaa

def laysSortRen : Go.Shelf.Ren := ⟨fun
   
    | 190 => 36
    | 125 => 51
    | 258 => 50
    | 128 => 66
    | 129 => 67
    | 302 => 57
    | 303 => 58
    | 304 => 59
    | 305 => 60
    | 306 => 61
    | 307 => 62
    | 308 => 63
    | 309 => 64
    | 310 => 65
    | 333 => 70
    | 329 => 71
    | 330 => 72
    | 334 => 73
    | 335 => 74
    | 336 => 75
    | 344 => 77
    | n => n, fun
   
    | 31 => 38
    | 9 => 9
    | 3 => 3
    | 46 => 43
    | 0 => 0
    | 51 => 86
    | 53 => 88
    | 4 => 4
    | 183 => 78
    | 182 => 77
    | 131 => 83
    | 5 => 5
    | 218 => 89
    | 222 => 93
    | 228 => 96
    | 229 => 97
    | n => n, fun
   
    | n => n⟩
theorem laysSort : Go.Proofs.Lays.n190 Try.prog laysSortRen :=
  {
    mixed := by kernel_rfl,
    f125 := Try.func51.trans (congrArg some (by kernel_rfl)),
    f128 := Try.func66.trans (congrArg some (by kernel_rfl)),
    f129 := Try.func67.trans (congrArg some (by kernel_rfl)),
    f190 := Try.func36.trans (congrArg some (by kernel_rfl)),
    f258 := Try.func50.trans (congrArg some (by kernel_rfl)),
    f302 := Try.func57.trans (congrArg some (by kernel_rfl)),
    f303 := Try.func58.trans (congrArg some (by kernel_rfl)),
    f304 := Try.func59.trans (congrArg some (by kernel_rfl)),
    f305 := Try.func60.trans (congrArg some (by kernel_rfl)),
    f306 := Try.func61.trans (congrArg some (by kernel_rfl)),
    f307 := Try.func62.trans (congrArg some (by kernel_rfl)),
    f308 := Try.func63.trans (congrArg some (by kernel_rfl)),
    f309 := Try.func64.trans (congrArg some (by kernel_rfl)),
    f310 := Try.func65.trans (congrArg some (by kernel_rfl)),
    f329 := Try.func71.trans (congrArg some (by kernel_rfl)),
    f330 := Try.func72.trans (congrArg some (by kernel_rfl)),
    f333 := Try.func70.trans (congrArg some (by kernel_rfl)),
    f334 := Try.func73.trans (congrArg some (by kernel_rfl)),
    f335 := Try.func74.trans (congrArg some (by kernel_rfl)),
    f336 := Try.func75.trans (congrArg some (by kernel_rfl)),
    f344 := Try.func77.trans (congrArg some (by kernel_rfl)),
    t0 := Try.underlying0,
    a0 := Try.isAgg0,
    z0 := Try.sizeOf0,
    v0 := Try.zeroValue0,
    t3 := Try.underlying3,
    a3 := Try.isAgg3,
    z3 := Try.sizeOf3,
    v3 := Try.zeroValue3,
    t4 := Try.underlying4,
    a4 := Try.isAgg4,
    z4 := Try.sizeOf4,
    v4 := Try.zeroValue4,
    t5 := Try.underlying5,
    a5 := Try.isAgg5,
    z5 := Try.sizeOf5,
    v5 := Try.zeroValue5,
    t9 := Try.underlying9,
    a9 := Try.isAgg9,
    z9 := Try.sizeOf9,
    v9 := Try.zeroValue9,
    t31 := Try.underlying38,
    a31 := Try.isAgg38,
    z31 := Try.sizeOf38,
    v31 := Try.zeroValue38,
    t46 := Try.underlying43,
    a46 := Try.isAgg43,
    z46 := Try.sizeOf43,
    v46 := Try.zeroValue43,
    t51 := Try.underlying86,
    a51 := Try.isAgg86,
    z51 := Try.sizeOf86,
    v51 := Try.zeroValue86,
    t53 := Try.underlying88,
    a53 := Try.isAgg88,
    z53 := Try.sizeOf88,
    v53 := Try.zeroValue88,
    t131 := Try.underlying83,
    a131 := Try.isAgg83,
    z131 := Try.sizeOf83,
    v131 := Try.zeroValue83,
    t182 := Try.underlying77,
    a182 := Try.isAgg77,
    z182 := Try.sizeOf77,
    v182 := Try.zeroValue77,
    t183 := Try.underlying78,
    a183 := Try.isAgg78,
    z183 := Try.sizeOf78,
    v183 := Try.zeroValue78,
    t218 := Try.underlying89,
    a218 := Try.isAgg89,
    z218 := Try.sizeOf89,
    v218 := Try.zeroValue89,
    t222 := Try.underlying93,
    a222 := Try.isAgg93,
    z222 := Try.sizeOf93,
    v222 := Try.zeroValue93,
    t228 := Try.underlying96,
    a228 := Try.isAgg96,
    z228 := Try.sizeOf96,
    v228 := Try.zeroValue96,
    t229 := Try.underlying97,
    a229 := Try.isAgg97,
    z229 := Try.sizeOf97,
    v229 := Try.zeroValue97 }

def laysCompactRen : Go.Shelf.Ren := ⟨fun
   
    | 194 => 37
    | n => n, fun
   
    | 31 => 38
    | 9 => 9
    | 3 => 3
    | 4 => 4
    | 0 => 0
    | n => n, fun
   
    | n => n⟩
theorem laysCompact : Go.Proofs.Lays.n194 Try.prog laysCompactRen :=
  {
    mixed := by kernel_rfl,
    f194 := Try.func37.trans (congrArg some (by kernel_rfl)),
    t0 := Try.underlying0,
    a0 := Try.isAgg0,
    z0 := Try.sizeOf0,
    v0 := Try.zeroValue0,
    t3 := Try.underlying3,
    a3 := Try.isAgg3,
    z3 := Try.sizeOf3,
    v3 := Try.zeroValue3,
    t4 := Try.underlying4,
    a4 := Try.isAgg4,
    z4 := Try.sizeOf4,
    v4 := Try.zeroValue4,
    t9 := Try.underlying9,
    a9 := Try.isAgg9,
    z9 := Try.sizeOf9,
    v9 := Try.zeroValue9,
    t31 := Try.underlying38,
    a31 := Try.isAgg38,
    z31 := Try.sizeOf38,
    v31 := Try.zeroValue38 }
end Go.Proofs.Ytmnhbkehicpohaa
