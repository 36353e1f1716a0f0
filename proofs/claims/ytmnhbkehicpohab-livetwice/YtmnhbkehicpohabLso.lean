/-
  Where the functions and types of slices.Sort and slices.Compact stand in this program.
-/
import Derived.Test.YtmnhbkehicpohabProg
import Derived.Shelf.Slices.In.SortNone
import Derived.Shelf.Slices.In.CompactS
namespace Go.Proofs.Ytmnhbkehicpohab

def laysSortRen : Go.Shelf.Ren := ⟨fun
   
    | 190 => 21
    | 125 => 35
    | 258 => 34
    | 128 => 49
    | 129 => 50
    | 302 => 40
    | 303 => 41
    | 304 => 42
    | 305 => 43
    | 306 => 44
    | 307 => 45
    | 308 => 46
    | 309 => 47
    | 310 => 48
    | 333 => 53
    | 329 => 54
    | 330 => 55
    | 334 => 56
    | 335 => 57
    | 336 => 58
    | 344 => 61
    | n => n, fun
   
    | 31 => 37
    | 9 => 9
    | 3 => 3
    | 46 => 66
    | 0 => 0
    | 51 => 80
    | 53 => 82
    | 4 => 4
    | 183 => 72
    | 182 => 71
    | 131 => 77
    | 5 => 5
    | 218 => 83
    | 222 => 87
    | 228 => 90
    | 229 => 91
    | n => n, fun
   
    | n => n⟩
theorem laysSort : Go.Proofs.Lays.n190 Try.prog laysSortRen :=
  {
    mixed := by kernel_rfl,
    f125 := Try.func35.trans (congrArg some (by kernel_rfl)),
    f128 := Try.func49.trans (congrArg some (by kernel_rfl)),
    f129 := Try.func50.trans (congrArg some (by kernel_rfl)),
    f190 := Try.func21.trans (congrArg some (by kernel_rfl)),
    f258 := Try.func34.trans (congrArg some (by kernel_rfl)),
    f302 := Try.func40.trans (congrArg some (by kernel_rfl)),
    f303 := Try.func41.trans (congrArg some (by kernel_rfl)),
    f304 := Try.func42.trans (congrArg some (by kernel_rfl)),
    f305 := Try.func43.trans (congrArg some (by kernel_rfl)),
    f306 := Try.func44.trans (congrArg some (by kernel_rfl)),
    f307 := Try.func45.trans (congrArg some (by kernel_rfl)),
    f308 := Try.func46.trans (congrArg some (by kernel_rfl)),
    f309 := Try.func47.trans (congrArg some (by kernel_rfl)),
    f310 := Try.func48.trans (congrArg some (by kernel_rfl)),
    f329 := Try.func54.trans (congrArg some (by kernel_rfl)),
    f330 := Try.func55.trans (congrArg some (by kernel_rfl)),
    f333 := Try.func53.trans (congrArg some (by kernel_rfl)),
    f334 := Try.func56.trans (congrArg some (by kernel_rfl)),
    f335 := Try.func57.trans (congrArg some (by kernel_rfl)),
    f336 := Try.func58.trans (congrArg some (by kernel_rfl)),
    f344 := Try.func61.trans (congrArg some (by kernel_rfl)),
    t0 := Try.underlying0,
    a0 := Try.isAgg0,
    z0 := Try.sizeOf0,
    v0 := Try.zeroValue0,
    t3 := Try.underlying3,
    a3 := Try.isAgg3,
    z3 := Try.sizeOf3,
    v3 := Try.zeroValue3,
    t4 := Try.underlying4,
    a4 := Try.isAgg4,
    z4 := Try.sizeOf4,
    v4 := Try.zeroValue4,
    t5 := Try.underlying5,
    a5 := Try.isAgg5,
    z5 := Try.sizeOf5,
    v5 := Try.zeroValue5,
    t9 := Try.underlying9,
    a9 := Try.isAgg9,
    z9 := Try.sizeOf9,
    v9 := Try.zeroValue9,
    t31 := Try.underlying37,
    a31 := Try.isAgg37,
    z31 := Try.sizeOf37,
    v31 := Try.zeroValue37,
    t46 := Try.underlying66,
    a46 := Try.isAgg66,
    z46 := Try.sizeOf66,
    v46 := Try.zeroValue66,
    t51 := Try.underlying80,
    a51 := Try.isAgg80,
    z51 := Try.sizeOf80,
    v51 := Try.zeroValue80,
    t53 := Try.underlying82,
    a53 := Try.isAgg82,
    z53 := Try.sizeOf82,
    v53 := Try.zeroValue82,
    t131 := Try.underlying77,
    a131 := Try.isAgg77,
    z131 := Try.sizeOf77,
    v131 := Try.zeroValue77,
    t182 := Try.underlying71,
    a182 := Try.isAgg71,
    z182 := Try.sizeOf71,
    v182 := Try.zeroValue71,
    t183 := Try.underlying72,
    a183 := Try.isAgg72,
    z183 := Try.sizeOf72,
    v183 := Try.zeroValue72,
    t218 := Try.underlying83,
    a218 := Try.isAgg83,
    z218 := Try.sizeOf83,
    v218 := Try.zeroValue83,
    t222 := Try.underlying87,
    a222 := Try.isAgg87,
    z222 := Try.sizeOf87,
    v222 := Try.zeroValue87,
    t228 := Try.underlying90,
    a228 := Try.isAgg90,
    z228 := Try.sizeOf90,
    v228 := Try.zeroValue90,
    t229 := Try.underlying91,
    a229 := Try.isAgg91,
    z229 := Try.sizeOf91,
    v229 := Try.zeroValue91 }

def laysCompactRen : Go.Shelf.Ren := ⟨fun
   
    | 194 => 22
    | n => n, fun
   
    | 31 => 37
    | 9 => 9
    | 3 => 3
    | 4 => 4
    | 0 => 0
    | n => n, fun
   
    | n => n⟩
theorem laysCompact : Go.Proofs.Lays.n194 Try.prog laysCompactRen :=
  {
    mixed := by kernel_rfl,
    f194 := Try.func22.trans (congrArg some (by kernel_rfl)),
    t0 := Try.underlying0,
    a0 := Try.isAgg0,
    z0 := Try.sizeOf0,
    v0 := Try.zeroValue0,
    t3 := Try.underlying3,
    a3 := Try.isAgg3,
    z3 := Try.sizeOf3,
    v3 := Try.zeroValue3,
    t4 := Try.underlying4,
    a4 := Try.isAgg4,
    z4 := Try.sizeOf4,
    v4 := Try.zeroValue4,
    t9 := Try.underlying9,
    a9 := Try.isAgg9,
    z9 := Try.sizeOf9,
    v9 := Try.zeroValue9,
    t31 := Try.underlying37,
    a31 := Try.isAgg37,
    z31 := Try.sizeOf37,
    v31 := Try.zeroValue37 }
end Go.Proofs.Ytmnhbkehicpohab
