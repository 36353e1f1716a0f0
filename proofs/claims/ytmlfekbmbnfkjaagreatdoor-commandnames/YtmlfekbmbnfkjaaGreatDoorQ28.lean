/-
  Where the functions and types of slices.Sort of texts stand in this program.
-/
import Derived.Test.YtmlfekbmbnfkjaaGreatDoorProg
import Derived.Shelf.Slices.In.SortNone
namespace Go.Proofs.YtmlfekbmbnfkjaaGreatDoor
set_option maxRecDepth 100000

def laysSortRen : Go.Shelf.Ren := ⟨fun
   
    | 190 => 235
    | 125 => 271
    | 258 => 270
    | 128 => 306
    | 129 => 289
    | 302 => 297
    | 303 => 298
    | 304 => 299
    | 305 => 300
    | 306 => 301
    | 307 => 302
    | 308 => 303
    | 309 => 304
    | 310 => 305
    | 333 => 334
    | 329 => 335
    | 330 => 336
    | 334 => 337
    | 335 => 338
    | 336 => 277
    | 344 => 355
    | n => n, fun
   
    | 31 => 22
    | 9 => 9
    | 3 => 3
    | 46 => 68
    | 0 => 0
    | 51 => 311
    | 53 => 280
    | 4 => 4
    | 183 => 319
    | 182 => 318
    | 131 => 84
    | 5 => 5
    | 218 => 341
    | 222 => 120
    | 228 => 358
    | 229 => 132
    | n => n, fun
   
    | n => n⟩
theorem laysSort : Go.Proofs.Lays.n190 Tryz.prog laysSortRen :=
  {
    mixed := by kernel_rfl,
    f125 := Tryz.func271.trans (congrArg some (by kernel_rfl)),
    f128 := Tryz.func306.trans (congrArg some (by kernel_rfl)),
    f129 := Tryz.func289.trans (congrArg some (by kernel_rfl)),
    f190 := Tryz.func235.trans (congrArg some (by kernel_rfl)),
    f258 := Tryz.func270.trans (congrArg some (by kernel_rfl)),
    f302 := Tryz.func297.trans (congrArg some (by kernel_rfl)),
    f303 := Tryz.func298.trans (congrArg some (by kernel_rfl)),
    f304 := Tryz.func299.trans (congrArg some (by kernel_rfl)),
    f305 := Tryz.func300.trans (congrArg some (by kernel_rfl)),
    f306 := Tryz.func301.trans (congrArg some (by kernel_rfl)),
    f307 := Tryz.func302.trans (congrArg some (by kernel_rfl)),
    f308 := Tryz.func303.trans (congrArg some (by kernel_rfl)),
    f309 := Tryz.func304.trans (congrArg some (by kernel_rfl)),
    f310 := Tryz.func305.trans (congrArg some (by kernel_rfl)),
    f329 := Tryz.func335.trans (congrArg some (by kernel_rfl)),
    f330 := Tryz.func336.trans (congrArg some (by kernel_rfl)),
    f333 := Tryz.func334.trans (congrArg some (by kernel_rfl)),
    f334 := Tryz.func337.trans (congrArg some (by kernel_rfl)),
    f335 := Tryz.func338.trans (congrArg some (by kernel_rfl)),
    f336 := Tryz.func277.trans (congrArg some (by kernel_rfl)),
    f344 := Tryz.func355.trans (congrArg some (by kernel_rfl)),
    t0 := Tryz.underlying0,
    a0 := Tryz.isAgg0,
    z0 := Tryz.sizeOf0,
    v0 := Tryz.zeroValue0,
    t3 := Tryz.underlying3,
    a3 := Tryz.isAgg3,
    z3 := Tryz.sizeOf3,
    v3 := Tryz.zeroValue3,
    t4 := Tryz.underlying4,
    a4 := Tryz.isAgg4,
    z4 := Tryz.sizeOf4,
    v4 := Tryz.zeroValue4,
    t5 := Tryz.underlying5,
    a5 := Tryz.isAgg5,
    z5 := Tryz.sizeOf5,
    v5 := Tryz.zeroValue5,
    t9 := Tryz.underlying9,
    a9 := Tryz.isAgg9,
    z9 := Tryz.sizeOf9,
    v9 := Tryz.zeroValue9,
    t31 := Tryz.underlying22,
    a31 := Tryz.isAgg22,
    z31 := Tryz.sizeOf22,
    v31 := Tryz.zeroValue22,
    t46 := Tryz.underlying68,
    a46 := Tryz.isAgg68,
    z46 := Tryz.sizeOf68,
    v46 := Tryz.zeroValue68,
    t51 := Tryz.underlying311,
    a51 := Tryz.isAgg311,
    z51 := Tryz.sizeOf311,
    v51 := Tryz.zeroValue311,
    t53 := Tryz.underlying280,
    a53 := Tryz.isAgg280,
    z53 := Tryz.sizeOf280,
    v53 := Tryz.zeroValue280,
    t131 := Tryz.underlying84,
    a131 := Tryz.isAgg84,
    z131 := Tryz.sizeOf84,
    v131 := Tryz.zeroValue84,
    t182 := Tryz.underlying318,
    a182 := Tryz.isAgg318,
    z182 := Tryz.sizeOf318,
    v182 := Tryz.zeroValue318,
    t183 := Tryz.underlying319,
    a183 := Tryz.isAgg319,
    z183 := Tryz.sizeOf319,
    v183 := Tryz.zeroValue319,
    t218 := Tryz.underlying341,
    a218 := Tryz.isAgg341,
    z218 := Tryz.sizeOf341,
    v218 := Tryz.zeroValue341,
    t222 := Tryz.underlying120,
    a222 := Tryz.isAgg120,
    z222 := Tryz.sizeOf120,
    v222 := Tryz.zeroValue120,
    t228 := Tryz.underlying358,
    a228 := Tryz.isAgg358,
    z228 := Tryz.sizeOf358,
    v228 := Tryz.zeroValue358,
    t229 := Tryz.underlying132,
    a229 := Tryz.isAgg132,
    z229 := Tryz.sizeOf132,
    v229 := Tryz.zeroValue132 }
end Go.Proofs.YtmlfekbmbnfkjaaGreatDoor

