/-
  Where the sort's functions and types stand in this program.
-/
import Derived.Test.YtmlfekbmbnfkjabGreatDoorProg
import Derived.Shelf.SlSortCmp.WholeK
namespace Go.Proofs.YtmlfekbmbnfkjabGreatDoor.E
set_option maxRecDepth 100000

def sortRen : Go.Shelf.Ren := ⟨fun
   
    | 6 => 171
    | 15 => 211
    | 14 => 210
    | 28 => 244
    | 29 => 231
    | 20 => 236
    | 21 => 237
    | 22 => 238
    | 23 => 239
    | 24 => 240
    | 25 => 241
    | 26 => 242
    | 27 => 243
    | 46 => 273
    | 47 => 274
    | 48 => 275
    | 49 => 276
    | 50 => 277
    | 57 => 293
    | n => n, fun
   
    | 22 => 121
    | 24 => 112
    | 25 => 174
    | 3 => 3
    | 39 => 239
    | 0 => 0
    | 53 => 270
    | 55 => 236
    | 4 => 4
    | 46 => 274
    | 45 => 273
    | 50 => 278
    | 5 => 5
    | 9 => 9
    | 66 => 297
    | 70 => 96
    | 76 => 314
    | 77 => 157
    | n => n, fun
   
    | n => n⟩
theorem sortLaid : Go.Proofs.SlLaysF0.n6 Tryz.prog sortRen :=
  {
    mixed := by kernel_rfl,
    f6 := ⟨Tryz.f171.name, by decide, Tryz.func171.trans (congrArg some (by kernel_rfl))⟩,
    f14 := ⟨Tryz.f210.name, by decide, Tryz.func210.trans (congrArg some (by kernel_rfl))⟩,
    f15 := Tryz.func211.trans (congrArg some (by kernel_rfl)),
    f20 := ⟨Tryz.f236.name, by decide, Tryz.func236.trans (congrArg some (by kernel_rfl))⟩,
    f21 := ⟨Tryz.f237.name, by decide, Tryz.func237.trans (congrArg some (by kernel_rfl))⟩,
    f22 := ⟨Tryz.f238.name, by decide, Tryz.func238.trans (congrArg some (by kernel_rfl))⟩,
    f23 := ⟨Tryz.f239.name, by decide, Tryz.func239.trans (congrArg some (by kernel_rfl))⟩,
    f24 := ⟨Tryz.f240.name, by decide, Tryz.func240.trans (congrArg some (by kernel_rfl))⟩,
    f25 := ⟨Tryz.f241.name, by decide, Tryz.func241.trans (congrArg some (by kernel_rfl))⟩,
    f26 := ⟨Tryz.f242.name, by decide, Tryz.func242.trans (congrArg some (by kernel_rfl))⟩,
    f27 := ⟨Tryz.f243.name, by decide, Tryz.func243.trans (congrArg some (by kernel_rfl))⟩,
    f28 := Tryz.func244.trans (congrArg some (by kernel_rfl)),
    f29 := Tryz.func231.trans (congrArg some (by kernel_rfl)),
    f46 := ⟨Tryz.f273.name, by decide, Tryz.func273.trans (congrArg some (by kernel_rfl))⟩,
    f47 := Tryz.func274.trans (congrArg some (by kernel_rfl)),
    f48 := Tryz.func275.trans (congrArg some (by kernel_rfl)),
    f49 := ⟨Tryz.f276.name, by decide, Tryz.func276.trans (congrArg some (by kernel_rfl))⟩,
    f50 := ⟨Tryz.f277.name, by decide, Tryz.func277.trans (congrArg some (by kernel_rfl))⟩,
    f57 := ⟨Tryz.f293.name, by decide, Tryz.func293.trans (congrArg some (by kernel_rfl))⟩,
    t0 := Tryz.underlying0,
    a0 := Tryz.isAgg0,
    z0 := Tryz.sizeOf0,
    v0 := Tryz.zeroValue0,
    t3 := Tryz.underlying3,
    a3 := Tryz.isAgg3,
    z3 := Tryz.sizeOf3,
    v3 := Tryz.zeroValue3,
    t4 := Tryz.underlying4,
    a4 := Tryz.isAgg4,
    z4 := Tryz.sizeOf4,
    v4 := Tryz.zeroValue4,
    t5 := Tryz.underlying5,
    a5 := Tryz.isAgg5,
    z5 := Tryz.sizeOf5,
    v5 := Tryz.zeroValue5,
    t9 := Tryz.underlying9,
    a9 := Tryz.isAgg9,
    z9 := Tryz.sizeOf9,
    v9 := Tryz.zeroValue9,
    t22 := Tryz.underlying121,
    a22 := Tryz.isAgg121,
    z22 := Tryz.sizeOf121,
    v22 := Tryz.zeroValue121,
    t25 := Tryz.underlying174,
    a25 := Tryz.isAgg174,
    z25 := Tryz.sizeOf174,
    v25 := Tryz.zeroValue174,
    t39 := Tryz.underlying239,
    a39 := Tryz.isAgg239,
    z39 := Tryz.sizeOf239,
    v39 := Tryz.zeroValue239,
    t45 := Tryz.underlying273,
    a45 := Tryz.isAgg273,
    z45 := Tryz.sizeOf273,
    v45 := Tryz.zeroValue273,
    t46 := Tryz.underlying274,
    a46 := Tryz.isAgg274,
    z46 := Tryz.sizeOf274,
    v46 := Tryz.zeroValue274,
    t50 := Tryz.underlying278,
    a50 := Tryz.isAgg278,
    z50 := Tryz.sizeOf278,
    v50 := Tryz.zeroValue278,
    t53 := Tryz.underlying270,
    a53 := Tryz.isAgg270,
    z53 := Tryz.sizeOf270,
    v53 := Tryz.zeroValue270,
    t55 := Tryz.underlying236,
    a55 := Tryz.isAgg236,
    z55 := Tryz.sizeOf236,
    v55 := Tryz.zeroValue236,
    t66 := Tryz.underlying297,
    a66 := Tryz.isAgg297,
    z66 := Tryz.sizeOf297,
    v66 := Tryz.zeroValue297,
    t70 := Tryz.underlying96,
    a70 := Tryz.isAgg96,
    z70 := Tryz.sizeOf96,
    v70 := Tryz.zeroValue96,
    t76 := Tryz.underlying314,
    a76 := Tryz.isAgg314,
    z76 := Tryz.sizeOf314,
    v76 := Tryz.zeroValue314,
    t77 := Tryz.underlying157,
    a77 := Tryz.isAgg157,
    z77 := Tryz.sizeOf157,
    v77 := Tryz.zeroValue157 }
end Go.Proofs.YtmlfekbmbnfkjabGreatDoor.E

/-
  Where the sort's functions and types stand in this program.
-/
namespace Go.Proofs.YtmlfekbmbnfkjabGreatDoor.D
set_option maxRecDepth 100000

def sortRen : Go.Shelf.Ren := ⟨fun
   
    | 6 => 221
    | 15 => 211
    | 14 => 264
    | 28 => 244
    | 29 => 231
    | 20 => 284
    | 21 => 285
    | 22 => 286
    | 23 => 287
    | 24 => 288
    | 25 => 289
    | 26 => 290
    | 27 => 291
    | 46 => 296
    | 47 => 274
    | 48 => 275
    | 49 => 297
    | 50 => 298
    | 57 => 301
    | n => n, fun
   
    | 22 => 187
    | 24 => 135
    | 25 => 224
    | 3 => 3
    | 39 => 239
    | 0 => 0
    | 53 => 270
    | 55 => 236
    | 4 => 4
    | 46 => 274
    | 45 => 273
    | 50 => 278
    | 5 => 5
    | 9 => 9
    | 66 => 297
    | 70 => 96
    | 76 => 314
    | 77 => 157
    | n => n, fun
   
    | n => n⟩
theorem sortLaid : Go.Proofs.SlLaysF0.n6 Tryz.prog sortRen :=
  {
    mixed := by kernel_rfl,
    f6 := ⟨Tryz.f221.name, by decide, Tryz.func221.trans (congrArg some (by kernel_rfl))⟩,
    f14 := ⟨Tryz.f264.name, by decide, Tryz.func264.trans (congrArg some (by kernel_rfl))⟩,
    f15 := Tryz.func211.trans (congrArg some (by kernel_rfl)),
    f20 := ⟨Tryz.f284.name, by decide, Tryz.func284.trans (congrArg some (by kernel_rfl))⟩,
    f21 := ⟨Tryz.f285.name, by decide, Tryz.func285.trans (congrArg some (by kernel_rfl))⟩,
    f22 := ⟨Tryz.f286.name, by decide, Tryz.func286.trans (congrArg some (by kernel_rfl))⟩,
    f23 := ⟨Tryz.f287.name, by decide, Tryz.func287.trans (congrArg some (by kernel_rfl))⟩,
    f24 := ⟨Tryz.f288.name, by decide, Tryz.func288.trans (congrArg some (by kernel_rfl))⟩,
    f25 := ⟨Tryz.f289.name, by decide, Tryz.func289.trans (congrArg some (by kernel_rfl))⟩,
    f26 := ⟨Tryz.f290.name, by decide, Tryz.func290.trans (congrArg some (by kernel_rfl))⟩,
    f27 := ⟨Tryz.f291.name, by decide, Tryz.func291.trans (congrArg some (by kernel_rfl))⟩,
    f28 := Tryz.func244.trans (congrArg some (by kernel_rfl)),
    f29 := Tryz.func231.trans (congrArg some (by kernel_rfl)),
    f46 := ⟨Tryz.f296.name, by decide, Tryz.func296.trans (congrArg some (by kernel_rfl))⟩,
    f47 := Tryz.func274.trans (congrArg some (by kernel_rfl)),
    f48 := Tryz.func275.trans (congrArg some (by kernel_rfl)),
    f49 := ⟨Tryz.f297.name, by decide, Tryz.func297.trans (congrArg some (by kernel_rfl))⟩,
    f50 := ⟨Tryz.f298.name, by decide, Tryz.func298.trans (congrArg some (by kernel_rfl))⟩,
    f57 := ⟨Tryz.f301.name, by decide, Tryz.func301.trans (congrArg some (by kernel_rfl))⟩,
    t0 := Tryz.underlying0,
    a0 := Tryz.isAgg0,
    z0 := Tryz.sizeOf0,
    v0 := Tryz.zeroValue0,
    t3 := Tryz.underlying3,
    a3 := Tryz.isAgg3,
    z3 := Tryz.sizeOf3,
    v3 := Tryz.zeroValue3,
    t4 := Tryz.underlying4,
    a4 := Tryz.isAgg4,
    z4 := Tryz.sizeOf4,
    v4 := Tryz.zeroValue4,
    t5 := Tryz.underlying5,
    a5 := Tryz.isAgg5,
    z5 := Tryz.sizeOf5,
    v5 := Tryz.zeroValue5,
    t9 := Tryz.underlying9,
    a9 := Tryz.isAgg9,
    z9 := Tryz.sizeOf9,
    v9 := Tryz.zeroValue9,
    t22 := Tryz.underlying187,
    a22 := Tryz.isAgg187,
    z22 := Tryz.sizeOf187,
    v22 := Tryz.zeroValue187,
    t25 := Tryz.underlying224,
    a25 := Tryz.isAgg224,
    z25 := Tryz.sizeOf224,
    v25 := Tryz.zeroValue224,
    t39 := Tryz.underlying239,
    a39 := Tryz.isAgg239,
    z39 := Tryz.sizeOf239,
    v39 := Tryz.zeroValue239,
    t45 := Tryz.underlying273,
    a45 := Tryz.isAgg273,
    z45 := Tryz.sizeOf273,
    v45 := Tryz.zeroValue273,
    t46 := Tryz.underlying274,
    a46 := Tryz.isAgg274,
    z46 := Tryz.sizeOf274,
    v46 := Tryz.zeroValue274,
    t50 := Tryz.underlying278,
    a50 := Tryz.isAgg278,
    z50 := Tryz.sizeOf278,
    v50 := Tryz.zeroValue278,
    t53 := Tryz.underlying270,
    a53 := Tryz.isAgg270,
    z53 := Tryz.sizeOf270,
    v53 := Tryz.zeroValue270,
    t55 := Tryz.underlying236,
    a55 := Tryz.isAgg236,
    z55 := Tryz.sizeOf236,
    v55 := Tryz.zeroValue236,
    t66 := Tryz.underlying297,
    a66 := Tryz.isAgg297,
    z66 := Tryz.sizeOf297,
    v66 := Tryz.zeroValue297,
    t70 := Tryz.underlying96,
    a70 := Tryz.isAgg96,
    z70 := Tryz.sizeOf96,
    v70 := Tryz.zeroValue96,
    t76 := Tryz.underlying314,
    a76 := Tryz.isAgg314,
    z76 := Tryz.sizeOf314,
    v76 := Tryz.zeroValue314,
    t77 := Tryz.underlying157,
    a77 := Tryz.isAgg157,
    z77 := Tryz.sizeOf157,
    v77 := Tryz.zeroValue157 }
end Go.Proofs.YtmlfekbmbnfkjabGreatDoor.D

/-
  Where the functions and types of slices.SortFunc of pairs stand in this program.
-/
namespace Go.Proofs.YtmlfekbmbnfkjabGreatDoor
set_option maxRecDepth 100000
namespace T15

end T15
end Go.Proofs.YtmlfekbmbnfkjabGreatDoor

