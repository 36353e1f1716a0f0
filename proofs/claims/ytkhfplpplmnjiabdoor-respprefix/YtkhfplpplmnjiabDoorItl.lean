/-
  Where strconv.Itoa's functions and types stand in this program; what Itoa comes to.
-/
import Derived.Test.YtkhfplpplmnjiabDoorProg
import Derived.Shelf.Strconv.Itoa3
import Derived.Lib.ItoaLen
import Derived.Below
namespace Go.Proofs.YtkhfplpplmnjiabDoor
set_option maxRecDepth 100000
open Go.Shelf Go.RowKit

def itoaRen : Go.Shelf.Ren := ⟨fun
   
    | 171 => 14
    | 243 => 17
    | 246 => 20
    | 283 => 23
    | 284 => 24
    | 285 => 25
    | 286 => 26
    | 129 => 28
    | 317 => 27
    | 318 => 29
    | 319 => 30
    | 320 => 31
    | 337 => 32
    | 338 => 33
    | n => n, fun
   
    | 3 => 3
    | 9 => 9
    | 2 => 2
    | 4 => 4
    | 171 => 57
    | 0 => 0
    | 53 => 58
    | 37 => 25
    | 5 => 5
    | 173 => 61
    | 212 => 65
    | 51 => 66
    | 20 => 20
    | 213 => 67
    | 46 => 23
    | 232 => 71
    | 233 => 72
    | n => n, fun
   
    | 17 => 0
    | 18 => 1
    | 19 => 2
    | n => n⟩
theorem itoaLaid : Go.Proofs.LaysM.n171 Tryd.prog itoaRen :=
  {
    mixed := by kernel_rfl,
    f129 := Tryd.func28.trans (congrArg some (by kernel_rfl)),
    f171 := Tryd.func14.trans (congrArg some (by kernel_rfl)),
    f243 := Tryd.func17.trans (congrArg some (by kernel_rfl)),
    f246 := Tryd.func20.trans (congrArg some (by kernel_rfl)),
    f283 := Tryd.func23.trans (congrArg some (by kernel_rfl)),
    f284 := Tryd.func24.trans (congrArg some (by kernel_rfl)),
    f285 := Tryd.func25.trans (congrArg some (by kernel_rfl)),
    f286 := Tryd.func26.trans (congrArg some (by kernel_rfl)),
    f317 := Tryd.func27.trans (congrArg some (by kernel_rfl)),
    f318 := Tryd.func29.trans (congrArg some (by kernel_rfl)),
    f319 := Tryd.func30.trans (congrArg some (by kernel_rfl)),
    f320 := Tryd.func31.trans (congrArg some (by kernel_rfl)),
    f337 := Tryd.func32.trans (congrArg some (by kernel_rfl)),
    f338 := Tryd.func33.trans (congrArg some (by kernel_rfl)),
    t0 := Tryd.underlying0,
    a0 := Tryd.isAgg0,
    z0 := Tryd.sizeOf0,
    v0 := Tryd.zeroValue0,
    t2 := Tryd.underlying2,
    a2 := Tryd.isAgg2,
    z2 := Tryd.sizeOf2,
    v2 := Tryd.zeroValue2,
    t3 := Tryd.underlying3,
    a3 := Tryd.isAgg3,
    z3 := Tryd.sizeOf3,
    v3 := Tryd.zeroValue3,
    t4 := Tryd.underlying4,
    a4 := Tryd.isAgg4,
    z4 := Tryd.sizeOf4,
    v4 := Tryd.zeroValue4,
    t5 := Tryd.underlying5,
    a5 := Tryd.isAgg5,
    z5 := Tryd.sizeOf5,
    v5 := Tryd.zeroValue5,
    t9 := Tryd.underlying9,
    a9 := Tryd.isAgg9,
    z9 := Tryd.sizeOf9,
    v9 := Tryd.zeroValue9,
    t20 := Tryd.underlying20,
    a20 := Tryd.isAgg20,
    z20 := Tryd.sizeOf20,
    v20 := Tryd.zeroValue20,
    t37 := Tryd.underlying25,
    a37 := Tryd.isAgg25,
    z37 := Tryd.sizeOf25,
    v37 := Tryd.zeroValue25,
    t46 := Tryd.underlying23,
    a46 := Tryd.isAgg23,
    z46 := Tryd.sizeOf23,
    v46 := Tryd.zeroValue23,
    t51 := Tryd.underlying66,
    a51 := Tryd.isAgg66,
    z51 := Tryd.sizeOf66,
    v51 := Tryd.zeroValue66,
    t53 := Tryd.underlying58,
    a53 := Tryd.isAgg58,
    z53 := Tryd.sizeOf58,
    v53 := Tryd.zeroValue58,
    t171 := Tryd.underlying57,
    a171 := Tryd.isAgg57,
    z171 := Tryd.sizeOf57,
    v171 := Tryd.zeroValue57,
    t173 := Tryd.underlying61,
    a173 := Tryd.isAgg61,
    z173 := Tryd.sizeOf61,
    v173 := Tryd.zeroValue61,
    t212 := Tryd.underlying65,
    a212 := Tryd.isAgg65,
    z212 := Tryd.sizeOf65,
    v212 := Tryd.zeroValue65,
    t213 := Tryd.underlying67,
    a213 := Tryd.isAgg67,
    z213 := Tryd.sizeOf67,
    t232 := Tryd.underlying71,
    a232 := Tryd.isAgg71,
    z232 := Tryd.sizeOf71,
    v232 := Tryd.zeroValue71,
    t233 := Tryd.underlying72,
    a233 := Tryd.isAgg72,
    z233 := Tryd.sizeOf72,
    v233 := Tryd.zeroValue72,
    g17 := by kernel_rfl,
    g18 := by kernel_rfl,
    g19 := by kernel_rfl,
    i0 := by kernel_rfl,
    i2 := by kernel_rfl,
    i3 := by kernel_rfl,
    i4 := by kernel_rfl,
    i5 := by kernel_rfl,
    i9 := by kernel_rfl,
    i20 := by kernel_rfl,
    i37 := by kernel_rfl,
    i46 := by kernel_rfl,
    i51 := by kernel_rfl,
    i53 := by kernel_rfl,
    i171 := by kernel_rfl,
    i173 := by kernel_rfl,
    i212 := by kernel_rfl,
    i232 := by kernel_rfl,
    i233 := by kernel_rfl,
    m17 := by kernel_rfl,
    m18 := by kernel_rfl,
    m19 := by kernel_rfl }
/-- The table that Itoa reads. -/
def Tab (w : World) : Prop := Lib.TabIs Tryd.prog w "internal/strconv.uint64pow10" .u64 Lib.pow10Tab
theorem grow_below (w : World) (k : Nat) (os : Array Obj) : Below w.heap.size w (Sort.grow (w.drewN k) os) :=
  ⟨rfl, rfl, rfl, by show w.heap.size ≤ (w.heap ++ os).size; rw [Array.size_append]; omega, fun j hj => by show (w.heap ++ os)[j]? = _; rw [Array.getElem?_append_left hj]⟩
theorem Tab.below {w w' : World} (h : Tab w) (hb : Below w.heap.size w w') : Tab w' := by
  unfold Tab Lib.TabIs World.var? at h ⊢
  cases hg : Tryd.prog.globalNamed "internal/strconv.uint64pow10" with
  | none => rw [hg] at h; cases h
  | some g =>
    rw [hg, Option.bind_some] at h
    rw [Option.bind_some, hb.block g ?_]
    · exact h
    · rcases Nat.lt_or_ge g w.heap.size with h1 | h1
      · exact h1
      · rw [Array.getElem?_eq_none h1] at h; cases h
theorem itoa_any (n : Int) (h0 : -9223372036854775808 ≤ n) (h1 : n ≤ 9223372036854775807) (w : World) (ht : Tab w) :
    Calls Tryd.prog 14 #[.int .i64 n] w fun e w' => e = .returned (.string ⟨(Lib.itoa n).toArray⟩) ∧ Below w.heap.size w w' :=
  (Any.strconv_Itoa itoaLaid n h0 h1 w ht).mono fun e w' ⟨he, k, os, hw⟩ => ⟨he, by rw [hw]; exact grow_below w k os⟩
end Go.Proofs.YtkhfplpplmnjiabDoor
