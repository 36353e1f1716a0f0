/-
  Where strconv.Itoa's functions and types stand in this program; what Itoa comes to.
-/
import Derived.Test.YtkhfplpplmnjiaaDoorProg
import Derived.Shelf.Strconv.Itoa3
import Derived.Lib.ItoaLen
import Derived.Below
namespace Go.Proofs.YtkhfplpplmnjiaaDoor
set_option maxRecDepth 100000
open Go.Shelf Go.RowKit

def itoaRen : Go.Shelf.Ren := ⟨fun
   
    | 171 => 21
    | 243 => 29
    | 246 => 32
    | 283 => 35
    | 284 => 36
    | 285 => 37
    | 286 => 38
    | 129 => 42
    | 317 => 41
    | 318 => 43
    | 319 => 44
    | 320 => 45
    | 337 => 46
    | 338 => 47
    | n => n, fun
   
    | 3 => 3
    | 9 => 9
    | 2 => 2
    | 4 => 4
    | 171 => 67
    | 0 => 0
    | 53 => 68
    | 37 => 27
    | 5 => 5
    | 173 => 71
    | 212 => 78
    | 51 => 79
    | 20 => 20
    | 213 => 80
    | 46 => 82
    | 232 => 85
    | 233 => 86
    | n => n, fun
   
    | 17 => 0
    | 18 => 1
    | 19 => 2
    | n => n⟩
theorem itoaLaid : Go.Proofs.LaysM.n171 Tryd.prog itoaRen :=
  {
    mixed := by kernel_rfl,
    f129 := Tryd.func42.trans (congrArg some (by kernel_rfl)),
    f171 := Tryd.func21.trans (congrArg some (by kernel_rfl)),
    f243 := Tryd.func29.trans (congrArg some (by kernel_rfl)),
    f246 := Tryd.func32.trans (congrArg some (by kernel_rfl)),
    f283 := Tryd.func35.trans (congrArg some (by kernel_rfl)),
    f284 := Tryd.func36.trans (congrArg some (by kernel_rfl)),
    f285 := Tryd.func37.trans (congrArg some (by kernel_rfl)),
    f286 := Tryd.func38.trans (congrArg some (by kernel_rfl)),
    f317 := Tryd.func41.trans (congrArg some (by kernel_rfl)),
    f318 := Tryd.func43.trans (congrArg some (by kernel_rfl)),
    f319 := Tryd.func44.trans (congrArg some (by kernel_rfl)),
    f320 := Tryd.func45.trans (congrArg some (by kernel_rfl)),
    f337 := Tryd.func46.trans (congrArg some (by kernel_rfl)),
    f338 := Tryd.func47.trans (congrArg some (by kernel_rfl)),
    t0 := Tryd.underlying0,
    a0 := Tryd.isAgg0,
    z0 := Tryd.sizeOf0,
    v0 := Tryd.zeroValue0,
    t2 := Tryd.underlying2,
    a2 := Tryd.isAgg2,
    z2 := Tryd.sizeOf2,
    v2 := Tryd.zeroValue2,
    t3 := Tryd.underlying3,
    a3 := Tryd.isAgg3,
    z3 := Tryd.sizeOf3,
    v3 := Tryd.zeroValue3,
    t4 := Tryd.underlying4,
    a4 := Tryd.isAgg4,
    z4 := Tryd.sizeOf4,
    v4 := Tryd.zeroValue4,
    t5 := Tryd.underlying5,
    a5 := Tryd.isAgg5,
    z5 := Tryd.sizeOf5,
    v5 := Tryd.zeroValue5,
    t9 := Tryd.underlying9,
    a9 := Tryd.isAgg9,
    z9 := Tryd.sizeOf9,
    v9 := Tryd.zeroValue9,
    t20 := Tryd.underlying20,
    a20 := Tryd.isAgg20,
    z20 := Tryd.sizeOf20,
    v20 := Tryd.zeroValue20,
    t37 := Tryd.underlying27,
    a37 := Tryd.isAgg27,
    z37 := Tryd.sizeOf27,
    v37 := Tryd.zeroValue27,
    t46 := Tryd.underlying82,
    a46 := Tryd.isAgg82,
    z46 := Tryd.sizeOf82,
    v46 := Tryd.zeroValue82,
    t51 := Tryd.underlying79,
    a51 := Tryd.isAgg79,
    z51 := Tryd.sizeOf79,
    v51 := Tryd.zeroValue79,
    t53 := Tryd.underlying68,
    a53 := Tryd.isAgg68,
    z53 := Tryd.sizeOf68,
    v53 := Tryd.zeroValue68,
    t171 := Tryd.underlying67,
    a171 := Tryd.isAgg67,
    z171 := Tryd.sizeOf67,
    v171 := Tryd.zeroValue67,
    t173 := Tryd.underlying71,
    a173 := Tryd.isAgg71,
    z173 := Tryd.sizeOf71,
    v173 := Tryd.zeroValue71,
    t212 := Tryd.underlying78,
    a212 := Tryd.isAgg78,
    z212 := Tryd.sizeOf78,
    v212 := Tryd.zeroValue78,
    t213 := Tryd.underlying80,
    a213 := Tryd.isAgg80,
    z213 := Tryd.sizeOf80,
    t232 := Tryd.underlying85,
    a232 := Tryd.isAgg85,
    z232 := Tryd.sizeOf85,
    v232 := Tryd.zeroValue85,
    t233 := Tryd.underlying86,
    a233 := Tryd.isAgg86,
    z233 := Tryd.sizeOf86,
    v233 := Tryd.zeroValue86,
    g17 := by kernel_rfl,
    g18 := by kernel_rfl,
    g19 := by kernel_rfl,
    i0 := by kernel_rfl,
    i2 := by kernel_rfl,
    i3 := by kernel_rfl,
    i4 := by kernel_rfl,
    i5 := by kernel_rfl,
    i9 := by kernel_rfl,
    i20 := by kernel_rfl,
    i37 := by kernel_rfl,
    i46 := by kernel_rfl,
    i51 := by kernel_rfl,
    i53 := by kernel_rfl,
    i171 := by kernel_rfl,
    i173 := by kernel_rfl,
    i212 := by kernel_rfl,
    i232 := by kernel_rfl,
    i233 := by kernel_rfl,
    m17 := by kernel_rfl,
    m18 := by kernel_rfl,
    m19 := by kernel_rfl }
/-- The table that Itoa reads. -/
def Tab (w : World) : Prop := Lib.TabIs Tryd.prog w "internal/strconv.uint64pow10" .u64 Lib.pow10Tab
theorem grow_below (w : World) (k : Nat) (os : Array Obj) : Below w.heap.size w (Sort.grow (w.drewN k) os) :=
  ⟨rfl, rfl, rfl, by show w.heap.size ≤ (w.heap ++ os).size; rw [Array.size_append]; omega, fun j hj => by show (w.heap ++ os)[j]? = _; rw [Array.getElem?_append_left hj]⟩
theorem Tab.below {w w' : World} (h : Tab w) (hb : Below w.heap.size w w') : Tab w' := by
  unfold Tab Lib.TabIs World.var? at h ⊢
  cases hg : Tryd.prog.globalNamed "internal/strconv.uint64pow10" with
  | none => rw [hg] at h; cases h
  | some g =>
    rw [hg, Option.bind_some] at h
    rw [Option.bind_some, hb.block g ?_]
    · exact h
    · rcases Nat.lt_or_ge g w.heap.size with h1 | h1
      · exact h1
      · rw [Array.getElem?_eq_none h1] at h; cases h
theorem itoa_any (n : Int) (h0 : -9223372036854775808 ≤ n) (h1 : n ≤ 9223372036854775807) (w : World) (ht : Tab w) :
    Calls Tryd.prog 21 #[.int .i64 n] w fun e w' => e = .returned (.string ⟨(Lib.itoa n).toArray⟩) ∧ Below w.heap.size w w' :=
  (Any.strconv_Itoa itoaLaid n h0 h1 w ht).mono fun e w' ⟨he, k, os, hw⟩ => ⟨he, by rw [hw]; exact grow_below w k os⟩
end Go.Proofs.YtkhfplpplmnjiaaDoor
