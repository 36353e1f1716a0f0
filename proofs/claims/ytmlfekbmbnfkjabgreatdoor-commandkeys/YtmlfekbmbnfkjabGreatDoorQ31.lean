/-
  Where strconv.Itoa's functions and types stand in this program; what Itoa comes to.
-/
import Derived.Test.YtmlfekbmbnfkjabGreatDoorProg
import Derived.Shelf.Strconv.Itoa3
import Derived.Lib.ItoaLen
import Derived.Below
namespace Go.Proofs.YtmlfekbmbnfkjabGreatDoor
set_option maxRecDepth 100000
open Go.Shelf Go.RowKit

def itoaRen : Go.Shelf.Ren := ⟨fun
   
    | 171 => 87
    | 243 => 128
    | 246 => 165
    | 283 => 203
    | 284 => 204
    | 285 => 205
    | 286 => 206
    | 129 => 231
    | 317 => 230
    | 318 => 232
    | 319 => 233
    | 320 => 234
    | 337 => 270
    | 338 => 271
    | n => n, fun
   
    | 3 => 3
    | 9 => 9
    | 2 => 2
    | 4 => 4
    | 171 => 243
    | 0 => 0
    | 53 => 236
    | 37 => 91
    | 5 => 5
    | 173 => 246
    | 212 => 269
    | 51 => 270
    | 20 => 20
    | 213 => 271
    | 46 => 239
    | 232 => 312
    | 233 => 313
    | n => n, fun
   
    | 17 => 2
    | 18 => 3
    | 19 => 4
    | n => n⟩
theorem itoaLaid : Go.Proofs.LaysM.n171 Tryz.prog itoaRen :=
  {
    mixed := by kernel_rfl,
    f129 := Tryz.func231.trans (congrArg some (by kernel_rfl)),
    f171 := Tryz.func87.trans (congrArg some (by kernel_rfl)),
    f243 := Tryz.func128.trans (congrArg some (by kernel_rfl)),
    f246 := Tryz.func165.trans (congrArg some (by kernel_rfl)),
    f283 := Tryz.func203.trans (congrArg some (by kernel_rfl)),
    f284 := Tryz.func204.trans (congrArg some (by kernel_rfl)),
    f285 := Tryz.func205.trans (congrArg some (by kernel_rfl)),
    f286 := Tryz.func206.trans (congrArg some (by kernel_rfl)),
    f317 := Tryz.func230.trans (congrArg some (by kernel_rfl)),
    f318 := Tryz.func232.trans (congrArg some (by kernel_rfl)),
    f319 := Tryz.func233.trans (congrArg some (by kernel_rfl)),
    f320 := Tryz.func234.trans (congrArg some (by kernel_rfl)),
    f337 := Tryz.func270.trans (congrArg some (by kernel_rfl)),
    f338 := Tryz.func271.trans (congrArg some (by kernel_rfl)),
    t0 := Tryz.underlying0,
    a0 := Tryz.isAgg0,
    z0 := Tryz.sizeOf0,
    v0 := Tryz.zeroValue0,
    t2 := Tryz.underlying2,
    a2 := Tryz.isAgg2,
    z2 := Tryz.sizeOf2,
    v2 := Tryz.zeroValue2,
    t3 := Tryz.underlying3,
    a3 := Tryz.isAgg3,
    z3 := Tryz.sizeOf3,
    v3 := Tryz.zeroValue3,
    t4 := Tryz.underlying4,
    a4 := Tryz.isAgg4,
    z4 := Tryz.sizeOf4,
    v4 := Tryz.zeroValue4,
    t5 := Tryz.underlying5,
    a5 := Tryz.isAgg5,
    z5 := Tryz.sizeOf5,
    v5 := Tryz.zeroValue5,
    t9 := Tryz.underlying9,
    a9 := Tryz.isAgg9,
    z9 := Tryz.sizeOf9,
    v9 := Tryz.zeroValue9,
    t20 := Tryz.underlying20,
    a20 := Tryz.isAgg20,
    z20 := Tryz.sizeOf20,
    v20 := Tryz.zeroValue20,
    t37 := Tryz.underlying91,
    a37 := Tryz.isAgg91,
    z37 := Tryz.sizeOf91,
    v37 := Tryz.zeroValue91,
    t46 := Tryz.underlying239,
    a46 := Tryz.isAgg239,
    z46 := Tryz.sizeOf239,
    v46 := Tryz.zeroValue239,
    t51 := Tryz.underlying270,
    a51 := Tryz.isAgg270,
    z51 := Tryz.sizeOf270,
    v51 := Tryz.zeroValue270,
    t53 := Tryz.underlying236,
    a53 := Tryz.isAgg236,
    z53 := Tryz.sizeOf236,
    v53 := Tryz.zeroValue236,
    t171 := Tryz.underlying243,
    a171 := Tryz.isAgg243,
    z171 := Tryz.sizeOf243,
    v171 := Tryz.zeroValue243,
    t173 := Tryz.underlying246,
    a173 := Tryz.isAgg246,
    z173 := Tryz.sizeOf246,
    v173 := Tryz.zeroValue246,
    t212 := Tryz.underlying269,
    a212 := Tryz.isAgg269,
    z212 := Tryz.sizeOf269,
    v212 := Tryz.zeroValue269,
    t213 := Tryz.underlying271,
    a213 := Tryz.isAgg271,
    z213 := Tryz.sizeOf271,
    t232 := Tryz.underlying312,
    a232 := Tryz.isAgg312,
    z232 := Tryz.sizeOf312,
    v232 := Tryz.zeroValue312,
    t233 := Tryz.underlying313,
    a233 := Tryz.isAgg313,
    z233 := Tryz.sizeOf313,
    v233 := Tryz.zeroValue313,
    g17 := by kernel_rfl,
    g18 := by kernel_rfl,
    g19 := by kernel_rfl,
    i0 := by kernel_rfl,
    i2 := by kernel_rfl,
    i3 := by kernel_rfl,
    i4 := by kernel_rfl,
    i5 := by kernel_rfl,
    i9 := by kernel_rfl,
    i20 := by kernel_rfl,
    i37 := by kernel_rfl,
    i46 := by kernel_rfl,
    i51 := by kernel_rfl,
    i53 := by kernel_rfl,
    i171 := by kernel_rfl,
    i173 := by kernel_rfl,
    i212 := by kernel_rfl,
    i232 := by kernel_rfl,
    i233 := by kernel_rfl,
    m17 := by kernel_rfl,
    m18 := by kernel_rfl,
    m19 := by kernel_rfl }
/-- The table that Itoa reads. -/
def Tab (w : World) : Prop := Lib.TabIs Tryz.prog w "internal/strconv.uint64pow10" .u64 Lib.pow10Tab
theorem grow_below (w : World) (k : Nat) (os : Array Obj) : Below w.heap.size w (Sort.grow (w.drewN k) os) :=
  ⟨rfl, rfl, rfl, by show w.heap.size ≤ (w.heap ++ os).size; rw [Array.size_append]; omega, fun j hj => by show (w.heap ++ os)[j]? = _; rw [Array.getElem?_append_left hj]⟩
theorem Tab.below {w w' : World} (h : Tab w) (hb : Below w.heap.size w w') : Tab w' := by
  unfold Tab Lib.TabIs World.var? at h ⊢
  cases hg : Tryz.prog.globalNamed "internal/strconv.uint64pow10" with
  | none => rw [hg] at h; cases h
  | some g =>
    rw [hg, Option.bind_some] at h
    rw [Option.bind_some, hb.block g ?_]
    · exact h
    · rcases Nat.lt_or_ge g w.heap.size with h1 | h1
      · exact h1
      · rw [Array.getElem?_eq_none h1] at h; cases h
theorem itoa_any (n : Int) (h0 : -9223372036854775808 ≤ n) (h1 : n ≤ 9223372036854775807) (w : World) (ht : Tab w) :
    Calls Tryz.prog 87 #[.int .i64 n] w fun e w' => e = .returned (.string ⟨(Lib.itoa n).toArray⟩) ∧ Below w.heap.size w w' :=
  (Any.strconv_Itoa itoaLaid n h0 h1 w ht).mono fun e w' ⟨he, k, os, hw⟩ => ⟨he, by rw [hw]; exact grow_below w k os⟩
end Go.Proofs.YtmlfekbmbnfkjabGreatDoor

