/-
  What a command's arguments are, plainly: the call, or the error's number.
-/
import Derived.Test.YtmlfekbmbnfkjabGreatDoorQ10
import Derived.Test.YtmlfekbmbnfkjabGreatDoorProg
import Derived.Shelf.Slices.In.SortNone
import Derived.Test.YtmlfekbmbnfkjabGreatDoorQ08
import Derived.Sort.OwnSorted
import Derived.Sort.Grow
import Derived.Lib.OwnBridge
import Derived.Sort.EveryDepth
import Derived.Test.YtmlfekbmbnfkjabGreatDoorQ09
import Derived.Shelf.Strconv.Itoa3
import Derived.Lib.ItoaLen
import Derived.Below
import Derived.Shelf.Strconv.ErrVarAll
namespace Go.Proofs.YtmlfekbmbnfkjabGreatDoor
set_option maxRecDepth 100000
open Go.RowKit

/-- A call. -/
structure Cl where
  name : List UInt8
  key : List UInt8
  field : List UInt8
  value : List UInt8
  n : Int
  m : Int
deriving DecidableEq
def clz : Cl := ⟨[], [], [], [], 0, 0⟩
def clc (c : Cl) : Array Value := #[.string (sb c.name), .string (sb c.key), .string (sb c.field), .string (sb c.value), .int .i64 c.n, .int .i64 c.m]
/-- A text as a part of a call: the error's number, and the call. -/
def textE (s : List UInt8) : Int := if 64 < s.length then 4 else 0
def keyTE (s : List UInt8) : Int := if s = [] then 1 else textE s
def numTE (s : List UInt8) : Int := if (numTx s).isSome then 0 else 13
def takeE (p : UInt8) (s : List UInt8) : Int := if p = 107 then keyTE s else if p = 102 ∨ p = 118 then textE s else numTE s
def takeC (c : Cl) (p : UInt8) (s : List UInt8) : Cl :=
  if p = 107 then { c with key := s } else if p = 102 then { c with field := s } else if p = 118 then { c with value := s } else if p = 110 then { c with n := (numTx s).getD 0 } else { c with m := (numTx s).getD 0 }
/-- The parts from the left. -/
def takesE : Cl → List UInt8 → List (List UInt8) → Cl × Int
  | c, p :: ps, s :: ss => if takeE p s = 0 then takesE (takeC c p s) ps ss else (clz, takeE p s)
  | c, _, _ => (c, 0)
def parseE : List (List UInt8) → Cl × Int
  | [] => (clz, 12)
  | a :: r => match rowN (upE a) with
    | none => (clz, 14)
    | some w => if r.length = w.takes.length then takesE { clz with name := w.name } w.takes r else (clz, 12)
theorem takesE_step {c : Cl} {ps : List UInt8} {ss : List (List UInt8)} {i : Nat} {p : UInt8} {s : List UInt8} (hp : ps[i]? = some p) (hs : ss[i]? = some s) :
    takesE c (ps.drop i) (ss.drop i) = if takeE p s = 0 then takesE (takeC c p s) (ps.drop (i + 1)) (ss.drop (i + 1)) else (clz, takeE p s) := by
  obtain ⟨h1, e1⟩ := List.getElem?_eq_some_iff.1 hp
  obtain ⟨h2, e2⟩ := List.getElem?_eq_some_iff.1 hs
  rw [List.drop_eq_getElem_cons h1, List.drop_eq_getElem_cons h2, e1, e2]
  rfl
theorem takesE_end {c : Cl} {ps : List UInt8} {ss : List (List UInt8)} {i : Nat} (h : ps.length ≤ i) : takesE c (ps.drop i) (ss.drop i) = (c, 0) := by
  rw [List.drop_eq_nil_of_le h]
  cases ss.drop i <;> rfl
end Go.Proofs.YtmlfekbmbnfkjabGreatDoor

/-
  Where the functions and types of slices.Sort of texts stand in this program.
-/
namespace Go.Proofs.YtmlfekbmbnfkjabGreatDoor
set_option maxRecDepth 100000

end Go.Proofs.YtmlfekbmbnfkjabGreatDoor

/-
  What slices.Sort and slices.Compact of texts come to; what Keys comes to.
-/
namespace Go.Proofs.YtmlfekbmbnfkjabGreatDoor
set_option maxRecDepth 100000
set_option maxRecDepth 100000
open Go.RowKit Go.Shelf Go.Sort

abbrev TRow (w : World) (base : Nat) (v : Value) (S : List (List UInt8)) : Prop := w.ownsRow base 9 1 v S.length (S.map encStr)
def tsort (S : List (List UInt8)) : List (List UInt8) := S.mergeSort fun x y => decide (x ≤ y)
/-! Appending a text. -/
theorem TRow.below {w w' : World} {base B : Nat} {v : Value} {S : List (List UInt8)} (h : TRow w base v S) (hb : Below B w w') (hB : w.heap.size ≤ B) : TRow w' base v S := by
  refine ⟨h.1, ?_⟩
  rcases h.2 with hn | ⟨g, cap, cur, e, hbg, hg, rest⟩
  · exact .inl hn
  · have hlt := (Array.getElem?_eq_some_iff.1 hg).1
    exact .inr ⟨g, cap, cur, e, hbg, by rw [hb.block g (by omega)]; exact hg, rest⟩
theorem TRow.lower {w : World} {base b : Nat} {v : Value} {S : List (List UInt8)} (h : TRow w base v S) (hb : b ≤ base) : TRow w b v S := by
  refine ⟨h.1, ?_⟩
  rcases h.2 with hn | ⟨g, cap, cur, e, hbg, rest⟩
  · exact .inl hn
  · exact .inr ⟨g, cap, cur, e, Nat.le_trans hb hbg, rest⟩
theorem TRow.own {w : World} {base : Nat} {v : Value} {S : List (List UInt8)} (h : TRow w base v S) : ∀ k, v.ownBlock = some k → base ≤ k := by
  rcases h.2 with ⟨rfl, -⟩ | ⟨g, cap, cur, rfl, hb, -⟩
  · intro k hk; cases hk
  · intro k hk; cases hk; exact hb
end Go.Proofs.YtmlfekbmbnfkjabGreatDoor

/-
  Texts: two lists of texts that are alike.
-/
namespace Go.Proofs.YtmlfekbmbnfkjabGreatDoor
set_option maxRecDepth 100000
set_option maxRecDepth 100000
open Go.RowKit Go.Shelf Go.Sort

/-- A list of texts, as it is read. -/
def TL (w : World) (ao : Option Addr) (S : List (List UInt8)) : Prop := ∀ j t, S[j]? = some t → ∃ g, ao = some ⟨g, 0, none⟩ ∧ w.cell? ⟨g, j, none⟩ = some (.string (sb t))
theorem TRow.tl {w : World} {base : Nat} {v : Value} {S : List (List UInt8)} (h : TRow w base v S) : ∃ ao c, v = .slice ao S.length c ∧ TL w ao S := by
  rcases h.2 with ⟨rfl, h0⟩ | ⟨g, cap, cur, rfl, hb, hg, hnc, hcm, hcs, htake⟩
  · have : S = [] := List.eq_nil_of_length_eq_zero h0
    subst this
    exact ⟨none, 0, rfl, fun j t h => by cases h⟩
  · refine ⟨some ⟨g, 0, none⟩, cap, rfl, fun j t ht => ⟨g, rfl, ?_⟩⟩
    have h1 := h.cells (g := g) rfl j (encStr t) (by rw [List.getElem?_map, ht]; rfl)
    rw [Addr.add_mid, Nat.zero_add] at h1
    exact h1
theorem TL.below {w w' : World} {ao : Option Addr} {S : List (List UInt8)} {B : Nat} (h : TL w ao S) (hb : Below B w w') (hB : w.heap.size ≤ B) : TL w' ao S := fun j t ht => by
  obtain ⟨g, hg, hc⟩ := h j t ht
  exact ⟨g, hg, (hb.cell (Nat.lt_of_lt_of_le (World.block_lt_of_cell? w _ hc) hB)).trans hc⟩
end Go.Proofs.YtmlfekbmbnfkjabGreatDoor

/-
  What the reference's Refuse comes to; a reply held against the reference's; calls held against one another.
-/
namespace Go.Proofs.YtmlfekbmbnfkjabGreatDoor
set_option maxRecDepth 100000
open Go.RowKit

end Go.Proofs.YtmlfekbmbnfkjabGreatDoor

/-
  Where strconv.Itoa's functions and types stand in this program; what Itoa comes to.
-/
namespace Go.Proofs.YtmlfekbmbnfkjabGreatDoor
set_option maxRecDepth 100000
open Go.Shelf Go.RowKit

def itoaRen : Go.Shelf.Ren := ⟨fun
   
    | 171 => 87
    | 243 => 128
    | 246 => 165
    | 283 => 203
    | 284 => 204
    | 285 => 205
    | 286 => 206
    | 129 => 231
    | 317 => 230
    | 318 => 232
    | 319 => 233
    | 320 => 234
    | 337 => 270
    | 338 => 271
    | n => n, fun
   
    | 3 => 3
    | 9 => 9
    | 2 => 2
    | 4 => 4
    | 171 => 243
    | 0 => 0
    | 53 => 236
    | 37 => 91
    | 5 => 5
    | 173 => 246
    | 212 => 269
    | 51 => 270
    | 20 => 20
    | 213 => 271
    | 46 => 239
    | 232 => 312
    | 233 => 313
    | n => n, fun
   
    | 17 => 2
    | 18 => 3
    | 19 => 4
    | n => n⟩
theorem itoaLaid : Go.Proofs.LaysM.n171 Tryz.prog itoaRen :=
  {
    mixed := by kernel_rfl,
    f129 := Tryz.func231.trans (congrArg some (by kernel_rfl)),
    f171 := Tryz.func87.trans (congrArg some (by kernel_rfl)),
    f243 := Tryz.func128.trans (congrArg some (by kernel_rfl)),
    f246 := Tryz.func165.trans (congrArg some (by kernel_rfl)),
    f283 := Tryz.func203.trans (congrArg some (by kernel_rfl)),
    f284 := Tryz.func204.trans (congrArg some (by kernel_rfl)),
    f285 := Tryz.func205.trans (congrArg some (by kernel_rfl)),
    f286 := Tryz.func206.trans (congrArg some (by kernel_rfl)),
    f317 := Tryz.func230.trans (congrArg some (by kernel_rfl)),
    f318 := Tryz.func232.trans (congrArg some (by kernel_rfl)),
    f319 := Tryz.func233.trans (congrArg some (by kernel_rfl)),
    f320 := Tryz.func234.trans (congrArg some (by kernel_rfl)),
    f337 := Tryz.func270.trans (congrArg some (by kernel_rfl)),
    f338 := Tryz.func271.trans (congrArg some (by kernel_rfl)),
    t0 := Tryz.underlying0,
    a0 := Tryz.isAgg0,
    z0 := Tryz.sizeOf0,
    v0 := Tryz.zeroValue0,
    t2 := Tryz.underlying2,
    a2 := Tryz.isAgg2,
    z2 := Tryz.sizeOf2,
    v2 := Tryz.zeroValue2,
    t3 := Tryz.underlying3,
    a3 := Tryz.isAgg3,
    z3 := Tryz.sizeOf3,
    v3 := Tryz.zeroValue3,
    t4 := Tryz.underlying4,
    a4 := Tryz.isAgg4,
    z4 := Tryz.sizeOf4,
    v4 := Tryz.zeroValue4,
    t5 := Tryz.underlying5,
    a5 := Tryz.isAgg5,
    z5 := Tryz.sizeOf5,
    v5 := Tryz.zeroValue5,
    t9 := Tryz.underlying9,
    a9 := Tryz.isAgg9,
    z9 := Tryz.sizeOf9,
    v9 := Tryz.zeroValue9,
    t20 := Tryz.underlying20,
    a20 := Tryz.isAgg20,
    z20 := Tryz.sizeOf20,
    v20 := Tryz.zeroValue20,
    t37 := Tryz.underlying91,
    a37 := Tryz.isAgg91,
    z37 := Tryz.sizeOf91,
    v37 := Tryz.zeroValue91,
    t46 := Tryz.underlying239,
    a46 := Tryz.isAgg239,
    z46 := Tryz.sizeOf239,
    v46 := Tryz.zeroValue239,
    t51 := Tryz.underlying270,
    a51 := Tryz.isAgg270,
    z51 := Tryz.sizeOf270,
    v51 := Tryz.zeroValue270,
    t53 := Tryz.underlying236,
    a53 := Tryz.isAgg236,
    z53 := Tryz.sizeOf236,
    v53 := Tryz.zeroValue236,
    t171 := Tryz.underlying243,
    a171 := Tryz.isAgg243,
    z171 := Tryz.sizeOf243,
    v171 := Tryz.zeroValue243,
    t173 := Tryz.underlying246,
    a173 := Tryz.isAgg246,
    z173 := Tryz.sizeOf246,
    v173 := Tryz.zeroValue246,
    t212 := Tryz.underlying269,
    a212 := Tryz.isAgg269,
    z212 := Tryz.sizeOf269,
    v212 := Tryz.zeroValue269,
    t213 := Tryz.underlying271,
    a213 := Tryz.isAgg271,
    z213 := Tryz.sizeOf271,
    t232 := Tryz.underlying312,
    a232 := Tryz.isAgg312,
    z232 := Tryz.sizeOf312,
    v232 := Tryz.zeroValue312,
    t233 := Tryz.underlying313,
    a233 := Tryz.isAgg313,
    z233 := Tryz.sizeOf313,
    v233 := Tryz.zeroValue313,
    g17 := by kernel_rfl,
    g18 := by kernel_rfl,
    g19 := by kernel_rfl,
    i0 := by kernel_rfl,
    i2 := by kernel_rfl,
    i3 := by kernel_rfl,
    i4 := by kernel_rfl,
    i5 := by kernel_rfl,
    i9 := by kernel_rfl,
    i20 := by kernel_rfl,
    i37 := by kernel_rfl,
    i46 := by kernel_rfl,
    i51 := by kernel_rfl,
    i53 := by kernel_rfl,
    i171 := by kernel_rfl,
    i173 := by kernel_rfl,
    i212 := by kernel_rfl,
    i232 := by kernel_rfl,
    i233 := by kernel_rfl,
    m17 := by kernel_rfl,
    m18 := by kernel_rfl,
    m19 := by kernel_rfl }
/-- The table that Itoa reads. -/
def Tab (w : World) : Prop := Lib.TabIs Tryz.prog w "internal/strconv.uint64pow10" .u64 Lib.pow10Tab
theorem grow_below (w : World) (k : Nat) (os : Array Obj) : Below w.heap.size w (Sort.grow (w.drewN k) os) :=
  ⟨rfl, rfl, rfl, by show w.heap.size ≤ (w.heap ++ os).size; rw [Array.size_append]; omega, fun j hj => by show (w.heap ++ os)[j]? = _; rw [Array.getElem?_append_left hj]⟩
theorem Tab.below {w w' : World} (h : Tab w) (hb : Below w.heap.size w w') : Tab w' := by
  unfold Tab Lib.TabIs World.var? at h ⊢
  cases hg : Tryz.prog.globalNamed "internal/strconv.uint64pow10" with
  | none => rw [hg] at h; cases h
  | some g =>
    rw [hg, Option.bind_some] at h
    rw [Option.bind_some, hb.block g ?_]
    · exact h
    · rcases Nat.lt_or_ge g w.heap.size with h1 | h1
      · exact h1
      · rw [Array.getElem?_eq_none h1] at h; cases h
theorem itoa_any (n : Int) (h0 : -9223372036854775808 ≤ n) (h1 : n ≤ 9223372036854775807) (w : World) (ht : Tab w) :
    Calls Tryz.prog 87 #[.int .i64 n] w fun e w' => e = .returned (.string ⟨(Lib.itoa n).toArray⟩) ∧ Below w.heap.size w w' :=
  (Any.strconv_Itoa itoaLaid n h0 h1 w ht).mono fun e w' ⟨he, k, os, hw⟩ => ⟨he, by rw [hw]; exact grow_below w k os⟩
end Go.Proofs.YtmlfekbmbnfkjabGreatDoor

/-
  Where strconv.Atoi's functions and types stand in this program; what Atoi comes to.
-/
namespace Go.Proofs.YtmlfekbmbnfkjabGreatDoor
set_option maxRecDepth 100000
open Go.Shelf Go.RowKit

def atoiRen : Go.Shelf.Ren := ⟨fun
   
    | 172 => 86
    | 244 => 126
    | 245 => 127
    | 247 => 160
    | 279 => 161
    | 280 => 162
    | 281 => 163
    | 282 => 164
    | 287 => 200
    | 316 => 201
    | 171 => 87
    | 205 => 202
    | 321 => 228
    | 322 => 229
    | 243 => 128
    | 246 => 165
    | 283 => 203
    | 284 => 204
    | 285 => 205
    | 286 => 206
    | 129 => 231
    | 317 => 230
    | 318 => 232
    | 319 => 233
    | 320 => 234
    | 337 => 270
    | 338 => 271
    | n => n, fun
   
    | 9 => 9
    | 3 => 3
    | 75 => 114
    | 76 => 115
    | 4 => 4
    | 5 => 5
    | 167 => 194
    | 37 => 91
    | 0 => 0
    | 85 => 195
    | 2 => 2
    | 168 => 197
    | 53 => 236
    | 175 => 237
    | 46 => 239
    | 210 => 241
    | 127 => 264
    | 145 => 267
    | 143 => 265
    | 21 => 21
    | 171 => 243
    | 173 => 246
    | 212 => 269
    | 51 => 270
    | 20 => 20
    | 213 => 271
    | 232 => 312
    | 233 => 313
    | 80 => 323
    | n => n, fun
   
    | 15 => 0
    | 16 => 1
    | 17 => 2
    | 18 => 3
    | 19 => 4
    | n => n⟩
theorem atoiLaid : Go.Proofs.LaysC.n172 Tryz.prog atoiRen :=
  {
    mixed := by kernel_rfl,
    f129 := Tryz.func231.trans (congrArg some (by kernel_rfl)),
    f171 := Tryz.func87.trans (congrArg some (by kernel_rfl)),
    f172 := Tryz.func86.trans (congrArg some (by kernel_rfl)),
    f205 := Tryz.func202.trans (congrArg some (by kernel_rfl)),
    f243 := Tryz.func128.trans (congrArg some (by kernel_rfl)),
    f244 := Tryz.func126.trans (congrArg some (by kernel_rfl)),
    f245 := Tryz.func127.trans (congrArg some (by kernel_rfl)),
    f246 := Tryz.func165.trans (congrArg some (by kernel_rfl)),
    f247 := Tryz.func160.trans (congrArg some (by kernel_rfl)),
    f279 := Tryz.func161.trans (congrArg some (by kernel_rfl)),
    f280 := Tryz.func162.trans (congrArg some (by kernel_rfl)),
    f281 := Tryz.func163.trans (congrArg some (by kernel_rfl)),
    f282 := Tryz.func164.trans (congrArg some (by kernel_rfl)),
    f283 := Tryz.func203.trans (congrArg some (by kernel_rfl)),
    f284 := Tryz.func204.trans (congrArg some (by kernel_rfl)),
    f285 := Tryz.func205.trans (congrArg some (by kernel_rfl)),
    f286 := Tryz.func206.trans (congrArg some (by kernel_rfl)),
    f287 := Tryz.func200.trans (congrArg some (by kernel_rfl)),
    f316 := Tryz.func201.trans (congrArg some (by kernel_rfl)),
    f317 := Tryz.func230.trans (congrArg some (by kernel_rfl)),
    f318 := Tryz.func232.trans (congrArg some (by kernel_rfl)),
    f319 := Tryz.func233.trans (congrArg some (by kernel_rfl)),
    f320 := Tryz.func234.trans (congrArg some (by kernel_rfl)),
    f321 := Tryz.func228.trans (congrArg some (by kernel_rfl)),
    f322 := Tryz.func229.trans (congrArg some (by kernel_rfl)),
    f337 := Tryz.func270.trans (congrArg some (by kernel_rfl)),
    f338 := Tryz.func271.trans (congrArg some (by kernel_rfl)),
    t0 := Tryz.underlying0,
    a0 := Tryz.isAgg0,
    z0 := Tryz.sizeOf0,
    v0 := Tryz.zeroValue0,
    t2 := Tryz.underlying2,
    a2 := Tryz.isAgg2,
    z2 := Tryz.sizeOf2,
    v2 := Tryz.zeroValue2,
    t3 := Tryz.underlying3,
    a3 := Tryz.isAgg3,
    z3 := Tryz.sizeOf3,
    v3 := Tryz.zeroValue3,
    t4 := Tryz.underlying4,
    a4 := Tryz.isAgg4,
    z4 := Tryz.sizeOf4,
    v4 := Tryz.zeroValue4,
    t5 := Tryz.underlying5,
    a5 := Tryz.isAgg5,
    z5 := Tryz.sizeOf5,
    v5 := Tryz.zeroValue5,
    t9 := Tryz.underlying9,
    a9 := Tryz.isAgg9,
    z9 := Tryz.sizeOf9,
    v9 := Tryz.zeroValue9,
    t20 := Tryz.underlying20,
    a20 := Tryz.isAgg20,
    z20 := Tryz.sizeOf20,
    v20 := Tryz.zeroValue20,
    t21 := Tryz.underlying21,
    a21 := Tryz.isAgg21,
    z21 := Tryz.sizeOf21,
    v21 := Tryz.zeroValue21,
    t37 := Tryz.underlying91,
    a37 := Tryz.isAgg91,
    z37 := Tryz.sizeOf91,
    v37 := Tryz.zeroValue91,
    t46 := Tryz.underlying239,
    a46 := Tryz.isAgg239,
    z46 := Tryz.sizeOf239,
    v46 := Tryz.zeroValue239,
    t51 := Tryz.underlying270,
    a51 := Tryz.isAgg270,
    z51 := Tryz.sizeOf270,
    v51 := Tryz.zeroValue270,
    t53 := Tryz.underlying236,
    a53 := Tryz.isAgg236,
    z53 := Tryz.sizeOf236,
    v53 := Tryz.zeroValue236,
    t75 := Tryz.underlying114,
    a75 := Tryz.isAgg114,
    z75 := Tryz.sizeOf114,
    v75 := Tryz.zeroValue114,
    t76 := Tryz.underlying115,
    a76 := Tryz.isAgg115,
    z76 := Tryz.sizeOf115,
    v76 := Tryz.zeroValue115,
    t85 := Tryz.underlying195,
    a85 := Tryz.isAgg195,
    z85 := Tryz.sizeOf195,
    v85 := Tryz.zeroValue195,
    t127 := Tryz.underlying264,
    a127 := Tryz.isAgg264,
    z127 := Tryz.sizeOf264,
    v127 := Tryz.zeroValue264,
    t143 := Tryz.underlying265,
    a143 := Tryz.isAgg265,
    z143 := Tryz.sizeOf265,
    v143 := Tryz.zeroValue265,
    t145 := Tryz.underlying267,
    a145 := Tryz.isAgg267,
    z145 := Tryz.sizeOf267,
    v145 := Tryz.zeroValue267,
    t167 := Tryz.underlying194,
    a167 := Tryz.isAgg194,
    z167 := Tryz.sizeOf194,
    v167 := Tryz.zeroValue194,
    t168 := Tryz.underlying197,
    a168 := Tryz.isAgg197,
    z168 := Tryz.sizeOf197,
    v168 := Tryz.zeroValue197,
    t171 := Tryz.underlying243,
    a171 := Tryz.isAgg243,
    z171 := Tryz.sizeOf243,
    v171 := Tryz.zeroValue243,
    t173 := Tryz.underlying246,
    a173 := Tryz.isAgg246,
    z173 := Tryz.sizeOf246,
    v173 := Tryz.zeroValue246,
    t175 := Tryz.underlying237,
    a175 := Tryz.isAgg237,
    z175 := Tryz.sizeOf237,
    v175 := Tryz.zeroValue237,
    t210 := Tryz.underlying241,
    a210 := Tryz.isAgg241,
    z210 := Tryz.sizeOf241,
    v210 := Tryz.zeroValue241,
    t212 := Tryz.underlying269,
    a212 := Tryz.isAgg269,
    z212 := Tryz.sizeOf269,
    v212 := Tryz.zeroValue269,
    t213 := Tryz.underlying271,
    a213 := Tryz.isAgg271,
    z213 := Tryz.sizeOf271,
    t232 := Tryz.underlying312,
    a232 := Tryz.isAgg312,
    z232 := Tryz.sizeOf312,
    v232 := Tryz.zeroValue312,
    t233 := Tryz.underlying313,
    a233 := Tryz.isAgg313,
    z233 := Tryz.sizeOf313,
    v233 := Tryz.zeroValue313,
    g15 := by kernel_rfl,
    g16 := by kernel_rfl,
    g17 := by kernel_rfl,
    g18 := by kernel_rfl,
    g19 := by kernel_rfl,
    t80 := Tryz.underlying323,
    a80 := Tryz.isAgg323,
    z80 := Tryz.sizeOf323,
    v80 := Tryz.zeroValue323,
    i0 := by kernel_rfl,
    i2 := by kernel_rfl,
    i3 := by kernel_rfl,
    i4 := by kernel_rfl,
    i5 := by kernel_rfl,
    i9 := by kernel_rfl,
    i20 := by kernel_rfl,
    i21 := by kernel_rfl,
    i37 := by kernel_rfl,
    i46 := by kernel_rfl,
    i51 := by kernel_rfl,
    i53 := by kernel_rfl,
    i75 := by kernel_rfl,
    i76 := by kernel_rfl,
    i80 := by kernel_rfl,
    i85 := by kernel_rfl,
    i127 := by kernel_rfl,
    i143 := by kernel_rfl,
    i145 := by kernel_rfl,
    i167 := by kernel_rfl,
    i168 := by kernel_rfl,
    i171 := by kernel_rfl,
    i173 := by kernel_rfl,
    i175 := by kernel_rfl,
    i210 := by kernel_rfl,
    i212 := by kernel_rfl,
    i232 := by kernel_rfl,
    i233 := by kernel_rfl,
    m15 := by kernel_rfl,
    m16 := by kernel_rfl,
    m17 := by kernel_rfl,
    m18 := by kernel_rfl,
    m19 := by kernel_rfl,
    c0 := by kernel_rfl,
    c2 := by kernel_rfl,
    c3 := by kernel_rfl,
    c4 := by kernel_rfl,
    c5 := by kernel_rfl,
    c9 := by kernel_rfl,
    c20 := by kernel_rfl,
    c21 := by kernel_rfl,
    c37 := by kernel_rfl,
    c46 := by kernel_rfl,
    c51 := by kernel_rfl,
    c53 := by kernel_rfl,
    c75 := by kernel_rfl,
    c76 := by kernel_rfl,
    c80 := by kernel_rfl,
    c85 := by kernel_rfl,
    c127 := by kernel_rfl,
    c143 := by kernel_rfl,
    c145 := by kernel_rfl,
    c167 := by kernel_rfl,
    c168 := by kernel_rfl,
    c171 := by kernel_rfl,
    c173 := by kernel_rfl,
    c175 := by kernel_rfl,
    c210 := by kernel_rfl,
    c212 := by kernel_rfl,
    c213 := by kernel_rfl,
    c232 := by kernel_rfl,
    c233 := by kernel_rfl }
end Go.Proofs.YtmlfekbmbnfkjabGreatDoor

/-
  What Atoi comes to, of any text; the library's variables that it reads.
-/
namespace Go.Proofs.YtmlfekbmbnfkjabGreatDoor
set_option maxRecDepth 100000
open Go.Shelf Go.RowKit

theorem var_below {nm : String} {cs : Array Value} {w w' : World} (h : w.var? Tryz.prog nm = some cs) (hb : Below w.heap.size w w') : w'.var? Tryz.prog nm = some cs := by
  unfold World.var? at h ⊢
  cases hg : Tryz.prog.globalNamed nm with
  | none => rw [hg] at h; cases h
  | some g =>
    rw [hg, Option.bind_some] at h
    rw [Option.bind_some, hb.block g ?_]
    · exact h
    · rcases Nat.lt_or_ge g w.heap.size with h1 | h1
      · exact h1
      · rw [Array.getElem?_eq_none h1] at h; cases h
/-- The library's variables that a walk may read. -/
structure Tb (w : World) : Prop where
  tab : Tab w
  syn : ∃ tp p, w.var? Tryz.prog "strconv.ErrSyntax" = some #[.iface tp p]
  rng : ∃ tp p, w.var? Tryz.prog "strconv.ErrRange" = some #[.iface tp p]
theorem Tb.below {w w' : World} (h : Tb w) (hb : Below w.heap.size w w') : Tb w' :=
  ⟨h.tab.below hb, by obtain ⟨tp, p, h1⟩ := h.syn; exact ⟨tp, p, var_below h1 hb⟩, by obtain ⟨tp, p, h1⟩ := h.rng; exact ⟨tp, p, var_below h1 hb⟩⟩
theorem data_sb' (l : List UInt8) : (sb l).data.toList = l := by simp [sb]
theorem size_sb' (l : List UInt8) : (sb l).size = l.length := by simp [sb, ByteArray.size]
theorem atoi_ok (l : List UInt8) (n : Int) (h : Lib.atoiAll l = .ok n) (hl : l.length ≤ 1000000) (w : World) :
    Calls Tryz.prog 86 #[.string (sb l)] w fun e w' => e = .returned (.tuple #[.int .i64 n, .nilIface]) ∧ Below w.heap.size w w' :=
  (Any.strconv_Atoi_ok atoiLaid (sb l) (by rw [size_sb']; omega) n (by rw [data_sb']; exact h) w).mono fun e w' ⟨he, hw⟩ => ⟨he, by
    rcases hw with rfl | ⟨t, rfl⟩
    · exact Below.refl _ _
    · exact Lib.bytesWorld_below _ _ _⟩
theorem atoi_bad (l : List UInt8) (h : ∀ n, Lib.atoiAll l ≠ .ok n) (hl : l.length ≤ 1000000) (w : World) (ht : Tb w) :
    Calls Tryz.prog 86 #[.string (sb l)] w fun e w' => (∃ n t N, e = .returned (.tuple #[.int .i64 n, .iface t (.pointer (some ⟨N, 0, none⟩))])) ∧ Below w.heap.size w w' := by
  cases hh : Lib.atoiAll l with
  | ok n => exact absurd hh (h n)
  | «syntax» =>
    obtain ⟨tp, p, hv⟩ := ht.syn
    exact (Any.strconv_Atoi_syntax_var atoiLaid (sb l) (by rw [size_sb']; omega) (by rw [data_sb']; exact hh) tp p w hv).mono fun e w' ⟨N, he, _, _, hb⟩ => ⟨⟨_, _, N, he⟩, hb⟩
  | range =>
    obtain ⟨tp, p, hv⟩ := ht.rng
    exact (Any.strconv_Atoi_range_var atoiLaid (sb l) (by rw [size_sb']; omega) (by rw [data_sb']; exact hh) tp p w hv).mono fun e w' ⟨N, he, _, _, hb⟩ => ⟨⟨_, _, N, he⟩, hb⟩
end Go.Proofs.YtmlfekbmbnfkjabGreatDoor

/-
  What takeText, takeKey, takeWhole and take come to.
-/
namespace Go.Proofs.YtmlfekbmbnfkjabGreatDoor
set_option maxRecDepth 100000
open Go.RowKit

/-- The call in a block, behind one part's store. -/
theorem cl_set1 {w : World} {g : Nat} {c : Cl} (h : w.heap[g]? = some (.cells (clc c) 38 (0, 0))) (s : List UInt8) : (w.setCell ⟨g, 1, none⟩ (.string (sb s))).heap[g]? = some (.cells (clc { c with key := s }) 38 (0, 0)) := by
  rw [heap_setCell_same w g 1 _ _ _ h]; rfl
theorem cl_set2 {w : World} {g : Nat} {c : Cl} (h : w.heap[g]? = some (.cells (clc c) 38 (0, 0))) (s : List UInt8) : (w.setCell ⟨g, 2, none⟩ (.string (sb s))).heap[g]? = some (.cells (clc { c with field := s }) 38 (0, 0)) := by
  rw [heap_setCell_same w g 2 _ _ _ h]; rfl
theorem cl_set3 {w : World} {g : Nat} {c : Cl} (h : w.heap[g]? = some (.cells (clc c) 38 (0, 0))) (s : List UInt8) : (w.setCell ⟨g, 3, none⟩ (.string (sb s))).heap[g]? = some (.cells (clc { c with value := s }) 38 (0, 0)) := by
  rw [heap_setCell_same w g 3 _ _ _ h]; rfl
theorem cl_set4 {w : World} {g : Nat} {c : Cl} (h : w.heap[g]? = some (.cells (clc c) 38 (0, 0))) (n : Int) : (w.setCell ⟨g, 4, none⟩ (.int .i64 n)).heap[g]? = some (.cells (clc { c with n := n }) 38 (0, 0)) := by
  rw [heap_setCell_same w g 4 _ _ _ h]; rfl
theorem cl_set5 {w : World} {g : Nat} {c : Cl} (h : w.heap[g]? = some (.cells (clc c) 38 (0, 0))) (n : Int) : (w.setCell ⟨g, 5, none⟩ (.int .i64 n)).heap[g]? = some (.cells (clc { c with m := n }) 38 (0, 0)) := by
  rw [heap_setCell_same w g 5 _ _ _ h]; rfl
/-- Block g alone may have turned. -/
structure Bt (g : Nat) (w w' : World) : Prop where
  os : w'.os = w.os
  tape : w'.tape = w.tape
  output : w'.output = w.output
  size : w.heap.size ≤ w'.heap.size
  block : ∀ k, k < w.heap.size → k ≠ g → w'.heap[k]? = w.heap[k]?
theorem Bt.of_below {g : Nat} {w w' : World} (h : Below w.heap.size w w') : Bt g w w' := ⟨h.os, h.tape, h.output, h.size, fun k hk _ => h.block k hk⟩
theorem Bt.set (g i : Nat) (w : World) (v : Value) : Bt g w (w.setCell ⟨g, i, none⟩ v) := by
  have h := T21.grown_set w g i v
  exact ⟨h.os, h.tape, h.output, h.size, fun k hk hg => h.block k hk (by simpa using hg)⟩
theorem Bt.trans {g : Nat} {a b c : World} (h : Bt g a b) (k : Bt g b c) : Bt g a c :=
  ⟨k.os.trans h.os, k.tape.trans h.tape, k.output.trans h.output, Nat.le_trans h.size k.size, fun i hi hg => (k.block i (Nat.lt_of_lt_of_le hi h.size) hg).trans (h.block i hi hg)⟩
theorem Bt.below {g B : Nat} {w w' : World} (h : Bt g w w') (hg : B ≤ g) (hB : B ≤ w.heap.size) : Below B w w' := ⟨h.os, h.tape, h.output, h.size, fun k hk => h.block k (by omega) (by omega)⟩
/-- What a part's taking leaves: the error's number, and the store, if there is none. -/
def textP (g i : Nat) (s : List UInt8) (z : Int) (w w' : World) (e : Ending) : Prop :=
  e = .returned (.int .i64 z) ∧ ((z ≠ 0 ∧ w' = w) ∨ (z = 0 ∧ w' = w.setCell ⟨g, i, none⟩ (.string (sb s))))
theorem taketx_any (g i : Nat) (s : List UInt8) (w : World) (v0 : Value) (hc : w.cell? ⟨g, i, none⟩ = some v0) (hf : w.frozen? ⟨g, i, none⟩ = false) :
    Calls Tryz.prog 41 #[.pointer (some ⟨g, i, none⟩), .string (sb s)] w fun e w' => textP g i s (textE s) w w' e := by
  have hsz : (sb s).size = s.length := size_sb s
  by_cases h : 64 < s.length
  · have e1 : textE s = 4 := if_pos h
    rw [e1]
    have hz : (64 : Int) < (s.length : Int) := by omega
    go_enter Tryz.func41, Tryz.ntmps41
    go_wp2
    go_ret
    exact ⟨rfl, .inl ⟨by decide, rfl⟩⟩
  · have e1 : textE s = 0 := if_neg h
    rw [e1]
    have hz : ¬ (64 : Int) < (s.length : Int) := by omega
    go_enter Tryz.func41, Tryz.ntmps41
    go_wp2
    go_ret
    exact ⟨rfl, .inr ⟨rfl, rfl⟩⟩
theorem sb_empty (s : List UInt8) : (sb s).toList.isEmpty = decide (s = []) := by
  rw [ByteArray.toList_eq]
  cases s <;> simp [sb]
theorem takekey_any (g i : Nat) (s : List UInt8) (w : World) (v0 : Value) (hc : w.cell? ⟨g, i, none⟩ = some v0) (hf : w.frozen? ⟨g, i, none⟩ = false) :
    Calls Tryz.prog 40 #[.pointer (some ⟨g, i, none⟩), .string (sb s)] w fun e w' => textP g i s (keyTE s) w w' e := by
  have hq := sb_empty s
  by_cases h : s = []
  · have e1 : keyTE s = 1 := if_pos h
    rw [e1]
    rw [decide_eq_true h] at hq
    clear h e1
    go_enter Tryz.func40, Tryz.ntmps40
    go_wp2
    go_ret
    exact ⟨rfl, .inl ⟨by decide, rfl⟩⟩
  · have e1 : keyTE s = textE s := if_neg h
    rw [e1]
    rw [decide_eq_false h] at hq
    clear h e1
    have hT := taketx_any g i s w v0 hc hf
    clear hc hf
    go_enter Tryz.func40, Tryz.ntmps40
    go_wp2_with fail
    refine Calls.mono hT ?_
    rintro e w1 ⟨rfl, hw⟩
    go_wp2
    go_ret
    exact ⟨rfl, hw⟩
theorem neq_err (W : World) (t : TypeId) (N : Nat) : (binOp .neq 114 (.iface t (.pointer (some ⟨N, 0, none⟩))) .nilIface).run Tryz.prog W = .ok (.bool true) W := by kernel_rfl
def wholeP (g i : Nat) (s : List UInt8) (w w' : World) (e : Ending) : Prop :=
  e = .returned (.int .i64 (numTE s)) ∧ ((numTx s = none ∧ Below w.heap.size w w') ∨ ∃ n W, numTx s = some n ∧ Below w.heap.size w W ∧ w' = W.setCell ⟨g, i, none⟩ (.int .i64 n))
set_option maxHeartbeats 1000000 in
theorem takewhole_any (g i : Nat) (s : List UInt8) (w : World) (v0 : Value) (hg : g < w.heap.size) (hc : w.cell? ⟨g, i, none⟩ = some v0) (hf : w.frozen? ⟨g, i, none⟩ = false) (hs : s.length ≤ 1000) (ht : Tb w) :
    Calls Tryz.prog 42 #[.pointer (some ⟨g, i, none⟩), .string (sb s)] w fun e w' => wholeP g i s w w' e := by
  have hbad : numTx s = none → ∀ n, Lib.atoiAll s = .ok n → -999999999999999 ≤ n → n ≤ 999999999999999 → Lib.itoa n ≠ s := fun h n h1 h2 h3 h4 => by
    rw [(whole_iff s n).2 ⟨h1, h2, h3, h4⟩] at h; cases h
  by_cases hok : ∃ n, Lib.atoiAll s = .ok n
  · obtain ⟨n, hn⟩ := hok
    have hA := atoi_ok s n hn (by omega) w
    have HS : Hid (numTx s = none → -999999999999999 ≤ n → n ≤ 999999999999999 → Lib.itoa n ≠ s) := fun h => hbad h n hn
    have HT : Hid (∀ m, numTx s = some m → m = n ∧ -999999999999999 ≤ n ∧ n ≤ 999999999999999 ∧ Lib.itoa n = s) := fun m h => by
      obtain ⟨h1, h2, h3, h4⟩ := (whole_iff s m).1 h
      rw [hn] at h1
      injection h1 with h1
      subst h1
      exact ⟨rfl, h2, h3, h4⟩
    have HU : Hid (-999999999999999 ≤ n → n ≤ 999999999999999 → Lib.itoa n = s → numTx s = some n) := fun h1 h2 h3 => (whole_iff s n).2 ⟨hn, h1, h2, h3⟩
    have HTB : Hid (Tb w) := ht
    have HC : Aside (g < w.heap.size ∧ w.cell? ⟨g, i, none⟩ = some v0 ∧ w.frozen? ⟨g, i, none⟩ = false) := ⟨hg, hc, hf⟩
    have hn13 : numTx s = none → numTE s = 13 := fun h => by unfold numTE; rw [h]; rfl
    have h13 : (∀ m, numTx s ≠ some m) → numTx s = none := fun h => by
      cases h' : numTx s with
      | none => rfl
      | some m => exact absurd h' (h m)
    clear hbad ht hn hc hf hg
    by_cases h1 : n < -999999999999999
    · have hno := h13 fun m h => by have := HT.out m h; omega
      have e1 := hn13 hno
      unfold wholeP
      rw [e1]
      have HNO : Hid (numTx s = none) := hno
      clear hno e1 hn13 h13
      go_enter Tryz.func42, Tryz.ntmps42
      go_wp2_with fail
      refine Calls.mono hA ?_
      rintro e w1 ⟨rfl, hb⟩
      go_wp2
      go_ret
      exact ⟨rfl, .inl ⟨HNO.out, hb⟩⟩
    by_cases h2 : 999999999999999 < n
    · have hno := h13 fun m h => by have := HT.out m h; omega
      have e1 := hn13 hno
      unfold wholeP
      rw [e1]
      have HNO : Hid (numTx s = none) := hno
      clear hno e1 hn13 h13
      go_enter Tryz.func42, Tryz.ntmps42
      go_wp2_with fail
      refine Calls.mono hA ?_
      rintro e w1 ⟨rfl, hb⟩
      go_wp2
      go_ret
      exact ⟨rfl, .inl ⟨HNO.out, hb⟩⟩
    have hI := fun W (hb : Below w.heap.size w W) => itoa_any n (by omega) (by omega) W (HTB.out.below hb).tab
    have hq : ((sb (Lib.itoa n)).toList == (sb s).toList) = decide (Lib.itoa n = s) := sb_beq _ _
    by_cases h3 : Lib.itoa n = s
    · rw [decide_eq_true h3] at hq
      have hsm : numTx s = some n := HU.out (by omega) (by omega) h3
      have e1 : numTE s = 0 := by unfold numTE; rw [hsm]; rfl
      unfold wholeP
      rw [e1]
      have HSM : Hid (numTx s = some n) := hsm
      have hI : ∀ W, Below w.heap.size w W → Calls Tryz.prog 87 #[.int .i64 n] W fun e w' => e = .returned (.string (sb (Lib.itoa n))) ∧ Below W.heap.size W w' := hI
      clear hsm e1 hn13 h13 h3
      generalize Lib.itoa n = x at *
      go_enter Tryz.func42, Tryz.ntmps42
      go_wp2_with fail
      refine Calls.mono hA ?_
      rintro e w1 ⟨rfl, hb⟩
      go_wp2_with fail
      refine Calls.mono (hI w1 hb) ?_
      rintro e w2 ⟨rfl, hb2⟩
      have hb3 := hb.trans (hb2.mono hb.size)
      have hc : w2.cell? ⟨g, i, none⟩ = some v0 := by rw [hb3.cell HC.out.1]; exact HC.out.2.1
      have hf : w2.frozen? ⟨g, i, none⟩ = false := by rw [hb3.frozen HC.out.1]; exact HC.out.2.2
      have HB3 : Hid (Below w.heap.size w w2) := hb3
      clear hb hb2 hb3 hI hA
      go_wp2
      go_ret
      exact ⟨rfl, .inr ⟨n, w2, HSM.out, HB3.out, rfl⟩⟩
    · rw [decide_eq_false h3] at hq
      have hno := h13 fun m h => by have := HT.out m h; exact h3 this.2.2.2
      have e1 := hn13 hno
      unfold wholeP
      rw [e1]
      have HNO : Hid (numTx s = none) := hno
      have hI : ∀ W, Below w.heap.size w W → Calls Tryz.prog 87 #[.int .i64 n] W fun e w' => e = .returned (.string (sb (Lib.itoa n))) ∧ Below W.heap.size W w' := hI
      clear hno e1 hn13 h13 h3
      generalize Lib.itoa n = x at *
      go_enter Tryz.func42, Tryz.ntmps42
      go_wp2_with fail
      refine Calls.mono hA ?_
      rintro e w1 ⟨rfl, hb⟩
      go_wp2_with fail
      refine Calls.mono (hI w1 hb) ?_
      rintro e w2 ⟨rfl, hb2⟩
      have hb3 := hb.trans (hb2.mono hb.size)
      clear hb hb2 hI hA
      go_wp2
      go_ret
      exact ⟨rfl, .inl ⟨HNO.out, hb3⟩⟩
  · have hA := atoi_bad s (fun n h => hok ⟨n, h⟩) (by omega) w ht
    have hno : numTx s = none := by
      cases h : numTx s with
      | none => rfl
      | some n => exact absurd ⟨n, ((whole_iff s n).1 h).1⟩ hok
    have e1 : numTE s = 13 := by unfold numTE; rw [hno]; rfl
    unfold wholeP
    rw [e1]
    have HNO : Hid (numTx s = none) := hno
    clear hbad hok hc hf ht hno e1
    go_enter Tryz.func42, Tryz.ntmps42
    go_wp2_with fail
    refine Calls.mono hA ?_
    rintro e w1 ⟨⟨n, t, N, rfl⟩, hb⟩
    have hne := neq_err
    go_wp2
    go_ret
    exact ⟨rfl, .inl ⟨HNO.out, hb⟩⟩
end Go.Proofs.YtmlfekbmbnfkjabGreatDoor

/-
  What take and Parse come to.
-/
namespace Go.Proofs.YtmlfekbmbnfkjabGreatDoor
set_option maxRecDepth 100000
open Go.RowKit

/-- What taking a part leaves: the call, if there is no error. -/
def takeP (g : Nat) (c : Cl) (p : UInt8) (s : List UInt8) (w w' : World) (e : Ending) : Prop :=
  e = .returned (.int .i64 (takeE p s)) ∧ Bt g w w' ∧ (takeE p s = 0 → w'.heap[g]? = some (.cells (clc (takeC c p s)) 38 (0, 0)))
theorem take_text {g i : Nat} {c c' : Cl} {z : Int} {p : UInt8} {s : List UInt8} {w w' : World} {e : Ending} (h : textP g i s z w w' e) (hz : takeE p s = z) (hc : takeC c p s = c')
    (hs : (w.setCell ⟨g, i, none⟩ (.string (sb s))).heap[g]? = some (.cells (clc c') 38 (0, 0))) : takeP g c p s w w' e := by
  obtain ⟨h1, h2⟩ := h
  unfold takeP
  rw [hz, hc]
  rcases h2 with ⟨h3, rfl⟩ | ⟨h3, rfl⟩
  · exact ⟨h1, Bt.of_below (Below.refl _ _), fun h => absurd h h3⟩
  · exact ⟨h1, Bt.set g i w _, fun _ => hs⟩
theorem take_whole {g i : Nat} {c : Cl} {c' : Int → Cl} {p : UInt8} {s : List UInt8} {w w' : World} {e : Ending} (h : wholeP g i s w w' e) (hz : takeE p s = numTE s) (hc : takeC c p s = c' ((numTx s).getD 0))
    (hg : w.heap[g]? = some (.cells (clc c) 38 (0, 0)))
    (hs : ∀ (W : World) (n : Int), W.heap[g]? = some (.cells (clc c) 38 (0, 0)) → (W.setCell ⟨g, i, none⟩ (.int .i64 n)).heap[g]? = some (.cells (clc (c' n)) 38 (0, 0))) : takeP g c p s w w' e := by
  obtain ⟨h1, h2⟩ := h
  unfold takeP
  rw [hz, hc]
  have hlt : g < w.heap.size := (Array.getElem?_eq_some_iff.1 hg).1
  rcases h2 with ⟨h3, hb⟩ | ⟨n, W, h3, hb, rfl⟩
  · refine ⟨h1, Bt.of_below hb, fun h => ?_⟩
    unfold numTE at h; rw [h3] at h; exact absurd h (by decide)
  · rw [h3]
    exact ⟨h1, (Bt.of_below hb).trans (Bt.set g i W _), fun _ => hs W n (by rw [hb.block g hlt]; exact hg)⟩
set_option maxHeartbeats 1000000 in
theorem ctake_any (g : Nat) (c : Cl) (p : UInt8) (s : List UInt8) (w : World) (hg : w.heap[g]? = some (.cells (clc c) 38 (0, 0))) (hs : s.length ≤ 1000) (ht : Tb w) :
    Calls Tryz.prog 23 #[.pointer (some ⟨g, 0, none⟩), .int .u8 (p.toNat : Int), .string (sb s)] w fun e w' => takeP g c p s w w' e := by
  have hlt : g < w.heap.size := (Array.getElem?_eq_some_iff.1 hg).1
  have hpn : ∀ q : UInt8, p ≠ q → p.toNat ≠ q.toNat := fun q h e => h (UInt8.toNat_inj.1 e)
  have hc : ∀ i, i < 6 → ∃ v, w.cell? ⟨g, i, none⟩ = some v := fun i hi => by rw [cell_of_row w g i _ _ _ hg]; exact ⟨_, Array.getElem?_eq_getElem hi⟩
  have hf : ∀ i, w.frozen? ⟨g, i, none⟩ = false := fun i => frozen_of_row w g i _ _ hg
  by_cases h1 : p = 107
  · subst h1
    obtain ⟨v0, hv0⟩ := hc 1 (by decide)
    have hT := takekey_any g 1 s w v0 hv0 (hf 1)
    have FIN : ∀ e w', textP g 1 s (keyTE s) w w' e → takeP g c 107 s w w' e := fun e w' h => take_text h rfl rfl (cl_set1 hg s)
    have FIN : Hid _ := FIN
    clear hc hf hg hv0 hpn ht
    show Calls Tryz.prog 23 #[.pointer (some ⟨g, 0, none⟩), .int .u8 107, .string (sb s)] w _
    go_enter Tryz.func23, Tryz.ntmps23
    go_wp2_with fail
    refine Calls.mono hT ?_
    intro e w1 hP
    have hP2 := FIN.out e w1 hP
    obtain ⟨rfl, -⟩ := hP
    have HP2 : Hid _ := hP2
    clear hP2
    go_wp2
    go_ret
    exact HP2.out
  by_cases h2 : p = 102
  · subst h2
    obtain ⟨v0, hv0⟩ := hc 2 (by decide)
    have hT := taketx_any g 2 s w v0 hv0 (hf 2)
    have FIN : ∀ e w', textP g 2 s (textE s) w w' e → takeP g c 102 s w w' e := fun e w' h => take_text h rfl rfl (cl_set2 hg s)
    have FIN : Hid _ := FIN
    clear hc hf hg hv0 hpn ht
    show Calls Tryz.prog 23 #[.pointer (some ⟨g, 0, none⟩), .int .u8 102, .string (sb s)] w _
    go_enter Tryz.func23, Tryz.ntmps23
    go_wp2_with fail
    refine Calls.mono hT ?_
    intro e w1 hP
    have hP2 := FIN.out e w1 hP
    obtain ⟨rfl, -⟩ := hP
    have HP2 : Hid _ := hP2
    clear hP2
    go_wp2
    go_ret
    exact HP2.out
  by_cases h3 : p = 118
  · subst h3
    obtain ⟨v0, hv0⟩ := hc 3 (by decide)
    have hT := taketx_any g 3 s w v0 hv0 (hf 3)
    have FIN : ∀ e w', textP g 3 s (textE s) w w' e → takeP g c 118 s w w' e := fun e w' h => take_text h rfl rfl (cl_set3 hg s)
    have FIN : Hid _ := FIN
    clear hc hf hg hv0 hpn ht
    show Calls Tryz.prog 23 #[.pointer (some ⟨g, 0, none⟩), .int .u8 118, .string (sb s)] w _
    go_enter Tryz.func23, Tryz.ntmps23
    go_wp2_with fail
    refine Calls.mono hT ?_
    intro e w1 hP
    have hP2 := FIN.out e w1 hP
    obtain ⟨rfl, -⟩ := hP
    have HP2 : Hid _ := hP2
    clear hP2
    go_wp2
    go_ret
    exact HP2.out
  have ez : takeE p s = numTE s := by unfold takeE; rw [if_neg h1, if_neg (by rintro (h | h); exact h2 h; exact h3 h)]
  by_cases h4 : p = 110
  · obtain ⟨v0, hv0⟩ := hc 4 (by decide)
    have hT := takewhole_any g 4 s w v0 hlt hv0 (hf 4) hs ht
    have FIN : ∀ e w', wholeP g 4 s w w' e → takeP g c p s w w' e := fun e w' h => take_whole (c' := fun n => { c with n := n }) h ez (by rw [h4]; rfl) hg (fun W n hW => cl_set4 hW n)
    have FIN : Hid _ := FIN
    clear hc hf hg hv0 hpn ht ez h1 h2 h3
    subst h4
    show Calls Tryz.prog 23 #[.pointer (some ⟨g, 0, none⟩), .int .u8 110, .string (sb s)] w _
    go_enter Tryz.func23, Tryz.ntmps23
    go_wp2_with fail
    refine Calls.mono hT ?_
    intro e w1 hP
    have hP2 := FIN.out e w1 hP
    obtain ⟨rfl, -⟩ := hP
    have HP2 : Hid _ := hP2
    clear hP2
    go_wp2
    go_ret
    exact HP2.out
  · obtain ⟨v0, hv0⟩ := hc 5 (by decide)
    have hT := takewhole_any g 5 s w v0 hlt hv0 (hf 5) hs ht
    have FIN : ∀ e w', wholeP g 5 s w w' e → takeP g c p s w w' e := fun e w' h => take_whole (c' := fun n => { c with m := n }) h ez (by unfold takeC; rw [if_neg h1, if_neg h2, if_neg h3, if_neg h4]) hg (fun W n hW => cl_set5 hW n)
    have FIN : Hid _ := FIN
    have n1 : ¬ ((p.toNat : Int) = 107) := fun e => hpn 107 h1 (by have : (107 : UInt8).toNat = 107 := rfl; omega)
    have n2 : ¬ ((p.toNat : Int) = 102) := fun e => hpn 102 h2 (by have : (102 : UInt8).toNat = 102 := rfl; omega)
    have n3 : ¬ ((p.toNat : Int) = 118) := fun e => hpn 118 h3 (by have : (118 : UInt8).toNat = 118 := rfl; omega)
    have n4 : ¬ ((p.toNat : Int) = 110) := fun e => hpn 110 h4 (by have : (110 : UInt8).toNat = 110 := rfl; omega)
    clear hc hf hg hv0 hpn ht ez h1 h2 h3 h4
    have q1 : ((p.toNat : Int) == 107) = false := by simpa using n1
    have q2 : ((p.toNat : Int) == 102) = false := by simpa using n2
    have q3 : ((p.toNat : Int) == 118) = false := by simpa using n3
    have q4 : ((p.toNat : Int) == 110) = false := by simpa using n4
    go_enter Tryz.func23, Tryz.ntmps23
    go_wp2_with fail
    refine Calls.mono hT ?_
    intro e w1 hP
    have hP2 := FIN.out e w1 hP
    obtain ⟨rfl, -⟩ := hP
    have HP2 : Hid _ := hP2
    clear hP2
    go_wp2
    go_ret
    exact HP2.out
end Go.Proofs.YtmlfekbmbnfkjabGreatDoor

