/-
  Rows of pairs of a text and a number: appended to, read; at the program's type and at the reference's.
-/
import Derived.Test.YtmlfekbmbnfkjabGreatDoorQ28
import Derived.Laws.OwnMore
import Derived.Laws.AppendOwnNone
import Derived.Great.BuildSlice
import Derived.Deep.MidRow
import Derived.OwnWalk
import Derived.Lib.SliceRun
import Derived.BigQuiet
import Derived.Maps.OwnSet
import Derived.Maps.RangeWalk
import Derived.Sort.KeysCollected
import Derived.Test.YtmlfekbmbnfkjabGreatDoorQ09
import Derived.Sort.Walk0
import Derived.Deep.RegionHeld3
import Derived.Sort.Grow
import Derived.Shelf.SlSortCmp.Insertion
import Derived.Test.YtmlfekbmbnfkjabGreatDoorProg
import Derived.Shelf.SlSortCmp.WholeK
import Derived.Shelf.SlSortCmp.NoneTotal
import Derived.Shelf.SlIter.Nil
import Derived.Shelf.SortM.Plain
import Derived.Shelf.SortM.SortNone
import Derived.Test.YtmlfekbmbnfkjabGreatDoorQ25
import Derived.WalkKit
import Derived.Test.YtmlfekbmbnfkjabGreatDoorQ27
namespace Go.Proofs.YtmlfekbmbnfkjabGreatDoor
set_option maxRecDepth 100000
namespace T15
set_option maxRecDepth 100000
open Go.RowKit

def prl (d : Pr) : List Value := [.string (sb d.1), .int .i64 d.2]
theorem prl_length (d : Pr) : (prl d).length = 2 := rfl
def prs (S : List Pr) : List Value := S.flatMap prl
theorem prs_length : ∀ S : List Pr, (prs S).length = S.length * 2
  | [] => rfl
  | i :: S => by
    have ih := prs_length S
    have e1 : prs (i :: S) = prl i ++ prs S := by simp [prs]
    rw [e1, List.length_append, ih, prl_length, List.length_cons]; omega
theorem prs_append (S T : List Pr) : prs (S ++ T) = prs S ++ prs T := by simp [prs]
/-- A list of pairs, as it is read. -/
def PL (w : World) (ao : Option Addr) (S : List Pr) : Prop := ∀ j d, S[j]? = some d → ∃ g, ao = some ⟨g, 0, none⟩ ∧ w.cell? ⟨g, j * 2, none⟩ = some (.string (sb d.1)) ∧ w.cell? ⟨g, j * 2 + 1, none⟩ = some (.int .i64 d.2)
theorem PL.below {w w' : World} {ao : Option Addr} {S : List Pr} {B : Nat} (h : PL w ao S) (hb : Below B w w') (hB : w.heap.size ≤ B) : PL w' ao S := fun j t ht => by
  obtain ⟨g, hg, hc, hd⟩ := h j t ht
  have hl := Nat.lt_of_lt_of_le (World.block_lt_of_cell? w _ hc) hB
  exact ⟨g, hg, (hb.cell (p := ⟨g, j * 2, none⟩) hl).trans hc, (hb.cell (p := ⟨g, j * 2 + 1, none⟩) hl).trans hd⟩
theorem PL.range {w : World} {g : Nat} {S : List Pr} (h : PL w (some ⟨g, 0, none⟩) S) {k : Nat} {d : Pr} (hd : S[k]? = some d) : w.rangeAt g (k * 2) (prl d) := fun j v hv => by
  obtain ⟨g', hg, h0, h1⟩ := h k d hd
  obtain rfl : g = g' := by simpa using hg
  match j, hv with
  | 0, hv => obtain rfl := Option.some.inj hv; exact h0
  | 1, hv => obtain rfl := Option.some.inj hv; exact h1

/-! At the program's type. -/
abbrev PRow (w : World) (base : Nat) (v : Value) (S : List Pr) : Prop := w.ownsRow base 160 2 v S.length (prs S)
theorem PRow.lower {w : World} {base b : Nat} {v : Value} {S : List Pr} (h : PRow w base v S) (hb : b ≤ base) : PRow w b v S := by
  refine ⟨h.1, ?_⟩
  rcases h.2 with hn | ⟨g, cap, cur, e, hbg, rest⟩
  · exact .inl hn
  · exact .inr ⟨g, cap, cur, e, Nat.le_trans hb hbg, rest⟩
theorem PRow.keep {w w' : World} {base : Nat} {v : Value} {S : List Pr} (h : PRow w base v S) (hk : ∀ k, v.ownBlock = some k → w'.heap[k]? = w.heap[k]?) : PRow w' base v S := by
  refine ⟨h.1, ?_⟩
  rcases h.2 with hn | ⟨g, cap, cur, rfl, hbg, hg, rest⟩
  · exact .inl hn
  · exact .inr ⟨g, cap, cur, rfl, hbg, by rw [hk g rfl]; exact hg, rest⟩
theorem PRow.below {w w' : World} {base B : Nat} {v : Value} {S : List Pr} (h : PRow w base v S) (hb : Below B w w') (hB : w.heap.size ≤ B) : PRow w' base v S :=
  h.keep fun k hk => hb.block k (by have := (h.lt k hk).2; omega)
theorem PRow.own {w : World} {base : Nat} {v : Value} {S : List Pr} (h : PRow w base v S) : ∀ k, v.ownBlock = some k → base ≤ k := fun k hk => (h.lt k hk).1
/-! At the reference's type. -/
/-! Pieces of a list, appended. -/
structure QV (w : World) (ao : Option Addr) (m c : Nat) (F : List Pr) : Prop where
  len : F.length = m
  room : m ≤ c
  zero : ao = none → m = 0 ∧ c = 0
  cells : ∀ ad, ao = some ad → ∀ j u, (prs F)[j]? = some u → w.cell? (ad.add j) = some u
theorem QV.below {w w' : World} {ao : Option Addr} {m c B : Nat} {F : List Pr} (h : QV w ao m c F) (hb : Below B w w') (hB : w.heap.size ≤ B) : QV w' ao m c F :=
  ⟨h.len, h.room, h.zero, fun ad ha j u hu => by
    have h1 := h.cells ad ha j u hu
    have hl := Nat.lt_of_lt_of_le (World.block_lt_of_cell? w _ h1) hB
    exact (hb.cell hl).trans h1⟩
theorem QV.take {w : World} {ao : Option Addr} {m c : Nat} {F : List Pr} (h : QV w ao m c F) {i : Nat} (hi : i ≤ m) : QV w ao i c (F.take i) := by
  have hl := h.len
  have hr := h.room
  refine ⟨by rw [List.length_take]; omega, by omega, fun e => ⟨by have := (h.zero e).1; omega, (h.zero e).2⟩, fun ad ha j u hu => ?_⟩
  refine h.cells ad ha j u ?_
  have e1 : prs F = prs (F.take i) ++ prs (F.drop i) := by rw [← prs_append, List.take_append_drop]
  rw [e1, List.getElem?_append_left ((List.getElem?_eq_some_iff.1 hu).1)]
  exact hu
/-- From a place on. -/
def dropQ (ao : Option Addr) (c k : Nat) : Option Addr := if c = k then ao else ao.map (·.add (k * 2))
theorem QV.drop {w : World} {ao : Option Addr} {m c : Nat} {E : List Pr} (h : QV w ao m c E) {k : Nat} (hk : k ≤ m) : QV w (dropQ ao c k) (m - k) (c - k) (E.drop k) := by
  have hl := h.len
  have hr := h.room
  refine ⟨by rw [List.length_drop]; omega, by omega, fun e => ?_, fun ad ha j u hu => ?_⟩
  · have : ao = none := by
      unfold dropQ at e
      split at e
      · exact e
      · cases ao with
        | none => rfl
        | some _ => cases e
    have := h.zero this
    omega
  · have hlen : (prs (E.take k)).length = k * 2 := by
      rw [prs_length, List.length_take]
      congr 1
      omega
    have e1 : prs E = prs (E.take k) ++ prs (E.drop k) := by rw [← prs_append, List.take_append_drop]
    have hjl := (List.getElem?_eq_some_iff.1 hu).1
    have hu2 : (prs E)[k * 2 + j]? = some u := by
      rw [e1, List.getElem?_append_right (by omega), hlen, show k * 2 + j - k * 2 = j by omega]
      exact hu
    by_cases hck : c = k
    · have : E.drop k = [] := List.drop_eq_nil_of_le (by omega)
      rw [this] at hu
      cases hu
    · unfold dropQ at ha
      rw [if_neg hck] at ha
      cases ao with
      | none => cases ha
      | some a0 =>
        have ha' : a0.add (k * 2) = ad := by simpa using ha
        rw [← ha', Go.Deep.add_add]
        exact h.cells a0 rfl _ _ hu2
end T15
end Go.Proofs.YtmlfekbmbnfkjabGreatDoor

/-
  A map from texts to events; what score's isAdd, latest and Get come to.
-/
namespace Go.Proofs.YtmlfekbmbnfkjabGreatDoor
set_option maxRecDepth 100000
namespace T15
set_option maxRecDepth 100000
open Go.RowKit Go.Maps Go.WideMaps Go.Sort

theorem lawS : Keyed Tryz.prog 9 := string_keyed Tryz.underlying9
theorem keyF {s : List UInt8} (h : s.length ≤ 9223372036854775807) : keyOf Tryz.prog 9 (.string (sb s)) = some (.string s) := by
  have := keyOf_string_mk (P := Tryz.prog) (k := 9) Tryz.underlying9 (s := sb s) (by rw [sb_size]; unfold maxLen; omega)
  rw [data_sb] at this
  exact this
/-- An element, as it stands. -/
def tokE (v : Value) : Option (DataW Value × List MemPlace) := some (.held v, [])
theorem tokE_inv {v : Value} {z : DataW Value × List MemPlace} (h : tokE v = some z) : z.1 = .held v := by
  obtain rfl := Option.some.inj h
  rfl
abbrev OwnG (w : World) (b n : Nat) (D : DataW Value) : Prop := w.ownsMap Tryz.prog 9 tokE b n D
theorem ownG_keep {w w' : World} {b n : Nat} {D : DataW Value} (h : OwnG w b n D) (hk : w'.heap[b]? = w.heap[b]?) : OwnG w' b n D := by
  obtain ⟨es, clock, hb1, F1, hs, hD⟩ := h
  exact ⟨es, clock, hk.trans hb1, F1, hs, hD⟩
theorem ownG_below {w w' : World} {b n B : Nat} {D : DataW Value} (h : OwnG w b n D) (hb : Below B w w') (hB : w.heap.size ≤ B) : OwnG w' b n D :=
  ownG_keep h (hb.block b (Nat.lt_of_lt_of_le h.lt hB))
/-- What the map tells. -/
def TellsE (D : DataW Value) (K : List (List UInt8)) (g : List UInt8 → Ev) : Prop := IsMap D ∧ (∀ s, D.atKey (.string s) (.held (.agg (evc zv))) = .held (.agg (evc (g s)))) ∧ ∀ s, Maps.has D (.string s) = true ↔ s ∈ K
theorem TellsE.put {D : DataW Value} {K : List (List UInt8)} {g : List UInt8 → Ev} (h : TellsE D K g) (s : List UInt8) (u : Ev) : TellsE (D.put (.string s) (.held (.agg (evc u)))) (K ++ [s]) (fun t => if t = s then u else g t) := by
  have hk : WideAt.IsKeyLit (.string s) := trivial
  refine ⟨h.1.put _ _, fun t => ?_, fun t => ?_⟩
  · by_cases ht : t = s
    · subst ht
      rw [atKey_put_same h.1 hk]
      simp only [if_true]
    · rw [atKey_put_other (fun e => ht (by simpa using e))]
      simp only [if_neg ht]
      exact h.2.1 t
  · by_cases ht : t = s
    · subst ht
      simp [has_put_same h.1 hk]
    · rw [has_put_other (fun e => ht (by simpa using e)), h.2.2 t]
      simp [ht]
theorem TellsE.more {D : DataW Value} {K : List (List UInt8)} {g : List UInt8 → Ev} (h : TellsE D K g) {s : List UInt8} (hs : s ∈ K) : TellsE D (K ++ [s]) g := ⟨h.1, h.2.1, fun t => by
  rw [h.2.2 t, List.mem_append, List.mem_singleton]
  exact ⟨.inl, fun h => h.elim id (fun e => e ▸ hs)⟩⟩
theorem TellsE.has {D : DataW Value} {K : List (List UInt8)} {g : List UInt8 → Ev} (h : TellsE D K g) (s : List UInt8) {t : Bool} (ht : t = true ↔ s ∈ K) : Maps.has D (.string s) = t := by
  rw [Bool.eq_iff_iff, h.2.2 s, ht]
/-- 'm[s]', and whether it is there. -/
theorem lookE {w : World} {b n : Nat} {D : DataW Value} {K : List (List UInt8)} {g : List UInt8 → Ev} (h : OwnG w b n D) (hT : TellsE D K g) {s : List UInt8} (hs : s.length ≤ 9223372036854775807) {t : Bool} (ht : t = true ↔ s ∈ K) :
    (Instr.lookup 215 (.map (some b)) (.string (sb s)) true).run Tryz.prog w = .ok (.tuple #[.agg (evc (g s)), .bool t]) w := by
  have hz : (zeroValue 47).run Tryz.prog w = .ok (.agg (evc zv)) w := Tryz.zeroValue47 w
  obtain ⟨v, ps, hr, hv⟩ := h.look_ok lawS Tryz.underlying215 hz (zd := .held (.agg (evc zv))) (zp := []) rfl (keyF hs)
  have e1 := tokE_inv hv
  rw [hT.2.1 s] at e1
  simp only [DataW.held.injEq] at e1
  rw [hr, hT.has s ht, e1]
theorem updE {w : World} {b n : Nat} {D : DataW Value} {K : List (List UInt8)} {g : List UInt8 → Ev} (h : OwnG w b n D) (hT : TellsE D K g) {s : List UInt8} (hs : s.length ≤ 9223372036854775807) (hn : n < 1000000) (u : Ev) :
    ∃ w', (Instr.mapUpdate 215 (.map (some b)) (.string (sb s)) (.agg (evc u))).run Tryz.prog w = .ok () w' ∧ (∃ D', OwnG w' b (n + 1) D' ∧ TellsE D' (K ++ [s]) (fun t => if t = s then u else g t)) ∧ w.grownBy w' (some b) := by
  obtain ⟨w5, hr5, hM5, hg5⟩ := h.update lawS Tryz.underlying215 (by unfold maxLen; omega) (keyF hs) (val := .agg (evc u)) (d := .held (.agg (evc u))) (ps := []) rfl
  exact ⟨w5, hr5, ⟨_, hM5, hT.put s u⟩, hg5⟩
end T15
end Go.Proofs.YtmlfekbmbnfkjabGreatDoor

/-
  What cmp.Compare of texts comes to.
-/
namespace Go.Proofs.YtmlfekbmbnfkjabGreatDoor
set_option maxRecDepth 100000
namespace T15
set_option maxRecDepth 100000
open Go.RowKit Go.Sort

end T15
end Go.Proofs.YtmlfekbmbnfkjabGreatDoor

/-
  What the function comes to by which score's All puts pairs in order.
-/
namespace Go.Proofs.YtmlfekbmbnfkjabGreatDoor
set_option maxRecDepth 100000
namespace T15
set_option maxRecDepth 100000
open Go.RowKit Go.Sort

/-! The order of pairs. -/
end T15
end Go.Proofs.YtmlfekbmbnfkjabGreatDoor

/-
  Where the functions and types of slices.SortFunc of pairs stand in this program.
-/
namespace Go.Proofs.YtmlfekbmbnfkjabGreatDoor
set_option maxRecDepth 100000
namespace T15

end T15
end Go.Proofs.YtmlfekbmbnfkjabGreatDoor

/-
  What slices.SortFunc of pairs comes to.
-/
namespace Go.Proofs.YtmlfekbmbnfkjabGreatDoor
set_option maxRecDepth 100000
namespace T15
set_option maxRecDepth 100000
open Go.RowKit Go.Sort

end T15
end Go.Proofs.YtmlfekbmbnfkjabGreatDoor

/-
  What score's latest and Get come to.
-/
namespace Go.Proofs.YtmlfekbmbnfkjabGreatDoor
set_option maxRecDepth 100000
namespace T15
set_option maxRecDepth 100000
open Go.RowKit Go.Maps Go.WideMaps Go.Sort

/-- The map tells the latest one of each member. -/
def Lat (w : World) (b n : Nat) (E : List Ev) : Prop := ∃ D, OwnG w b n D ∧ TellsE D (fldZ E) (fun s => orz (lastZ E s))
theorem Lat.below {w w' : World} {b n B : Nat} {E : List Ev} (h : Lat w b n E) (hb : Below B w w') (hB : w.heap.size ≤ B) : Lat w' b n E := by
  obtain ⟨D, h1, h2⟩ := h
  exact ⟨D, ownG_below h1 hb hB, h2⟩
theorem Lat.mono {w : World} {b n n' : Nat} {E : List Ev} (h : Lat w b n E) (hn : n ≤ n') : Lat w b n' E := by
  obtain ⟨D, h1, h2⟩ := h
  exact ⟨D, World.ownsMap.mono h1 hn, h2⟩
theorem Lat.look {w : World} {b n : Nat} {E : List Ev} (h : Lat w b n E) {s : List UInt8} (hs : s.length ≤ 9223372036854775807) : (Instr.lookup 215 (.map (some b)) (.string (sb s)) true).run Tryz.prog w = .ok (.tuple #[.agg (evc (orz (lastZ E s))), .bool (okZ E s)]) w := by
  obtain ⟨D, h1, h2⟩ := h
  exact lookE h1 h2 hs (okZ_iff E s)
theorem Lat.turn {w : World} {b n : Nat} {E : List Ev} {i : Nat} {u : Ev} (h : Lat w b n (E.take i)) (hu : E[i]? = some u) (hz : zsE u = true) (ho : okZ (E.take i) u.field = false ∨ laterE u (orz (lastZ (E.take i) u.field)) = true) (hs : u.field.length ≤ 9223372036854775807) (hn : n < 1000000) :
    ∃ w', (Instr.mapUpdate 215 (.map (some b)) (.string (sb u.field)) (.agg (evc u))).run Tryz.prog w = .ok () w' ∧ Lat w' b (n + 1) (E.take (i + 1)) ∧ w.grownBy w' (some b) := by
  obtain ⟨D, h1, h2⟩ := h
  obtain ⟨w', hr, ⟨D', h3, h4⟩, hg⟩ := updE h1 h2 hs hn u
  refine ⟨w', hr, ⟨D', h3, ?_⟩, hg⟩
  rw [tellZ_put hu hz ho, fldZ_take hu, hz]
  exact h4
end T15
end Go.Proofs.YtmlfekbmbnfkjabGreatDoor

/-
  What score's All and Rank come to.
-/
namespace Go.Proofs.YtmlfekbmbnfkjabGreatDoor
set_option maxRecDepth 100000
namespace T15
set_option maxRecDepth 100000
open Go.RowKit Go.Maps Go.WideMaps Go.Sort

end T15
end Go.Proofs.YtmlfekbmbnfkjabGreatDoor

/-
  Where maps.Keys, slices.Sorted and slices.Sort of texts stand in this program.
-/
namespace Go.Proofs.YtmlfekbmbnfkjabGreatDoor
set_option maxRecDepth 100000
open Go.Shelf

def keysKRen : Go.Shelf.Ren := ⟨fun
   
    | 7 => 199
    | 10 => 227
    | n => n, fun
   
    | 23 => 56
    | 26 => 9
    | 3 => 76
    | 28 => 234
    | 0 => 0
    | 27 => 233
    | 33 => 193
    | 4 => 4
    | n => n, fun
   
    | n => n⟩
theorem keysK : Go.Proofs.SlLaysZ.n7 Tryz.prog keysKRen :=
  {
    mixed := by kernel_rfl,
    f7 := ⟨Tryz.f199.name, by decide, Tryz.func199.trans (congrArg some (by kernel_rfl))⟩,
    f10 := ⟨Tryz.f227.name, by decide, Tryz.func227.trans (congrArg some (by kernel_rfl))⟩,
    t0 := Tryz.underlying0,
    a0 := Tryz.isAgg0,
    z0 := Tryz.sizeOf0,
    v0 := Tryz.zeroValue0,
    t4 := Tryz.underlying4,
    a4 := Tryz.isAgg4,
    z4 := Tryz.sizeOf4,
    v4 := Tryz.zeroValue4,
    t23 := Tryz.underlying56,
    a23 := Tryz.isAgg56,
    z23 := Tryz.sizeOf56,
    v23 := Tryz.zeroValue56,
    t26 := Tryz.underlying9,
    a26 := Tryz.isAgg9,
    z26 := Tryz.sizeOf9,
    v26 := Tryz.zeroValue9,
    t27 := Tryz.underlying233,
    a27 := Tryz.isAgg233,
    z27 := Tryz.sizeOf233,
    v27 := Tryz.zeroValue233,
    t28 := Tryz.underlying234,
    a28 := Tryz.isAgg234,
    z28 := Tryz.sizeOf234,
    v28 := Tryz.zeroValue234,
    t33 := Tryz.underlying193,
    a33 := Tryz.isAgg193,
    z33 := Tryz.sizeOf193,
    v33 := Tryz.zeroValue193 }

def sortedKRen : Go.Shelf.Ren := ⟨fun
   
    | 6 => 198
    | 8 => 226
    | 9 => 182
    | 11 => 269
    | 13 => 211
    | 12 => 214
    | 23 => 244
    | 24 => 231
    | 14 => 245
    | 15 => 246
    | 16 => 247
    | 17 => 248
    | 18 => 249
    | 19 => 250
    | 20 => 251
    | 21 => 252
    | 22 => 253
    | 25 => 278
    | 26 => 274
    | 27 => 275
    | 28 => 279
    | 29 => 280
    | 30 => 219
    | 31 => 294
    | n => n, fun
   
    | 26 => 9
    | 28 => 234
    | 24 => 28
    | 0 => 0
    | 3 => 3
    | 37 => 239
    | 48 => 270
    | 50 => 236
    | 4 => 4
    | 40 => 274
    | 39 => 273
    | 45 => 278
    | 5 => 5
    | 9 => 9
    | 51 => 297
    | 55 => 96
    | 57 => 314
    | 58 => 157
    | 33 => 193
    | n => n, fun
   
    | n => n⟩
theorem sortedK : Go.Proofs.SlLaysZ.n6 Tryz.prog sortedKRen :=
  {
    mixed := by kernel_rfl,
    f6 := ⟨Tryz.f198.name, by decide, Tryz.func198.trans (congrArg some (by kernel_rfl))⟩,
    f8 := ⟨Tryz.f226.name, by decide, Tryz.func226.trans (congrArg some (by kernel_rfl))⟩,
    f11 := ⟨Tryz.f269.name, by decide, Tryz.func269.trans (congrArg some (by kernel_rfl))⟩,
    t0 := Tryz.underlying0,
    a0 := Tryz.isAgg0,
    z0 := Tryz.sizeOf0,
    v0 := Tryz.zeroValue0,
    t24 := Tryz.underlying28,
    a24 := Tryz.isAgg28,
    z24 := Tryz.sizeOf28,
    v24 := Tryz.zeroValue28,
    t26 := Tryz.underlying9,
    a26 := Tryz.isAgg9,
    z26 := Tryz.sizeOf9,
    v26 := Tryz.zeroValue9,
    t28 := Tryz.underlying234,
    a28 := Tryz.isAgg234,
    z28 := Tryz.sizeOf234,
    v28 := Tryz.zeroValue234,
    i26 := by kernel_rfl }

def sortKRen : Go.Shelf.Ren := ⟨fun
   
    | 6 => 182
    | 8 => 211
    | 9 => 214
    | 19 => 244
    | 20 => 231
    | 21 => 245
    | 22 => 246
    | 23 => 247
    | 24 => 248
    | 25 => 249
    | 26 => 250
    | 27 => 251
    | 28 => 252
    | 29 => 253
    | 36 => 278
    | 31 => 274
    | 32 => 275
    | 37 => 279
    | 38 => 280
    | 39 => 219
    | 41 => 294
    | n => n, fun
   
    | 27 => 28
    | 29 => 9
    | 3 => 3
    | 32 => 239
    | 26 => 28
    | 0 => 0
    | 44 => 270
    | 46 => 236
    | 4 => 4
    | 36 => 274
    | 35 => 273
    | 41 => 278
    | 5 => 5
    | 9 => 9
    | 53 => 297
    | 57 => 96
    | 63 => 314
    | 64 => 157
    | n => n, fun
   
    | n => n⟩
theorem sortK : Go.Proofs.SlLaysM.n6 Tryz.prog sortKRen :=
  {
    mixed := by kernel_rfl,
    f6 := ⟨Tryz.f182.name, by decide, Tryz.func182.trans (congrArg some (by kernel_rfl))⟩,
    f8 := Tryz.func211.trans (congrArg some (by kernel_rfl)),
    f9 := ⟨Tryz.f214.name, by decide, Tryz.func214.trans (congrArg some (by kernel_rfl))⟩,
    f19 := Tryz.func244.trans (congrArg some (by kernel_rfl)),
    f20 := Tryz.func231.trans (congrArg some (by kernel_rfl)),
    f21 := ⟨Tryz.f245.name, by decide, Tryz.func245.trans (congrArg some (by kernel_rfl))⟩,
    f22 := ⟨Tryz.f246.name, by decide, Tryz.func246.trans (congrArg some (by kernel_rfl))⟩,
    f23 := ⟨Tryz.f247.name, by decide, Tryz.func247.trans (congrArg some (by kernel_rfl))⟩,
    f24 := ⟨Tryz.f248.name, by decide, Tryz.func248.trans (congrArg some (by kernel_rfl))⟩,
    f25 := ⟨Tryz.f249.name, by decide, Tryz.func249.trans (congrArg some (by kernel_rfl))⟩,
    f26 := ⟨Tryz.f250.name, by decide, Tryz.func250.trans (congrArg some (by kernel_rfl))⟩,
    f27 := ⟨Tryz.f251.name, by decide, Tryz.func251.trans (congrArg some (by kernel_rfl))⟩,
    f28 := ⟨Tryz.f252.name, by decide, Tryz.func252.trans (congrArg some (by kernel_rfl))⟩,
    f29 := ⟨Tryz.f253.name, by decide, Tryz.func253.trans (congrArg some (by kernel_rfl))⟩,
    f31 := Tryz.func274.trans (congrArg some (by kernel_rfl)),
    f32 := Tryz.func275.trans (congrArg some (by kernel_rfl)),
    f36 := ⟨Tryz.f278.name, by decide, Tryz.func278.trans (congrArg some (by kernel_rfl))⟩,
    f37 := ⟨Tryz.f279.name, by decide, Tryz.func279.trans (congrArg some (by kernel_rfl))⟩,
    f38 := ⟨Tryz.f280.name, by decide, Tryz.func280.trans (congrArg some (by kernel_rfl))⟩,
    f39 := ⟨Tryz.f219.name, by decide, Tryz.func219.trans (congrArg some (by kernel_rfl))⟩,
    f41 := ⟨Tryz.f294.name, by decide, Tryz.func294.trans (congrArg some (by kernel_rfl))⟩,
    t0 := Tryz.underlying0,
    a0 := Tryz.isAgg0,
    z0 := Tryz.sizeOf0,
    v0 := Tryz.zeroValue0,
    t3 := Tryz.underlying3,
    a3 := Tryz.isAgg3,
    z3 := Tryz.sizeOf3,
    v3 := Tryz.zeroValue3,
    t4 := Tryz.underlying4,
    a4 := Tryz.isAgg4,
    z4 := Tryz.sizeOf4,
    v4 := Tryz.zeroValue4,
    t5 := Tryz.underlying5,
    a5 := Tryz.isAgg5,
    z5 := Tryz.sizeOf5,
    v5 := Tryz.zeroValue5,
    t9 := Tryz.underlying9,
    a9 := Tryz.isAgg9,
    z9 := Tryz.sizeOf9,
    v9 := Tryz.zeroValue9,
    t26 := Tryz.underlying28,
    a26 := Tryz.isAgg28,
    z26 := Tryz.sizeOf28,
    v26 := Tryz.zeroValue28,
    t27 := Tryz.underlying28,
    a27 := Tryz.isAgg28,
    z27 := Tryz.sizeOf28,
    v27 := Tryz.zeroValue28,
    t29 := Tryz.underlying9,
    a29 := Tryz.isAgg9,
    z29 := Tryz.sizeOf9,
    v29 := Tryz.zeroValue9,
    t32 := Tryz.underlying239,
    a32 := Tryz.isAgg239,
    z32 := Tryz.sizeOf239,
    v32 := Tryz.zeroValue239,
    t35 := Tryz.underlying273,
    a35 := Tryz.isAgg273,
    z35 := Tryz.sizeOf273,
    v35 := Tryz.zeroValue273,
    t36 := Tryz.underlying274,
    a36 := Tryz.isAgg274,
    z36 := Tryz.sizeOf274,
    v36 := Tryz.zeroValue274,
    t41 := Tryz.underlying278,
    a41 := Tryz.isAgg278,
    z41 := Tryz.sizeOf278,
    v41 := Tryz.zeroValue278,
    t44 := Tryz.underlying270,
    a44 := Tryz.isAgg270,
    z44 := Tryz.sizeOf270,
    v44 := Tryz.zeroValue270,
    t46 := Tryz.underlying236,
    a46 := Tryz.isAgg236,
    z46 := Tryz.sizeOf236,
    v46 := Tryz.zeroValue236,
    t53 := Tryz.underlying297,
    a53 := Tryz.isAgg297,
    z53 := Tryz.sizeOf297,
    v53 := Tryz.zeroValue297,
    t57 := Tryz.underlying96,
    a57 := Tryz.isAgg96,
    z57 := Tryz.sizeOf96,
    v57 := Tryz.zeroValue96,
    t63 := Tryz.underlying314,
    a63 := Tryz.isAgg314,
    z63 := Tryz.sizeOf314,
    v63 := Tryz.zeroValue314,
    t64 := Tryz.underlying157,
    a64 := Tryz.isAgg157,
    z64 := Tryz.sizeOf157,
    v64 := Tryz.zeroValue157 }
end Go.Proofs.YtmlfekbmbnfkjabGreatDoor

/-
  What a nil space tells of a key.
-/
namespace Go.Proofs.YtmlfekbmbnfkjabGreatDoor
set_option maxRecDepth 100000
open Go.RowKit Go.Shelf

end Go.Proofs.YtmlfekbmbnfkjabGreatDoor

/-
  The keys of no map, sorted; what a nil space's Keys and Collect come to.
-/
namespace Go.Proofs.YtmlfekbmbnfkjabGreatDoor
set_option maxRecDepth 100000
open Go.RowKit Go.Maps Go.Sort Go.Shelf

theorem sortsK (m : Nat) : AnyZ.SortsIn Tryz.prog sortedKRen Fence.wide m :=
  ⟨fun blk off cap ss W hH hblk hsz => callsIn_wide.2 (AnyM.slices_Sort_string sortK blk off cap ss W hH hblk hsz),
   fun p cap W => callsIn_wide.2 (AnyM.slices_Sort_string_none sortK p cap W)⟩
theorem mkeys_any (mb : Option Nat) (W : World) : Calls Tryz.prog 199 #[.map mb] W fun e w' => e = .returned (.func (.func 227) #[] #[.pointer (some ⟨W.heap.size, 0, none⟩)]) ∧ w' = W.alloc (.cells #[.map mb] 56) :=
  (callsIn_wide (n := 5)).1 (AnyZ.keys_in keysK Fence.wide 5 trivial rfl mb W)
theorem sorted_nil (w : World) : Calls Tryz.prog 198 #[.func (.func 227) #[] #[.pointer (some ⟨w.heap.size, 0, none⟩)]] (w.alloc (.cells #[.map none] 56)) fun e w' => e = .returned (.slice none 0 0) ∧ Below (w.alloc (.cells #[.map none] 56)).heap.size (w.alloc (.cells #[.map none] 56)) w' := by
  have hseq : SeqGives Fence.wide 2 Tryz.prog 227 #[.pointer (some ⟨w.heap.size, 0, none⟩)] encStr (fun ss : List (List UInt8) => ss = []) 0 (w.alloc (.cells #[.map none] 56)) :=
    AnyZ.keys_gives_nil (ρ := keysKRen) { keysK with } Fence.wide _ trivial rfl w.heap.size _ (by simp) (by simp)
  have h := (callsIn_wide (n := 5)).1 (AnyZ.sorted_in sortedK Fence.wide 5 trivial trivial trivial trivial rfl (by omega) (sortsK _) (enters_of Tryz.func182 (by kernel_rfl) rfl) 227 #[.pointer (some ⟨w.heap.size, 0, none⟩)] trivial (enters_of Tryz.func227 (by kernel_rfl) rfl) _ 0 (Nat.zero_le _) (by omega) _ hseq)
  refine Calls.mono h ?_
  rintro e w' ⟨v, ss, rfl, rfl, -, hnil, hb⟩
  exact ⟨by rw [hnil.2 rfl], hb⟩
theorem names_zero (g : Nat) (w : World) (hc : w.cell? ⟨g, 17, none⟩ = some (.map none)) : Calls Tryz.prog 158 #[.pointer (some ⟨g, 0, none⟩)] w fun e w' => e = .returned (.slice none 0 0) ∧ Below w.heap.size w w' := by
  have hz := sorz_some g w
  have hk := mkeys_any none w
  have hs := sorted_nil w
  have hb : Below w.heap.size w (w.alloc (.cells #[.map none] 56)) := (Below.refl _ w).alloc (Nat.le_refl _) _
  obtain ⟨W, hW⟩ : ∃ W, W = w.alloc (.cells #[.map none] 56) := ⟨_, rfl⟩
  rw [← hW] at hk hs hb
  have HB : Hid (Below w.heap.size w W) := hb
  clear hb hW
  go_enter Tryz.func158, Tryz.ntmps158
  go_wp2_with fail
  refine Calls.mono hz ?_
  rintro e w1 ⟨rfl, hw⟩
  obtain rfl := hw.symm
  clear hz
  go_wp2_with fail
  refine Calls.mono hk ?_
  rintro e w2 ⟨rfl, hw⟩
  obtain rfl := hw.symm
  clear hk
  go_wp2_with fail
  refine Calls.mono hs ?_
  rintro e w3 ⟨rfl, hb3⟩
  have FIN : Hid (Below w.heap.size w w3) := HB.out.trans (hb3.mono HB.out.size)
  clear hs hb3
  go_wp2
  go_ret
  exact ⟨rfl, FIN.out⟩
end Go.Proofs.YtmlfekbmbnfkjabGreatDoor

/-
  A map of keys as the library's contracts read it; what names comes to at whatever space.
-/
namespace Go.Proofs.YtmlfekbmbnfkjabGreatDoor
set_option maxRecDepth 100000
open Go.RowKit Go.Maps Go.WideMaps Go.Sort Go.Shelf

def tokV (v : Value) : Option (DataW Value × List MemPlace) := some (.held v, [])
theorem key_of {s : List UInt8} (h : s.length ≤ 9223372036854775807) : keyOf Tryz.prog 9 (.string (sb s)) = some (.string s) := by
  have := keyOf_string_mk (P := Tryz.prog) (k := 9) Tryz.underlying9 (s := sb s) (by rw [sb_size]; unfold maxLen; omega)
  rw [data_sb] at this
  exact this
/-- An entry, read. -/
noncomputable def gK (kv : Value × Value) : Lit × DataW Value := ((keyOf Tryz.prog 9 kv.1).bind fun key => (tokV kv.2).map fun y => (key, y.1)).getD (.bool false, .nil)
theorem gK_kv (p : Key × Nat) (h : p.1.length ≤ 9223372036854775807) : gK (kvK p) = (.string p.1, .held (.pointer (some ⟨p.2, 0, none⟩))) := by
  unfold gK kvK
  simp only [key_of h, tokV, Option.bind_some, Option.map_some, Option.getD_some]
theorem owns_of_mk {w : World} {b : Nat} {S : List (Key × Nat)} (h : Mk w b S) (hl : ∀ p ∈ S, p.1.length ≤ 9223372036854775807) (hs : S.length ≤ 1000000) :
    ∃ D : DataW Value, w.ownsMap Tryz.prog 9 tokV b S.length D ∧ (strKeys D).Perm (S.map Prod.fst) ∧ Maps.size D = S.length := by
  obtain ⟨es, clock, L, hb, hst, hL, hp, hn⟩ := h
  have hlL : ∀ p ∈ L, p.1.length ≤ 9223372036854775807 := fun p hp' => hl p (hp.mem_iff.1 hp')
  have hsz : es.size = S.length := by
    have := congrArg List.length hL
    rw [List.length_map, List.length_map, hp.length_eq] at this
    simpa using this
  have hrg : es.toList.map (WideElems.rg Tryz.prog 9 tokV) = L.map fun p => (Lit.string p.1, DataW.held (Value.pointer (some ⟨p.2, 0, none⟩))) := by
    have e1 : es.toList.map (WideElems.rg Tryz.prog 9 tokV) = (es.toList.map kvM).map gK := by rw [List.map_map]; rfl
    rw [e1, hL, List.map_map]
    exact List.map_congr_left fun p hp' => gK_kv p (hlL p hp')
  have hF : WideElems.Fit Tryz.prog 9 tokV es clock := ⟨by rw [hsz]; unfold maxLen; omega, hst, fun x hx => by
    have hm : kvM x ∈ L.map kvK := by rw [← hL]; exact List.mem_map.2 ⟨x, hx, rfl⟩
    obtain ⟨p, hp', he⟩ := List.mem_map.1 hm
    have hk : x.key = .string (sb p.1) := (congrArg Prod.fst he).symm
    exact ⟨_, by unfold WideElems.rd; rw [hk, key_of (hlL p hp')]; rfl⟩⟩
  refine ⟨_, ⟨es, clock, hb, hF, by omega, rfl⟩, ?_, ?_⟩
  · rw [hrg]
    show (List.map (fun p => strOf p.1) (List.foldr DataW.insert [] _)).Perm _
    refine ((WideShapes.sorted_perm _).map _).trans ?_
    rw [List.map_map]
    have e2 : ((fun p : Lit × DataW Value => strOf p.1) ∘ fun p : Key × Nat => (Lit.string p.1, DataW.held (Value.pointer (some ⟨p.2, 0, none⟩)))) = Prod.fst := rfl
    rw [e2]
    exact hp.map _
  · show (List.foldr DataW.insert [] _).length = _
    rw [length_sorted, List.length_map, Array.length_toList, hsz]
theorem own_rebaseK {w : World} {base base' : Nat} {e : TypeId} {size : Nat} {v : Value} {n : Nat} {xs : List Value} (h : w.ownsRow base e size v n xs) (hb : base' ≤ base) : w.ownsRow base' e size v n xs := by
  refine ⟨h.1, ?_⟩
  rcases h.2 with h | ⟨g, cap, cur, h1, h2, h3⟩
  · exact .inl h
  · exact .inr ⟨g, cap, cur, h1, Nat.le_trans hb h2, h3⟩
theorem sorted_any (b : Nat) (S : List (Key × Nat)) (w : World) (hM : Mk w b S) (hl : ∀ p ∈ S, p.1.length ≤ 9223372036854775807) (hs : S.length ≤ 1000000) :
    Calls Tryz.prog 198 #[.func (.func 227) #[] #[.pointer (some ⟨w.heap.size, 0, none⟩)]] (w.alloc (.cells #[.map (some b)] 56)) fun (e : Ending) (w' : World) => ∃ (v : Value) (ks : List (List UInt8)), e = .returned v ∧ ks.Perm (S.map Prod.fst) ∧ ks.Pairwise (fun a b => a ≤ b) ∧
      w'.ownsRow (w.alloc (.cells #[.map (some b)] 56)).heap.size 9 1 v ks.length (ks.map encStr) ∧ Below (w.alloc (.cells #[.map (some b)] 56)).heap.size (w.alloc (.cells #[.map (some b)] 56)) w' := by
  obtain ⟨D, hown, hk, hsz⟩ := owns_of_mk hM hl hs
  have hbl := hown.lt
  have hseq : SeqGives Fence.wide 2 Tryz.prog 227 #[.pointer (some ⟨w.heap.size, 0, none⟩)] encStr (fun ss => ss.Perm (strKeys D)) (Maps.size D) (w.alloc (.cells #[.map (some b)] 56)) :=
    AnyZ.keys_gives (ρ := keysKRen) { keysK with } Fence.wide _ trivial rfl (by omega) w.heap.size b S.length D _ (by simp) (by simp) (by
      obtain ⟨es, clock, hb, Ft, hs, hD⟩ := hown
      exact ⟨es, clock, (Below.heap_alloc _ _ b hbl).trans hb, Ft, hs, hD⟩)
  have h := (callsIn_wide (n := 5)).1 (AnyZ.sorted_in sortedK Fence.wide 5 trivial trivial trivial trivial rfl (by omega) (sortsK _) (enters_of Tryz.func182 (by kernel_rfl) rfl) 227 #[.pointer (some ⟨w.heap.size, 0, none⟩)] trivial (enters_of Tryz.func227 (by kernel_rfl) rfl) _ _ (by rw [hsz]; unfold maxLen; omega) (by rw [hsz]; omega) _ hseq)
  refine Calls.mono h ?_
  rintro e w' ⟨v, ss, rfl, hS, hrow, -, hb⟩
  refine ⟨v, ss.mergeSort (fun x y => decide (x ≤ y)), rfl, ((List.mergeSort_perm _ _).trans hS).trans hk, (List.pairwise_mergeSort (fun a b c h1 h2 => by simp only [decide_eq_true_eq] at *; exact List.le_trans h1 h2) (fun a b => by simp only [Bool.or_eq_true, decide_eq_true_eq]; exact List.le_total a b) ss).imp (fun h => of_decide_eq_true h), ?_, hb⟩
  rw [List.length_mergeSort]
  exact hrow
theorem snames_any (Y : Lay) (w : World) (g : Nat) (s : St) (hS : SpK Y w g s none) (hl : ∀ p ∈ Y.S, p.1.length ≤ 9223372036854775807) (hs : Y.S.length ≤ 1000000) :
    Calls Tryz.prog 158 #[.pointer (some ⟨g, 0, none⟩)] w fun (e : Ending) (w' : World) => ∃ (v : Value) (ks : List (List UInt8)), e = .returned v ∧ ks.Perm (Y.S.map Prod.fst) ∧ ks.Pairwise (fun a b => a ≤ b) ∧ w'.ownsRow w.heap.size 9 1 v ks.length (ks.map encStr) ∧ Below w.heap.size w w' := by
  have hc := hS.c17
  rcases hS.map with ⟨e1, e2⟩ | ⟨b, e1, hM⟩
  · rw [e1] at hc
    refine Calls.mono (names_zero g w hc) ?_
    rintro e w' ⟨rfl, hb⟩
    exact ⟨_, [], rfl, by rw [e2]; exact List.Perm.refl _, List.Pairwise.nil, World.ownsRow_nil _ _ _ _, hb⟩
  · rw [e1] at hc
    have hz := sorz_some g w
    have hk := mkeys_any (some b) w
    have hsn := sorted_any b Y.S w hM hl hs
    have hb : Below w.heap.size w (w.alloc (.cells #[.map (some b)] 56)) := (Below.refl _ w).alloc (Nat.le_refl _) _
    obtain ⟨W, hW⟩ : ∃ W, W = w.alloc (.cells #[.map (some b)] 56) := ⟨_, rfl⟩
    rw [← hW] at hk hsn hb
    have HB : Hid (Below w.heap.size w W) := hb
    clear hb hW hS hM hl hs e1
    go_enter Tryz.func158, Tryz.ntmps158
    go_wp2_with fail
    refine Calls.mono hz ?_
    rintro e w1 ⟨rfl, hw⟩
    obtain rfl := hw.symm
    clear hz
    go_wp2_with fail
    refine Calls.mono hk ?_
    rintro e w2 ⟨rfl, hw⟩
    obtain rfl := hw.symm
    clear hk
    go_wp2_with fail
    refine Calls.mono hsn ?_
    rintro e w3 ⟨v, ks, rfl, hp, hpw, hr, hb3⟩
    have FIN : Aside (ks.Perm (Y.S.map Prod.fst) ∧ ks.Pairwise (fun a b => a ≤ b) ∧ w3.ownsRow w.heap.size 9 1 v ks.length (ks.map encStr) ∧ Below w.heap.size w w3) := ⟨hp, hpw, own_rebaseK hr HB.out.size, HB.out.trans (hb3.mono HB.out.size)⟩
    clear hsn hb3 hp hpw hr
    go_wp2
    go_ret
    exact ⟨v, ks, rfl, FIN.out⟩
/-! A space's keys are as long as its events allow, and no more than it has events. -/
theorem flat_many {α β γ : Type} (F : α → List β) (G : α → List γ) : ∀ S : List α, (∀ p ∈ S, 1 ≤ (F p).length + (G p).length) → S.length ≤ (S.flatMap F).length + (S.flatMap G).length
  | [], _ => Nat.zero_le _
  | p :: S, h => by
    have h1 := h p (by simp)
    have h2 := flat_many F G S fun q hq => h q (by simp [hq])
    rw [List.flatMap_cons, List.flatMap_cons, List.length_append, List.length_append, List.length_cons]
    omega
theorem SpK.keys_have {Y : Lay} {w : World} {g : Nat} {s : St} (hS : SpK Y w g s none) : ∀ p ∈ Y.S, ofKeyE p.1 s.L ≠ [] ∨ ofKeyD p.1 s.DL ≠ [] := fun p hp => (hS.has p.1 (by simp)).1 ⟨p.2, hp⟩
theorem SpK.keys_many {Y : Lay} {w : World} {g : Nat} {s : St} (hS : SpK Y w g s none) (hl : s.L.length ≤ 1000) (hd : s.DL.length ≤ 1000) : Y.S.length ≤ s.L.length + s.DL.length := by
  have e1 := hS.srcE (by omega)
  have e2 := hS.srcD (by omega)
  have h1 := (keys_perm (fun e : Ev => e.key) Y.S s.L e1.nd e1.all).length_eq
  have h2 := (keys_perm (fun d : Ed => d.push.key) Y.S s.DL e2.nd e2.all).length_eq
  have h3 := flat_many (fun q : Key × Nat => ofKeyE q.1 s.L) (fun q : Key × Nat => ofKeyD q.1 s.DL) Y.S fun p hp => by
    rcases hS.keys_have p hp with h | h
    · have := List.length_pos_iff.2 h; omega
    · have := List.length_pos_iff.2 h; omega
  have h4 : (Y.S.flatMap fun q => ofKeyE q.1 s.L).length = s.L.length := h1
  have h5 : (Y.S.flatMap fun q => ofKeyD q.1 s.DL).length = s.DL.length := h2
  omega
theorem SpK.keys_wide {Y : Lay} {w : World} {g : Nat} {s : St} (hS : SpK Y w g s none) : ∀ p ∈ Y.S, p.1.length ≤ 9223372036854775807 := fun p hp => by
  rcases hS.keys_have p hp with h | h
  · obtain ⟨e, he⟩ := List.exists_mem_of_ne_nil _ h
    obtain ⟨h1, h2⟩ := List.mem_filter.1 he
    have h2 : e.key = p.1 := by simpa using h2
    rw [← h2]
    exact (hS.wl e h1).2.k
  · obtain ⟨d, hd⟩ := List.exists_mem_of_ne_nil _ h
    obtain ⟨h1, h2⟩ := List.mem_filter.1 hd
    have h2 : d.push.key = p.1 := by simpa using h2
    rw [← h2]
    exact (hS.wd d h1).2.k
theorem snames_all (Y : Lay) (w : World) (g : Nat) (s : St) (hS : SpK Y w g s none) (hl : s.L.length ≤ 1000) (hd : s.DL.length ≤ 1000) :
    Calls Tryz.prog 158 #[.pointer (some ⟨g, 0, none⟩)] w fun (e : Ending) (w' : World) => ∃ (v : Value) (ks : List (List UInt8)), e = .returned v ∧ ks.Perm (Y.S.map Prod.fst) ∧ ks.Pairwise (fun a b => a ≤ b) ∧ w'.ownsRow w.heap.size 9 1 v ks.length (ks.map encStr) ∧ Below w.heap.size w w' :=
  snames_any Y w g s hS hS.keys_wide (by have := hS.keys_many hl hd; omega)
end Go.Proofs.YtmlfekbmbnfkjabGreatDoor

/-
  What Sum, Check, Members, Fields and Scores of a space come to.
-/
namespace Go.Proofs.YtmlfekbmbnfkjabGreatDoor
set_option maxRecDepth 100000
open Go.RowKit

/-- What rises, and has just these. -/
noncomputable def riseE (L : List (List UInt8)) : List (List UInt8) := open Classical in if h : ∃ R : List (List UInt8), R.Pairwise (· < ·) ∧ ∀ z, z ∈ R ↔ z ∈ L then h.choose else []
theorem rise_is {R L : List (List UInt8)} (h1 : R.Pairwise (· < ·)) (h2 : ∀ z, z ∈ R ↔ z ∈ L) : R = riseE L := by
  have h : ∃ R : List (List UInt8), R.Pairwise (· < ·) ∧ ∀ z, z ∈ R ↔ z ∈ L := ⟨R, h1, h2⟩
  unfold riseE
  rw [dif_pos h]
  exact strict_one _ _ h1 h.choose_spec.1 fun z => (h2 z).trans (h.choose_spec.2 z).symm
end Go.Proofs.YtmlfekbmbnfkjabGreatDoor

