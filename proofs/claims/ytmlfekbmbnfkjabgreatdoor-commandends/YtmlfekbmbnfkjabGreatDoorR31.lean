/-
  Members and their scores, plainly.
-/
import Derived.Test.YtmlfekbmbnfkjabGreatDoorR30
import Derived.Laws.OwnMore
import Derived.Laws.AppendOwnNone
import Derived.Great.BuildSlice
import Derived.Deep.MidRow
import Derived.OwnWalk
import Derived.Lib.SliceRun
import Derived.BigQuiet
import Derived.Maps.OwnSet
import Derived.Maps.RangeWalk
import Derived.Sort.KeysCollected
import Derived.Test.YtmlfekbmbnfkjabGreatDoorR09
import Derived.Sort.Walk0
import Derived.Deep.RegionHeld3
import Derived.Sort.Grow
import Derived.Shelf.SlSortCmp.Insertion
import Derived.Test.YtmlfekbmbnfkjabGreatDoorProg
import Derived.Shelf.SlSortCmp.WholeK
import Derived.Shelf.SlSortCmp.NoneTotal
import Derived.Shelf.SlIter.Nil
import Derived.Shelf.SortM.Plain
import Derived.Shelf.SortM.SortNone
import Derived.Test.YtmlfekbmbnfkjabGreatDoorR26
import Derived.WalkKit
import Derived.Test.YtmlfekbmbnfkjabGreatDoorR28
import Derived.Test.YtmlfekbmbnfkjabGreatDoorR13
import Derived.Test.YtmlfekbmbnfkjabGreatDoorR12
import Derived.Test.YtmlfekbmbnfkjabGreatDoorR11
namespace Go.Proofs.YtmlfekbmbnfkjabGreatDoor
set_option maxRecDepth 100000
namespace T15
set_option maxRecDepth 100000

/-- It gives a member its score. -/
def zsE (u : Ev) : Bool := decide (u.kind = 7)
/-- It gives this one its score. -/
def selZ (s : List UInt8) (u : Ev) : Bool := zsE u && decide (u.field = s)
def fldZ (E : List Ev) : List (List UInt8) := (E.filter zsE).map fun e => e.field
def lastZ (E : List Ev) (s : List UInt8) : Option Ev := latL (selZ s) E
def okZ (E : List Ev) (s : List UInt8) : Bool := (lastZ E s).isSome

theorem fldZ_take {E : List Ev} {i : Nat} {u : Ev} (h : E[i]? = some u) : fldZ (E.take (i + 1)) = if zsE u then fldZ (E.take i) ++ [u.field] else fldZ (E.take i) := by
  unfold fldZ
  rw [take_snoc h, List.filter_append, List.map_append]
  by_cases hu : zsE u = true
  · simp [hu]
  · simp [hu]
theorem fldZ_mem {E : List Ev} {s : List UInt8} : s ∈ fldZ E ↔ ∃ e ∈ E, selZ s e = true := by
  unfold fldZ selZ
  simp only [List.mem_map, List.mem_filter, Bool.and_eq_true, decide_eq_true_eq]
  exact ⟨fun ⟨e, ⟨h1, h2⟩, h3⟩ => ⟨e, h1, h2, h3⟩, fun ⟨e, h1, h2, h3⟩ => ⟨e, ⟨h1, h2⟩, h3⟩⟩
theorem okZ_iff (E : List Ev) (s : List UInt8) : okZ E s = true ↔ s ∈ fldZ E := by
  unfold okZ lastZ
  rw [fldZ_mem]
  cases h : latL (selZ s) E with
  | none =>
    have hn := lat_none h
    refine ⟨fun hh => (by cases hh), fun ⟨e, he, hs⟩ => ?_⟩
    rw [hn e he] at hs
    cases hs
  | some a => exact ⟨fun _ => ⟨a, lat_mem h, (lat_top h).1⟩, fun _ => rfl⟩
theorem okZ_no {E : List Ev} {s : List UInt8} (h : okZ E s = false) : lastZ E s = none := by
  unfold okZ at h
  cases h1 : lastZ E s with
  | none => rfl
  | some a => rw [h1] at h; cases h
theorem okZ_yes {E : List Ev} {s : List UInt8} (h : okZ E s = true) : lastZ E s = some (orz (lastZ E s)) := by
  unfold okZ at h
  cases h1 : lastZ E s with
  | none => rw [h1] at h; cases h
  | some a => rfl
theorem lastZ_other {E : List Ev} {i : Nat} {u : Ev} (h : E[i]? = some u) {s : List UInt8} (hs : ¬ s = u.field) : lastZ (E.take (i + 1)) s = lastZ (E.take i) s := by
  unfold lastZ
  rw [latL_take h]
  have : selZ s u = false := by unfold selZ; rw [decide_eq_false (fun e => hs e.symm), Bool.and_false]
  unfold stepL
  rw [this]
theorem selZ_own {u : Ev} (hz : zsE u = true) : selZ u.field u = true := by unfold selZ; rw [hz]; simp
theorem lastZ_new {E : List Ev} {i : Nat} {u : Ev} (h : E[i]? = some u) (hz : zsE u = true) (ho : okZ (E.take i) u.field = false) : lastZ (E.take (i + 1)) u.field = some u := by
  have h1 := okZ_no ho
  unfold lastZ at h1 ⊢
  rw [latL_take h, h1]
  unfold stepL
  rw [selZ_own hz]
theorem lastZ_more {E : List Ev} {i : Nat} {u : Ev} (h : E[i]? = some u) (hz : zsE u = true) (ho : okZ (E.take i) u.field = true) : lastZ (E.take (i + 1)) u.field = if laterE u (orz (lastZ (E.take i) u.field)) then some u else lastZ (E.take i) u.field := by
  have h1 := okZ_yes ho
  generalize orz (lastZ (E.take i) u.field) = a at *
  unfold lastZ at h1 ⊢
  rw [latL_take h, h1]
  unfold stepL
  rw [selZ_own hz]
/-- What the map tells: it is turned, or it stays. -/
theorem tellZ_put {E : List Ev} {i : Nat} {u : Ev} (h : E[i]? = some u) (hz : zsE u = true) (ho : okZ (E.take i) u.field = false ∨ laterE u (orz (lastZ (E.take i) u.field)) = true) : (fun s => orz (lastZ (E.take (i + 1)) s)) = fun s => if s = u.field then u else orz (lastZ (E.take i) s) := by
  funext s
  by_cases hs : s = u.field
  · subst hs
    rw [if_pos rfl]
    cases hk : okZ (E.take i) u.field with
    | false => rw [lastZ_new h hz hk]; rfl
    | true =>
      rcases ho with ho | ho
      · rw [hk] at ho; cases ho
      · rw [lastZ_more h hz hk, if_pos ho]; rfl
  · rw [if_neg hs, lastZ_other h hs]
/-! A member and its score; their order. -/
abbrev Pr := List UInt8 × Int
def Bef (a b : Pr) : Prop := a.2 < b.2 ∨ (a.2 = b.2 ∧ a.1 < b.1)
instance (a b : Pr) : Decidable (Bef a b) := inferInstanceAs (Decidable (_ ∨ _))
theorem bef_irrefl (a : Pr) : ¬ Bef a a := fun h => by
  rcases h with h | h
  · omega
  · exact List.lt_irrefl _ h.2
theorem bef_trans {a b c : Pr} (h1 : Bef a b) (h2 : Bef b c) : Bef a c := by
  unfold Bef at *
  rcases h1 with h1 | ⟨h1, h1'⟩ <;> rcases h2 with h2 | ⟨h2, h2'⟩
  · exact .inl (by omega)
  · exact .inl (by omega)
  · exact .inl (by omega)
  · exact .inr ⟨by omega, List.lt_trans h1' h2'⟩
end T15
end Go.Proofs.YtmlfekbmbnfkjabGreatDoor

/-
  Rows of pairs of a text and a number: appended to, read; at the program's type and at the reference's.
-/
namespace Go.Proofs.YtmlfekbmbnfkjabGreatDoor
set_option maxRecDepth 100000
namespace T15
set_option maxRecDepth 100000
open Go.RowKit

def prl (d : Pr) : List Value := [.string (sb d.1), .int .i64 d.2]
theorem prl_length (d : Pr) : (prl d).length = 2 := rfl
def prs (S : List Pr) : List Value := S.flatMap prl
theorem prs_length : ∀ S : List Pr, (prs S).length = S.length * 2
  | [] => rfl
  | i :: S => by
    have ih := prs_length S
    have e1 : prs (i :: S) = prl i ++ prs S := by simp [prs]
    rw [e1, List.length_append, ih, prl_length, List.length_cons]; omega
theorem prs_append (S T : List Pr) : prs (S ++ T) = prs S ++ prs T := by simp [prs]
/-- A list of pairs, as it is read. -/
def PL (w : World) (ao : Option Addr) (S : List Pr) : Prop := ∀ j d, S[j]? = some d → ∃ g, ao = some ⟨g, 0, none⟩ ∧ w.cell? ⟨g, j * 2, none⟩ = some (.string (sb d.1)) ∧ w.cell? ⟨g, j * 2 + 1, none⟩ = some (.int .i64 d.2)
theorem PL.below {w w' : World} {ao : Option Addr} {S : List Pr} {B : Nat} (h : PL w ao S) (hb : Below B w w') (hB : w.heap.size ≤ B) : PL w' ao S := fun j t ht => by
  obtain ⟨g, hg, hc, hd⟩ := h j t ht
  have hl := Nat.lt_of_lt_of_le (World.block_lt_of_cell? w _ hc) hB
  exact ⟨g, hg, (hb.cell (p := ⟨g, j * 2, none⟩) hl).trans hc, (hb.cell (p := ⟨g, j * 2 + 1, none⟩) hl).trans hd⟩
theorem PL.range {w : World} {g : Nat} {S : List Pr} (h : PL w (some ⟨g, 0, none⟩) S) {k : Nat} {d : Pr} (hd : S[k]? = some d) : w.rangeAt g (k * 2) (prl d) := fun j v hv => by
  obtain ⟨g', hg, h0, h1⟩ := h k d hd
  obtain rfl : g = g' := by simpa using hg
  match j, hv with
  | 0, hv => obtain rfl := Option.some.inj hv; exact h0
  | 1, hv => obtain rfl := Option.some.inj hv; exact h1

/-! At the program's type. -/
abbrev PRow (w : World) (base : Nat) (v : Value) (S : List Pr) : Prop := w.ownsRow base 160 2 v S.length (prs S)
theorem PRow.lower {w : World} {base b : Nat} {v : Value} {S : List Pr} (h : PRow w base v S) (hb : b ≤ base) : PRow w b v S := by
  refine ⟨h.1, ?_⟩
  rcases h.2 with hn | ⟨g, cap, cur, e, hbg, rest⟩
  · exact .inl hn
  · exact .inr ⟨g, cap, cur, e, Nat.le_trans hb hbg, rest⟩
theorem PRow.keep {w w' : World} {base : Nat} {v : Value} {S : List Pr} (h : PRow w base v S) (hk : ∀ k, v.ownBlock = some k → w'.heap[k]? = w.heap[k]?) : PRow w' base v S := by
  refine ⟨h.1, ?_⟩
  rcases h.2 with hn | ⟨g, cap, cur, rfl, hbg, hg, rest⟩
  · exact .inl hn
  · exact .inr ⟨g, cap, cur, rfl, hbg, by rw [hk g rfl]; exact hg, rest⟩
theorem PRow.below {w w' : World} {base B : Nat} {v : Value} {S : List Pr} (h : PRow w base v S) (hb : Below B w w') (hB : w.heap.size ≤ B) : PRow w' base v S :=
  h.keep fun k hk => hb.block k (by have := (h.lt k hk).2; omega)
theorem PRow.own {w : World} {base : Nat} {v : Value} {S : List Pr} (h : PRow w base v S) : ∀ k, v.ownBlock = some k → base ≤ k := fun k hk => (h.lt k hk).1
/-! At the reference's type. -/
/-! Pieces of a list, appended. -/
structure QV (w : World) (ao : Option Addr) (m c : Nat) (F : List Pr) : Prop where
  len : F.length = m
  room : m ≤ c
  zero : ao = none → m = 0 ∧ c = 0
  cells : ∀ ad, ao = some ad → ∀ j u, (prs F)[j]? = some u → w.cell? (ad.add j) = some u
theorem QV.below {w w' : World} {ao : Option Addr} {m c B : Nat} {F : List Pr} (h : QV w ao m c F) (hb : Below B w w') (hB : w.heap.size ≤ B) : QV w' ao m c F :=
  ⟨h.len, h.room, h.zero, fun ad ha j u hu => by
    have h1 := h.cells ad ha j u hu
    have hl := Nat.lt_of_lt_of_le (World.block_lt_of_cell? w _ h1) hB
    exact (hb.cell hl).trans h1⟩
theorem QV.take {w : World} {ao : Option Addr} {m c : Nat} {F : List Pr} (h : QV w ao m c F) {i : Nat} (hi : i ≤ m) : QV w ao i c (F.take i) := by
  have hl := h.len
  have hr := h.room
  refine ⟨by rw [List.length_take]; omega, by omega, fun e => ⟨by have := (h.zero e).1; omega, (h.zero e).2⟩, fun ad ha j u hu => ?_⟩
  refine h.cells ad ha j u ?_
  have e1 : prs F = prs (F.take i) ++ prs (F.drop i) := by rw [← prs_append, List.take_append_drop]
  rw [e1, List.getElem?_append_left ((List.getElem?_eq_some_iff.1 hu).1)]
  exact hu
/-- From a place on. -/
def dropQ (ao : Option Addr) (c k : Nat) : Option Addr := if c = k then ao else ao.map (·.add (k * 2))
theorem QV.drop {w : World} {ao : Option Addr} {m c : Nat} {E : List Pr} (h : QV w ao m c E) {k : Nat} (hk : k ≤ m) : QV w (dropQ ao c k) (m - k) (c - k) (E.drop k) := by
  have hl := h.len
  have hr := h.room
  refine ⟨by rw [List.length_drop]; omega, by omega, fun e => ?_, fun ad ha j u hu => ?_⟩
  · have : ao = none := by
      unfold dropQ at e
      split at e
      · exact e
      · cases ao with
        | none => rfl
        | some _ => cases e
    have := h.zero this
    omega
  · have hlen : (prs (E.take k)).length = k * 2 := by
      rw [prs_length, List.length_take]
      congr 1
      omega
    have e1 : prs E = prs (E.take k) ++ prs (E.drop k) := by rw [← prs_append, List.take_append_drop]
    have hjl := (List.getElem?_eq_some_iff.1 hu).1
    have hu2 : (prs E)[k * 2 + j]? = some u := by
      rw [e1, List.getElem?_append_right (by omega), hlen, show k * 2 + j - k * 2 = j by omega]
      exact hu
    by_cases hck : c = k
    · have : E.drop k = [] := List.drop_eq_nil_of_le (by omega)
      rw [this] at hu
      cases hu
    · unfold dropQ at ha
      rw [if_neg hck] at ha
      cases ao with
      | none => cases ha
      | some a0 =>
        have ha' : a0.add (k * 2) = ad := by simpa using ha
        rw [← ha', Go.Deep.add_add]
        exact h.cells a0 rfl _ _ hu2
end T15
end Go.Proofs.YtmlfekbmbnfkjabGreatDoor

/-
  A map from texts to events; what score's isAdd, latest and Get come to.
-/
namespace Go.Proofs.YtmlfekbmbnfkjabGreatDoor
set_option maxRecDepth 100000
namespace T15
set_option maxRecDepth 100000
open Go.RowKit Go.Maps Go.WideMaps Go.Sort

theorem lawS : Keyed Tryz.prog 9 := string_keyed Tryz.underlying9
theorem keyF {s : List UInt8} (h : s.length ≤ 9223372036854775807) : keyOf Tryz.prog 9 (.string (sb s)) = some (.string s) := by
  have := keyOf_string_mk (P := Tryz.prog) (k := 9) Tryz.underlying9 (s := sb s) (by rw [sb_size]; unfold maxLen; omega)
  rw [data_sb] at this
  exact this
/-- An element, as it stands. -/
def tokE (v : Value) : Option (DataW Value × List MemPlace) := some (.held v, [])
theorem tokE_inv {v : Value} {z : DataW Value × List MemPlace} (h : tokE v = some z) : z.1 = .held v := by
  obtain rfl := Option.some.inj h
  rfl
abbrev OwnG (w : World) (b n : Nat) (D : DataW Value) : Prop := w.ownsMap Tryz.prog 9 tokE b n D
theorem ownG_keep {w w' : World} {b n : Nat} {D : DataW Value} (h : OwnG w b n D) (hk : w'.heap[b]? = w.heap[b]?) : OwnG w' b n D := by
  obtain ⟨es, clock, hb1, F1, hs, hD⟩ := h
  exact ⟨es, clock, hk.trans hb1, F1, hs, hD⟩
theorem ownG_below {w w' : World} {b n B : Nat} {D : DataW Value} (h : OwnG w b n D) (hb : Below B w w') (hB : w.heap.size ≤ B) : OwnG w' b n D :=
  ownG_keep h (hb.block b (Nat.lt_of_lt_of_le h.lt hB))
/-- What the map tells. -/
def TellsE (D : DataW Value) (K : List (List UInt8)) (g : List UInt8 → Ev) : Prop := IsMap D ∧ (∀ s, D.atKey (.string s) (.held (.agg (evc zv))) = .held (.agg (evc (g s)))) ∧ ∀ s, Maps.has D (.string s) = true ↔ s ∈ K
theorem TellsE.put {D : DataW Value} {K : List (List UInt8)} {g : List UInt8 → Ev} (h : TellsE D K g) (s : List UInt8) (u : Ev) : TellsE (D.put (.string s) (.held (.agg (evc u)))) (K ++ [s]) (fun t => if t = s then u else g t) := by
  have hk : WideAt.IsKeyLit (.string s) := trivial
  refine ⟨h.1.put _ _, fun t => ?_, fun t => ?_⟩
  · by_cases ht : t = s
    · subst ht
      rw [atKey_put_same h.1 hk]
      simp only [if_true]
    · rw [atKey_put_other (fun e => ht (by simpa using e))]
      simp only [if_neg ht]
      exact h.2.1 t
  · by_cases ht : t = s
    · subst ht
      simp [has_put_same h.1 hk]
    · rw [has_put_other (fun e => ht (by simpa using e)), h.2.2 t]
      simp [ht]
theorem TellsE.more {D : DataW Value} {K : List (List UInt8)} {g : List UInt8 → Ev} (h : TellsE D K g) {s : List UInt8} (hs : s ∈ K) : TellsE D (K ++ [s]) g := ⟨h.1, h.2.1, fun t => by
  rw [h.2.2 t, List.mem_append, List.mem_singleton]
  exact ⟨.inl, fun h => h.elim id (fun e => e ▸ hs)⟩⟩
theorem TellsE.has {D : DataW Value} {K : List (List UInt8)} {g : List UInt8 → Ev} (h : TellsE D K g) (s : List UInt8) {t : Bool} (ht : t = true ↔ s ∈ K) : Maps.has D (.string s) = t := by
  rw [Bool.eq_iff_iff, h.2.2 s, ht]
/-- 'm[s]', and whether it is there. -/
theorem lookE {w : World} {b n : Nat} {D : DataW Value} {K : List (List UInt8)} {g : List UInt8 → Ev} (h : OwnG w b n D) (hT : TellsE D K g) {s : List UInt8} (hs : s.length ≤ 9223372036854775807) {t : Bool} (ht : t = true ↔ s ∈ K) :
    (Instr.lookup 215 (.map (some b)) (.string (sb s)) true).run Tryz.prog w = .ok (.tuple #[.agg (evc (g s)), .bool t]) w := by
  have hz : (zeroValue 47).run Tryz.prog w = .ok (.agg (evc zv)) w := Tryz.zeroValue47 w
  obtain ⟨v, ps, hr, hv⟩ := h.look_ok lawS Tryz.underlying215 hz (zd := .held (.agg (evc zv))) (zp := []) rfl (keyF hs)
  have e1 := tokE_inv hv
  rw [hT.2.1 s] at e1
  simp only [DataW.held.injEq] at e1
  rw [hr, hT.has s ht, e1]
theorem updE {w : World} {b n : Nat} {D : DataW Value} {K : List (List UInt8)} {g : List UInt8 → Ev} (h : OwnG w b n D) (hT : TellsE D K g) {s : List UInt8} (hs : s.length ≤ 9223372036854775807) (hn : n < 1000000) (u : Ev) :
    ∃ w', (Instr.mapUpdate 215 (.map (some b)) (.string (sb s)) (.agg (evc u))).run Tryz.prog w = .ok () w' ∧ (∃ D', OwnG w' b (n + 1) D' ∧ TellsE D' (K ++ [s]) (fun t => if t = s then u else g t)) ∧ w.grownBy w' (some b) := by
  obtain ⟨w5, hr5, hM5, hg5⟩ := h.update lawS Tryz.underlying215 (by unfold maxLen; omega) (keyF hs) (val := .agg (evc u)) (d := .held (.agg (evc u))) (ps := []) rfl
  exact ⟨w5, hr5, ⟨_, hM5, hT.put s u⟩, hg5⟩
end T15
end Go.Proofs.YtmlfekbmbnfkjabGreatDoor

/-
  What cmp.Compare of texts comes to.
-/
namespace Go.Proofs.YtmlfekbmbnfkjabGreatDoor
set_option maxRecDepth 100000
namespace T15
set_option maxRecDepth 100000
open Go.RowKit Go.Sort

end T15
end Go.Proofs.YtmlfekbmbnfkjabGreatDoor

/-
  What the function comes to by which score's All puts pairs in order.
-/
namespace Go.Proofs.YtmlfekbmbnfkjabGreatDoor
set_option maxRecDepth 100000
namespace T15
set_option maxRecDepth 100000
open Go.RowKit Go.Sort

/-! The order of pairs. -/
end T15
end Go.Proofs.YtmlfekbmbnfkjabGreatDoor

/-
  Where the functions and types of slices.SortFunc of pairs stand in this program.
-/
namespace Go.Proofs.YtmlfekbmbnfkjabGreatDoor
set_option maxRecDepth 100000
namespace T15

end T15
end Go.Proofs.YtmlfekbmbnfkjabGreatDoor

/-
  What slices.SortFunc of pairs comes to.
-/
namespace Go.Proofs.YtmlfekbmbnfkjabGreatDoor
set_option maxRecDepth 100000
namespace T15
set_option maxRecDepth 100000
open Go.RowKit Go.Sort

end T15
end Go.Proofs.YtmlfekbmbnfkjabGreatDoor

/-
  What score's latest and Get come to.
-/
namespace Go.Proofs.YtmlfekbmbnfkjabGreatDoor
set_option maxRecDepth 100000
namespace T15
set_option maxRecDepth 100000
open Go.RowKit Go.Maps Go.WideMaps Go.Sort

/-- The map tells the latest one of each member. -/
def Lat (w : World) (b n : Nat) (E : List Ev) : Prop := ∃ D, OwnG w b n D ∧ TellsE D (fldZ E) (fun s => orz (lastZ E s))
theorem Lat.below {w w' : World} {b n B : Nat} {E : List Ev} (h : Lat w b n E) (hb : Below B w w') (hB : w.heap.size ≤ B) : Lat w' b n E := by
  obtain ⟨D, h1, h2⟩ := h
  exact ⟨D, ownG_below h1 hb hB, h2⟩
theorem Lat.mono {w : World} {b n n' : Nat} {E : List Ev} (h : Lat w b n E) (hn : n ≤ n') : Lat w b n' E := by
  obtain ⟨D, h1, h2⟩ := h
  exact ⟨D, World.ownsMap.mono h1 hn, h2⟩
theorem Lat.look {w : World} {b n : Nat} {E : List Ev} (h : Lat w b n E) {s : List UInt8} (hs : s.length ≤ 9223372036854775807) : (Instr.lookup 215 (.map (some b)) (.string (sb s)) true).run Tryz.prog w = .ok (.tuple #[.agg (evc (orz (lastZ E s))), .bool (okZ E s)]) w := by
  obtain ⟨D, h1, h2⟩ := h
  exact lookE h1 h2 hs (okZ_iff E s)
theorem Lat.turn {w : World} {b n : Nat} {E : List Ev} {i : Nat} {u : Ev} (h : Lat w b n (E.take i)) (hu : E[i]? = some u) (hz : zsE u = true) (ho : okZ (E.take i) u.field = false ∨ laterE u (orz (lastZ (E.take i) u.field)) = true) (hs : u.field.length ≤ 9223372036854775807) (hn : n < 1000000) :
    ∃ w', (Instr.mapUpdate 215 (.map (some b)) (.string (sb u.field)) (.agg (evc u))).run Tryz.prog w = .ok () w' ∧ Lat w' b (n + 1) (E.take (i + 1)) ∧ w.grownBy w' (some b) := by
  obtain ⟨D, h1, h2⟩ := h
  obtain ⟨w', hr, ⟨D', h3, h4⟩, hg⟩ := updE h1 h2 hs hn u
  refine ⟨w', hr, ⟨D', h3, ?_⟩, hg⟩
  rw [tellZ_put hu hz ho, fldZ_take hu, hz]
  exact h4
end T15
end Go.Proofs.YtmlfekbmbnfkjabGreatDoor

/-
  What score's All and Rank come to.
-/
namespace Go.Proofs.YtmlfekbmbnfkjabGreatDoor
set_option maxRecDepth 100000
namespace T15
set_option maxRecDepth 100000
open Go.RowKit Go.Maps Go.WideMaps Go.Sort

end T15
end Go.Proofs.YtmlfekbmbnfkjabGreatDoor

/-
  Where maps.Keys, slices.Sorted and slices.Sort of texts stand in this program.
-/
namespace Go.Proofs.YtmlfekbmbnfkjabGreatDoor
set_option maxRecDepth 100000
open Go.Shelf

end Go.Proofs.YtmlfekbmbnfkjabGreatDoor

/-
  What a nil space tells of a key.
-/
namespace Go.Proofs.YtmlfekbmbnfkjabGreatDoor
set_option maxRecDepth 100000
open Go.RowKit Go.Shelf

end Go.Proofs.YtmlfekbmbnfkjabGreatDoor

/-
  The keys of no map, sorted; what a nil space's Keys and Collect come to.
-/
namespace Go.Proofs.YtmlfekbmbnfkjabGreatDoor
set_option maxRecDepth 100000
open Go.RowKit Go.Maps Go.Sort Go.Shelf

end Go.Proofs.YtmlfekbmbnfkjabGreatDoor

/-
  A map of keys as the library's contracts read it; what names comes to at whatever space.
-/
namespace Go.Proofs.YtmlfekbmbnfkjabGreatDoor
set_option maxRecDepth 100000
open Go.RowKit Go.Maps Go.WideMaps Go.Sort Go.Shelf

/-! A space's keys are as long as its events allow, and no more than it has events. -/
end Go.Proofs.YtmlfekbmbnfkjabGreatDoor

/-
  What Sum, Check, Members, Fields and Scores of a space come to.
-/
namespace Go.Proofs.YtmlfekbmbnfkjabGreatDoor
set_option maxRecDepth 100000
open Go.RowKit

end Go.Proofs.YtmlfekbmbnfkjabGreatDoor

/-
  Functions that plan: lists of texts, types, INCRBY.
-/
namespace Go.Proofs.YtmlfekbmbnfkjabGreatDoor
set_option maxRecDepth 100000
open Go.RowKit

theorem setRow_ne22 (w : World) (g k : Nat) (vs : Array Value) (h : k ≠ g) : (w.setRow g vs).heap[k]? = w.heap[k]? := by
  simp only [World.setRow]
  rw [Array.getElem?_modify, if_neg (fun e => h e.symm)]
def TYW : List (List UInt8) := [[110, 111, 110, 101], [115, 116, 114, 105, 110, 103], [116, 97, 108, 108, 121], [115, 101, 116], [104, 97, 115, 104], [122, 115, 101, 116], [108, 105, 115, 116]]
def tyA : Array Value := (TYW.map fun t => Value.string (sb t)).toArray
theorem tyA_at {i : Nat} (h : i < 7) : tyA[i]? = some (.string (sb (TYW.getD i []))) := by
  unfold tyA
  rw [List.getElem?_toArray, List.getElem?_map, List.getD_eq_getElem?_getD, List.getElem?_eq_getElem (show i < TYW.length from h)]
  rfl
theorem telltype_any (p : Option Addr) (c : Cl) (i : Nat) (hi : i < 7) (w : World) (hM : ∀ u, Below w.heap.size w u → Calls Tryz.prog 28 #[.pointer p, .string (sb c.key)] u fun x w' => x = .returned (.int .i64 (i : Int)) ∧ Below u.heap.size u w') : Calls Tryz.prog 84 #[.pointer p, .agg (clc c)] w fun x w' => x = .returned (.agg (outx 1 (TYW.getD i []) 0 none 0 0 opzz false)) ∧ Below w.heap.size w w' := by
  obtain ⟨nm, ky, fd, vl, n, m⟩ := c
  have F0 := fr_new w ⟨nm, ky, fd, vl, n, m⟩
  obtain ⟨W0, hW0⟩ : ∃ W0, (w.alloc (.cells (clc ⟨nm, ky, fd, vl, n, m⟩) 38)).alloc (.cells outz 53) = W0 := ⟨_, rfl⟩
  rw [hW0] at F0
  have hW1 : (w.alloc (.cells (clc ⟨nm, ky, fd, vl, n, m⟩) 38)).alloc (.cells #[.int .i64 0, .string ⟨#[]⟩, .int .i64 0, .slice none 0 0, .int .i64 0, .string ⟨#[]⟩, .string ⟨#[]⟩, .string ⟨#[]⟩, .int .i64 0, .int .i64 0, .int .i64 0, .bool false] 53) = W0 := hW0
  obtain ⟨B, hB⟩ : ∃ B, w.heap.size = B := ⟨_, rfl⟩
  rw [hB] at F0
  have FW0 : Hid (Fr w W0 B (B + 1) ⟨nm, ky, fd, vl, n, m⟩) := F0.1
  have hOW0 : Hid (W0.heap[B + 1]? = some (.cells outz 53 (0, 0))) := F0.2
  clear hW0 F0
  have HM : Hid (∀ u, Below w.heap.size w u → _) := hM
  clear hM
  have ha := heap_alloc_new W0 (.cells tyA 9)
  have hcc : (W0.alloc (.cells tyA 9)).cell? ⟨W0.heap.size, i, none⟩ = some (.string (sb (TYW.getD i []))) := by rw [cell_of_row _ W0.heap.size i _ _ _ ha]; exact tyA_at hi
  have FW1 : Hid (Fr w (W0.alloc (.cells tyA 9)) B (B + 1) ⟨nm, ky, fd, vl, n, m⟩) := FW0.out.below (below_alloc22 _ _)
  have hOW1 : Hid ((W0.alloc (.cells tyA 9)).heap[B + 1]? = some (.cells outz 53 (0, 0))) := ((below_alloc22 W0 (.cells tyA 9)).block _ (heap_lt22 hOW0.out)).trans hOW0.out
  obtain ⟨W1, hW2⟩ : ∃ W1, W0.alloc (.cells tyA 9) = W1 := ⟨_, rfl⟩
  rw [hW2] at hcc FW1 hOW1
  have hW2 : W0.alloc (.cells #[.string ⟨#[110, 111, 110, 101]⟩, .string ⟨#[115, 116, 114, 105, 110, 103]⟩, .string ⟨#[116, 97, 108, 108, 121]⟩, .string ⟨#[115, 101, 116]⟩, .string ⟨#[104, 97, 115, 104]⟩, .string ⟨#[122, 115, 101, 116]⟩, .string ⟨#[108, 105, 115, 116]⟩] 9) = W1 := hW2
  obtain ⟨t, ht⟩ : ∃ t, TYW.getD i [] = t := ⟨_, rfl⟩
  rw [ht] at hcc ⊢
  have HCC : Hid (W1.cell? ⟨W0.heap.size, i, none⟩ = some (.string (sb t))) := hcc
  obtain ⟨C, hC9⟩ : ∃ C, W0.heap.size = C := ⟨_, rfl⟩
  rw [hC9] at HCC
  clear ht hcc ha
  have hi7 : (i : Int) < 7 := by omega
  go_enter Tryz.func84, Tryz.ntmps84
  have hC := HM.out W1 FW1.out.be
  have hc1 := FW1.out.c1
  have hc2 := FW1.out.c2
  have hc3 := FW1.out.c3
  have hc4 := FW1.out.c4
  have hc5 := FW1.out.c5
  have hld := FW1.out.load
  go_wp2_with (first | (refine wpList_loadR (ty := 38) (x := .tmp 3) (ad := ⟨B, 0, none⟩) (v := .agg (clc ⟨nm, ky, fd, vl, n, m⟩)) rfl rfl rfl hld ?_))
  refine Calls.mono hC ?_
  rintro ex w1 ⟨rfl, hb⟩
  have Fw1 : Hid (Fr w w1 B (B + 1) ⟨nm, ky, fd, vl, n, m⟩) := FW1.out.below hb
  have hOw1 : Hid (w1.heap[B + 1]? = some (.cells outz 53 (0, 0))) := (hb.block _ (heap_lt22 hOW1.out)).trans hOW1.out
  have hcc : w1.cell? ⟨C, i, none⟩ = some (.string (sb t)) := (hb.cell (World.block_lt_of_cell? _ _ HCC.out)).trans HCC.out
  clear hC hb hc1 hc2 hc3 hc4 hc5 hld
  have hC := csimple_any t w1
  have hc1 := Fw1.out.c1
  have hc2 := Fw1.out.c2
  have hc3 := Fw1.out.c3
  have hc4 := Fw1.out.c4
  have hc5 := Fw1.out.c5
  have hld := Fw1.out.load
  go_wp2_with (first | (refine wpList_loadR (ty := 38) (x := .tmp 3) (ad := ⟨B, 0, none⟩) (v := .agg (clc ⟨nm, ky, fd, vl, n, m⟩)) rfl rfl rfl hld ?_))
  refine Calls.mono hC ?_
  rintro ex w2 ⟨rfl, hb⟩
  have Fw2 : Hid (Fr w w2 B (B + 1) ⟨nm, ky, fd, vl, n, m⟩) := Fw1.out.below hb
  have hOw2 : Hid (w2.heap[B + 1]? = some (.cells outz 53 (0, 0))) := (hb.block _ (heap_lt22 hOw1.out)).trans hOw1.out
  clear hC hb hc1 hc2 hc3 hc4 hc5 hld
  clear hcc
  have hC := ctell_any 1 t 0 none 0 0 w2
  have hc1 := Fw2.out.c1
  have hc2 := Fw2.out.c2
  have hc3 := Fw2.out.c3
  have hc4 := Fw2.out.c4
  have hc5 := Fw2.out.c5
  have hld := Fw2.out.load
  go_wp2_with (first | (refine wpList_loadR (ty := 38) (x := .tmp 3) (ad := ⟨B, 0, none⟩) (v := .agg (clc ⟨nm, ky, fd, vl, n, m⟩)) rfl rfl rfl hld ?_))
  refine Calls.mono hC ?_
  rintro ex w3 ⟨rfl, hb⟩
  have Fw3 : Hid (Fr w w3 B (B + 1) ⟨nm, ky, fd, vl, n, m⟩) := Fw2.out.below hb
  have hOw3 : Hid (w3.heap[B + 1]? = some (.cells outz 53 (0, 0))) := (hb.block _ (heap_lt22 hOw2.out)).trans hOw2.out
  clear hC hb hc1 hc2 hc3 hc4 hc5 hld
  have hst := storeVar_out (cs := outx 1 t 0 none 0 0 opzz false) hOw3.out rfl rfl (outx_one _ _ _ _ _ _ _ _ _ _ _ _ _ _)
  have hgw4 := setRow_heap w3 (B + 1) _ (outx 1 t 0 none 0 0 opzz false) _ _ hOw3.out
  have Fw4 := Fw3.out.set (outx 1 t 0 none 0 0 opzz false)
  generalize w3.setRow (B + 1) (outx 1 t 0 none 0 0 opzz false) = w4 at *
  go_wp2_with (first | (refine wpList_storeR (ty := 53) (x := .tmp 4) (y := .tmp 15) (ad := ⟨B + 1, 0, none⟩) (v := .agg (outx 1 t 0 none 0 0 opzz false)) (w' := w4) rfl rfl rfl rfl hst ?_))
  refine ret_out rfl rfl rfl hgw4 rfl ?_
  first | exact ⟨rfl, Fw4.be⟩ | exact ⟨rfl, by rw [← hB]; exact Fw4.be⟩
end Go.Proofs.YtmlfekbmbnfkjabGreatDoor

/-
  slices.Index and slices.Contains over texts.
-/
namespace Go.Proofs.YtmlfekbmbnfkjabGreatDoor
set_option maxRecDepth 100000
open Go.RowKit

end Go.Proofs.YtmlfekbmbnfkjabGreatDoor

/-
  Functions that plan: of groups' members, of hashes, of scores.
-/
namespace Go.Proofs.YtmlfekbmbnfkjabGreatDoor
set_option maxRecDepth 100000
open Go.RowKit

end Go.Proofs.YtmlfekbmbnfkjabGreatDoor

/-
  push: what is pushed, and where.
-/
namespace Go.Proofs.YtmlfekbmbnfkjabGreatDoor
set_option maxRecDepth 100000
open Go.RowKit

theorem opx_one (k : Int) (ky f v : List UInt8) (n r m : Int) : (opx k ky f v n r m).all (·.oneCell') = true := by simp [opx, Value.oneCell']
theorem Fr.belowC {w W W' : World} {B O C : Nat} {c : Cl} (h : Fr w W B O c) (hb : Below C W W') (hC : O < C) : Fr w W' B O c :=
  ⟨(hb.block _ (Nat.lt_trans h.hi hC)).trans h.cl, h.be.trans (hb.mono (Nat.le_trans h.lo (Nat.le_of_lt (Nat.lt_trans h.hi hC)))), h.lo, h.hi⟩
end Go.Proofs.YtmlfekbmbnfkjabGreatDoor

/-
  Functions that plan: of lists.
-/
namespace Go.Proofs.YtmlfekbmbnfkjabGreatDoor
set_option maxRecDepth 100000
open Go.RowKit

end Go.Proofs.YtmlfekbmbnfkjabGreatDoor

