/-
  A map from texts to rows of events: no two keys' rows lie in one block.
-/
import Derived.Test.YtmlfekbmbnfkjabGreatDoorQ55
import Derived.Maps.OwnSet
import Derived.Maps.RangeWalk
import Derived.Sort.KeysCollected
import Derived.Deep.RegionHeld3
namespace Go.Proofs.YtmlfekbmbnfkjabGreatDoor
set_option maxRecDepth 100000
namespace T14
set_option maxRecDepth 100000
open Go.RowKit Go.Maps Go.WideMaps Go.Sort

theorem lawS : Keyed Tryz.prog 9 := string_keyed Tryz.underlying9
theorem keyF {s : List UInt8} (h : s.length ≤ 9223372036854775807) : keyOf Tryz.prog 9 (.string (sb s)) = some (.string s) := by
  have := keyOf_string_mk (P := Tryz.prog) (k := 9) Tryz.underlying9 (s := sb s) (by rw [sb_size]; unfold maxLen; omega)
  rw [data_sb] at this
  exact this
/-- An element, as it stands. -/
def tokE (v : Value) : Option (DataW Value × List MemPlace) := some (.held v, [])
theorem tokE_inv {v : Value} {z : DataW Value × List MemPlace} (h : tokE v = some z) : z.1 = .held v := by
  obtain rfl := Option.some.inj h
  rfl
abbrev OwnG (w : World) (b n : Nat) (D : DataW Value) : Prop := w.ownsMap Tryz.prog 9 tokE b n D
theorem ownG_keep {w w' : World} {b n : Nat} {D : DataW Value} (h : OwnG w b n D) (hk : w'.heap[b]? = w.heap[b]?) : OwnG w' b n D := by
  obtain ⟨es, clock, hb1, F1, hs, hD⟩ := h
  exact ⟨es, clock, hk.trans hb1, F1, hs, hD⟩
/-- What the map tells. -/
def Tells (D : DataW Value) (K : List (List UInt8)) (f : List UInt8 → Value) : Prop := IsMap D ∧ (∀ s, D.atKey (.string s) (.held (.slice none 0 0)) = .held (f s)) ∧ ∀ s, Maps.has D (.string s) = true ↔ s ∈ K
theorem Tells.put {D : DataW Value} {K : List (List UInt8)} {f : List UInt8 → Value} (h : Tells D K f) (s : List UInt8) (v : Value) : Tells (D.put (.string s) (.held v)) (K ++ [s]) (fun t => if t = s then v else f t) := by
  have hk : WideAt.IsKeyLit (.string s) := trivial
  refine ⟨h.1.put _ _, fun t => ?_, fun t => ?_⟩
  · by_cases ht : t = s
    · subst ht
      rw [atKey_put_same h.1 hk]
      simp only [if_true]
    · rw [atKey_put_other (fun e => ht (by simpa using e))]
      simp only [if_neg ht]
      exact h.2.1 t
  · by_cases ht : t = s
    · subst ht
      simp [has_put_same h.1 hk]
    · rw [has_put_other (fun e => ht (by simpa using e)), h.2.2 t]
      simp [ht]
/-- The groups: the map's block, the rows from 'base' on. -/
structure Grp (w : World) (b base n : Nat) (D : DataW Value) (K : List (List UInt8)) (f : List UInt8 → Value) (G : List UInt8 → List Ev) : Prop where
  map : OwnG w b n D
  tells : Tells D K f
  rows : ∀ s, Row w base (f s) (G s)
  apart : ∀ s t k, (f s).ownBlock = some k → (f t).ownBlock = some k → s = t
  lt : b < base
theorem Grp.below {w w' : World} {b base n B : Nat} {D : DataW Value} {K : List (List UInt8)} {f : List UInt8 → Value} {G : List UInt8 → List Ev} (h : Grp w b base n D K f G) (hb : Below B w w') (hB : w.heap.size ≤ B) : Grp w' b base n D K f G :=
  ⟨ownG_keep h.map (hb.block b (Nat.lt_of_lt_of_le h.map.lt hB)), h.tells, fun s => (h.rows s).below hb hB, h.apart, h.lt⟩
theorem Grp.mono {w : World} {b base n n' : Nat} {D : DataW Value} {K : List (List UInt8)} {f : List UInt8 → Value} {G : List UInt8 → List Ev} (h : Grp w b base n D K f G) (hn : n ≤ n') : Grp w b base n' D K f G :=
  ⟨h.map.mono hn, h.tells, h.rows, h.apart, h.lt⟩
/-- 'm[s]'. -/
theorem Grp.look {w : World} {b base n : Nat} {D : DataW Value} {K : List (List UInt8)} {f : List UInt8 → Value} {G : List UInt8 → List Ev} (h : Grp w b base n D K f G) {s : List UInt8} (hs : s.length ≤ 9223372036854775807) :
    (Instr.lookup 212 (.map (some b)) (.string (sb s)) false).run Tryz.prog w = .ok (f s) w := by
  have hz : (zeroValue 22).run Tryz.prog w = .ok (.slice none 0 0) w := Tryz.zeroValue22 w
  obtain ⟨v, ps, hr, hv⟩ := h.map.lookup lawS Tryz.underlying212 hz (zd := .held (.slice none 0 0)) (zp := []) rfl (keyF hs)
  have e1 := tokE_inv hv
  rw [h.tells.2.1 s] at e1
  simp only [DataW.held.injEq] at e1
  rw [hr, e1]
/-- 'm[s] = append(m[s], u)': the row is looked up, appended to, laid back. -/
theorem Grp.push {w : World} {b base n : Nat} {D : DataW Value} {K : List (List UInt8)} {f : List UInt8 → Value} {G : List UInt8 → List Ev} (h : Grp w b base n D K f G) {s : List UInt8} (hs : s.length ≤ 9223372036854775807) {u : Ev} (hu : Wide u) (hn : n < 1000000) (hl : (G s).length < 1000000) (hbase : base ≤ w.heap.size) (ty : TypeId) :
    ∃ v w4 w5, (Builtin.append_ #[22, 22] ty #[f s, .slice (some ⟨w.heap.size, 0, none⟩) 1 1]).run Tryz.prog (w.alloc (.cells (evc u) 47)) = .ok v w4 ∧
      (Instr.mapUpdate 212 (.map (some b)) (.string (sb s)) v).run Tryz.prog w4 = .ok () w5 ∧
      Grp w5 b base (n + 1) (D.put (.string s) (.held v)) (K ++ [s]) (fun t => if t = s then v else f t) (fun t => if t = s then G s ++ [u] else G t) ∧
      (∀ k, k < w.heap.size → some k ≠ (f s).ownBlock → w4.heap[k]? = w.heap[k]?) ∧ (∀ k, k < w.heap.size → some k ≠ (f s).ownBlock → k ≠ b → w5.heap[k]? = w.heap[k]?) ∧ Below b w w5 := by
  have hB1 : Below w.heap.size w (w.alloc (.cells (evc u) 47)) := (Below.refl _ _).alloc (Nat.le_refl _) _
  have hG1 := h.below hB1 (Nat.le_refl _)
  have hF : Evs (w.alloc (.cells (evc u) 47)) (some ⟨w.heap.size, 0, none⟩) 1 1 [u] := evs_single _ _ u hu (liesE_new w u)
  obtain ⟨v, w4, hr4, hR4, hg4, ho4⟩ := run_appE (w := w.alloc (.cells (evc u) 47)) ty base (f s) (G s) (hG1.rows s) _ 1 1 [u] hF (by omega) (by simp; omega)
  have hblt : b < (w.alloc (.cells (evc u) 47)).heap.size := hG1.map.lt
  have hbrow : ∀ t, some b ≠ (f t).ownBlock := fun t e => by
    have := ((h.rows t).lt b e.symm).1
    have := h.lt
    omega
  have hM4 : OwnG w4 b n D := ownG_keep hG1.map (hg4.block b hblt (hbrow s))
  obtain ⟨w5, hr5, hM5, hg5⟩ := hM4.update lawS Tryz.underlying212 (by unfold maxLen; omega) (keyF hs) (val := v) (d := .held v) (ps := []) rfl
  have hvb : ∀ k, v.ownBlock = some k → base ≤ k := hR4.own
  have hlt4 : w.heap.size ≤ w4.heap.size := Nat.le_trans hB1.size hg4.size
  refine ⟨v, w4, w5, hr4, hr5, ⟨hM5, h.tells.put s v, fun t => ?_, fun t t' k h1 h2 => ?_, h.lt⟩, fun k hk hne => ?_, fun k hk hne hkb => ?_, ?_⟩
  · by_cases ht : t = s
    · simp only [if_pos ht]
      refine hR4.kept hg5 ?_
      cases hv : v.ownBlock with
      | none => exact .inl rfl
      | some k =>
        refine .inr (fun e => ?_)
        have h1 := hvb k hv
        have h2 := h.lt
        have : k = b := by simpa using e
        omega
    · simp only [if_neg ht]
      refine ((hG1.rows t).kept hg4 ?_).kept hg5 ?_
      · cases hv : (f t).ownBlock with
        | none => exact .inl rfl
        | some k => exact .inr (fun e => ht (h.apart t s k hv e.symm))
      · cases hv : (f t).ownBlock with
        | none => exact .inl rfl
        | some k => exact .inr (fun e => hbrow t (by rw [hv]; exact e.symm))
  · have key : ∀ t, t ≠ s → v.ownBlock = some k → (f t).ownBlock = some k → False := fun t ht e1 e2 => by
      rcases ho4 k e1 with h3 | h3
      · exact ht (h.apart t s k e2 h3)
      · have := ((hG1.rows t).lt k e2).2
        omega
    by_cases ht : t = s <;> by_cases ht' : t' = s
    · rw [ht, ht']
    · simp only [if_pos ht, if_neg ht'] at h1 h2
      exact (key t' ht' h1 h2).elim
    · simp only [if_pos ht', if_neg ht] at h1 h2
      exact (key t ht h2 h1).elim
    · simp only [if_neg ht, if_neg ht'] at h1 h2
      exact h.apart t t' k h1 h2
  · rw [hg4.block k (by simp; omega) hne, hB1.block k hk]
  · rw [hg5.block k (by omega) (by simpa using hkb), hg4.block k (by simp; omega) hne, hB1.block k hk]
  · refine ((hB1.mono (Nat.le_of_lt (by have := h.lt; omega))).grown hg4 (by omega) (fun k hk => ?_)).grown hg5 (by have := hg4.size; omega) (fun k hk => ?_)
    · have h1 := ((h.rows s).lt k hk).1
      have h2 := h.lt
      omega
    · have : b = k := by simpa using hk
      omega
theorem _root_.Go.Proofs.YtmlfekbmbnfkjabGreatDoor.LiesE.kept {w w' : World} {g : Nat} {e : Ev} (h : LiesE w g e) (hk : w'.heap[g]? = w.heap[g]?) : LiesE w' g e := hk.trans h
end T14
end Go.Proofs.YtmlfekbmbnfkjabGreatDoor

/-
  What field's byField comes to: the region 'fields[s] = append(fields[s], e)' draws its order.
-/
namespace Go.Proofs.YtmlfekbmbnfkjabGreatDoor
set_option maxRecDepth 100000
namespace T14
set_option maxRecDepth 100000
open Go.RowKit Go.Maps Go.WideMaps Go.Sort

section
variable {o : Oper} {a : Act} {w w' : World} {K : Act → World → Prop} {Q : Exit → Act → World → Prop} {x y z : Operand} {ty : TypeId} {v v' p q : Value}
theorem field_e3 (w : World) (b i : Nat) : (Instr.fieldAt 47 (.pointer (some ⟨b, i, none⟩)) 3).run Tryz.prog w = .ok (.pointer (some ⟨b, i + 19, none⟩)) w := by go_simp
end T14
end Go.Proofs.YtmlfekbmbnfkjabGreatDoor

/-
  What field's names comes to: a map's keys, told in whatever order, and sorted.
-/
namespace Go.Proofs.YtmlfekbmbnfkjabGreatDoor
set_option maxRecDepth 100000
namespace T14
set_option maxRecDepth 100000
open Go.RowKit Go.Maps Go.WideMaps Go.Sort

end T14
end Go.Proofs.YtmlfekbmbnfkjabGreatDoor

/-
  What field's All comes to.
-/
namespace Go.Proofs.YtmlfekbmbnfkjabGreatDoor
set_option maxRecDepth 100000
namespace T14
set_option maxRecDepth 100000
open Go.RowKit Go.Maps Go.WideMaps Go.Sort

end T14
end Go.Proofs.YtmlfekbmbnfkjabGreatDoor

/-
  A map from texts to events; what score's isAdd, latest and Get come to.
-/
namespace Go.Proofs.YtmlfekbmbnfkjabGreatDoor
set_option maxRecDepth 100000
namespace T15
set_option maxRecDepth 100000
open Go.RowKit Go.Maps Go.WideMaps Go.Sort

theorem lawS : Keyed Tryz.prog 9 := string_keyed Tryz.underlying9
theorem keyF {s : List UInt8} (h : s.length ≤ 9223372036854775807) : keyOf Tryz.prog 9 (.string (sb s)) = some (.string s) := by
  have := keyOf_string_mk (P := Tryz.prog) (k := 9) Tryz.underlying9 (s := sb s) (by rw [sb_size]; unfold maxLen; omega)
  rw [data_sb] at this
  exact this
/-- An element, as it stands. -/
def tokE (v : Value) : Option (DataW Value × List MemPlace) := some (.held v, [])
theorem tokE_inv {v : Value} {z : DataW Value × List MemPlace} (h : tokE v = some z) : z.1 = .held v := by
  obtain rfl := Option.some.inj h
  rfl
abbrev OwnG (w : World) (b n : Nat) (D : DataW Value) : Prop := w.ownsMap Tryz.prog 9 tokE b n D
theorem ownG_keep {w w' : World} {b n : Nat} {D : DataW Value} (h : OwnG w b n D) (hk : w'.heap[b]? = w.heap[b]?) : OwnG w' b n D := by
  obtain ⟨es, clock, hb1, F1, hs, hD⟩ := h
  exact ⟨es, clock, hk.trans hb1, F1, hs, hD⟩
theorem ownG_below {w w' : World} {b n B : Nat} {D : DataW Value} (h : OwnG w b n D) (hb : Below B w w') (hB : w.heap.size ≤ B) : OwnG w' b n D :=
  ownG_keep h (hb.block b (Nat.lt_of_lt_of_le h.lt hB))
/-- What the map tells. -/
def TellsE (D : DataW Value) (K : List (List UInt8)) (g : List UInt8 → Ev) : Prop := IsMap D ∧ (∀ s, D.atKey (.string s) (.held (.agg (evc zv))) = .held (.agg (evc (g s)))) ∧ ∀ s, Maps.has D (.string s) = true ↔ s ∈ K
theorem TellsE.put {D : DataW Value} {K : List (List UInt8)} {g : List UInt8 → Ev} (h : TellsE D K g) (s : List UInt8) (u : Ev) : TellsE (D.put (.string s) (.held (.agg (evc u)))) (K ++ [s]) (fun t => if t = s then u else g t) := by
  have hk : WideAt.IsKeyLit (.string s) := trivial
  refine ⟨h.1.put _ _, fun t => ?_, fun t => ?_⟩
  · by_cases ht : t = s
    · subst ht
      rw [atKey_put_same h.1 hk]
      simp only [if_true]
    · rw [atKey_put_other (fun e => ht (by simpa using e))]
      simp only [if_neg ht]
      exact h.2.1 t
  · by_cases ht : t = s
    · subst ht
      simp [has_put_same h.1 hk]
    · rw [has_put_other (fun e => ht (by simpa using e)), h.2.2 t]
      simp [ht]
theorem TellsE.more {D : DataW Value} {K : List (List UInt8)} {g : List UInt8 → Ev} (h : TellsE D K g) {s : List UInt8} (hs : s ∈ K) : TellsE D (K ++ [s]) g := ⟨h.1, h.2.1, fun t => by
  rw [h.2.2 t, List.mem_append, List.mem_singleton]
  exact ⟨.inl, fun h => h.elim id (fun e => e ▸ hs)⟩⟩
theorem TellsE.has {D : DataW Value} {K : List (List UInt8)} {g : List UInt8 → Ev} (h : TellsE D K g) (s : List UInt8) {t : Bool} (ht : t = true ↔ s ∈ K) : Maps.has D (.string s) = t := by
  rw [Bool.eq_iff_iff, h.2.2 s, ht]
/-- 'm[s]', and whether it is there. -/
theorem lookE {w : World} {b n : Nat} {D : DataW Value} {K : List (List UInt8)} {g : List UInt8 → Ev} (h : OwnG w b n D) (hT : TellsE D K g) {s : List UInt8} (hs : s.length ≤ 9223372036854775807) {t : Bool} (ht : t = true ↔ s ∈ K) :
    (Instr.lookup 215 (.map (some b)) (.string (sb s)) true).run Tryz.prog w = .ok (.tuple #[.agg (evc (g s)), .bool t]) w := by
  have hz : (zeroValue 47).run Tryz.prog w = .ok (.agg (evc zv)) w := Tryz.zeroValue47 w
  obtain ⟨v, ps, hr, hv⟩ := h.look_ok lawS Tryz.underlying215 hz (zd := .held (.agg (evc zv))) (zp := []) rfl (keyF hs)
  have e1 := tokE_inv hv
  rw [hT.2.1 s] at e1
  simp only [DataW.held.injEq] at e1
  rw [hr, hT.has s ht, e1]
theorem updE {w : World} {b n : Nat} {D : DataW Value} {K : List (List UInt8)} {g : List UInt8 → Ev} (h : OwnG w b n D) (hT : TellsE D K g) {s : List UInt8} (hs : s.length ≤ 9223372036854775807) (hn : n < 1000000) (u : Ev) :
    ∃ w', (Instr.mapUpdate 215 (.map (some b)) (.string (sb s)) (.agg (evc u))).run Tryz.prog w = .ok () w' ∧ (∃ D', OwnG w' b (n + 1) D' ∧ TellsE D' (K ++ [s]) (fun t => if t = s then u else g t)) ∧ w.grownBy w' (some b) := by
  obtain ⟨w5, hr5, hM5, hg5⟩ := h.update lawS Tryz.underlying215 (by unfold maxLen; omega) (keyF hs) (val := .agg (evc u)) (d := .held (.agg (evc u))) (ps := []) rfl
  exact ⟨w5, hr5, ⟨_, hM5, hT.put s u⟩, hg5⟩
end T15
end Go.Proofs.YtmlfekbmbnfkjabGreatDoor

/-
  What score's latest and Get come to.
-/
namespace Go.Proofs.YtmlfekbmbnfkjabGreatDoor
set_option maxRecDepth 100000
namespace T15
set_option maxRecDepth 100000
open Go.RowKit Go.Maps Go.WideMaps Go.Sort

/-- The map tells the latest one of each member. -/
def Lat (w : World) (b n : Nat) (E : List Ev) : Prop := ∃ D, OwnG w b n D ∧ TellsE D (fldZ E) (fun s => orz (lastZ E s))
theorem Lat.below {w w' : World} {b n B : Nat} {E : List Ev} (h : Lat w b n E) (hb : Below B w w') (hB : w.heap.size ≤ B) : Lat w' b n E := by
  obtain ⟨D, h1, h2⟩ := h
  exact ⟨D, ownG_below h1 hb hB, h2⟩
theorem Lat.mono {w : World} {b n n' : Nat} {E : List Ev} (h : Lat w b n E) (hn : n ≤ n') : Lat w b n' E := by
  obtain ⟨D, h1, h2⟩ := h
  exact ⟨D, World.ownsMap.mono h1 hn, h2⟩
theorem Lat.look {w : World} {b n : Nat} {E : List Ev} (h : Lat w b n E) {s : List UInt8} (hs : s.length ≤ 9223372036854775807) : (Instr.lookup 215 (.map (some b)) (.string (sb s)) true).run Tryz.prog w = .ok (.tuple #[.agg (evc (orz (lastZ E s))), .bool (okZ E s)]) w := by
  obtain ⟨D, h1, h2⟩ := h
  exact lookE h1 h2 hs (okZ_iff E s)
theorem Lat.turn {w : World} {b n : Nat} {E : List Ev} {i : Nat} {u : Ev} (h : Lat w b n (E.take i)) (hu : E[i]? = some u) (hz : zsE u = true) (ho : okZ (E.take i) u.field = false ∨ laterE u (orz (lastZ (E.take i) u.field)) = true) (hs : u.field.length ≤ 9223372036854775807) (hn : n < 1000000) :
    ∃ w', (Instr.mapUpdate 215 (.map (some b)) (.string (sb u.field)) (.agg (evc u))).run Tryz.prog w = .ok () w' ∧ Lat w' b (n + 1) (E.take (i + 1)) ∧ w.grownBy w' (some b) := by
  obtain ⟨D, h1, h2⟩ := h
  obtain ⟨w', hr, ⟨D', h3, h4⟩, hg⟩ := updE h1 h2 hs hn u
  refine ⟨w', hr, ⟨D', h3, ?_⟩, hg⟩
  rw [tellZ_put hu hz ho, fldZ_take hu, hz]
  exact h4
end T15
end Go.Proofs.YtmlfekbmbnfkjabGreatDoor

