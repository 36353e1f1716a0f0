/-
  A map from texts to events; what score's isAdd, latest and Get come to.
-/
import Derived.Test.YtmacebekodndjaaZpr
import Derived.Maps.OwnSet
import Derived.Maps.RangeWalk
import Derived.Sort.KeysCollected
namespace Go.Proofs.Ytmacebekodndjaa
set_option maxRecDepth 100000
open Go.RowKit Go.Maps Go.WideMaps Go.Sort

theorem lawS : Keyed Try.prog 9 := string_keyed Try.underlying9
theorem keyF {s : List UInt8} (h : s.length ≤ 9223372036854775807) : keyOf Try.prog 9 (.string (sb s)) = some (.string s) := by
  have := keyOf_string_mk (P := Try.prog) (k := 9) Try.underlying9 (s := sb s) (by rw [sb_size]; unfold maxLen; omega)
  rw [data_sb] at this
  exact this
/-- An element, as it stands. -/
def tokE (v : Value) : Option (DataW Value × List MemPlace) := some (.held v, [])
theorem tokE_inv {v : Value} {z : DataW Value × List MemPlace} (h : tokE v = some z) : z.1 = .held v := by
  obtain rfl := Option.some.inj h
  rfl
abbrev OwnG (w : World) (b n : Nat) (D : DataW Value) : Prop := w.ownsMap Try.prog 9 tokE b n D
theorem ownG_keep {w w' : World} {b n : Nat} {D : DataW Value} (h : OwnG w b n D) (hk : w'.heap[b]? = w.heap[b]?) : OwnG w' b n D := by
  obtain ⟨es, clock, hb1, F1, hs, hD⟩ := h
  exact ⟨es, clock, hk.trans hb1, F1, hs, hD⟩
theorem ownG_below {w w' : World} {b n B : Nat} {D : DataW Value} (h : OwnG w b n D) (hb : Below B w w') (hB : w.heap.size ≤ B) : OwnG w' b n D :=
  ownG_keep h (hb.block b (Nat.lt_of_lt_of_le h.lt hB))
/-- What the map tells. -/
def TellsE (D : DataW Value) (K : List (List UInt8)) (g : List UInt8 → Ev) : Prop := IsMap D ∧ (∀ s, D.atKey (.string s) (.held (.agg (evc zv))) = .held (.agg (evc (g s)))) ∧ ∀ s, Maps.has D (.string s) = true ↔ s ∈ K
theorem tellsE_nil : TellsE (.map []) [] (fun _ => zv) := ⟨isMap_empty, fun _ => rfl, fun s => by simp [has_eq]⟩
theorem TellsE.put {D : DataW Value} {K : List (List UInt8)} {g : List UInt8 → Ev} (h : TellsE D K g) (s : List UInt8) (u : Ev) : TellsE (D.put (.string s) (.held (.agg (evc u)))) (K ++ [s]) (fun t => if t = s then u else g t) := by
  have hk : WideAt.IsKeyLit (.string s) := trivial
  refine ⟨h.1.put _ _, fun t => ?_, fun t => ?_⟩
  · by_cases ht : t = s
    · subst ht
      rw [atKey_put_same h.1 hk]
      simp only [if_true]
    · rw [atKey_put_other (fun e => ht (by simpa using e))]
      simp only [if_neg ht]
      exact h.2.1 t
  · by_cases ht : t = s
    · subst ht
      simp [has_put_same h.1 hk]
    · rw [has_put_other (fun e => ht (by simpa using e)), h.2.2 t]
      simp [ht]
theorem TellsE.more {D : DataW Value} {K : List (List UInt8)} {g : List UInt8 → Ev} (h : TellsE D K g) {s : List UInt8} (hs : s ∈ K) : TellsE D (K ++ [s]) g := ⟨h.1, h.2.1, fun t => by
  rw [h.2.2 t, List.mem_append, List.mem_singleton]
  exact ⟨.inl, fun h => h.elim id (fun e => e ▸ hs)⟩⟩
theorem TellsE.has {D : DataW Value} {K : List (List UInt8)} {g : List UInt8 → Ev} (h : TellsE D K g) (s : List UInt8) {t : Bool} (ht : t = true ↔ s ∈ K) : Maps.has D (.string s) = t := by
  rw [Bool.eq_iff_iff, h.2.2 s, ht]
/-- 'm[s]', and whether it is there. -/
theorem lookE {w : World} {b n : Nat} {D : DataW Value} {K : List (List UInt8)} {g : List UInt8 → Ev} (h : OwnG w b n D) (hT : TellsE D K g) {s : List UInt8} (hs : s.length ≤ 9223372036854775807) {t : Bool} (ht : t = true ↔ s ∈ K) :
    (Instr.lookup 47 (.map (some b)) (.string (sb s)) true).run Try.prog w = .ok (.tuple #[.agg (evc (g s)), .bool t]) w := by
  have hz : (zeroValue 43).run Try.prog w = .ok (.agg (evc zv)) w := Try.zeroValue43 w
  obtain ⟨v, ps, hr, hv⟩ := h.look_ok lawS Try.underlying47 hz (zd := .held (.agg (evc zv))) (zp := []) rfl (keyF hs)
  have e1 := tokE_inv hv
  rw [hT.2.1 s] at e1
  simp only [DataW.held.injEq] at e1
  rw [hr, hT.has s ht, e1]
theorem updE {w : World} {b n : Nat} {D : DataW Value} {K : List (List UInt8)} {g : List UInt8 → Ev} (h : OwnG w b n D) (hT : TellsE D K g) {s : List UInt8} (hs : s.length ≤ 9223372036854775807) (hn : n < 1000000) (u : Ev) :
    ∃ w', (Instr.mapUpdate 47 (.map (some b)) (.string (sb s)) (.agg (evc u))).run Try.prog w = .ok () w' ∧ (∃ D', OwnG w' b (n + 1) D' ∧ TellsE D' (K ++ [s]) (fun t => if t = s then u else g t)) ∧ w.grownBy w' (some b) := by
  obtain ⟨w5, hr5, hM5, hg5⟩ := h.update lawS Try.underlying47 (by unfold maxLen; omega) (keyF hs) (val := .agg (evc u)) (d := .held (.agg (evc u))) (ps := []) rfl
  exact ⟨w5, hr5, ⟨_, hM5, hT.put s u⟩, hg5⟩
theorem kind_beq7 (k : Int) : (k == 7) = decide (k = 7) := by rw [Bool.eq_iff_iff]; simp
theorem zisadd_any (u : Ev) (w : World) : Calls Try.prog 27 #[.agg (opc u)] w fun e w' => e = .returned (.bool (zsE u)) ∧ Below w.heap.size w w' := by
  have HB : Hid (Below w.heap.size w (w.alloc (.cells (opc u) 41))) := (Below.refl _ w).alloc (Nat.le_refl _) _
  have c0 := (liesO_new w u).c0
  unfold zsE
  go_enter Try.func27, Try.ntmps27
  go_wp2
  all_goals
    go_ret
    refine ⟨?_, HB.out⟩
    show Ending.returned (.bool (u.kind == 7)) = _
    rw [kind_beq7]
end Go.Proofs.Ytmacebekodndjaa
