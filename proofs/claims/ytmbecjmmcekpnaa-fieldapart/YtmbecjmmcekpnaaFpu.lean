/-
  Fields and their values, plainly.
-/
import Derived.Test.YtmbecjmmcekpnaaGrf
namespace Go.Proofs.Ytmbecjmmcekpnaa
set_option maxRecDepth 100000

/-- It sets a field of a hash. -/
def hsE (u : Ev) : Bool := decide (u.kind = 5)
/-- It sets this one. -/
def selE (s : List UInt8) (u : Ev) : Bool := hsE u && decide (u.field = s)
def ofF (E : List Ev) (s : List UInt8) : List Ev := E.filter (selE s)
def fldF (E : List Ev) : List (List UInt8) := (E.filter hsE).map fun e => e.field
def lastF (E : List Ev) (s : List UInt8) : Option Ev := latL anyE (ofF E s)
def valF (E : List Ev) (s : List UInt8) : List UInt8 := (orz (lastF E s)).value
def okF (E : List Ev) (s : List UInt8) : Bool := (lastF E s).isSome

theorem ofF_take {E : List Ev} {i : Nat} {u : Ev} (h : E[i]? = some u) (s : List UInt8) : ofF (E.take (i + 1)) s = if selE s u then ofF (E.take i) s ++ [u] else ofF (E.take i) s := by
  unfold ofF
  rw [take_snoc h, List.filter_append]
  by_cases hu : selE s u = true
  · simp [hu]
  · simp [hu]
theorem ofF_len (E : List Ev) (s : List UInt8) : (ofF E s).length ≤ E.length := List.length_filter_le _ _
theorem ofF_wide {E : List Ev} (h : ∀ e ∈ E, Wide e) (s : List UInt8) : ∀ e ∈ ofF E s, Wide e := fun e he => h e (List.mem_filter.1 he).1
theorem fldF_take {E : List Ev} {i : Nat} {u : Ev} (h : E[i]? = some u) : fldF (E.take (i + 1)) = if hsE u then fldF (E.take i) ++ [u.field] else fldF (E.take i) := by
  unfold fldF
  rw [take_snoc h, List.filter_append, List.map_append]
  by_cases hu : hsE u = true
  · simp [hu]
  · simp [hu]
theorem fldF_len (E : List Ev) : (fldF E).length ≤ E.length := by
  unfold fldF
  rw [List.length_map]
  exact List.length_filter_le _ _
theorem fldF_mem {E : List Ev} {s : List UInt8} : s ∈ fldF E ↔ ∃ e ∈ E, selE s e = true := by
  unfold fldF selE
  simp only [List.mem_map, List.mem_filter, Bool.and_eq_true, decide_eq_true_eq]
  exact ⟨fun ⟨e, ⟨h1, h2⟩, h3⟩ => ⟨e, h1, h2, h3⟩, fun ⟨e, h1, h2, h3⟩ => ⟨e, ⟨h1, h2⟩, h3⟩⟩
theorem lastF_eq (E : List Ev) (s : List UInt8) : lastF E s = latL (selE s) E := (latL_filter _ _).symm
theorem okF_iff (E : List Ev) (s : List UInt8) : okF E s = true ↔ s ∈ fldF E := by
  unfold okF
  rw [lastF_eq, fldF_mem]
  cases h : latL (selE s) E with
  | none =>
    have hn := lat_none h
    refine ⟨fun hh => (by cases hh), fun ⟨e, he, hs⟩ => ?_⟩
    rw [hn e he] at hs
    cases hs
  | some a => exact ⟨fun _ => ⟨a, lat_mem h, (lat_top h).1⟩, fun _ => rfl⟩
/-- Members alone count where dots are unlike. -/
theorem lastF_same {E M : List Ev} (hu : Unlike E) (hm : ∀ x, x ∈ M ↔ x ∈ E) (s : List UInt8) : lastF M s = lastF E s := by
  rw [lastF_eq, lastF_eq]
  exact lat_same hu hm
theorem valF_same {E M : List Ev} (hu : Unlike E) (hm : ∀ x, x ∈ M ↔ x ∈ E) (s : List UInt8) : valF M s = valF E s := by
  unfold valF
  rw [lastF_same hu hm]
theorem fldF_same {E M : List Ev} (hm : ∀ x, x ∈ M ↔ x ∈ E) (s : List UInt8) : s ∈ fldF M ↔ s ∈ fldF E := by
  rw [fldF_mem, fldF_mem]
  exact ⟨fun ⟨e, h1, h2⟩ => ⟨e, (hm e).1 h1, h2⟩, fun ⟨e, h1, h2⟩ => ⟨e, (hm e).2 h1, h2⟩⟩
/-- By the events of this field alone. -/
def ownF (E : List Ev) (s : List UInt8) : List Ev := E.filter fun e => decide (e.field = s)
theorem ownF_take {E : List Ev} {i : Nat} {u : Ev} (h : E[i]? = some u) (s : List UInt8) : ownF (E.take (i + 1)) s = if decide (u.field = s) then ownF (E.take i) s ++ [u] else ownF (E.take i) s := by
  unfold ownF
  rw [take_snoc h, List.filter_append]
  by_cases hu : u.field = s
  · simp [hu]
  · simp [hu]
theorem ownF_len (E : List Ev) (s : List UInt8) : (ownF E s).length ≤ E.length := List.length_filter_le _ _
theorem ownF_of (E : List Ev) (s : List UInt8) : ofF (ownF E s) s = ofF E s := by
  unfold ofF ownF
  rw [List.filter_filter]
  congr 1
  funext e
  unfold selE
  cases hsE e <;> cases decide (e.field = s) <;> rfl
theorem ownF_last (E : List Ev) (s : List UInt8) : lastF (ownF E s) s = lastF E s := by
  unfold lastF
  rw [ownF_of]
/-- A field and its value. -/
abbrev Pr := List UInt8 × List UInt8
def pairF (E : List Ev) (s : List UInt8) : Pr := (s, valF E s)
end Go.Proofs.Ytmbecjmmcekpnaa
