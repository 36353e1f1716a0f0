/-
  What typeOf, latestType, ofKey and Type come to.
-/
import Derived.Test.YtagjgamigldjnaaLal
namespace Go.Proofs.Ytagjgamigldjnaa
set_option maxRecDepth 100000
open Go.RowKit

theorem range_at {w : World} {b k : Nat} {e : Ev} (h : w.rangeAt b k (evl e)) (hl : e.deps.length = 16) (j : Nat) : w.cell? ⟨b, k + (19 + j), none⟩ = (opl e)[j]? ∨ (opl e)[j]? = none := by
  cases hj : (opl e)[j]? with
  | none => exact .inr rfl
  | some v => exact .inl (h (19 + j) v (by rw [evl_hi hl]; exact hj))
theorem range_kind {w : World} {b k : Nat} {e : Ev} (h : w.rangeAt b k (evl e)) (hl : e.deps.length = 16) : w.cell? ⟨b, k + 19, none⟩ = some (.int .i64 e.kind) := (range_at h hl 0).resolve_right (by simp [opl])
theorem range_key {w : World} {b k : Nat} {e : Ev} (h : w.rangeAt b k (evl e)) (hl : e.deps.length = 16) : w.cell? ⟨b, k + 20, none⟩ = some (.string (sb e.key)) := (range_at h hl 1).resolve_right (by simp [opl])
theorem range_field {w : World} {b k : Nat} {e : Ev} (h : w.rangeAt b k (evl e)) (hl : e.deps.length = 16) : w.cell? ⟨b, k + 21, none⟩ = some (.string (sb e.field)) := (range_at h hl 2).resolve_right (by simp [opl])
theorem last_at {S : List Ev} {k : Nat} {u : Ev} (hl : S.length = k + 1) (h : S[k]? = some u) : lastE S = typE u.kind := by
  unfold lastE
  rw [List.getLast?_eq_getElem?, hl, Nat.add_sub_cancel, h]
def keyTo (key : List UInt8) (E : List Ev) (i : Nat) : List Ev := ofKeyE key (E.take i)
theorem keyTo_succ {key : List UInt8} {E : List Ev} {i : Nat} {u : Ev} (h : E[i]? = some u) : keyTo key E (i + 1) = if u.key = key then keyTo key E i ++ [u] else keyTo key E i := by
  unfold keyTo ofKeyE
  rw [take_snoc h, List.filter_append, List.filter_cons, List.filter_nil]
  by_cases hk : u.key = key <;> simp [hk]
theorem keyTo_len (key : List UInt8) (E : List Ev) (i : Nat) : (keyTo key E i).length ≤ i := by
  unfold keyTo ofKeyE
  have := List.length_filter_le (fun e => decide (e.key = key)) (E.take i)
  have := List.length_take_le i E
  omega
theorem sb_beq (a b : List UInt8) : ((sb a).toList == (sb b).toList) = decide (a = b) := by
  rw [ByteArray.toList_eq, ByteArray.toList_eq, data_sb, data_sb, Bool.eq_iff_iff]
  simp
theorem evs_wide {w : World} {ao : Option Addr} {m c : Nat} {E : List Ev} (h : Evs w ao m c E) {F : List Ev} (hF : ∀ e ∈ F, e ∈ E) : ∀ e ∈ F, Wide e := fun e he => h.wide e (hF e he)
theorem mem_ofKey {key : List UInt8} {l : List Ev} {e : Ev} (h : e ∈ ofKeyE key l) : e ∈ l := (List.mem_filter.1 h).1
theorem mem_all {l : List Ev} {e : Ev} (h : e ∈ allE l) : e ∈ l := (all_mem.1 h).1
theorem ofKey_len (key : List UInt8) (l : List Ev) : (ofKeyE key l).length ≤ l.length := List.length_filter_le _ _
end Go.Proofs.Ytagjgamigldjnaa
