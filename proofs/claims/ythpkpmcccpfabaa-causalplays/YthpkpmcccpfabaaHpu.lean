/-
  Events as things under dots.
-/
import Derived.Test.YthpkpmcccpfabaaYzre
import Derived.Test.YthpkpmcccpfabaaLev
namespace Go.Proofs.Ythpkpmcccpfabaa
set_option maxRecDepth 100000
open Go.RowKit

theorem evl_one (e : Ev) : ∀ u ∈ evl e, u.oneCell' = true := by
  have := evc_one e
  rw [Array.all_eq_true_iff_forall_mem] at this
  exact fun u hu => this u (by simpa [evc] using hu)
def evX (e : Ev) : Cx 26 := if h : e.deps.length = 16 then ⟨evl e, evl_length e h, evl_one e⟩ else E.zx
theorem evX_l {e : Ev} (h : e.deps.length = 16) : (evX e).l = evl e := by unfold evX; rw [dif_pos h]
theorem evX_c {e : Ev} (h : e.deps.length = 16) : (evX e).l.toArray = evc e := by rw [evX_l h, evc]
def eit (e : Ev) : It (Cx 26) := ⟨e.r, e.n, evX e⟩
def befE (a b : Ev) : Bool := decide (a.r < b.r ∨ (a.r = b.r ∧ a.n < b.n))
def putE (L : List Ev) (e : Ev) : List Ev := L.filter (fun a => befE a e) ++ e :: L.filter (fun a => befE e a)
theorem put_eit (L : List Ev) (e : Ev) : put (L.map eit) (eit e) = (putE L e).map eit := by
  unfold put putE
  rw [List.filter_map, List.filter_map, List.map_append, List.map_cons]
  rfl
/-- In their dots' order. -/
def SrE (L : List Ev) : Prop := L.Pairwise fun a b => befE a b = true
theorem srt_eit {L : List Ev} : Srt (L.map eit) ↔ SrE L := by
  unfold Srt SrE
  rw [List.pairwise_map]
  exact Iff.rfl
theorem befE_iff {a b : Ev} : befE a b = true ↔ (a.r < b.r ∨ (a.r = b.r ∧ a.n < b.n)) := by simp [befE]
theorem SrE.same {L : List Ev} (h : SrE L) {a b : Ev} (ha : a ∈ L) (hb : b ∈ L) (hr : a.r = b.r) (hn : a.n = b.n) : a = b := by
  induction L with
  | nil => simp at ha
  | cons x L ih =>
    obtain ⟨h1, h2⟩ := List.pairwise_cons.1 h
    rcases List.mem_cons.1 ha with e1 | ha'
    · rcases List.mem_cons.1 hb with e2 | hb'
      · rw [e1, e2]
      · have := befE_iff.1 (h1 b hb'); rw [e1] at hr hn; omega
    · rcases List.mem_cons.1 hb with e2 | hb'
      · have := befE_iff.1 (h1 a ha'); rw [e2] at hr hn; omega
      · exact ih h2 ha' hb'
end Go.Proofs.Ythpkpmcccpfabaa
