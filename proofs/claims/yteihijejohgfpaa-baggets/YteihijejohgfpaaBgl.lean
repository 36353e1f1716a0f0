/-
  What Len and Get come to.
-/
import Derived.Test.YteihijejohgfpaaBbg
namespace Go.Proofs.Yteihijejohgfpaa
open Go.RowKit

set_option maxHeartbeats 400000 in
theorem len_core (p : Option Addr) (g : Nat) (m : Option Nat) (S : List (It Int)) (w W : World) (hz : Orz w p g W) (h : Bg W g m S) :
    Calls Try.prog 20 #[.pointer p] w fun e w' => e = .returned (.int .i64 (S.length : Int)) ∧ w' = W := by
  have hc := h.c0
  have hl : ∀ ty, (Builtin.len_ #[30] ty #[.map m]).run Try.prog W = .ok (.int .i64 (S.length : Int)) W := by
    rcases h.map with ⟨rfl, rfl⟩ | ⟨b, rfl, hm⟩
    · exact len_nil W
    · exact hm.len
  clear h
  generalize S.length = n at *
  go_enter Try.func20, Try.ntmps20
  go_wp2_with (go_at_call 30; refine Calls.mono hz ?_; rintro e w2 ⟨rfl, rfl⟩)
  go_ret
  exact ⟨rfl, rfl⟩

theorem len_any (g : Nat) (m : Option Nat) (S : List (It Int)) (w : World) (h : Bg w g m S) :
    Calls Try.prog 20 #[.pointer (some ⟨g, 0, none⟩)] w fun e w' => e = .returned (.int .i64 (S.length : Int)) ∧ w' = w := len_core _ g m S w w (Orz.some g w) h

set_option maxHeartbeats 1000000 in
set_option maxRecDepth 100000 in
theorem get_any (g : Nat) (m : Option Nat) (S : List (It Int)) (r n : Int) (w : World) (h : Bg w g m S) :
    Calls Try.prog 13 #[.pointer (some ⟨g, 0, none⟩), .agg (dotc r n)] w fun e w' => e = .returned (.tuple #[Value.int .i64 (gets S r n).x, .bool (hasD S r n)]) ∧ Below w.heap.size w w' := by
  obtain ⟨W, hW⟩ : ∃ W, w.alloc (.cells (dotc r n) 34) = W := ⟨_, rfl⟩
  have h0 : Bg W g m S := hW ▸ h.alloc _
  have hD : LiesD W w.heap.size r n := hW ▸ liesD_new w r n
  have hb : Below w.heap.size w W := hW ▸ (Below.refl _ w).alloc (Nat.le_refl _) _
  have kp : ∀ w', Below W.heap.size W w' → w'.cell? ⟨g, 0, none⟩ = some (.map m) ∧ w'.cell? ⟨w.heap.size, 0, none⟩ = some (.int .i64 r) ∧ w'.cell? ⟨w.heap.size, 1, none⟩ = some (.int .i64 n) ∧
      (Instr.lookup 30 (.map m) (.agg #[.int .i64 r, .int .i64 n]) true).run Try.prog w' = .ok (.tuple #[.agg (itc (gets S r n)), .bool (hasD S r n)]) w' ∧ Below W.heap.size W w' := fun w' hb =>
    ⟨(h0.below hb (Nat.le_refl _)).c0, (hD.below hb hD.lt).cell0, (hD.below hb hD.lt).cell1, (h0.below hb (Nat.le_refl _)).lookup r n w' rfl, hb⟩
  simp only [itc] at kp
  have KP : Hid _ := kp
  generalize gets S r n = i at *
  generalize hasD S r n = b at *
  clear h0 hD h kp
  go_enter Try.func13, Try.ntmps13
  go_wp2
  clear hW
  go_region_held3 (fun w' => w'.cell? ⟨g, 0, none⟩ = some (.map m) ∧ w'.cell? ⟨w.heap.size, 0, none⟩ = some (.int .i64 r) ∧ w'.cell? ⟨w.heap.size, 1, none⟩ = some (.int .i64 n) ∧
      (Instr.lookup 30 (.map m) (.agg #[.int .i64 r, .int .i64 n]) true).run Try.prog w' = .ok (.tuple #[.agg #[.int .i64 i.r, .int .i64 i.n, Value.int .i64 i.x], .bool b]) w' ∧ Below W.heap.size W w')
    (first | assumption | exact KP.out _ (Below.refl _ W).drew | exact KP.out _ ((Below.refl _ W).alloc (Nat.le_refl _) _).drew | exact KP.out _ (((((Below.refl _ W).alloc (Nat.le_refl _) _).drew.setCell (Nat.le_refl _) _).setCell (Nat.le_refl _) _).setCell (Nat.le_refl _) _))
    (first | (go_at_call 30; refine (orz_some g _).mono ?_; rintro e w2 ⟨rfl, rfl⟩))
  all_goals
    go_wp2
    go_ret2
    exact ⟨rfl, hb.trans (((Below.refl _ W).alloc (Nat.le_refl _) _).drew.mono hb.size)⟩
end Go.Proofs.Yteihijejohgfpaa
