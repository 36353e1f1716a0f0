/-
  What awake comes to; Add and Trim of a log that is known; a law's logs.
-/
import Derived.Test.YteanpepmncgagaaLsa
namespace Go.Proofs.Yteanpepmncgagaa
set_option maxRecDepth 100000
open Go.RowKit

theorem enters_plen (xs : Array Value) (w : World) : (callFunc 17 xs).run Try.prog w = .ok (.enter 17 xs) w := enters Try.func17 (by kernel_rfl) (by kernel_rfl) xs w
theorem enters_pfor (xs : Array Value) (w : World) : (callFunc 13 xs).run Try.prog w = .ok (.enter 13 xs) w := enters Try.func13 (by kernel_rfl) (by kernel_rfl) xs w
theorem enters_rfor (xs : Array Value) (w : World) : (callFunc 14 xs).run Try.prog w = .ok (.enter 14 xs) w := enters Try.func14 (by kernel_rfl) (by kernel_rfl) xs w
theorem enters_ptrim (xs : Array Value) (w : World) : (callFunc 15 xs).run Try.prog w = .ok (.enter 15 xs) w := enters Try.func15 (by kernel_rfl) (by kernel_rfl) xs w
theorem enters_rtrim (xs : Array Value) (w : World) : (callFunc 16 xs).run Try.prog w = .ok (.enter 16 xs) w := enters Try.func16 (by kernel_rfl) (by kernel_rfl) xs w
theorem enters_pevents (xs : Array Value) (w : World) : (callFunc 18 xs).run Try.prog w = .ok (.enter 18 xs) w := enters Try.func18 (by kernel_rfl) (by kernel_rfl) xs w
theorem enters_same (xs : Array Value) (w : World) : (callFunc 12 xs).run Try.prog w = .ok (.enter 12 xs) w := enters Try.func12 (by kernel_rfl) (by kernel_rfl) xs w
theorem src_ptr {w : World} {g g' : Nat} {v v' : Value} {E : List Ev} (h : Lp 31 w g v E) (hs : Src w (.pointer (some ⟨g, 0, none⟩)) g' v') : g' = g ∧ v' = v := by
  rcases hs with ⟨hp, hc⟩ | ⟨hp, -⟩
  · injection hp with hp; injection hp with hp; injection hp with hp
    subst hp
    exact ⟨rfl, h.uniq hc⟩
  · cases hp
theorem src_nil {w : World} {g : Nat} {v : Value} (hs : Src w (.pointer none) g v) : w.heap.size ≤ g ∧ v = .slice none 0 0 := by
  rcases hs with ⟨hp, -⟩ | ⟨-, h⟩
  · cases hp
  · exact h
theorem padd_at (g : Nat) (v : Value) (E : List Ev) (e : Ev) (he : Wide e) (hm : E.length ≤ 100000) (w : World) (h : Lp 31 w g v E) : Calls Try.prog 11 #[.pointer (some ⟨g, 0, none⟩), .agg (evc e)] w fun ex w' => ex = .returned (.tuple #[]) ∧ ∃ v', Lp 31 w' g v' (E ++ [e]) ∧ Tn g v.ownBlock v'.ownBlock w w' := by
  refine (padd_any _ E e he hm w h.lp).mono ?_
  rintro ex w' ⟨rfl, g', v0, v', hL, hT, hs⟩
  obtain ⟨rfl, rfl⟩ := src_ptr h hs
  exact ⟨rfl, v', hL, hT⟩
theorem ptrim_at (g : Nat) (v : Value) (E : List Ev) (x : List Int) (hx : x.length = 16) (hm : E.length ≤ 1000) (w : World) (h : Lp 31 w g v E) : Calls Try.prog 15 #[.pointer (some ⟨g, 0, none⟩), .agg (vals x)] w fun ex w' => ex = .returned (.int .i64 ((E.length - (trimE E x).length : Nat) : Int)) ∧ ∃ v', Lp 31 w' g v' (trimE E x) ∧ Tn g v.ownBlock v'.ownBlock w w' := by
  refine (ptrim_any _ E x hx hm w h.lp).mono ?_
  rintro ex w' ⟨rfl, g', v0, v', hL, hT, hs⟩
  obtain ⟨rfl, rfl⟩ := src_ptr h hs
  exact ⟨rfl, v', hL, hT⟩
theorem padd_nil (e : Ev) (he : Wide e) (w : World) : Calls Try.prog 11 #[.pointer none, .agg (evc e)] w fun ex w' => ex = .returned (.tuple #[]) ∧ Below w.heap.size w w' := by
  refine (padd_any _ [] e he (by simp) w (.inr ⟨rfl, rfl⟩)).mono ?_
  rintro ex w' ⟨rfl, g', v0, v', hL, hT, hs⟩
  obtain ⟨h1, rfl⟩ := src_nil hs
  exact ⟨rfl, hT.below (Nat.le_refl _) h1 (fun k hk => by cases hk)⟩
theorem ptrim_nil (x : List Int) (hx : x.length = 16) (w : World) : Calls Try.prog 15 #[.pointer none, .agg (vals x)] w fun ex w' => ex = .returned (.int .i64 0) ∧ Below w.heap.size w w' := by
  refine (ptrim_any _ [] x hx (by simp) w (.inr ⟨rfl, rfl⟩)).mono ?_
  rintro ex w' ⟨rfl, g', v0, v', hL, hT, hs⟩
  obtain ⟨h1, rfl⟩ := src_nil hs
  exact ⟨by simp, hT.below (Nat.le_refl _) h1 (fun k hk => by cases hk)⟩
/-! A law's logs: all that they have lies above what came in. -/
structure Lw (t : TypeId) (F : Nat) (w : World) (g : Nat) (v : Value) (E : List Ev) : Prop where
  lp : Lp t w g v E
  lo : F ≤ g
  own : ∀ k, v.ownBlock = some k → F ≤ k
section
variable {t t' : TypeId} {F : Nat} {w w' : World} {g g' : Nat} {v v' u u' : Value} {E E' A B : List Ev}
theorem Lw.below (h : Lw t F w g v E) (hb : Below w.heap.size w w') : Lw t F w' g v E := ⟨h.lp.below hb (Nat.le_refl _), h.lo, h.own⟩
theorem Lw.drew (h : Lw t F w g v E) : Lw t F w.drew g v E := ⟨h.lp.kept rfl fun _ _ => rfl, h.lo, h.own⟩
theorem Lw.turn (h : Lw t F w g v E) (hF : F ≤ w.heap.size) (hL : Lp t w' g v' E') (hT : Tn g v.ownBlock v'.ownBlock w w') : Lw t F w' g v' E' ∧ Below F w w' :=
  ⟨⟨hL, h.lo, fun k hk => by
    rcases hT.own k hk with h1 | h1
    · exact h.own k h1
    · omega⟩, hT.below hF h.lo h.own⟩
/-- Two logs share nothing. -/
structure Ap (g g' : Nat) (v u : Value) : Prop where
  ne : g ≠ g'
  own : ∀ k, v.ownBlock = some k → u.ownBlock ≠ some k
theorem Ap.symm (h : Ap g g' v u) : Ap g' g u v := ⟨h.ne.symm, fun k hk hv => h.own k hv hk⟩
/-- One of two logs has turned. -/
theorem Ap.turn (h : Ap g g' v u) (ht : t ≠ 39) (ht' : t' ≠ 39) (hA : Lp t w g v E) (hB : Lw t' F w g' u A) (hT : Tn g v.ownBlock v'.ownBlock w w') : Ap g g' v' u ∧ Lw t' F w' g' u A :=
  ⟨⟨h.ne, fun k hk hu => by
    rcases hT.own k hk with h1 | h1
    · exact h.own k h1 hu
    · have := hB.lp.rowLt hu
      omega⟩, hB.lp.other ht' hA ht hT h.ne.symm (fun k hk hv => h.own k hv hk), hB.lo, hB.own⟩
theorem lw_new (w : World) (t : TypeId) (hF : F ≤ w.heap.size) : Lw t F (w.alloc (.cells #[.slice none 0 0] t)) w.heap.size (.slice none 0 0) [] := ⟨lp_new w t, hF, fun k hk => by cases hk⟩
end
/-! awake. -/
def aw1 : Ev := { zv with n := 1 }
def one16 : List Int := [1, 0, 0, 0, 0, 0, 0, 0, 0, 0, 0, 0, 0, 0, 0, 0]
theorem aw1_wide : Wide aw1 := ⟨rfl, ⟨by simp [aw1, zv], by simp [aw1, zv], by simp [aw1, zv]⟩⟩
theorem build_aw0 (w : World) : (Instr.build 33 #[(1, .int .i64 1)]).run Try.prog w = .ok (.agg (dotc 0 1)) w := by kernel_rfl
theorem build_aw1 (w : World) : (Instr.build 39 #[(0, .agg (dotc 0 1))]).run Try.prog w = .ok (.agg (evc aw1)) w := by kernel_rfl
theorem build_one (w : World) : (Instr.build 35 #[(0, .int .i64 1)]).run Try.prog w = .ok (.agg (vals one16)) w := by kernel_rfl
theorem build_zero (w : World) : (Instr.build 35 #[]).run Try.prog w = .ok (.agg (vals zeros)) w := by kernel_rfl
theorem for_aw : forE [aw1] zeros one16 1 = [aw1] := by rfl
set_option maxHeartbeats 1000000 in
theorem pawake_any (w : World) : Calls Try.prog 9 #[] w fun e w' => e = .returned (.bool true) ∧ Below w.heap.size w w' := by
  have hN := pnew_any w
  have hL0 := lw_new (F := w.heap.size) w 31 (Nat.le_refl _)
  have hb0 : Below w.heap.size w (w.alloc (.cells #[.slice none 0 0] 31)) := (Below.refl _ w).alloc (Nat.le_refl _) _
  generalize hW : w.alloc (.cells #[.slice none 0 0] 31) = W at *
  have hA := padd_at w.heap.size (.slice none 0 0) [] aw1 aw1_wide (by simp) W hL0.lp
  have h1 := build_aw0
  have h2 := build_aw1
  have he := eql_lp W ⟨w.heap.size, 0, none⟩
  go_enter Try.func9, Try.ntmps9
  go_wp2_with fail
  refine Calls.mono hN ?_
  rintro e w1 ⟨rfl, hw⟩
  obtain rfl := hw.symm
  clear hw hN hW
  go_wp2_with (first
    | (refine wpList_b1 (ty := 33) (i := 1) (x := .const (.int .i64 1)) (p := .int .i64 1) (v := .agg (dotc 0 1)) rfl rfl rfl (h1 _) ?_)
    | (refine wpList_b1 (ty := 39) (i := 0) (x := .tmp 6) (p := .agg (dotc 0 1)) (v := .agg (evc aw1)) rfl rfl rfl (h2 _) ?_))
  refine Calls.mono hA ?_
  rintro e w2 ⟨rfl, v', hL, hT⟩
  obtain ⟨hL2, hB2⟩ := hL0.turn hb0.size hL hT
  have hB2 := hb0.trans hB2
  have hlen := plen_any _ _ w2 hL2.lp.lp
  clear hL hT hL0 hb0 h1 h2 he hA
  rw [List.nil_append] at hL2 hlen
  go_wp2_with fail
  refine Calls.mono hlen ?_
  rintro e w3 ⟨rfl, hb3⟩
  have hL3 := hL2.below hb3
  have hB3 := hB2.trans (hb3.mono hB2.size)
  have hz := build_zero
  have ho := build_one
  have hFo := pfor_any _ [aw1] zeros one16 rfl rfl 1 (by simp) w3 hL3.lp.lp
  rw [for_aw] at hFo
  have HB3 : Hid (Below w.heap.size w w3) := hB3
  clear hL2 hb3 hlen hB2 hL3 hB3
  go_wp2_with (first
    | (refine wpList_b0 (ty := 35) (v := .agg (vals zeros)) rfl rfl (hz _) ?_)
    | (refine wpList_b1 (ty := 35) (i := 0) (x := .const (.int .i64 1)) (p := .int .i64 1) (v := .agg (vals one16)) rfl rfl rfl (ho _) ?_))
  refine Calls.mono hFo ?_
  rintro e w4 ⟨r, rfl, hR, hb4⟩
  obtain ⟨ao, c, rfl, -⟩ := hR.evs (fun e he => by rw [List.mem_singleton.1 he]; exact aw1_wide)
  have HB4 : Hid (Below w.heap.size w w4) := HB3.out.trans (hb4.mono HB3.out.size)
  clear hR hb4 HB3 hFo hz ho
  go_wp2
  go_ret
  exact ⟨rfl, HB4.out⟩
end Go.Proofs.Yteanpepmncgagaa
