/-
  The calls of a nil bag; what drops comes to.
-/
import Derived.Test.YteihijejohgfpaaBgt
import Derived.Test.YteihijejohgfpaaBop
import Derived.Test.YteihijejohgfpaaBsm
namespace Go.Proofs.Yteihijejohgfpaa
set_option maxRecDepth 100000
open Go.RowKit

theorem put_nil (i : It Int) (w : World) : Calls Try.prog 11 #[.pointer none, .agg (dotc i.r i.n), .int .i64 i.x] w fun e w' => e = .returned (.tuple #[]) ∧ Below w.heap.size w w' := by
  have hb : Below w.heap.size w ((w.alloc (.cells (dotc i.r i.n) 34)).alloc (.cells #[.map none] 32)) := ((Below.refl _ w).alloc (Nat.le_refl _) _).alloc (by simp) _
  refine (put_core none _ none [] i w _ (Orz.nil _) (bg_new _) ((liesD_new w i.r i.n).alloc _)).mono ?_
  rintro e w' ⟨he, m', -, ht⟩
  exact ⟨he, hb.trans (ht.below (by simp; omega) (by simp) (fun k e => nomatch e))⟩
theorem remove_nil (r n : Int) (w : World) : Calls Try.prog 15 #[.pointer none, .agg (dotc r n)] w fun e w' => e = .returned (.bool false) ∧ Below w.heap.size w w' := by
  have hb : Below w.heap.size w ((w.alloc (.cells (dotc r n) 34)).alloc (.cells #[.map none] 32)) := ((Below.refl _ w).alloc (Nat.le_refl _) _).alloc (by simp) _
  refine (remove_core none _ none [] r n w _ (Orz.nil _) (bg_new _) ((liesD_new w r n).alloc _)).mono ?_
  rintro e w' ⟨he, -, ht⟩
  exact ⟨he, hb.trans (ht.below (by simp; omega) (by simp) (fun k e => nomatch e))⟩
theorem drop_nil (v : List Int) (hv : v.length = 16) (q : Int → Bool) (wv : Value) (hq : WhP q wv) (w : World) (hwv : wv = .nilFunc ∨ ∃ f, wv = .func (.func f) #[] #[]) :
    Calls Try.prog 26 #[.pointer none, .agg (vals v), wv] w fun e w' => e = .returned (.int .i64 0) ∧ Below w.heap.size w w' := by
  have hb : Below w.heap.size w (((w.alloc (.cells (vals v) 36)).alloc (.cells #[wv] 45)).alloc (.cells #[.map none] 32)) := (((Below.refl _ w).alloc (Nat.le_refl _) _).alloc (by simp) _).alloc (by simp; omega) _
  have hc : (((w.alloc (.cells (vals v) 36)).alloc (.cells #[wv] 45)).alloc (.cells #[.map none] 32)).cell? ⟨w.heap.size + 1, 0, none⟩ = some wv := by
    have h1 := heap_alloc_new (w.alloc (.cells (vals v) 36)) (.cells #[wv] 45)
    rw [World.size_alloc] at h1
    have h2 := Below.heap_alloc ((w.alloc (.cells (vals v) 36)).alloc (.cells #[wv] 45)) (.cells #[.map none] 32) (w.heap.size + 1) (by simp)
    exact cell_of_row _ _ 0 _ _ _ (h2.trans h1)
  refine (drop_core none _ none [] v hv q wv hq w _ (Orz.nil _) (bg_new _) (by simp) (((lies_new w v).alloc _).alloc _) hc hwv).mono ?_
  rintro e w' ⟨he, -, ht⟩
  exact ⟨he, hb.trans (ht.below (by simp; omega) (by simp; omega) (fun k e => nomatch e))⟩
theorem blen_nil (w : World) : Calls Try.prog 20 #[.pointer none] w fun e w' => e = .returned (.int .i64 0) ∧ Below w.heap.size w w' := by
  refine (len_core none _ none [] w _ (Orz.nil _) (bg_new _)).mono ?_
  rintro e w' ⟨he, rfl⟩
  exact ⟨he, (Below.refl _ w).alloc (Nat.le_refl _) _⟩
theorem items_nil (w : World) : Calls Try.prog 22 #[.pointer none] w fun e w' => ∃ ao cap, e = .returned (.slice ao 0 cap) ∧ Below w.heap.size w w' := by
  have hb : Below w.heap.size w (w.alloc (.cells #[.map none] 32)) := (Below.refl _ w).alloc (Nat.le_refl _) _
  refine (items_core none _ none [] w _ (Orz.nil _) (bg_new _) (by simp)).mono ?_
  rintro e w' ⟨v, he, hr, hb'⟩
  obtain ⟨ao, cap, rfl, -, -⟩ := hr.val
  exact ⟨ao, cap, he, hb.trans (hb'.mono hb.size)⟩

theorem load_vcl {ops : Array Oper} {rest : List Oper} {op : Oper} {a : Act} {w : World} {Q : Exit → Act → World → Prop} {x : Operand} {g : Nat} {o : Cl} (hgd : op.guard = none) (ho : op.op = .load 36 x)
    (hx : a.eval x = .pointer (some ⟨g, 4, none⟩)) (hC : LiesC w g o) (hl : o.v.length = 16) (h : wpList Try.prog ops Q rest (a.put op.dst (.agg (vals o.v))) w) : wpList Try.prog ops Q (op :: rest) a w :=
  wpList_load_mid hgd 36 x ho g 4 hx _ _ hC.vec under_vv rfl (info_vv hl) h
/-- Of odd numbers, or of all. -/
def whq (o : Cl) : Int → Bool := if oddb o.x then oddb else fun _ => true
set_option maxHeartbeats 2000000 in
theorem drops_core (p : Option Addr) (o : Cl) (hv : o.v.length = 16) (w : World) (R : (Int → Bool) → Int → World → Prop)
    (hD : ∀ q wv, WhP q wv → (wv = .nilFunc ∨ ∃ f, wv = .func (.func f) #[] #[]) → Calls Try.prog 26 #[.pointer p, .agg (vals o.v), wv] (w.alloc (.cells (clc o) 38)) (fun e w' => ∃ k : Int, e = .returned (.int .i64 k) ∧ R q k w')) :
    Calls Try.prog 17 #[.pointer p, .agg (clc o)] w (fun e w' => ∃ k : Int, e = .returned (.int .i64 k) ∧ R (whq o) k w') := by
  obtain ⟨W, hW⟩ : ∃ W, w.alloc (.cells (clc o) 38) = W := ⟨_, rfl⟩
  have hC : LiesC W w.heap.size o := hW ▸ heap_alloc_new w _
  rw [hW] at hD
  have c3 := hC.c3
  have ho := odd_any o.x W
  unfold whq
  cases hx : oddb o.x
  · have h1 := hD _ _ whp_nil (.inl rfl)
    rw [hx] at ho
    rw [if_neg (by simp)]
    clear hD hx
    go_enter Try.func17, Try.ntmps17
    go_wp2_with fail
    refine ho.mono ?_
    rintro e w2 ⟨rfl, hw2⟩
    obtain rfl := hw2.symm
    clear ho hw2 hW
    go_wp2_with (first | refine load_vcl rfl rfl rfl hC hv ?_)
    refine h1.mono ?_
    rintro e w3 ⟨k, rfl, hR⟩
    go_wp2
    go_ret
    exact ⟨k, rfl, hR⟩
  · have h1 := hD _ _ whp_odd (.inr ⟨19, rfl⟩)
    rw [hx] at ho
    rw [if_pos rfl]
    clear hD hx
    go_enter Try.func17, Try.ntmps17
    go_wp2_with fail
    refine ho.mono ?_
    rintro e w2 ⟨rfl, hw2⟩
    obtain rfl := hw2.symm
    clear ho hw2 hW
    go_wp2_with (first | refine load_vcl rfl rfl rfl hC hv ?_)
    refine h1.mono ?_
    rintro e w3 ⟨k, rfl, hR⟩
    go_wp2
    go_ret
    exact ⟨k, rfl, hR⟩
theorem drops_nil (o : Cl) (hv : o.v.length = 16) (w : World) : Calls Try.prog 17 #[.pointer none, .agg (clc o)] w fun e w' => e = .returned (.int .i64 0) ∧ Below w.heap.size w w' := by
  have hb : Below w.heap.size w (w.alloc (.cells (clc o) 38)) := (Below.refl _ w).alloc (Nat.le_refl _) _
  refine (drops_core none o hv w (fun _ k w' => k = 0 ∧ Below w.heap.size w w') (fun q wv hq hwv => ?_)).mono ?_
  · refine (drop_nil o.v hv q wv hq _ hwv).mono ?_
    rintro e w' ⟨rfl, h⟩
    exact ⟨0, rfl, rfl, hb.trans (h.mono hb.size)⟩
  · rintro e w' ⟨k, rfl, rfl, h⟩
    exact ⟨rfl, h⟩
theorem drops_any (g : Nat) (m : Option Nat) (S : List (It Int)) (o : Cl) (hv : o.v.length = 16) (w : World) (h : Bg w g m S) (hl : S.length ≤ 1048576) :
    Calls Try.prog 17 #[.pointer (some ⟨g, 0, none⟩), .agg (clc o)] w fun e w' => e = .returned (.int .i64 ((S.filter (gone o.v (whq o))).length : Int)) ∧ Bg w' g m (S.filter fun i => !gone o.v (whq o) i) ∧ Turn g m m w w' := by
  have hb : Below w.heap.size w (w.alloc (.cells (clc o) 38)) := (Below.refl _ w).alloc (Nat.le_refl _) _
  refine (drops_core _ o hv w (fun q k w' => k = ((S.filter (gone o.v q)).length : Int) ∧ Bg w' g m (S.filter fun i => !gone o.v q i) ∧ Turn g m m w w') (fun q wv hq hwv => ?_)).mono ?_
  · refine (drop_any g m S o.v hv q wv hq _ (h.below hb (Nat.le_refl _)) hl hwv).mono ?_
    rintro e w' ⟨rfl, h1, h2⟩
    exact ⟨_, rfl, rfl, h1, (Turn.of_below m hb).trans h2⟩
  · rintro e w' ⟨k, rfl, rfl, h1, h2⟩
    exact ⟨rfl, h1, h2⟩
/-- The bag and the reference's, that share nothing. -/
structure Br (B : Nat) (w : World) (g : Nat) (m : Option Nat) (S : List (It Int)) (G : Nat) (v : Value) (S2 : List (It Int)) : Prop where
  a : Obg B w g m S
  b : Rb w B G v S2
  low : B ≤ G
theorem apart {w : World} {g B G : Nat} {m : Option Nat} {v : Value} {S S2 : List (It Int)} (h : Bg w g m S) (k : Rb w B G v S2) : g ≠ G ∧ m ≠ some G ∧ ∀ d, v.ownBlock = some d → d ≠ g ∧ m ≠ some d := by
  have hm : ∀ d cs t fr, w.heap[d]? = some (.cells cs t fr) → m ≠ some d := by
    rintro d cs t fr hd rfl
    obtain ⟨b, e, hm⟩ := h.map.resolve_left (by simp)
    obtain rfl := Option.some.inj e
    obtain ⟨es, clock, L, hb, -⟩ := hm
    rw [hd] at hb; cases hb
  refine ⟨?_, hm G _ _ _ k.blk, fun d hd => ?_⟩
  · rintro rfl
    have h1 := h.blk; rw [k.blk] at h1; cases h1
  · obtain ⟨cur, hc⟩ := k.row.cellsAt d hd
    refine ⟨?_, hm d _ _ _ hc⟩
    rintro rfl
    have h1 := h.blk; rw [hc] at h1; cases h1
theorem Br.left {B : Nat} {w w' : World} {g G : Nat} {m m' : Option Nat} {v : Value} {S S' S2 : List (It Int)} (h : Br B w g m S G v S2) (hB : B ≤ w.heap.size) (h' : Bg w' g m' S') (t : Turn g m m' w w') : Br B w' g m' S' G v S2 ∧ Below B w w' := by
  obtain ⟨h1, h2⟩ := h.a.turn hB h' t
  obtain ⟨a1, a2, a3⟩ := apart h.a.bg h.b
  exact ⟨⟨h1, h.b.turn t a1 a2 a3, h.low⟩, h2⟩
theorem Br.right {B : Nat} {w w' : World} {g G : Nat} {m : Option Nat} {v v' : Value} {S S2 S2' : List (It Int)} (h : Br B w g m S G v S2) (hB : B ≤ w.heap.size) (h' : Rb w' w.heap.size G v' S2') (t : Turn G none none w w') : Br B w' g m S G v' S2' ∧ Below B w w' := by
  obtain ⟨a1, a2, a3⟩ := apart h.a.bg h.b
  exact ⟨⟨⟨h.a.bg.turn t a1 (by simp) a2 (fun k _ => by simp), h.a.low, h.a.own⟩, ⟨h'.blk, h'.row.lower hB⟩, h.low⟩, t.below hB h.low (fun k e => nomatch e)⟩
theorem Br.below {B C : Nat} {w w' : World} {g G : Nat} {m : Option Nat} {v : Value} {S S2 : List (It Int)} (h : Br B w g m S G v S2) (hb : Below C w w') (hC : w.heap.size ≤ C) : Br B w' g m S G v S2 :=
  ⟨h.a.below hb hC, h.b.below hb hC, h.low⟩
theorem Rb.drew {w : World} {B G : Nat} {v : Value} {S : List (It Int)} (h : Rb w B G v S) : Rb w.drew B G v S := ⟨h.blk, h.row.keep fun _ _ => rfl⟩
theorem Br.drew {B : Nat} {w : World} {g G : Nat} {m : Option Nat} {v : Value} {S S2 : List (It Int)} (h : Br B w g m S G v S2) : Br B w.drew g m S G v S2 := ⟨h.a.drew, h.b.drew, h.low⟩
theorem br_new (w : World) : Br w.heap.size ((w.alloc (.cells #[.map none] 32)).alloc (.cells #[.slice none 0 0] 29)) w.heap.size none [] (w.heap.size + 1) (.slice none 0 0) [] := by
  have h1 := obg_new w w.heap.size (Nat.le_refl _)
  have h2 := heap_alloc_new (w.alloc (.cells #[.map none] 32)) (.cells #[.slice none 0 0] 29)
  rw [World.size_alloc] at h2
  exact ⟨h1.below ((Below.refl _ _).alloc (Nat.le_refl _) _) (Nat.le_refl _), ⟨h2, rw_nil _ _ _⟩, by omega⟩
end Go.Proofs.Yteihijejohgfpaa
