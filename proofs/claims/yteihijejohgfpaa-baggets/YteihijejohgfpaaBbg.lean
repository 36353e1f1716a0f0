/-
  A bag in memory; what New, orZero, Put, Get, Remove and Len come to.
-/
import Derived.Test.YteihijejohgfpaaBmp
import Derived.BigQuiet
import Derived.Deep.RegionWith
import Derived.Deep.RegionHeld3
namespace Go.Proofs.Yteihijejohgfpaa
open Go.RowKit
open Go.ChangeMaps (setBlock heap_setBlock_same heap_setBlock_other)

/-- A bag lies in a block: its map is nil, or lies in a block of its own. -/
structure Bg (w : World) (g : Nat) (m : Option Nat) (S : List (It Int)) : Prop where
  blk : w.heap[g]? = some (.cells #[.map m] 32 (0, 0))
  map : (m = none ∧ S = []) ∨ ∃ b, m = some b ∧ Mp w b S
/-- What a call may have turned: the bag's block and its map's; the map is then the old one, or a new one. -/
structure Turn (g : Nat) (m m' : Option Nat) (w w' : World) : Prop where
  os : w'.os = w.os
  tape : w'.tape = w.tape
  output : w'.output = w.output
  size : w.heap.size ≤ w'.heap.size
  block : ∀ k, k < w.heap.size → k ≠ g → m ≠ some k → w'.heap[k]? = w.heap[k]?
  own : ∀ k, m' = some k → m = some k ∨ w.heap.size ≤ k

theorem Turn.refl (g : Nat) (m : Option Nat) (w : World) : Turn g m m w w := ⟨rfl, rfl, rfl, Nat.le_refl _, fun _ _ _ _ => rfl, fun _ h => .inl h⟩
theorem Turn.trans {g : Nat} {m m' m'' : Option Nat} {a b c : World} (h : Turn g m m' a b) (k : Turn g m' m'' b c) : Turn g m m'' a c :=
  ⟨k.os.trans h.os, k.tape.trans h.tape, k.output.trans h.output, Nat.le_trans h.size k.size,
   fun i hi hg hv => (k.block i (Nat.lt_of_lt_of_le hi h.size) hg (fun e => by rcases h.own i e with h1 | h1; · exact hv h1
                                                                               · omega)).trans (h.block i hi hg hv),
   fun i hi => by
    rcases k.own i hi with h1 | h1
    · exact h.own i h1
    · exact .inr (Nat.le_trans h.size h1)⟩
theorem Turn.of_below {g : Nat} (m : Option Nat) {w w' : World} (h : Below w.heap.size w w') : Turn g m m w w' :=
  ⟨h.os, h.tape, h.output, h.size, fun k hk _ _ => h.block k hk, fun _ e => .inl e⟩
theorem Turn.below {g B : Nat} {m m' : Option Nat} {w w' : World} (h : Turn g m m' w w') (hB : B ≤ w.heap.size) (hg : B ≤ g) (hv : ∀ k, m = some k → B ≤ k) : Below B w w' :=
  ⟨h.os, h.tape, h.output, h.size, fun k hk => h.block k (by omega) (by omega) (fun e => by have := hv k e; omega)⟩
theorem Bg.lt {w : World} {g : Nat} {m : Option Nat} {S : List (It Int)} (h : Bg w g m S) : g < w.heap.size := (Array.getElem?_eq_some_iff.1 h.blk).1
theorem Bg.own {w : World} {g : Nat} {m : Option Nat} {S : List (It Int)} (h : Bg w g m S) : ∀ k, m = some k → k < w.heap.size ∧ k ≠ g := by
  intro k hk
  rcases h.map with ⟨rfl, -⟩ | ⟨b, rfl, hb⟩
  · cases hk
  · obtain rfl := Option.some.inj hk
    refine ⟨hb.lt, ?_⟩
    rintro rfl
    obtain ⟨es, clock, L, hb, -⟩ := hb
    rw [h.blk] at hb
    cases hb
theorem Bg.srt {w : World} {g : Nat} {m : Option Nat} {S : List (It Int)} (h : Bg w g m S) : Srt S := by
  rcases h.map with ⟨-, rfl⟩ | ⟨b, -, hb⟩
  · exact Srt.nil
  · exact hb.srt
theorem Bg.c0 {w : World} {g : Nat} {m : Option Nat} {S : List (It Int)} (h : Bg w g m S) : w.cell? ⟨g, 0, none⟩ = some (.map m) := cell_of_row w g 0 _ _ _ h.blk
theorem Bg.fz {w : World} {g : Nat} {m : Option Nat} {S : List (It Int)} (h : Bg w g m S) (i : Nat) : w.frozen? ⟨g, i, none⟩ = false := frozen_of_row w g i _ _ h.blk
theorem Bg.kept {w w' : World} {g : Nat} {m : Option Nat} {S : List (It Int)} (h : Bg w g m S) (hb : ∀ k, k < w.heap.size → (k = g ∨ m = some k) → w'.heap[k]? = w.heap[k]?) : Bg w' g m S := by
  refine ⟨by rw [hb g h.lt (.inl rfl)]; exact h.blk, ?_⟩
  rcases h.map with hn | ⟨b, rfl, hm⟩
  · exact .inl hn
  · exact .inr ⟨b, rfl, hm.kept (hb b hm.lt (.inr rfl))⟩
theorem Bg.below {w w' : World} {g B : Nat} {m : Option Nat} {S : List (It Int)} (h : Bg w g m S) (hb : Below B w w') (hB : w.heap.size ≤ B) : Bg w' g m S :=
  h.kept fun k hk _ => hb.block k (by omega)
theorem Bg.alloc {w : World} {g : Nat} {m : Option Nat} {S : List (It Int)} (h : Bg w g m S) (o : Obj) : Bg (w.alloc o) g m S := h.kept fun k hk _ => Below.heap_alloc w o k hk
/-- Another bag's call. -/
theorem Bg.turn {w w' : World} {g g2 : Nat} {m m2 m2' : Option Nat} {S : List (It Int)} (h : Bg w g m S) (ht : Turn g2 m2 m2' w w') (hg : g ≠ g2) (h2 : m2 ≠ some g) (h1 : m ≠ some g2) (h3 : ∀ k, m = some k → m2 ≠ some k) : Bg w' g m S :=
  h.kept fun k hk hor => by
    rcases hor with rfl | hv
    · exact ht.block k hk hg h2
    · exact ht.block k hk (fun e => h1 (by rw [hv, e])) (h3 k hv)
theorem bg_new (w : World) : Bg (w.alloc (.cells #[.map none] 32)) w.heap.size none [] := ⟨heap_alloc_new w _, .inl ⟨rfl, rfl⟩⟩

theorem new_any (w : World) : Calls Try.prog 10 #[] w fun e w' => e = .returned (.pointer (some ⟨w.heap.size, 0, none⟩)) ∧ w' = w.alloc (.cells #[.map none] 32) := by
  go_enter Try.func10, Try.ntmps10
  go_wp2
  go_ret
  exact ⟨rfl, rfl⟩
theorem orz_some (g : Nat) (w : World) : Calls Try.prog 30 #[.pointer (some ⟨g, 0, none⟩)] w fun e w' => e = .returned (.pointer (some ⟨g, 0, none⟩)) ∧ w' = w := by
  go_enter Try.func30, Try.ntmps30
  go_wp2
  go_ret
  exact ⟨rfl, rfl⟩
theorem orz_nil (w : World) : Calls Try.prog 30 #[.pointer none] w fun e w' => e = .returned (.pointer (some ⟨w.heap.size, 0, none⟩)) ∧ w' = w.alloc (.cells #[.map none] 32) := by
  go_enter Try.func30, Try.ntmps30
  go_wp2
  go_ret
  exact ⟨rfl, rfl⟩

theorem eql_map_some (w : World) (b : Nat) : (binOp .eql 30 (.map (some b)) (.map none)).run Try.prog w = .ok (.bool false) w := by kernel_rfl
theorem eql_map_none (w : World) : (binOp .eql 30 (.map none) (.map none)).run Try.prog w = .ok (.bool true) w := by kernel_rfl
/-- What a pointer to a bag, or nil, comes to. -/
def Orz (w : World) (p : Option Addr) (g : Nat) (W : World) : Prop := Calls Try.prog 30 #[.pointer p] w fun e w' => e = .returned (.pointer (some ⟨g, 0, none⟩)) ∧ w' = W
theorem Orz.some (g : Nat) (w : World) : Orz w (some ⟨g, 0, none⟩) g w := orz_some g w
theorem Orz.nil (w : World) : Orz w none w.heap.size (w.alloc (.cells #[.map none] 32)) := orz_nil w
/-- Its map's block is another one then. -/
theorem Bg.blocked {w W : World} {g b : Nat} {S S' : List (It Int)} {o : Obj} (h : Bg w g (some b) S) (hW : W.heap = w.heap) (hm : Mp (setBlock W b o) b S') : Bg (setBlock W b o) g (some b) S' :=
  ⟨by
    have hne := (h.own b rfl).2
    have : (setBlock W b o).heap[g]? = W.heap[g]? := (grownBy_setBlock W b o).block g (by rw [hW]; exact h.lt) (fun e => hne (Option.some.inj e).symm)
    rw [this, hW]; exact h.blk, .inr ⟨b, rfl, hm⟩⟩
theorem Turn.blocked (g b : Nat) (w W : World) (o : Obj) (hW : W.heap = w.heap) (h1 : W.os = w.os) (h2 : W.tape = w.tape) (h3 : W.output = w.output) : Turn g (some b) (some b) w (setBlock W b o) :=
  ⟨h1, h2, h3, by simp [setBlock, hW], fun k hk _ hb => by
    rw [← hW]
    exact (grownBy_setBlock W b o).block k (by rw [hW]; exact hk) (fun e => hb e.symm), fun _ e => .inl e⟩
/-- A new map. -/
theorem Bg.mapped {w : World} {g : Nat} (h : Bg w g none []) : Bg ((w.alloc (.map #[] 0)).setCell ⟨g, 0, none⟩ (.map (some w.heap.size))) g (some w.heap.size) ([] : List (It Int)) ∧ Turn g none (some w.heap.size) w ((w.alloc (.map #[] 0)).setCell ⟨g, 0, none⟩ (.map (some w.heap.size))) := by
  have h1 := h.alloc (.map #[] 0)
  have hne : w.heap.size ≠ g := by have := h.lt; omega
  refine ⟨⟨by rw [heap_setCell_same _ g 0 _ _ _ h1.blk]; rfl, .inr ⟨_, rfl, (mp_new w).kept (Below.heap_setCell _ _ _ _ hne)⟩⟩, rfl, rfl, rfl, by simp [World.setCell], fun k hk hg _ => ?_, fun k e => .inr (by have := Option.some.inj e; omega)⟩
  rw [Below.heap_setCell _ _ _ k hg]
  exact Below.heap_alloc w _ k hk

set_option maxHeartbeats 800000 in
set_option maxRecDepth 100000 in
theorem put_core (p : Option Addr) (g : Nat) (m : Option Nat) (S : List (It Int)) (i : It Int) (w W : World) (hz : Orz (w.alloc (.cells (dotc i.r i.n) 34)) p g W) (h : Bg W g m S) (hD : LiesD W w.heap.size i.r i.n) :
    Calls Try.prog 11 #[.pointer p, .agg (dotc i.r i.n), Value.int .i64 i.x] w fun e w' => e = .returned (.tuple #[]) ∧ ∃ m', Bg w' g m' (put S i) ∧ Turn g m m' W w' := by
  have hc := h.c0
  have hf := h.fz 0
  rcases h.map with ⟨rfl, rfl⟩ | ⟨b, rfl, hm⟩
  · obtain ⟨h1, t1⟩ := h.mapped
    have hne : w.heap.size ≠ g := by rintro rfl; have := h.blk; rw [hD] at this; cases this
    have hDw : LiesD ((W.alloc (.map #[] 0)).setCell ⟨g, 0, none⟩ (.map (some W.heap.size))) w.heap.size i.r i.n := (hD.alloc _).other _ hne
    have hc1 := h1.c0
    have hD0 := hDw.cell0
    have hD1 := hDw.cell1
    have hac : (W.alloc (.map #[] 0)).cell? ⟨g, 0, none⟩ = some (.map none) := (h.alloc _).c0
    have haf : (W.alloc (.map #[] 0)).frozen? ⟨g, 0, none⟩ = false := (h.alloc _).fz 0
    obtain ⟨b', e', hm⟩ := (h1.map.resolve_left (by simp))
    obtain rfl := Option.some.inj e'
    obtain ⟨o, ho⟩ := hm.update i
    have hmm := @run_makeMap Try.prog
    have he := fun W => eql_map_none W
    have H1 : Hid _ := h1
    have T1 : Hid _ := t1
    obtain ⟨W2, hW2⟩ : ∃ W2, (W.alloc (.map #[] 0)).setCell ⟨g, 0, none⟩ (.map (some W.heap.size)) = W2 := ⟨_, rfl⟩
    rw [hW2] at hc1 hD0 hD1 ho H1 T1
    have hu := (ho W2.drew rfl).1
    have HO : Hid _ := ho
    clear ho h h1 t1 hm hDw hD e'
    simp only [dotc, itc] at hu
    go_enter Try.func11, Try.ntmps11
    go_wp2_with (first | (go_at_call 30; refine Calls.mono hz ?_; rintro e w2 ⟨rfl, rfl⟩))
    clear hW2
    go_region
    go_wp2
    go_end0
    exact ⟨rfl, _, H1.out.blocked (W := W2.drew) rfl (HO.out W2.drew rfl).2, T1.out.trans (Turn.blocked _ _ _ W2.drew _ rfl rfl rfl rfl)⟩
  · obtain ⟨o, ho⟩ := hm.update i
    have hu := (ho W.drew rfl).1
    have HO : Hid _ := ho
    have H1 : Hid _ := h
    have hD0 := hD.cell0
    have hD1 := hD.cell1
    have he := fun W => eql_map_some W b
    clear ho hm hD h
    simp only [dotc, itc] at hu
    go_enter Try.func11, Try.ntmps11
    go_wp2_with (first | (go_at_call 30; refine Calls.mono hz ?_; rintro e w2 ⟨rfl, rfl⟩))
    go_region
    go_wp2
    go_end0
    exact ⟨rfl, _, H1.out.blocked (W := w2.drew) rfl (HO.out w2.drew rfl).2, Turn.blocked _ _ _ w2.drew _ rfl rfl rfl rfl⟩
/-- What is there, or the zero item. -/
def gets (S : List (It Int)) (r n : Int) : It Int := (find S r n).getD ⟨0, 0, 0⟩
theorem Bg.lookup {w : World} {g : Nat} {m : Option Nat} {S : List (It Int)} (h : Bg w g m S) (r n : Int) (W : World) (hW : W.heap = w.heap) :
    (Instr.lookup 30 (.map m) (.agg (dotc r n)) true).run Try.prog W = .ok (.tuple #[.agg (itc (gets S r n)), .bool (hasD S r n)]) W := by
  rcases h.map with ⟨rfl, rfl⟩ | ⟨b, rfl, hm⟩
  · exact lookup_nil W r n
  · exact (hm.kept (w' := W) (by rw [hW])).lookup r n

theorem put_any (g : Nat) (m : Option Nat) (S : List (It Int)) (i : It Int) (w : World) (h : Bg w g m S) :
    Calls Try.prog 11 #[.pointer (some ⟨g, 0, none⟩), .agg (dotc i.r i.n), Value.int .i64 i.x] w fun e w' => e = .returned (.tuple #[]) ∧ ∃ m', Bg w' g m' (put S i) ∧ Turn g m m' w w' := by
  refine (put_core _ g m S i w _ (Orz.some g _) (h.alloc _) (liesD_new w i.r i.n)).mono ?_
  rintro e w' ⟨he, m', h1, h2⟩
  exact ⟨he, m', h1, (Turn.of_below m ((Below.refl _ w).alloc (Nat.le_refl _) _)).trans h2⟩
theorem Bg.delete {w : World} {g : Nat} {m : Option Nat} {S : List (It Int)} (h : Bg w g m S) (r n : Int) (ty : TypeId) (W : World) (hW : W.heap = w.heap) (h1 : W.os = w.os) (h2 : W.tape = w.tape) (h3 : W.output = w.output) :
    ∃ w', (Builtin.delete_ #[30, 34] ty #[.map m, .agg (dotc r n)]).run Try.prog W = .ok (.tuple #[]) w' ∧ Bg w' g m (del S r n) ∧ Turn g m m w w' := by
  rcases h.map with ⟨rfl, rfl⟩ | ⟨b, rfl, hm⟩
  · exact ⟨W, delete_nil W r n ty, ⟨by rw [hW]; exact h.blk, .inl ⟨rfl, rfl⟩⟩, h1, h2, h3, by rw [hW]; exact Nat.le_refl _, fun k _ _ _ => by rw [hW], fun _ e => .inl e⟩
  · obtain ⟨o, ho⟩ := hm.delete r n ty
    have := ho W (by rw [hW])
    exact ⟨_, this.1, h.blocked hW this.2, Turn.blocked g b w W o hW h1 h2 h3⟩

set_option maxHeartbeats 1000000 in
set_option maxRecDepth 100000 in
theorem remove_core (p : Option Addr) (g : Nat) (m : Option Nat) (S : List (It Int)) (r n : Int) (w W : World) (hz : Orz (w.alloc (.cells (dotc r n) 34)) p g W) (h : Bg W g m S) (hD : LiesD W w.heap.size r n) :
    Calls Try.prog 15 #[.pointer p, .agg (dotc r n)] w fun e w' => e = .returned (.bool (hasD S r n)) ∧ Bg w' g m (del S r n) ∧ Turn g m m W w' := by
  have hb1 := ((Below.refl _ W).alloc (Nat.le_refl _) (.cells (itc (gets S r n)) 60)).drew
  have h1 := h.below hb1 (Nat.le_refl _)
  have hD1 := hD.below hb1 hD.lt
  obtain ⟨w3, hd, h3, t3⟩ := h1.delete r n 0 ((W.alloc (.cells (itc (gets S r n)) 60)).drew).drew rfl rfl rfl rfl
  have T3 : Hid _ := (Turn.of_below m hb1).trans t3
  have H3 : Hid _ := h3
  have kp : ∀ w', Below W.heap.size W w' → w'.cell? ⟨g, 0, none⟩ = some (.map m) ∧ w'.cell? ⟨w.heap.size, 0, none⟩ = some (.int .i64 r) ∧ w'.cell? ⟨w.heap.size, 1, none⟩ = some (.int .i64 n) ∧
      (Instr.lookup 30 (.map m) (.agg #[.int .i64 r, .int .i64 n]) true).run Try.prog w' = .ok (.tuple #[.agg (itc (gets S r n)), .bool (hasD S r n)]) w' := fun w' hb =>
    ⟨(h.below hb (Nat.le_refl _)).c0, (hD.below hb hD.lt).cell0, (hD.below hb hD.lt).cell1, (h.below hb (Nat.le_refl _)).lookup r n w' rfl⟩
  have c1 := kp _ hb1
  simp only [itc, dotc] at kp hd hb1 c1
  have KP : Hid _ := kp
  generalize gets S r n = i at *
  generalize hasD S r n = b at *
  generalize del S r n = S' at *
  clear h3 t3 kp h1 hD1 h hD
  go_enter Try.func15, Try.ntmps15
  go_wp2_with (first | (go_at_call 30; refine Calls.mono hz ?_; rintro e w2 ⟨rfl, rfl⟩))
  have HD : Hid _ := hd
  clear hd
  go_region_held3 (fun w' => w'.cell? ⟨g, 0, none⟩ = some (.map m) ∧ w'.cell? ⟨w.heap.size, 0, none⟩ = some (.int .i64 r) ∧ w'.cell? ⟨w.heap.size, 1, none⟩ = some (.int .i64 n) ∧
      (Instr.lookup 30 (.map m) (.agg #[.int .i64 r, .int .i64 n]) true).run Try.prog w' = .ok (.tuple #[.agg #[.int .i64 i.r, .int .i64 i.n, Value.int .i64 i.x], .bool b]) w')
    (first | assumption | exact KP.out _ (Below.refl _ w2).drew | exact KP.out _ ((Below.refl _ w2).alloc (Nat.le_refl _) _).drew | exact KP.out _ (((((Below.refl _ w2).alloc (Nat.le_refl _) _).drew.setCell (Nat.le_refl _) _).setCell (Nat.le_refl _) _).setCell (Nat.le_refl _) _))
    (fail)
  all_goals
    clear KP
    have hd := HD.out
    clear HD
    obtain ⟨c2, c3, c4, -⟩ := c1
    generalize (w2.alloc (Obj.cells #[Value.int IntKind.i64 i.r, Value.int IntKind.i64 i.n, Value.int .i64 i.x] 60)).drew = W4 at *
    go_wp2
    go_region
    go_wp2
    go_ret
    exact ⟨rfl, H3.out, T3.out⟩
theorem remove_any (g : Nat) (m : Option Nat) (S : List (It Int)) (r n : Int) (w : World) (h : Bg w g m S) :
    Calls Try.prog 15 #[.pointer (some ⟨g, 0, none⟩), .agg (dotc r n)] w fun e w' => e = .returned (.bool (hasD S r n)) ∧ Bg w' g m (del S r n) ∧ Turn g m m w w' := by
  refine (remove_core _ g m S r n w _ (Orz.some g _) (h.alloc _) (liesD_new w r n)).mono ?_
  rintro e w' ⟨he, h1, h2⟩
  exact ⟨he, h1, (Turn.of_below m ((Below.refl _ w).alloc (Nat.le_refl _) _)).trans h2⟩
/-- A bag of the call's own: it and its map lie at or above B. -/
structure Obg (B : Nat) (w : World) (g : Nat) (m : Option Nat) (S : List (It Int)) : Prop where
  bg : Bg w g m S
  low : B ≤ g
  own : ∀ k, m = some k → B ≤ k
theorem Obg.turn {B : Nat} {w w' : World} {g : Nat} {m m' : Option Nat} {S S' : List (It Int)} (h : Obg B w g m S) (hB : B ≤ w.heap.size) (h' : Bg w' g m' S') (t : Turn g m m' w w') : Obg B w' g m' S' ∧ Below B w w' :=
  ⟨⟨h', h.low, fun k hk => by
    rcases t.own k hk with h1 | h1
    · exact h.own k h1
    · omega⟩, t.below hB h.low h.own⟩
theorem Obg.below {B C : Nat} {w w' : World} {g : Nat} {m : Option Nat} {S : List (It Int)} (h : Obg B w g m S) (hb : Below C w w') (hC : w.heap.size ≤ C) : Obg B w' g m S := ⟨h.bg.below hb hC, h.low, h.own⟩
theorem obg_new (w : World) (B : Nat) (hB : B ≤ w.heap.size) : Obg B (w.alloc (.cells #[.map none] 32)) w.heap.size none [] := ⟨bg_new w, hB, by simp⟩
theorem Bg.drew {w : World} {g : Nat} {m : Option Nat} {S : List (It Int)} (h : Bg w g m S) : Bg w.drew g m S := h.kept fun _ _ _ => rfl
theorem Obg.drew {B : Nat} {w : World} {g : Nat} {m : Option Nat} {S : List (It Int)} (h : Obg B w g m S) : Obg B w.drew g m S := ⟨h.bg.drew, h.low, h.own⟩
end Go.Proofs.Yteihijejohgfpaa
