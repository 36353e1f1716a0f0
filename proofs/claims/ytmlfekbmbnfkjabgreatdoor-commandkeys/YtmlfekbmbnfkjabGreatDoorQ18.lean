/-
  A bag in memory, alone or within another block; what New, orZero, Put and Len come to (30 cells an item).
-/
import Derived.Test.YtmlfekbmbnfkjabGreatDoorQ17
import Derived.Test.YtmlfekbmbnfkjabGreatDoorQ09
import Derived.Test.YtmlfekbmbnfkjabGreatDoorQ02
import Derived.BigQuiet
import Derived.Deep.RegionHeld3
import Derived.Test.YtmlfekbmbnfkjabGreatDoorQ05
namespace Go.Proofs.YtmlfekbmbnfkjabGreatDoor.D
set_option maxRecDepth 100000
open Go.RowKit
open Go.ChangeMaps (setBlock heap_setBlock_same heap_setBlock_other)

/-- A thing lies in a block. -/
def LiesX (w : World) (g : Nat) (x : Cx 28) : Prop := w.heap[g]? = some (.cells x.l.toArray 108 (0, 0))
theorem LiesX.lt {w : World} {g : Nat} {x : Cx 28} (h : LiesX w g x) : g < w.heap.size := (Array.getElem?_eq_some_iff.1 h).1
theorem size_x (x : Cx 28) : (Tryz.prog.info? 108).map (·.size) = some x.l.toArray.size := by
  rw [List.size_toArray, x.len]; kernel_rfl
theorem load_x {w : World} {g : Nat} {x : Cx 28} (h : LiesX w g x) : (loadVar 108 ⟨g, 0, none⟩).run Tryz.prog w = .ok (.agg x.l.toArray) w :=
  run_loadVar_row w g 108 108 _ (0, 0) _ h Tryz.underlying108 rfl (size_x x)
theorem size_d (r n : Int) : (Tryz.prog.info? 32).map (·.size) = some (dotc r n).size := by kernel_rfl
theorem load_d {w : World} {g : Nat} {r n : Int} (h : LiesD w g r n) : (loadVar 32 ⟨g, 0, none⟩).run Tryz.prog w = .ok (.agg (dotc r n)) w :=
  run_loadVar_row w g 32 32 _ (0, 0) _ h Tryz.underlying32 rfl (size_d r n)
theorem load_m {w : World} {ad : Addr} {m : Option Nat} (h : w.cell? ad = some (.map m)) : (loadVar 82 ad).run Tryz.prog w = .ok (.map m) w := by go_simp
theorem field_b (w : World) (g o : Nat) : (Instr.fieldAt 84 (.pointer (some ⟨g, o, none⟩)) 0).run Tryz.prog w = .ok (.pointer (some ⟨g, o, none⟩)) w := by go_simp
theorem build_it (w : World) (i : It (Cx 28)) : (Instr.build 135 #[(0, .agg (dotc i.r i.n)), (1, .agg i.x.l.toArray)]).run Tryz.prog w = .ok (.agg (xc i)) w := by
  obtain ⟨r, n, l, hl, h1⟩ := i
  match l, hl with
  | [a0, a1, a2, a3, a4, a5, a6, a7, a8, a9, a10, a11, a12, a13, a14, a15, a16, a17, a18, a19, a20, a21, a22, a23, a24, a25, a26, a27], hl =>
    refine Eq.trans (b := Result.ok (Value.agg (.int .i64 r :: .int .i64 n :: [a0, a1, a2, a3, a4, a5, a6, a7, a8, a9, a10, a11, a12, a13, a14, a15, a16, a17, a18, a19, a20, a21, a22, a23, a24, a25, a26, a27]).toArray) w) ?_ rfl
    kernel_rfl

/-- A bag lies in a block's cell: its map is nil, or lies in a block of its own. -/
structure Bg (w : World) (g o : Nat) (cs : Array Value) (ty : TypeId) (m : Option Nat) (S : List (It (Cx 28))) : Prop where
  blk : w.heap[g]? = some (.cells cs ty (0, 0))
  at' : cs[o]? = some (.map m)
  map : (m = none ∧ S = []) ∨ ∃ b, m = some b ∧ Mp w b S
section
variable {w w' : World} {g o B : Nat} {cs : Array Value} {ty : TypeId} {m : Option Nat} {S : List (It (Cx 28))}
theorem Bg.lt (h : Bg w g o cs ty m S) : g < w.heap.size := (Array.getElem?_eq_some_iff.1 h.blk).1
theorem Bg.own (h : Bg w g o cs ty m S) : ∀ k, m = some k → k < w.heap.size ∧ k ≠ g := by
  intro k hk
  rcases h.map with ⟨rfl, -⟩ | ⟨b, rfl, hb⟩
  · cases hk
  · obtain rfl := Option.some.inj hk
    refine ⟨hb.lt, ?_⟩
    rintro rfl
    obtain ⟨es, clock, L, hb, -⟩ := hb
    rw [h.blk] at hb
    cases hb
theorem Bg.srt (h : Bg w g o cs ty m S) : Srt S := by
  rcases h.map with ⟨-, rfl⟩ | ⟨b, -, hb⟩
  · exact Srt.nil
  · exact hb.srt
theorem Bg.c0 (h : Bg w g o cs ty m S) : w.cell? ⟨g, o, none⟩ = some (.map m) := by rw [cell_of_row w g o _ _ _ h.blk]; exact h.at'
theorem Bg.fz (h : Bg w g o cs ty m S) (i : Nat) : w.frozen? ⟨g, i, none⟩ = false := frozen_of_row w g i _ _ h.blk
theorem Bg.kept (h : Bg w g o cs ty m S) (hb : ∀ k, k < w.heap.size → (k = g ∨ m = some k) → w'.heap[k]? = w.heap[k]?) : Bg w' g o cs ty m S := by
  refine ⟨by rw [hb g h.lt (.inl rfl)]; exact h.blk, h.at', ?_⟩
  rcases h.map with hn | ⟨b, rfl, hm⟩
  · exact .inl hn
  · exact .inr ⟨b, rfl, hm.kept (hb b hm.lt (.inr rfl))⟩
theorem Bg.below (h : Bg w g o cs ty m S) (hb : Below B w w') (hB : w.heap.size ≤ B) : Bg w' g o cs ty m S :=
  h.kept fun k hk _ => hb.block k (by omega)
theorem Bg.alloc (h : Bg w g o cs ty m S) (ob : Obj) : Bg (w.alloc ob) g o cs ty m S := h.kept fun k hk _ => Below.heap_alloc w ob k hk
/-- Another cell of its block is another one then. -/
theorem Bg.other (h : Bg w g o cs ty m S) {cs' : Array Value} (hg : w'.heap[g]? = some (.cells cs' ty (0, 0))) (ho : cs'[o]? = cs[o]?) (hb : ∀ k, k < w.heap.size → m = some k → w'.heap[k]? = w.heap[k]?) : Bg w' g o cs' ty m S := by
  refine ⟨hg, ho.trans h.at', ?_⟩
  rcases h.map with hn | ⟨b, rfl, hm⟩
  · exact .inl hn
  · exact .inr ⟨b, rfl, hm.kept (hb b hm.lt rfl)⟩
theorem Bg.self (h : Bg w g o cs ty m S) : cs.setIfInBounds o (.map m) = cs := by
  obtain ⟨h1, h2⟩ := Array.getElem?_eq_some_iff.1 h.at'
  refine Array.ext (by simp) fun j hj hj2 => ?_
  rw [Array.getElem_setIfInBounds]
  split
  · rename_i e
    subst e
    exact h2.symm
  · rfl
end

theorem orz_some (g o : Nat) (w : World) : Calls Tryz.prog 104 #[.pointer (some ⟨g, o, none⟩)] w fun e w' => e = .returned (.pointer (some ⟨g, o, none⟩)) ∧ w' = w := by
  go_enter Tryz.func104, Tryz.ntmps104
  go_wp2
  go_ret
  exact ⟨rfl, rfl⟩
theorem eql_map_some (w : World) (b : Nat) : (binOp .eql 82 (.map (some b)) (.map none)).run Tryz.prog w = .ok (.bool false) w := by kernel_rfl
theorem eql_map_none (w : World) : (binOp .eql 82 (.map none) (.map none)).run Tryz.prog w = .ok (.bool true) w := by kernel_rfl
/-- Its map's block is another one then. -/
theorem Bg.blocked {w W : World} {g o b : Nat} {cs : Array Value} {ty : TypeId} {S S' : List (It (Cx 28))} {ob : Obj} (h : Bg w g o cs ty (some b) S) (hW : W.heap = w.heap) (hm : Mp (setBlock W b ob) b S') : Bg (setBlock W b ob) g o cs ty (some b) S' :=
  ⟨by
    have hne := (h.own b rfl).2
    have : (setBlock W b ob).heap[g]? = W.heap[g]? := (grownBy_setBlock W b ob).block g (by rw [hW]; exact h.lt) (fun e => hne (Option.some.inj e).symm)
    rw [this, hW]; exact h.blk, h.at', .inr ⟨b, rfl, hm⟩⟩
theorem tn_blocked (g b : Nat) (w W : World) (ob : Obj) (hW : W.heap = w.heap) (h1 : W.os = w.os) (h2 : W.tape = w.tape) (h3 : W.output = w.output) : Tn g (some b) (some b) w (setBlock W b ob) :=
  ⟨h1, h2, h3, by simp [setBlock, hW], fun k hk _ hb => by
    rw [← hW]
    exact (grownBy_setBlock W b ob).block k (by rw [hW]; exact hk) (fun e => hb e.symm), fun _ e => .inl e⟩
/-- A new map. -/
theorem Bg.mapped {w : World} {g o : Nat} {cs : Array Value} {ty : TypeId} (h : Bg w g o cs ty none []) : Bg ((w.alloc (.map #[] 0)).setCell ⟨g, o, none⟩ (.map (some w.heap.size))) g o (cs.setIfInBounds o (.map (some w.heap.size))) ty (some w.heap.size) ([] : List (It (Cx 28))) ∧ Tn g none (some w.heap.size) w ((w.alloc (.map #[] 0)).setCell ⟨g, o, none⟩ (.map (some w.heap.size))) := by
  have h1 := h.alloc (.map #[] 0)
  have hne : w.heap.size ≠ g := by have := h.lt; omega
  obtain ⟨ho, -⟩ := Array.getElem?_eq_some_iff.1 h.at'
  refine ⟨⟨heap_setCell_same _ g o _ _ _ h1.blk, by simp [ho], .inr ⟨_, rfl, (mp_new w).kept (Below.heap_setCell _ _ _ _ hne)⟩⟩, rfl, rfl, rfl, by simp [World.setCell], fun k hk hg _ => ?_, fun k e => .inr (by have := Option.some.inj e; omega)⟩
  rw [Below.heap_setCell _ _ _ k hg]
  exact Below.heap_alloc w _ k hk
/-- The last step of Put. -/
theorem put_held {w W : World} {g o b B0 : Nat} {cs : Array Value} {ty : TypeId} {S : List (It (Cx 28))} {i : It (Cx 28)} {ob : Obj} (h : Bg w g o cs ty (some b) S) (hD : LiesD w B0 i.r i.n) (hX : LiesX w (B0 + 1) i.x) (hW : W.heap = w.heap) (hb : ∃ es c, w.heap[b]? = some (.map es c)) :
    (setBlock W b ob).cell? ⟨g, o, none⟩ = some (.map (some b)) ∧ LiesD (setBlock W b ob) B0 i.r i.n ∧ LiesX (setBlock W b ob) (B0 + 1) i.x := by
  have key : ∀ k, k < w.heap.size → k ≠ b → (setBlock W b ob).heap[k]? = w.heap[k]? := fun k hk hne => by
    rw [← hW]
    exact (grownBy_setBlock W b ob).block k (by rw [hW]; exact hk) (fun e => hne (Option.some.inj e))
  obtain ⟨es, c, hb⟩ := hb
  have hg : (setBlock W b ob).heap[g]? = w.heap[g]? := key g h.lt (h.own b rfl).2.symm
  refine ⟨?_, ?_, ?_⟩
  · rw [cell_of_row _ g o _ _ _ (hg.trans h.blk)]; exact h.at'
  · rw [LiesD, key B0 hD.lt (by rintro rfl; rw [hD] at hb; cases hb)]; exact hD
  · rw [LiesX, key (B0 + 1) hX.lt (by rintro rfl; rw [hX] at hb; cases hb)]; exact hX
theorem Mp.blk {w : World} {b : Nat} {S : List (It (Cx 28))} (h : Mp w b S) : ∃ es c, w.heap[b]? = some (.map es c) := by
  obtain ⟨es, clock, L, hb, -⟩ := h
  exact ⟨es, clock, hb⟩

set_option maxHeartbeats 1000000 in
theorem put_any (g o : Nat) (cs : Array Value) (ty : TypeId) (m : Option Nat) (S : List (It (Cx 28))) (i : It (Cx 28)) (w : World) (h : Bg w g o cs ty m S) :
    Calls Tryz.prog 57 #[.pointer (some ⟨g, o, none⟩), .agg (dotc i.r i.n), .agg i.x.l.toArray] w fun e w' => e = .returned (.tuple #[]) ∧ ∃ m', Bg w' g o (cs.setIfInBounds o (.map m')) ty m' (put S i) ∧ Tn g m m' w w' := by
  have hz := orz_some g o ((w.alloc (.cells (dotc i.r i.n) 32)).alloc (.cells i.x.l.toArray 108))
  have hb0 : Below w.heap.size w ((w.alloc (.cells (dotc i.r i.n) 32)).alloc (.cells i.x.l.toArray 108)) := ((Below.refl _ w).alloc (Nat.le_refl _) _).alloc (by simp) _
  have hB := h.below hb0 (Nat.le_refl _)
  have hD : LiesD ((w.alloc (.cells (dotc i.r i.n) 32)).alloc (.cells i.x.l.toArray 108)) w.heap.size i.r i.n := (liesD_new w i.r i.n).alloc _
  have hX : LiesX ((w.alloc (.cells (dotc i.r i.n) 32)).alloc (.cells i.x.l.toArray 108)) (w.heap.size + 1) i.x := by
    have := heap_alloc_new (w.alloc (.cells (dotc i.r i.n) 32)) (.cells i.x.l.toArray 108)
    rwa [World.size_alloc] at this
  have T0 : Hid _ := Tn.of_below (g := g) m hb0
  obtain ⟨B0, hB0⟩ : ∃ B0, w.heap.size = B0 := ⟨_, rfl⟩
  rw [hB0] at hD hX
  generalize hxl : i.x.l.toArray = xl0 at *
  generalize hW0 : (w.alloc (.cells (dotc i.r i.n) 32)).alloc (.cells xl0 108) = W0 at *
  rcases h.map with ⟨rfl, rfl⟩ | ⟨b, rfl, hm⟩
  · obtain ⟨h1, t1⟩ := hB.mapped
    have hc0 := hB.c0
    have hac : (W0.alloc (.map #[] 0)).cell? ⟨g, o, none⟩ = some (.map none) := (hB.alloc _).c0
    have haf : (W0.alloc (.map #[] 0)).frozen? ⟨g, o, none⟩ = false := (hB.alloc _).fz o
    have hgne : g < W0.heap.size := hB.lt
    have hDg : ∀ j, j < W0.heap.size → j ≠ g → ((W0.alloc (.map #[] 0)).setCell ⟨g, o, none⟩ (.map (some W0.heap.size))).heap[j]? = W0.heap[j]? := fun j hj hne => by
      rw [Below.heap_setCell _ _ _ j hne]; exact Below.heap_alloc W0 _ j hj
    have hg0 : g < B0 := by have := h.lt; omega
    have hD1 : LiesD ((W0.alloc (.map #[] 0)).setCell ⟨g, o, none⟩ (.map (some W0.heap.size))) B0 i.r i.n := by rw [LiesD, hDg B0 hD.lt (by omega)]; exact hD
    have hX1 : LiesX ((W0.alloc (.map #[] 0)).setCell ⟨g, o, none⟩ (.map (some W0.heap.size))) (B0 + 1) i.x := by rw [LiesX, hDg (B0 + 1) hX.lt (by omega)]; exact hX
    obtain ⟨b', e', hm⟩ := (h1.map.resolve_left (by simp))
    obtain rfl := Option.some.inj e'
    obtain ⟨b, hb⟩ : ∃ b, W0.heap.size = b := ⟨_, rfl⟩
    obtain ⟨W2, hW2⟩ : ∃ W2, (W0.alloc (.map #[] 0)).setCell ⟨g, o, none⟩ (.map (some W0.heap.size)) = W2 := ⟨_, rfl⟩
    rw [hW2] at h1 t1 hD1 hX1 hm
    rw [hb] at h1 t1 hm hW2
    obtain ⟨ob, ho⟩ := hm.update i
    have hu := (ho W2.drew rfl).1
    have hHs : W2.drew.cell? ⟨g, o, none⟩ = some (.map (some b)) ∧ LiesD W2.drew B0 i.r i.n ∧ LiesX W2.drew (B0 + 1) i.x := ⟨h1.c0, hD1, hX1⟩
    have HS2 : Hid _ := put_held (W := W2.drew) (ob := ob) h1 hD1 hX1 rfl hm.blk
    have FIN : Hid _ := And.intro (h1.blocked (W := W2.drew) rfl (ho W2.drew rfl).2) (t1.trans (tn_blocked g b W2 W2.drew ob rfl rfl rfl rfl))
    have hmk := run_makeMap (P := Tryz.prog) (w := W0)
    clear ho h1 t1 hD1 hX1 hm h hB hD hX e' hDg
    have he := fun W => eql_map_none W
    go_enter Tryz.func57, Tryz.ntmps57
    go_wp2_with (first | (go_at_call 104; refine Calls.mono hz ?_; rintro e w2 ⟨rfl, hw2⟩; obtain rfl := hw2.symm))
    clear hW2 hz
    refine wp_region_noPanic ?_
    refine wp_region_held_drew (S := fun W' : World => W'.cell? ⟨g, o, none⟩ = some (.map (some b)) ∧ LiesD W' B0 i.r i.n ∧ LiesX W' (B0 + 1) i.x) (by kernel_rfl) hHs (fun hHeld => ?_)
    refine wpAnyH_take (i := 0) (oi := { dst := some 17, op := _, type := _, pos := _, after := _, guard := _ }) (v := .pointer (some ⟨g, o, none⟩)) rfl (by kernel_rfl) (by kernel_rfl) (by kernel_rfl) (fun _ _ _ h => h) (Or.inl ⟨by rfl, ?_⟩) (by assumption) ?_
    · intro w9 hSw
      exact y_move rfl rfl
    simp only [Act.put, List.setIfInBounds_toArray, List.set_cons_zero, List.set_cons_succ]
    refine wpAnyH_take (i := 1) (oi := { dst := some 18, op := _, type := _, pos := _, after := _, guard := _ }) (v := .pointer (some ⟨g, o, none⟩)) rfl (by kernel_rfl) (by kernel_rfl) (by kernel_rfl) (fun _ _ _ h => h) (Or.inl ⟨by rfl, ?_⟩) (by assumption) ?_
    · intro w9 hSw
      exact y_nil rfl rfl
    simp only [Act.put, List.setIfInBounds_toArray, List.set_cons_zero, List.set_cons_succ]
    refine wpAnyH_take (i := 2) (oi := { dst := some 19, op := _, type := _, pos := _, after := _, guard := _ }) (v := .pointer (some ⟨g, o, none⟩)) rfl (by kernel_rfl) (by kernel_rfl) (by kernel_rfl) (fun _ _ _ h => h) (Or.inl ⟨by rfl, ?_⟩) (by assumption) ?_
    · intro w9 hSw
      exact y_field rfl rfl (field_b _ _ _)
    simp only [Act.put, List.setIfInBounds_toArray, List.set_cons_zero, List.set_cons_succ]
    refine wpAnyH_take (i := 3) (oi := { dst := some 20, op := _, type := _, pos := _, after := _, guard := _ }) (v := .map (some b)) rfl (by kernel_rfl) (by kernel_rfl) (by kernel_rfl) (fun _ _ _ h => h) (Or.inl ⟨by rfl, ?_⟩) (by assumption) ?_
    · intro w9 hSw
      exact y_load rfl rfl (load_m hSw.1)
    simp only [Act.put, List.setIfInBounds_toArray, List.set_cons_zero, List.set_cons_succ]
    refine wpAnyH_take (i := 4) (oi := { dst := some 21, op := _, type := _, pos := _, after := _, guard := _ }) (v := .agg (dotc i.r i.n)) rfl (by kernel_rfl) (by kernel_rfl) (by kernel_rfl) (fun _ _ _ h => h) (Or.inl ⟨by rfl, ?_⟩) (by assumption) ?_
    · intro w9 hSw
      exact y_load rfl rfl (load_d hSw.2.1)
    simp only [Act.put, List.setIfInBounds_toArray, List.set_cons_zero, List.set_cons_succ]
    refine wpAnyH_take (i := 5) (oi := { dst := some 22, op := _, type := _, pos := _, after := _, guard := _ }) (v := .agg (dotc i.r i.n)) rfl (by kernel_rfl) (by kernel_rfl) (by kernel_rfl) (fun _ _ _ h => h) (Or.inl ⟨by rfl, ?_⟩) (by assumption) ?_
    · intro w9 hSw
      exact y_load rfl rfl (load_d hSw.2.1)
    simp only [Act.put, List.setIfInBounds_toArray, List.set_cons_zero, List.set_cons_succ]
    refine wpAnyH_take (i := 6) (oi := { dst := some 23, op := _, type := _, pos := _, after := _, guard := _ }) (v := .agg i.x.l.toArray) rfl (by kernel_rfl) (by kernel_rfl) (by kernel_rfl) (fun _ _ _ h => h) (Or.inl ⟨by rfl, ?_⟩) (by assumption) ?_
    · intro w9 hSw
      exact y_load rfl rfl (load_x hSw.2.2)
    simp only [Act.put, List.setIfInBounds_toArray, List.set_cons_zero, List.set_cons_succ]
    refine wpAnyH_take (i := 7) (oi := { dst := some 24, op := _, type := _, pos := _, after := _, guard := _ }) (v := .agg (xc i)) rfl (by kernel_rfl) (by kernel_rfl) (by kernel_rfl) (fun _ _ _ h => h) (Or.inl ⟨by rfl, ?_⟩) (by assumption) ?_
    · intro w9 hSw
      exact y_b2 (ty := 135) (i := 0) (j := 1) (x := .tmp 22) (y := .tmp 23) (p := .agg (dotc i.r i.n)) (q := .agg i.x.l.toArray) rfl rfl rfl (build_it _ _)
    simp only [Act.put, List.setIfInBounds_toArray, List.set_cons_zero, List.set_cons_succ]
    refine wpAnyH_ready (rs := [8]) (by kernel_rfl) (by simp) ?_
    refine AllReadyH.cons (o := { dst := none, op := _, type := _, pos := _, after := _, guard := _ }) rfl (fun K hK => ?_) AllReadyH.nil
    rw [if_pos (by rfl)]
    refine y_mapu (ty := 82) (x := .tmp 20) (y := .tmp 21) (z := .tmp 24) (p := .map (some b)) (q := .agg (dotc i.r i.n)) (r := .agg (xc i)) rfl rfl rfl rfl hu ?_
    refine hK.out _ _ HS2.out (fun hHeld => ?_)
    clear hK K
    simp only [Act.put]
    refine wpAnyH_done (by kernel_rfl) ?_ _
    refine NoPanic.normal ?_
    clear hHeld
    go_wp2
    go_end0
    exact ⟨rfl, _, FIN.out.1, T0.out.trans FIN.out.2⟩
  · obtain ⟨hm0⟩ : Nonempty (Mp W0 b S) := by
      rcases hB.map with ⟨e, -⟩ | ⟨b', e, hm'⟩
      · cases e
      · obtain rfl := Option.some.inj e
        exact ⟨hm'⟩
    obtain ⟨ob, ho⟩ := hm0.update i
    have hu := (ho W0.drew rfl).1
    have hc0 := hB.c0
    have hHs : W0.drew.cell? ⟨g, o, none⟩ = some (.map (some b)) ∧ LiesD W0.drew B0 i.r i.n ∧ LiesX W0.drew (B0 + 1) i.x := ⟨hB.c0, hD, hX⟩
    have HS2 : Hid _ := put_held (W := W0.drew) (ob := ob) hB hD hX rfl hm0.blk
    have FIN : Hid _ := And.intro (hB.blocked (W := W0.drew) rfl (ho W0.drew rfl).2) (tn_blocked g b W0 W0.drew ob rfl rfl rfl rfl)
    have HSF : Hid _ := h.self
    clear ho hm0 hm h hB hD hX
    have he := fun W => eql_map_some W b
    go_enter Tryz.func57, Tryz.ntmps57
    go_wp2_with (first | (go_at_call 104; refine Calls.mono hz ?_; rintro e w2 ⟨rfl, hw2⟩; obtain rfl := hw2.symm))
    clear hz
    refine wp_region_noPanic ?_
    refine wp_region_held_drew (S := fun W' : World => W'.cell? ⟨g, o, none⟩ = some (.map (some b)) ∧ LiesD W' B0 i.r i.n ∧ LiesX W' (B0 + 1) i.x) (by kernel_rfl) hHs (fun hHeld => ?_)
    refine wpAnyH_take (i := 0) (oi := { dst := some 17, op := _, type := _, pos := _, after := _, guard := _ }) (v := .pointer (some ⟨g, o, none⟩)) rfl (by kernel_rfl) (by kernel_rfl) (by kernel_rfl) (fun _ _ _ h => h) (Or.inl ⟨by rfl, ?_⟩) (by assumption) ?_
    · intro w9 hSw
      exact y_move rfl rfl
    simp only [Act.put, List.setIfInBounds_toArray, List.set_cons_zero, List.set_cons_succ]
    refine wpAnyH_take (i := 1) (oi := { dst := some 18, op := _, type := _, pos := _, after := _, guard := _ }) (v := .pointer (some ⟨g, o, none⟩)) rfl (by kernel_rfl) (by kernel_rfl) (by kernel_rfl) (fun _ _ _ h => h) (Or.inl ⟨by rfl, ?_⟩) (by assumption) ?_
    · intro w9 hSw
      exact y_nil rfl rfl
    simp only [Act.put, List.setIfInBounds_toArray, List.set_cons_zero, List.set_cons_succ]
    refine wpAnyH_take (i := 2) (oi := { dst := some 19, op := _, type := _, pos := _, after := _, guard := _ }) (v := .pointer (some ⟨g, o, none⟩)) rfl (by kernel_rfl) (by kernel_rfl) (by kernel_rfl) (fun _ _ _ h => h) (Or.inl ⟨by rfl, ?_⟩) (by assumption) ?_
    · intro w9 hSw
      exact y_field rfl rfl (field_b _ _ _)
    simp only [Act.put, List.setIfInBounds_toArray, List.set_cons_zero, List.set_cons_succ]
    refine wpAnyH_take (i := 3) (oi := { dst := some 20, op := _, type := _, pos := _, after := _, guard := _ }) (v := .map (some b)) rfl (by kernel_rfl) (by kernel_rfl) (by kernel_rfl) (fun _ _ _ h => h) (Or.inl ⟨by rfl, ?_⟩) (by assumption) ?_
    · intro w9 hSw
      exact y_load rfl rfl (load_m hSw.1)
    simp only [Act.put, List.setIfInBounds_toArray, List.set_cons_zero, List.set_cons_succ]
    refine wpAnyH_take (i := 4) (oi := { dst := some 21, op := _, type := _, pos := _, after := _, guard := _ }) (v := .agg (dotc i.r i.n)) rfl (by kernel_rfl) (by kernel_rfl) (by kernel_rfl) (fun _ _ _ h => h) (Or.inl ⟨by rfl, ?_⟩) (by assumption) ?_
    · intro w9 hSw
      exact y_load rfl rfl (load_d hSw.2.1)
    simp only [Act.put, List.setIfInBounds_toArray, List.set_cons_zero, List.set_cons_succ]
    refine wpAnyH_take (i := 5) (oi := { dst := some 22, op := _, type := _, pos := _, after := _, guard := _ }) (v := .agg (dotc i.r i.n)) rfl (by kernel_rfl) (by kernel_rfl) (by kernel_rfl) (fun _ _ _ h => h) (Or.inl ⟨by rfl, ?_⟩) (by assumption) ?_
    · intro w9 hSw
      exact y_load rfl rfl (load_d hSw.2.1)
    simp only [Act.put, List.setIfInBounds_toArray, List.set_cons_zero, List.set_cons_succ]
    refine wpAnyH_take (i := 6) (oi := { dst := some 23, op := _, type := _, pos := _, after := _, guard := _ }) (v := .agg i.x.l.toArray) rfl (by kernel_rfl) (by kernel_rfl) (by kernel_rfl) (fun _ _ _ h => h) (Or.inl ⟨by rfl, ?_⟩) (by assumption) ?_
    · intro w9 hSw
      exact y_load rfl rfl (load_x hSw.2.2)
    simp only [Act.put, List.setIfInBounds_toArray, List.set_cons_zero, List.set_cons_succ]
    refine wpAnyH_take (i := 7) (oi := { dst := some 24, op := _, type := _, pos := _, after := _, guard := _ }) (v := .agg (xc i)) rfl (by kernel_rfl) (by kernel_rfl) (by kernel_rfl) (fun _ _ _ h => h) (Or.inl ⟨by rfl, ?_⟩) (by assumption) ?_
    · intro w9 hSw
      exact y_b2 (ty := 135) (i := 0) (j := 1) (x := .tmp 22) (y := .tmp 23) (p := .agg (dotc i.r i.n)) (q := .agg i.x.l.toArray) rfl rfl rfl (build_it _ _)
    simp only [Act.put, List.setIfInBounds_toArray, List.set_cons_zero, List.set_cons_succ]
    refine wpAnyH_ready (rs := [8]) (by kernel_rfl) (by simp) ?_
    refine AllReadyH.cons (o := { dst := none, op := _, type := _, pos := _, after := _, guard := _ }) rfl (fun K hK => ?_) AllReadyH.nil
    rw [if_pos (by rfl)]
    refine y_mapu (ty := 82) (x := .tmp 20) (y := .tmp 21) (z := .tmp 24) (p := .map (some b)) (q := .agg (dotc i.r i.n)) (r := .agg (xc i)) rfl rfl rfl rfl hu ?_
    refine hK.out _ _ HS2.out (fun hHeld => ?_)
    clear hK K
    simp only [Act.put]
    refine wpAnyH_done (by kernel_rfl) ?_ _
    refine NoPanic.normal ?_
    clear hHeld
    go_wp2
    go_end0
    exact ⟨rfl, some b, by rw [HSF.out]; exact FIN.out.1, T0.out.trans FIN.out.2⟩
theorem len_any (g o : Nat) (cs : Array Value) (ty : TypeId) (m : Option Nat) (S : List (It (Cx 28))) (w : World) (h : Bg w g o cs ty m S) :
    Calls Tryz.prog 60 #[.pointer (some ⟨g, o, none⟩)] w fun e w' => e = .returned (.int .i64 (S.length : Int)) ∧ w' = w := by
  have hz := orz_some g o w
  have hc := h.c0
  have hl : (Builtin.len_ #[82] 3 #[.map m]).run Tryz.prog w = .ok (.int .i64 (S.length : Int)) w := by
    rcases h.map with ⟨rfl, rfl⟩ | ⟨b, rfl, hm⟩
    · exact len_nil w _
    · exact hm.len _
  generalize (S.length : Int) = n at *
  clear h
  go_enter Tryz.func60, Tryz.ntmps60
  go_wp2_with (first | (go_at_call 104; refine Calls.mono hz ?_; rintro e w2 ⟨rfl, hw2⟩; obtain rfl := hw2.symm))
  go_ret
  exact ⟨rfl, rfl⟩
end Go.Proofs.YtmlfekbmbnfkjabGreatDoor.D

/-
  A plain region walked by running it over what is known of its slots: comparisons of numbers, and what else is hard, are told ahead and shown apart.
-/
namespace Go.Proofs.YtmlfekbmbnfkjabGreatDoor
set_option maxRecDepth 100000
set_option maxRecDepth 100000
open Go.RowKit

/-- What is known of slots, the newest first. -/
def seeT : List (Nat × Value) → Nat → Option Value
  | [], _ => none
  | p :: K, t => cond (Nat.beq p.1 t) (some p.2) (seeT K t)
def seeO (K : List (Nat × Value)) : Operand → Option Value
  | .tmp t => seeT K t
  | .const v => some v
  | _ => none
/-- What is told ahead of an operation: a comparison's answer, a value. -/
inductive Tell where
  | b (t : Bool)
  | v (x : Value)
/-- What is left to be shown. -/
inductive Owe where
  | eq (m n : Int) (t : Bool)
  | ld (t : TypeId) (ad : Addr) (v : Value)
  | fa (t : TypeId) (p : Value) (k : Nat) (v : Value)
  | ix (t : TypeId) (p q v : Value)
  | bi (op : BinOp) (t : TypeId) (x y : Operand) (p q v : Value)
def pstep (K : List (Nat × Value)) : Op → List Tell → Option (Value × List Tell × List Owe)
  | .move x, ts => (seeO K x).map fun v => (v, ts, [])
  | .assign x, ts => (seeO K x).map fun v => (v, ts, [])
  | .pick c x y, ts =>
    match seeO K c with
    | some (.bool true) => (seeO K x).map fun v => (v, ts, [])
    | some (.bool false) => (seeO K y).map fun v => (v, ts, [])
    | _ => none
  | .unOp .not 4 x, ts =>
    match seeO K x with
    | some (.bool b) => some (.bool (!b), ts, [])
    | _ => none
  | .binOp .eql 3 x y 3, .b t :: ts =>
    match seeO K x, seeO K y with
    | some (.int .i64 m), some (.int .i64 n) => some (.bool t, ts, [.eq m n t])
    | _, _ => none
  | .load t x, .v v :: ts =>
    match seeO K x with
    | some (.pointer (some ad)) => some (v, ts, [.ld t ad v])
    | _ => none
  | .fieldAddr t x k, .v v :: ts => (seeO K x).map fun p => (v, ts, [.fa t p k v])
  | .indexAddr t x y, .v v :: ts =>
    match seeO K x, seeO K y with
    | some p, some q => some (v, ts, [.ix t p q v])
    | _, _ => none
  | .binOp op t x y _, .v v :: ts =>
    match seeO K x, seeO K y with
    | some p, some q => some (v, ts, [.bi op t x y p q v])
    | _, _ => none
  | _, _ => none
def Knows (a : Act) (K : List (Nat × Value)) : Prop := ∀ t v, seeT K t = some v → a.tmps[t]? = some v
theorem Knows.nil (a : Act) : Knows a [] := fun t v h => by cases h
theorem Knows.cons {a : Act} {K : List (Nat × Value)} (h : Knows a K) {d : Nat} {v : Value} (hd : a.tmps[d]? = some v) : Knows a ((d, v) :: K) := fun t u hu => by
  unfold seeT at hu
  by_cases e : d = t
  · subst e
    rw [show Nat.beq d d = true from Nat.beq_refl d] at hu
    cases hu
    exact hd
  · rw [show Nat.beq d t = false from by
      cases hb : Nat.beq d t
      · rfl
      · exact absurd (Nat.eq_of_beq_eq_true hb) e] at hu
    exact h t u hu
theorem Knows.put {a : Act} {K : List (Nat × Value)} (h : Knows a K) {d : Nat} (v : Value) (hd : d < a.tmps.size) : Knows (a.put (some d) v) ((d, v) :: K) := fun t u hu => by
  unfold seeT at hu
  simp only [Act.put]
  by_cases e : d = t
  · subst e
    rw [show Nat.beq d d = true from Nat.beq_refl d] at hu
    cases hu
    exact Array.getElem?_setIfInBounds_self_of_lt hd
  · rw [show Nat.beq d t = false from by
      cases hb : Nat.beq d t
      · rfl
      · exact absurd (Nat.eq_of_beq_eq_true hb) e] at hu
    rw [Array.getElem?_setIfInBounds_ne e]
    exact h t u hu
theorem Knows.eval {a : Act} {K : List (Nat × Value)} (h : Knows a K) {x : Operand} {v : Value} (hx : seeO K x = some v) : a.eval x = v := by
  cases x with
  | tmp t =>
    have := h t v hx
    simp only [Act.eval, Array.getD_eq_getD_getElem?, this, Option.getD_some]
  | const u => exact Option.some.inj hx
  | global g => cases hx
  | func f => cases hx
section
variable {o : Oper} {a : Act} {w : World} {x y z : Operand} {m n : Int}
end

end Go.Proofs.YtmlfekbmbnfkjabGreatDoor

/-
  What the reference's Type and Ends come to.
-/
namespace Go.Proofs.YtmlfekbmbnfkjabGreatDoor
set_option maxRecDepth 100000
set_option maxRecDepth 100000
open Go.RowKit

theorem LiesE.rf {w : World} {g : Nat} {e : Ev} (h : LiesE w g e) (hl : e.deps.length = 16) : w.rangeAt g (19 + 5) (dotc e.rr e.rn).toList := h.ref hl
end Go.Proofs.YtmlfekbmbnfkjabGreatDoor

/-
  What Ends comes to.
-/
namespace Go.Proofs.YtmlfekbmbnfkjabGreatDoor
set_option maxRecDepth 100000
set_option maxRecDepth 100000
open Go.RowKit

theorem plain_am : Tryz.prog.eqGuardType Tryz.prog.depth 127 = false := by kernel_rfl
theorem eqGuard_am (w : World) {op : BinOp} {x y : Operand} (p q : Aim) : (eqGuard op 127 x y (.agg (amc p)) (.agg (amc q))).run Tryz.prog w = .ok () w := run_eqGuard_agg w _ _ _ _ _ _ plain_am
theorem eql_am (w : World) {x y : Aim} {t : Bool} (h : decide (x = y) = t) : (binOp .eql 127 (.agg (amc x)) (.agg (amc y))).run Tryz.prog w = .ok (.bool t) w := by
  rw [run_eql_struct, run_equalIn_aim w 9997, Result.andThen_ok, h]
theorem meets_no {b a : Ev} (h : (aimP b).2 = false) : meets b a = false := by unfold meets; rw [h]; rfl
theorem meets_one {b a : Ev} (h : (aimP b).2 = true) (h1 : decide ((aimP b).1 = wholeE a.key) = true) : meets b a = true := by unfold meets; rw [h, h1]; rfl
theorem meets_two {b a : Ev} (h : (aimP b).2 = true) (h1 : decide ((aimP b).1 = wholeE a.key) = false) : meets b a = decide ((aimP b).1 = aimAtE a) := by unfold meets; rw [h, h1]; rfl
set_option maxHeartbeats 1000000 in
theorem ends_any (b a : Ev) (hb16 : b.deps.length = 16) (ha16 : a.deps.length = 16) (w : World) : Calls Tryz.prog 56 #[.agg (evc b), .agg (evc a)] w fun e w' => e = .returned (.bool (endsE b a)) ∧ Below w.heap.size w w' := by
  obtain ⟨hb, ha, hB⟩ := boxedEE w b a
  have HB : Hid (Below w.heap.size w ((w.alloc (.cells (evc b) 47)).alloc (.cells (evc a) 47))) := hB
  clear hB
  have ca := ha.c19 ha16
  go_enter Tryz.func56, Tryz.ntmps56
  go_wp2_with fail
  refine (adds_any a.kind _).mono ?_
  rintro e w1 ⟨rfl, hw1⟩
  obtain rfl := hw1.symm
  clear hw1 ca
  rcases Bool.eq_false_or_eq_true (addsE a.kind) with hadd | hadd
  · rw [hadd]
    go_wp2_with (first | refine load_ev rfl rfl rfl hb hb16 ?_ | refine load_ev rfl rfl rfl ha ha16 ?_)
    refine (covers_any b a hb16 _).mono ?_
    rintro e w1 ⟨rfl, hb1⟩
    have hb' := hb.below hb1 hb.lt
    have ha' := ha.below hb1 ha.lt
    have HB1 : Hid (Below w.heap.size w w1) := HB.out.trans (hb1.mono HB.out.size)
    clear hb ha hb1 HB
    rcases Bool.eq_false_or_eq_true (coversE b a) with hc | hc
    · rw [hc]
      have HR : Hid (endsE b a = meets b a) := by show _ = _; rw [← ends_aim b a hadd, hc]; rfl
      have hop := hb'.op hb16
      go_wp2_with (refine load_op_at rfl rfl rfl hop ?_)
      refine (aimof_any b _).mono ?_
      rintro e w2 ⟨rfl, hb2⟩
      have ha2 := ha'.below hb2 ha'.lt
      have HB2 : Hid (Below w.heap.size w w2) := HB1.out.trans (hb2.mono HB1.out.size)
      have hM0 := liesM_new w2 zaim
      have hM1 := hM0.row (aimP b).1
      have hlt2 := ha2.lt
      have hA3 : LiesE ((w2.alloc (.cells (amc zaim) 127)).setRow w2.heap.size (amc (aimP b).1)) (w.heap.size + 1) a := (ha2.alloc _).rowOther _ (by omega)
      have HB3 : Hid (Below w.heap.size w ((w2.alloc (.cells (amc zaim) 127)).setRow w2.heap.size (amc (aimP b).1))) := below_setRow (HB2.out.alloc HB2.out.size _) (by have := HB2.out.size; omega) _
      clear hb' ha' hb2 HB1 ha2 HB2 hop hlt2
      go_upto_region 4 with (refine store_am (x := (aimP b).1) rfl rfl rfl rfl hM0 ?_)
      change Code.wp _ _ _ _ ((w2.alloc (.cells (amc zaim) 127)).setRow w2.heap.size (amc (aimP b).1))
      generalize (w2.alloc (.cells (amc zaim) 127)).setRow w2.heap.size (amc (aimP b).1) = W0 at hM1 hA3 HB3 ⊢
      clear hM0
      generalize w2.heap.size = G at *
      rcases Bool.eq_false_or_eq_true (aimP b).2 with hok | hok
      · rcases Bool.eq_false_or_eq_true (decide ((aimP b).1 = wholeE a.key)) with h1 | h1
        · have HR1 : Hid (endsE b a = _) := HR.out.trans (meets_one hok h1)
          rw [hok]
          refine region_vals [24, 25, 26, 27, 28, 29, 30, 31, 32, 33, 34, 35, 36, 37, 38, 4] [.bool true, .bool true, .agg (amc (aimP b).1), .pointer (some ⟨w.heap.size + 1, 19, none⟩), .pointer (some ⟨w.heap.size + 1, 20, none⟩), .string (sb a.key), .agg (amc (wholeE a.key)), .bool true, .bool true, undef, undef, undef, undef, .bool true, .bool true, .bool true] _ (by kernel_rfl) (by kernel_rfl) (by rfl) (by decide) (by kernel_rfl) (by simp only [lay, Act.put, List.setIfInBounds_toArray, List.set_cons_zero, List.set_cons_succ, List.getD_cons_zero, List.getD_cons_succ, Nat.reduceAdd]; rfl) ⟨?_, ?_, ?_, ?_, ?_, ?_, ?_, ?_, ?_, ?_, ?_, ?_, ?_, ?_, ?_, ?_, trivial⟩ ?_
          · exact .inl ⟨rfl, fun W hb => yields_move rfl rfl⟩
          · exact .inl ⟨rfl, fun W hb => yields_move rfl rfl⟩
          · exact .inl ⟨rfl, fun W hb => yields_load rfl rfl (load_amr (hM1.below hb hM1.lt))⟩
          · exact .inl ⟨rfl, fun W hb => yields_field rfl rfl (field_e3 W _)⟩
          · exact .inl ⟨rfl, fun W hb => yields_field rfl rfl (field_p1 W _ 19)⟩
          · exact .inl ⟨rfl, fun W hb => yields_load rfl rfl (load_str_run ((hA3.below hb hA3.lt).c20 ha16))⟩
          · exact .inl ⟨rfl, fun W hb => yields_call (vs := [.string (sb a.key)]) rfl rfl (enters_wholekey _ _) (whole_any _ W)⟩
          · exact .inl ⟨rfl, fun W hb => yields_bin rfl rfl rfl (eqGuard_am W _ _) (eql_am W h1)⟩
          · exact .inl ⟨rfl, fun W hb => yields_move rfl rfl⟩
          · exact .inr ⟨rfl, rfl⟩
          · exact .inr ⟨rfl, rfl⟩
          · exact .inr ⟨rfl, rfl⟩
          · exact .inr ⟨rfl, rfl⟩
          · exact .inl ⟨rfl, fun W hb => yields_pick (b := true) rfl rfl rfl⟩
          · exact .inl ⟨rfl, fun W hb => yields_pick (b := true) rfl rfl rfl⟩
          · exact .inl ⟨rfl, fun W hb => yields_assign rfl rfl⟩
          intro w4 hb4
          have HB4 : Hid (Below w.heap.size w w4) := HB3.out.trans (hb4.mono HB3.out.size)
          clear hb4 HB3 hM1 hA3
          go_wp2
          go_ret
          exact ⟨by rw [HR1.out]; rfl, HB4.out⟩
        · have HR2 : Hid (endsE b a = _) := HR.out.trans (meets_two hok h1)
          rw [hok]
          refine region_vals [24, 25, 26, 27, 28, 29, 30, 31, 32, 33, 34, 35, 36, 37, 38, 4] [.bool true, .bool true, .agg (amc (aimP b).1), .pointer (some ⟨w.heap.size + 1, 19, none⟩), .pointer (some ⟨w.heap.size + 1, 20, none⟩), .string (sb a.key), .agg (amc (wholeE a.key)), .bool false, .bool false, .agg (amc (aimP b).1), .agg (evc a), .agg (amc (aimAtE a)), .bool (decide ((aimP b).1 = aimAtE a)), .bool (decide ((aimP b).1 = aimAtE a)), .bool (decide ((aimP b).1 = aimAtE a)), .bool (decide ((aimP b).1 = aimAtE a))] _ (by kernel_rfl) (by kernel_rfl) (by rfl) (by decide) (by kernel_rfl) (by simp only [lay, Act.put, List.setIfInBounds_toArray, List.set_cons_zero, List.set_cons_succ, List.getD_cons_zero, List.getD_cons_succ, Nat.reduceAdd]; rfl) ⟨?_, ?_, ?_, ?_, ?_, ?_, ?_, ?_, ?_, ?_, ?_, ?_, ?_, ?_, ?_, ?_, trivial⟩ ?_
          · exact .inl ⟨rfl, fun W hb => yields_move rfl rfl⟩
          · exact .inl ⟨rfl, fun W hb => yields_move rfl rfl⟩
          · exact .inl ⟨rfl, fun W hb => yields_load rfl rfl (load_amr (hM1.below hb hM1.lt))⟩
          · exact .inl ⟨rfl, fun W hb => yields_field rfl rfl (field_e3 W _)⟩
          · exact .inl ⟨rfl, fun W hb => yields_field rfl rfl (field_p1 W _ 19)⟩
          · exact .inl ⟨rfl, fun W hb => yields_load rfl rfl (load_str_run ((hA3.below hb hA3.lt).c20 ha16))⟩
          · exact .inl ⟨rfl, fun W hb => yields_call (vs := [.string (sb a.key)]) rfl rfl (enters_wholekey _ _) (whole_any _ W)⟩
          · exact .inl ⟨rfl, fun W hb => yields_bin rfl rfl rfl (eqGuard_am W _ _) (eql_am W h1)⟩
          · exact .inl ⟨rfl, fun W hb => yields_move rfl rfl⟩
          · exact .inl ⟨rfl, fun W hb => yields_load rfl rfl (load_amr (hM1.below hb hM1.lt))⟩
          · exact .inl ⟨rfl, fun W hb => yields_load rfl rfl (load_ev_run (hA3.below hb hA3.lt) ha16)⟩
          · exact .inl ⟨rfl, fun W hb => yields_call (vs := [.agg (evc a)]) rfl rfl (enters_aimat _ _) (aimat_any _ ha16 W)⟩
          · exact .inl ⟨rfl, fun W hb => yields_bin rfl rfl rfl (eqGuard_am W _ _) (eql_am W rfl)⟩
          · exact .inl ⟨rfl, fun W hb => yields_pick (b := false) rfl rfl rfl⟩
          · exact .inl ⟨rfl, fun W hb => yields_pick (b := true) rfl rfl rfl⟩
          · exact .inl ⟨rfl, fun W hb => yields_assign rfl rfl⟩
          intro w4 hb4
          have HB4 : Hid (Below w.heap.size w w4) := HB3.out.trans (hb4.mono HB3.out.size)
          clear hb4 HB3 hM1 hA3
          go_wp2
          go_ret
          exact ⟨by rw [HR2.out]; rfl, HB4.out⟩
      · have HR3 : Hid (endsE b a = _) := HR.out.trans (meets_no hok)
        rw [hok]
        refine region_vals [24, 25, 26, 27, 28, 29, 30, 31, 32, 33, 34, 35, 36, 37, 38, 4] [.bool false, .bool false, undef, undef, undef, undef, undef, undef, undef, undef, undef, undef, undef, undef, .bool false, .bool false] _ (by kernel_rfl) (by kernel_rfl) (by rfl) (by decide) (by kernel_rfl) (by simp only [lay, Act.put, List.setIfInBounds_toArray, List.set_cons_zero, List.set_cons_succ, List.getD_cons_zero, List.getD_cons_succ, Nat.reduceAdd]; rfl) ⟨?_, ?_, ?_, ?_, ?_, ?_, ?_, ?_, ?_, ?_, ?_, ?_, ?_, ?_, ?_, ?_, trivial⟩ ?_
        · exact .inl ⟨rfl, fun W hb => yields_move rfl rfl⟩
        · exact .inl ⟨rfl, fun W hb => yields_move rfl rfl⟩
        · exact .inr ⟨rfl, rfl⟩
        · exact .inr ⟨rfl, rfl⟩
        · exact .inr ⟨rfl, rfl⟩
        · exact .inr ⟨rfl, rfl⟩
        · exact .inr ⟨rfl, rfl⟩
        · exact .inr ⟨rfl, rfl⟩
        · exact .inr ⟨rfl, rfl⟩
        · exact .inr ⟨rfl, rfl⟩
        · exact .inr ⟨rfl, rfl⟩
        · exact .inr ⟨rfl, rfl⟩
        · exact .inr ⟨rfl, rfl⟩
        · exact .inr ⟨rfl, rfl⟩
        · exact .inl ⟨rfl, fun W hb => yields_pick (b := false) rfl rfl rfl⟩
        · exact .inl ⟨rfl, fun W hb => yields_assign rfl rfl⟩
        intro w4 hb4
        have HB4 : Hid (Below w.heap.size w w4) := HB3.out.trans (hb4.mono HB3.out.size)
        clear hb4 HB3 hM1 hA3
        go_wp2
        go_ret
        exact ⟨by rw [HR3.out]; rfl, HB4.out⟩
    · have HR : Hid (endsE b a = false) := by show _ = _; unfold endsE; rw [hc]; rfl
      rw [hc]
      clear hb' ha'
      go_wp2
      go_ret
      exact ⟨by rw [HR.out]; rfl, HB1.out⟩
  · have HR : Hid (endsE b a = false) := by show _ = _; unfold endsE; rw [hadd]; simp
    rw [hadd]
    clear hb ha
    go_wp2
    go_ret
    exact ⟨by rw [HR.out]; rfl, HB.out⟩
end Go.Proofs.YtmlfekbmbnfkjabGreatDoor

