/-
  A bag in memory, alone or within another block; what New, orZero, Put and Len come to (28 cells an item).
-/
import Derived.Test.YtmlfekbmbnfkjabGreatDoorR14
import Derived.Test.YtmlfekbmbnfkjabGreatDoorR09
import Derived.Test.YtmlfekbmbnfkjabGreatDoorR02
import Derived.BigQuiet
import Derived.Deep.RegionHeld3
import Derived.Test.YtmlfekbmbnfkjabGreatDoorR16
namespace Go.Proofs.YtmlfekbmbnfkjabGreatDoor.E
set_option maxRecDepth 100000
open Go.RowKit
open Go.ChangeMaps (setBlock heap_setBlock_same heap_setBlock_other)

/-- A thing lies in a block. -/
def LiesX (w : World) (g : Nat) (x : Cx 26) : Prop := w.heap[g]? = some (.cells x.l.toArray 47 (0, 0))
theorem LiesX.lt {w : World} {g : Nat} {x : Cx 26} (h : LiesX w g x) : g < w.heap.size := (Array.getElem?_eq_some_iff.1 h).1
theorem size_x (x : Cx 26) : (Tryz.prog.info? 47).map (·.size) = some x.l.toArray.size := by
  rw [List.size_toArray, x.len]; kernel_rfl
theorem load_x {w : World} {g : Nat} {x : Cx 26} (h : LiesX w g x) : (loadVar 47 ⟨g, 0, none⟩).run Tryz.prog w = .ok (.agg x.l.toArray) w :=
  run_loadVar_row w g 47 47 _ (0, 0) _ h Tryz.underlying47 rfl (size_x x)
theorem size_d (r n : Int) : (Tryz.prog.info? 32).map (·.size) = some (dotc r n).size := by kernel_rfl
theorem load_d {w : World} {g : Nat} {r n : Int} (h : LiesD w g r n) : (loadVar 32 ⟨g, 0, none⟩).run Tryz.prog w = .ok (.agg (dotc r n)) w :=
  run_loadVar_row w g 32 32 _ (0, 0) _ h Tryz.underlying32 rfl (size_d r n)
theorem load_m {w : World} {ad : Addr} {m : Option Nat} (h : w.cell? ad = some (.map m)) : (loadVar 79 ad).run Tryz.prog w = .ok (.map m) w := by go_simp
theorem field_b (w : World) (g o : Nat) : (Instr.fieldAt 81 (.pointer (some ⟨g, o, none⟩)) 0).run Tryz.prog w = .ok (.pointer (some ⟨g, o, none⟩)) w := by go_simp
theorem build_it (w : World) (i : It (Cx 26)) : (Instr.build 112 #[(0, .agg (dotc i.r i.n)), (1, .agg i.x.l.toArray)]).run Tryz.prog w = .ok (.agg (xc i)) w := by
  obtain ⟨r, n, l, hl, h1⟩ := i
  match l, hl with
  | [a0, a1, a2, a3, a4, a5, a6, a7, a8, a9, a10, a11, a12, a13, a14, a15, a16, a17, a18, a19, a20, a21, a22, a23, a24, a25], hl =>
    refine Eq.trans (b := Result.ok (Value.agg (.int .i64 r :: .int .i64 n :: [a0, a1, a2, a3, a4, a5, a6, a7, a8, a9, a10, a11, a12, a13, a14, a15, a16, a17, a18, a19, a20, a21, a22, a23, a24, a25]).toArray) w) ?_ rfl
    kernel_rfl

/-- A bag lies in a block's cell: its map is nil, or lies in a block of its own. -/
structure Bg (w : World) (g o : Nat) (cs : Array Value) (ty : TypeId) (m : Option Nat) (S : List (It (Cx 26))) : Prop where
  blk : w.heap[g]? = some (.cells cs ty (0, 0))
  at' : cs[o]? = some (.map m)
  map : (m = none ∧ S = []) ∨ ∃ b, m = some b ∧ Mp w b S
section
variable {w w' : World} {g o B : Nat} {cs : Array Value} {ty : TypeId} {m : Option Nat} {S : List (It (Cx 26))}
theorem Bg.lt (h : Bg w g o cs ty m S) : g < w.heap.size := (Array.getElem?_eq_some_iff.1 h.blk).1
theorem Bg.own (h : Bg w g o cs ty m S) : ∀ k, m = some k → k < w.heap.size ∧ k ≠ g := by
  intro k hk
  rcases h.map with ⟨rfl, -⟩ | ⟨b, rfl, hb⟩
  · cases hk
  · obtain rfl := Option.some.inj hk
    refine ⟨hb.lt, ?_⟩
    rintro rfl
    obtain ⟨es, clock, L, hb, -⟩ := hb
    rw [h.blk] at hb
    cases hb
theorem Bg.srt (h : Bg w g o cs ty m S) : Srt S := by
  rcases h.map with ⟨-, rfl⟩ | ⟨b, -, hb⟩
  · exact Srt.nil
  · exact hb.srt
theorem Bg.c0 (h : Bg w g o cs ty m S) : w.cell? ⟨g, o, none⟩ = some (.map m) := by rw [cell_of_row w g o _ _ _ h.blk]; exact h.at'
theorem Bg.fz (h : Bg w g o cs ty m S) (i : Nat) : w.frozen? ⟨g, i, none⟩ = false := frozen_of_row w g i _ _ h.blk
theorem Bg.kept (h : Bg w g o cs ty m S) (hb : ∀ k, k < w.heap.size → (k = g ∨ m = some k) → w'.heap[k]? = w.heap[k]?) : Bg w' g o cs ty m S := by
  refine ⟨by rw [hb g h.lt (.inl rfl)]; exact h.blk, h.at', ?_⟩
  rcases h.map with hn | ⟨b, rfl, hm⟩
  · exact .inl hn
  · exact .inr ⟨b, rfl, hm.kept (hb b hm.lt (.inr rfl))⟩
theorem Bg.below (h : Bg w g o cs ty m S) (hb : Below B w w') (hB : w.heap.size ≤ B) : Bg w' g o cs ty m S :=
  h.kept fun k hk _ => hb.block k (by omega)
theorem Bg.alloc (h : Bg w g o cs ty m S) (ob : Obj) : Bg (w.alloc ob) g o cs ty m S := h.kept fun k hk _ => Below.heap_alloc w ob k hk
/-- Another cell of its block is another one then. -/
theorem Bg.other (h : Bg w g o cs ty m S) {cs' : Array Value} (hg : w'.heap[g]? = some (.cells cs' ty (0, 0))) (ho : cs'[o]? = cs[o]?) (hb : ∀ k, k < w.heap.size → m = some k → w'.heap[k]? = w.heap[k]?) : Bg w' g o cs' ty m S := by
  refine ⟨hg, ho.trans h.at', ?_⟩
  rcases h.map with hn | ⟨b, rfl, hm⟩
  · exact .inl hn
  · exact .inr ⟨b, rfl, hm.kept (hb b hm.lt rfl)⟩
theorem Bg.self (h : Bg w g o cs ty m S) : cs.setIfInBounds o (.map m) = cs := by
  obtain ⟨h1, h2⟩ := Array.getElem?_eq_some_iff.1 h.at'
  refine Array.ext (by simp) fun j hj hj2 => ?_
  rw [Array.getElem_setIfInBounds]
  split
  · rename_i e
    subst e
    exact h2.symm
  · rfl
end

theorem orz_some (g o : Nat) (w : World) : Calls Tryz.prog 58 #[.pointer (some ⟨g, o, none⟩)] w fun e w' => e = .returned (.pointer (some ⟨g, o, none⟩)) ∧ w' = w := by
  go_enter Tryz.func58, Tryz.ntmps58
  go_wp2
  go_ret
  exact ⟨rfl, rfl⟩
theorem eql_map_some (w : World) (b : Nat) : (binOp .eql 79 (.map (some b)) (.map none)).run Tryz.prog w = .ok (.bool false) w := by kernel_rfl
theorem eql_map_none (w : World) : (binOp .eql 79 (.map none) (.map none)).run Tryz.prog w = .ok (.bool true) w := by kernel_rfl
/-- Its map's block is another one then. -/
theorem Bg.blocked {w W : World} {g o b : Nat} {cs : Array Value} {ty : TypeId} {S S' : List (It (Cx 26))} {ob : Obj} (h : Bg w g o cs ty (some b) S) (hW : W.heap = w.heap) (hm : Mp (setBlock W b ob) b S') : Bg (setBlock W b ob) g o cs ty (some b) S' :=
  ⟨by
    have hne := (h.own b rfl).2
    have : (setBlock W b ob).heap[g]? = W.heap[g]? := (grownBy_setBlock W b ob).block g (by rw [hW]; exact h.lt) (fun e => hne (Option.some.inj e).symm)
    rw [this, hW]; exact h.blk, h.at', .inr ⟨b, rfl, hm⟩⟩
theorem tn_blocked (g b : Nat) (w W : World) (ob : Obj) (hW : W.heap = w.heap) (h1 : W.os = w.os) (h2 : W.tape = w.tape) (h3 : W.output = w.output) : Tn g (some b) (some b) w (setBlock W b ob) :=
  ⟨h1, h2, h3, by simp [setBlock, hW], fun k hk _ hb => by
    rw [← hW]
    exact (grownBy_setBlock W b ob).block k (by rw [hW]; exact hk) (fun e => hb e.symm), fun _ e => .inl e⟩
/-- A new map. -/
theorem Bg.mapped {w : World} {g o : Nat} {cs : Array Value} {ty : TypeId} (h : Bg w g o cs ty none []) : Bg ((w.alloc (.map #[] 0)).setCell ⟨g, o, none⟩ (.map (some w.heap.size))) g o (cs.setIfInBounds o (.map (some w.heap.size))) ty (some w.heap.size) ([] : List (It (Cx 26))) ∧ Tn g none (some w.heap.size) w ((w.alloc (.map #[] 0)).setCell ⟨g, o, none⟩ (.map (some w.heap.size))) := by
  have h1 := h.alloc (.map #[] 0)
  have hne : w.heap.size ≠ g := by have := h.lt; omega
  obtain ⟨ho, -⟩ := Array.getElem?_eq_some_iff.1 h.at'
  refine ⟨⟨heap_setCell_same _ g o _ _ _ h1.blk, by simp [ho], .inr ⟨_, rfl, (mp_new w).kept (Below.heap_setCell _ _ _ _ hne)⟩⟩, rfl, rfl, rfl, by simp [World.setCell], fun k hk hg _ => ?_, fun k e => .inr (by have := Option.some.inj e; omega)⟩
  rw [Below.heap_setCell _ _ _ k hg]
  exact Below.heap_alloc w _ k hk
/-- The last step of Put. -/
theorem put_held {w W : World} {g o b B0 : Nat} {cs : Array Value} {ty : TypeId} {S : List (It (Cx 26))} {i : It (Cx 26)} {ob : Obj} (h : Bg w g o cs ty (some b) S) (hD : LiesD w B0 i.r i.n) (hX : LiesX w (B0 + 1) i.x) (hW : W.heap = w.heap) (hb : ∃ es c, w.heap[b]? = some (.map es c)) :
    (setBlock W b ob).cell? ⟨g, o, none⟩ = some (.map (some b)) ∧ LiesD (setBlock W b ob) B0 i.r i.n ∧ LiesX (setBlock W b ob) (B0 + 1) i.x := by
  have key : ∀ k, k < w.heap.size → k ≠ b → (setBlock W b ob).heap[k]? = w.heap[k]? := fun k hk hne => by
    rw [← hW]
    exact (grownBy_setBlock W b ob).block k (by rw [hW]; exact hk) (fun e => hne (Option.some.inj e))
  obtain ⟨es, c, hb⟩ := hb
  have hg : (setBlock W b ob).heap[g]? = w.heap[g]? := key g h.lt (h.own b rfl).2.symm
  refine ⟨?_, ?_, ?_⟩
  · rw [cell_of_row _ g o _ _ _ (hg.trans h.blk)]; exact h.at'
  · rw [LiesD, key B0 hD.lt (by rintro rfl; rw [hD] at hb; cases hb)]; exact hD
  · rw [LiesX, key (B0 + 1) hX.lt (by rintro rfl; rw [hX] at hb; cases hb)]; exact hX
theorem Mp.blk {w : World} {b : Nat} {S : List (It (Cx 26))} (h : Mp w b S) : ∃ es c, w.heap[b]? = some (.map es c) := by
  obtain ⟨es, clock, L, hb, -⟩ := h
  exact ⟨es, clock, hb⟩

set_option maxHeartbeats 1000000 in
theorem put_any (g o : Nat) (cs : Array Value) (ty : TypeId) (m : Option Nat) (S : List (It (Cx 26))) (i : It (Cx 26)) (w : World) (h : Bg w g o cs ty m S) :
    Calls Tryz.prog 37 #[.pointer (some ⟨g, o, none⟩), .agg (dotc i.r i.n), .agg i.x.l.toArray] w fun e w' => e = .returned (.tuple #[]) ∧ ∃ m', Bg w' g o (cs.setIfInBounds o (.map m')) ty m' (put S i) ∧ Tn g m m' w w' := by
  have hz := orz_some g o ((w.alloc (.cells (dotc i.r i.n) 32)).alloc (.cells i.x.l.toArray 47))
  have hb0 : Below w.heap.size w ((w.alloc (.cells (dotc i.r i.n) 32)).alloc (.cells i.x.l.toArray 47)) := ((Below.refl _ w).alloc (Nat.le_refl _) _).alloc (by simp) _
  have hB := h.below hb0 (Nat.le_refl _)
  have hD : LiesD ((w.alloc (.cells (dotc i.r i.n) 32)).alloc (.cells i.x.l.toArray 47)) w.heap.size i.r i.n := (liesD_new w i.r i.n).alloc _
  have hX : LiesX ((w.alloc (.cells (dotc i.r i.n) 32)).alloc (.cells i.x.l.toArray 47)) (w.heap.size + 1) i.x := by
    have := heap_alloc_new (w.alloc (.cells (dotc i.r i.n) 32)) (.cells i.x.l.toArray 47)
    rwa [World.size_alloc] at this
  have T0 : Hid _ := Tn.of_below (g := g) m hb0
  obtain ⟨B0, hB0⟩ : ∃ B0, w.heap.size = B0 := ⟨_, rfl⟩
  rw [hB0] at hD hX
  generalize hxl : i.x.l.toArray = xl0 at *
  generalize hW0 : (w.alloc (.cells (dotc i.r i.n) 32)).alloc (.cells xl0 47) = W0 at *
  rcases h.map with ⟨rfl, rfl⟩ | ⟨b, rfl, hm⟩
  · obtain ⟨h1, t1⟩ := hB.mapped
    have hc0 := hB.c0
    have hac : (W0.alloc (.map #[] 0)).cell? ⟨g, o, none⟩ = some (.map none) := (hB.alloc _).c0
    have haf : (W0.alloc (.map #[] 0)).frozen? ⟨g, o, none⟩ = false := (hB.alloc _).fz o
    have hgne : g < W0.heap.size := hB.lt
    have hDg : ∀ j, j < W0.heap.size → j ≠ g → ((W0.alloc (.map #[] 0)).setCell ⟨g, o, none⟩ (.map (some W0.heap.size))).heap[j]? = W0.heap[j]? := fun j hj hne => by
      rw [Below.heap_setCell _ _ _ j hne]; exact Below.heap_alloc W0 _ j hj
    have hg0 : g < B0 := by have := h.lt; omega
    have hD1 : LiesD ((W0.alloc (.map #[] 0)).setCell ⟨g, o, none⟩ (.map (some W0.heap.size))) B0 i.r i.n := by rw [LiesD, hDg B0 hD.lt (by omega)]; exact hD
    have hX1 : LiesX ((W0.alloc (.map #[] 0)).setCell ⟨g, o, none⟩ (.map (some W0.heap.size))) (B0 + 1) i.x := by rw [LiesX, hDg (B0 + 1) hX.lt (by omega)]; exact hX
    obtain ⟨b', e', hm⟩ := (h1.map.resolve_left (by simp))
    obtain rfl := Option.some.inj e'
    obtain ⟨b, hb⟩ : ∃ b, W0.heap.size = b := ⟨_, rfl⟩
    obtain ⟨W2, hW2⟩ : ∃ W2, (W0.alloc (.map #[] 0)).setCell ⟨g, o, none⟩ (.map (some W0.heap.size)) = W2 := ⟨_, rfl⟩
    rw [hW2] at h1 t1 hD1 hX1 hm
    rw [hb] at h1 t1 hm hW2
    obtain ⟨ob, ho⟩ := hm.update i
    have hu := (ho W2.drew rfl).1
    have hHs : W2.drew.cell? ⟨g, o, none⟩ = some (.map (some b)) ∧ LiesD W2.drew B0 i.r i.n ∧ LiesX W2.drew (B0 + 1) i.x := ⟨h1.c0, hD1, hX1⟩
    have HS2 : Hid _ := put_held (W := W2.drew) (ob := ob) h1 hD1 hX1 rfl hm.blk
    have FIN : Hid _ := And.intro (h1.blocked (W := W2.drew) rfl (ho W2.drew rfl).2) (t1.trans (tn_blocked g b W2 W2.drew ob rfl rfl rfl rfl))
    have hmk := run_makeMap (P := Tryz.prog) (w := W0)
    clear ho h1 t1 hD1 hX1 hm h hB hD hX e' hDg
    have he := fun W => eql_map_none W
    go_enter Tryz.func37, Tryz.ntmps37
    go_wp2_with (first | (go_at_call 58; refine Calls.mono hz ?_; rintro e w2 ⟨rfl, hw2⟩; obtain rfl := hw2.symm))
    clear hW2 hz
    refine wp_region_noPanic ?_
    refine wp_region_held_drew (S := fun W' : World => W'.cell? ⟨g, o, none⟩ = some (.map (some b)) ∧ LiesD W' B0 i.r i.n ∧ LiesX W' (B0 + 1) i.x) (by kernel_rfl) hHs (fun hHeld => ?_)
    refine wpAnyH_take (i := 0) (oi := { dst := some 17, op := _, type := _, pos := _, after := _, guard := _ }) (v := .pointer (some ⟨g, o, none⟩)) rfl (by kernel_rfl) (by kernel_rfl) (by kernel_rfl) (fun _ _ _ h => h) (Or.inl ⟨by rfl, ?_⟩) (by assumption) ?_
    · intro w9 hSw
      exact y_move rfl rfl
    simp only [Act.put, List.setIfInBounds_toArray, List.set_cons_zero, List.set_cons_succ]
    refine wpAnyH_take (i := 1) (oi := { dst := some 18, op := _, type := _, pos := _, after := _, guard := _ }) (v := .pointer (some ⟨g, o, none⟩)) rfl (by kernel_rfl) (by kernel_rfl) (by kernel_rfl) (fun _ _ _ h => h) (Or.inl ⟨by rfl, ?_⟩) (by assumption) ?_
    · intro w9 hSw
      exact y_nil rfl rfl
    simp only [Act.put, List.setIfInBounds_toArray, List.set_cons_zero, List.set_cons_succ]
    refine wpAnyH_take (i := 2) (oi := { dst := some 19, op := _, type := _, pos := _, after := _, guard := _ }) (v := .pointer (some ⟨g, o, none⟩)) rfl (by kernel_rfl) (by kernel_rfl) (by kernel_rfl) (fun _ _ _ h => h) (Or.inl ⟨by rfl, ?_⟩) (by assumption) ?_
    · intro w9 hSw
      exact y_field rfl rfl (field_b _ _ _)
    simp only [Act.put, List.setIfInBounds_toArray, List.set_cons_zero, List.set_cons_succ]
    refine wpAnyH_take (i := 3) (oi := { dst := some 20, op := _, type := _, pos := _, after := _, guard := _ }) (v := .map (some b)) rfl (by kernel_rfl) (by kernel_rfl) (by kernel_rfl) (fun _ _ _ h => h) (Or.inl ⟨by rfl, ?_⟩) (by assumption) ?_
    · intro w9 hSw
      exact y_load rfl rfl (load_m hSw.1)
    simp only [Act.put, List.setIfInBounds_toArray, List.set_cons_zero, List.set_cons_succ]
    refine wpAnyH_take (i := 4) (oi := { dst := some 21, op := _, type := _, pos := _, after := _, guard := _ }) (v := .agg (dotc i.r i.n)) rfl (by kernel_rfl) (by kernel_rfl) (by kernel_rfl) (fun _ _ _ h => h) (Or.inl ⟨by rfl, ?_⟩) (by assumption) ?_
    · intro w9 hSw
      exact y_load rfl rfl (load_d hSw.2.1)
    simp only [Act.put, List.setIfInBounds_toArray, List.set_cons_zero, List.set_cons_succ]
    refine wpAnyH_take (i := 5) (oi := { dst := some 22, op := _, type := _, pos := _, after := _, guard := _ }) (v := .agg (dotc i.r i.n)) rfl (by kernel_rfl) (by kernel_rfl) (by kernel_rfl) (fun _ _ _ h => h) (Or.inl ⟨by rfl, ?_⟩) (by assumption) ?_
    · intro w9 hSw
      exact y_load rfl rfl (load_d hSw.2.1)
    simp only [Act.put, List.setIfInBounds_toArray, List.set_cons_zero, List.set_cons_succ]
    refine wpAnyH_take (i := 6) (oi := { dst := some 23, op := _, type := _, pos := _, after := _, guard := _ }) (v := .agg i.x.l.toArray) rfl (by kernel_rfl) (by kernel_rfl) (by kernel_rfl) (fun _ _ _ h => h) (Or.inl ⟨by rfl, ?_⟩) (by assumption) ?_
    · intro w9 hSw
      exact y_load rfl rfl (load_x hSw.2.2)
    simp only [Act.put, List.setIfInBounds_toArray, List.set_cons_zero, List.set_cons_succ]
    refine wpAnyH_take (i := 7) (oi := { dst := some 24, op := _, type := _, pos := _, after := _, guard := _ }) (v := .agg (xc i)) rfl (by kernel_rfl) (by kernel_rfl) (by kernel_rfl) (fun _ _ _ h => h) (Or.inl ⟨by rfl, ?_⟩) (by assumption) ?_
    · intro w9 hSw
      exact y_b2 (ty := 112) (i := 0) (j := 1) (x := .tmp 22) (y := .tmp 23) (p := .agg (dotc i.r i.n)) (q := .agg i.x.l.toArray) rfl rfl rfl (build_it _ _)
    simp only [Act.put, List.setIfInBounds_toArray, List.set_cons_zero, List.set_cons_succ]
    refine wpAnyH_ready (rs := [8]) (by kernel_rfl) (by simp) ?_
    refine AllReadyH.cons (o := { dst := none, op := _, type := _, pos := _, after := _, guard := _ }) rfl (fun K hK => ?_) AllReadyH.nil
    rw [if_pos (by rfl)]
    refine y_mapu (ty := 79) (x := .tmp 20) (y := .tmp 21) (z := .tmp 24) (p := .map (some b)) (q := .agg (dotc i.r i.n)) (r := .agg (xc i)) rfl rfl rfl rfl hu ?_
    refine hK.out _ _ HS2.out (fun hHeld => ?_)
    clear hK K
    simp only [Act.put]
    refine wpAnyH_done (by kernel_rfl) ?_ _
    refine NoPanic.normal ?_
    clear hHeld
    go_wp2
    go_end0
    exact ⟨rfl, _, FIN.out.1, T0.out.trans FIN.out.2⟩
  · obtain ⟨hm0⟩ : Nonempty (Mp W0 b S) := by
      rcases hB.map with ⟨e, -⟩ | ⟨b', e, hm'⟩
      · cases e
      · obtain rfl := Option.some.inj e
        exact ⟨hm'⟩
    obtain ⟨ob, ho⟩ := hm0.update i
    have hu := (ho W0.drew rfl).1
    have hc0 := hB.c0
    have hHs : W0.drew.cell? ⟨g, o, none⟩ = some (.map (some b)) ∧ LiesD W0.drew B0 i.r i.n ∧ LiesX W0.drew (B0 + 1) i.x := ⟨hB.c0, hD, hX⟩
    have HS2 : Hid _ := put_held (W := W0.drew) (ob := ob) hB hD hX rfl hm0.blk
    have FIN : Hid _ := And.intro (hB.blocked (W := W0.drew) rfl (ho W0.drew rfl).2) (tn_blocked g b W0 W0.drew ob rfl rfl rfl rfl)
    have HSF : Hid _ := h.self
    clear ho hm0 hm h hB hD hX
    have he := fun W => eql_map_some W b
    go_enter Tryz.func37, Tryz.ntmps37
    go_wp2_with (first | (go_at_call 58; refine Calls.mono hz ?_; rintro e w2 ⟨rfl, hw2⟩; obtain rfl := hw2.symm))
    clear hz
    refine wp_region_noPanic ?_
    refine wp_region_held_drew (S := fun W' : World => W'.cell? ⟨g, o, none⟩ = some (.map (some b)) ∧ LiesD W' B0 i.r i.n ∧ LiesX W' (B0 + 1) i.x) (by kernel_rfl) hHs (fun hHeld => ?_)
    refine wpAnyH_take (i := 0) (oi := { dst := some 17, op := _, type := _, pos := _, after := _, guard := _ }) (v := .pointer (some ⟨g, o, none⟩)) rfl (by kernel_rfl) (by kernel_rfl) (by kernel_rfl) (fun _ _ _ h => h) (Or.inl ⟨by rfl, ?_⟩) (by assumption) ?_
    · intro w9 hSw
      exact y_move rfl rfl
    simp only [Act.put, List.setIfInBounds_toArray, List.set_cons_zero, List.set_cons_succ]
    refine wpAnyH_take (i := 1) (oi := { dst := some 18, op := _, type := _, pos := _, after := _, guard := _ }) (v := .pointer (some ⟨g, o, none⟩)) rfl (by kernel_rfl) (by kernel_rfl) (by kernel_rfl) (fun _ _ _ h => h) (Or.inl ⟨by rfl, ?_⟩) (by assumption) ?_
    · intro w9 hSw
      exact y_nil rfl rfl
    simp only [Act.put, List.setIfInBounds_toArray, List.set_cons_zero, List.set_cons_succ]
    refine wpAnyH_take (i := 2) (oi := { dst := some 19, op := _, type := _, pos := _, after := _, guard := _ }) (v := .pointer (some ⟨g, o, none⟩)) rfl (by kernel_rfl) (by kernel_rfl) (by kernel_rfl) (fun _ _ _ h => h) (Or.inl ⟨by rfl, ?_⟩) (by assumption) ?_
    · intro w9 hSw
      exact y_field rfl rfl (field_b _ _ _)
    simp only [Act.put, List.setIfInBounds_toArray, List.set_cons_zero, List.set_cons_succ]
    refine wpAnyH_take (i := 3) (oi := { dst := some 20, op := _, type := _, pos := _, after := _, guard := _ }) (v := .map (some b)) rfl (by kernel_rfl) (by kernel_rfl) (by kernel_rfl) (fun _ _ _ h => h) (Or.inl ⟨by rfl, ?_⟩) (by assumption) ?_
    · intro w9 hSw
      exact y_load rfl rfl (load_m hSw.1)
    simp only [Act.put, List.setIfInBounds_toArray, List.set_cons_zero, List.set_cons_succ]
    refine wpAnyH_take (i := 4) (oi := { dst := some 21, op := _, type := _, pos := _, after := _, guard := _ }) (v := .agg (dotc i.r i.n)) rfl (by kernel_rfl) (by kernel_rfl) (by kernel_rfl) (fun _ _ _ h => h) (Or.inl ⟨by rfl, ?_⟩) (by assumption) ?_
    · intro w9 hSw
      exact y_load rfl rfl (load_d hSw.2.1)
    simp only [Act.put, List.setIfInBounds_toArray, List.set_cons_zero, List.set_cons_succ]
    refine wpAnyH_take (i := 5) (oi := { dst := some 22, op := _, type := _, pos := _, after := _, guard := _ }) (v := .agg (dotc i.r i.n)) rfl (by kernel_rfl) (by kernel_rfl) (by kernel_rfl) (fun _ _ _ h => h) (Or.inl ⟨by rfl, ?_⟩) (by assumption) ?_
    · intro w9 hSw
      exact y_load rfl rfl (load_d hSw.2.1)
    simp only [Act.put, List.setIfInBounds_toArray, List.set_cons_zero, List.set_cons_succ]
    refine wpAnyH_take (i := 6) (oi := { dst := some 23, op := _, type := _, pos := _, after := _, guard := _ }) (v := .agg i.x.l.toArray) rfl (by kernel_rfl) (by kernel_rfl) (by kernel_rfl) (fun _ _ _ h => h) (Or.inl ⟨by rfl, ?_⟩) (by assumption) ?_
    · intro w9 hSw
      exact y_load rfl rfl (load_x hSw.2.2)
    simp only [Act.put, List.setIfInBounds_toArray, List.set_cons_zero, List.set_cons_succ]
    refine wpAnyH_take (i := 7) (oi := { dst := some 24, op := _, type := _, pos := _, after := _, guard := _ }) (v := .agg (xc i)) rfl (by kernel_rfl) (by kernel_rfl) (by kernel_rfl) (fun _ _ _ h => h) (Or.inl ⟨by rfl, ?_⟩) (by assumption) ?_
    · intro w9 hSw
      exact y_b2 (ty := 112) (i := 0) (j := 1) (x := .tmp 22) (y := .tmp 23) (p := .agg (dotc i.r i.n)) (q := .agg i.x.l.toArray) rfl rfl rfl (build_it _ _)
    simp only [Act.put, List.setIfInBounds_toArray, List.set_cons_zero, List.set_cons_succ]
    refine wpAnyH_ready (rs := [8]) (by kernel_rfl) (by simp) ?_
    refine AllReadyH.cons (o := { dst := none, op := _, type := _, pos := _, after := _, guard := _ }) rfl (fun K hK => ?_) AllReadyH.nil
    rw [if_pos (by rfl)]
    refine y_mapu (ty := 79) (x := .tmp 20) (y := .tmp 21) (z := .tmp 24) (p := .map (some b)) (q := .agg (dotc i.r i.n)) (r := .agg (xc i)) rfl rfl rfl rfl hu ?_
    refine hK.out _ _ HS2.out (fun hHeld => ?_)
    clear hK K
    simp only [Act.put]
    refine wpAnyH_done (by kernel_rfl) ?_ _
    refine NoPanic.normal ?_
    clear hHeld
    go_wp2
    go_end0
    exact ⟨rfl, some b, by rw [HSF.out]; exact FIN.out.1, T0.out.trans FIN.out.2⟩
theorem len_any (g o : Nat) (cs : Array Value) (ty : TypeId) (m : Option Nat) (S : List (It (Cx 26))) (w : World) (h : Bg w g o cs ty m S) :
    Calls Tryz.prog 59 #[.pointer (some ⟨g, o, none⟩)] w fun e w' => e = .returned (.int .i64 (S.length : Int)) ∧ w' = w := by
  have hz := orz_some g o w
  have hc := h.c0
  have hl : (Builtin.len_ #[79] 3 #[.map m]).run Tryz.prog w = .ok (.int .i64 (S.length : Int)) w := by
    rcases h.map with ⟨rfl, rfl⟩ | ⟨b, rfl, hm⟩
    · exact len_nil w _
    · exact hm.len _
  generalize (S.length : Int) = n at *
  clear h
  go_enter Tryz.func59, Tryz.ntmps59
  go_wp2_with (first | (go_at_call 58; refine Calls.mono hz ?_; rintro e w2 ⟨rfl, hw2⟩; obtain rfl := hw2.symm))
  go_ret
  exact ⟨rfl, rfl⟩
end Go.Proofs.YtmlfekbmbnfkjabGreatDoor.E

/-
  What Items comes to: all things, in their dots' order.
-/
namespace Go.Proofs.YtmlfekbmbnfkjabGreatDoor.E
set_option maxRecDepth 100000
set_option maxRecDepth 100000
open Go.RowKit Go.Shelf Go.Sort
open Go.ChangeMaps (setBlock)

set_option maxHeartbeats 1000000 in
/-- Over a nil map nothing comes. -/
theorem valuesf_nil (n l Bm : Nat) (J : List (It (Cx 26)) → World → Prop) (W : World) (hJ : AbidesFrom W.heap.size J) (hm : W.cell? ⟨Bm, 0, none⟩ = some (.map none)) (h0 : J [] W) :
    CallsIn Fence.wide n Tryz.prog 172 #[.func (.yield l) #[] #[], .pointer (some ⟨Bm, 0, none⟩)] W fun e W' => (∃ v, e = .returned v) ∧ J [] W' := by
  have hJ0 := hJ [] W (W.alloc (.mapIter none 0 #[] 0)) none h0 (World.grownBy_alloc W _ none) (fun r e => by cases e)
  have hrun := run_range_nilMap (P := Tryz.prog) W 79 _ _ Tryz.underlying79
  have hnx := run_next_nilMap (P := Tryz.prog) W 0 0 0 #[]
  generalize W.alloc (.mapIter none 0 #[] 0) = W2 at *
  refine callsIn_of_wp Tryz.func172 rfl trivial ?_ rfl
  simp only [Tryz.ntmps172, List.size_toArray, List.length_cons, List.length_nil, Nat.reduceAdd, Nat.reduceSub, Array.replicate_succ, Array.replicate_zero, List.push_toArray, List.append_toArray, List.nil_append, List.cons_append]
  gi_wp2
  gi_loopw [4] (fun _ wr => wr = W2) (fun _ _ => 0)
  case atStart => rfl
  case round =>
    subst hrel
    gi_wp2
    go_end0
    exact ⟨⟨_, rfl⟩, hJ0⟩
theorem values_nil (n Bm : Nat) (w : World) (hBm : Bm < w.heap.size) (hm : w.cell? ⟨Bm, 0, none⟩ = some (.map none)) :
    SeqStopsK Fence.wide n Tryz.prog 172 #[.pointer (some ⟨Bm, 0, none⟩)] (fun i : It (Cx 26) => #[.agg (xc i)]) KeepsWalks (fun xs => xs.Perm []) (fun _ => True) 0 w := fun l J _ W hW hJ _ _ h0 =>
  (valuesf_nil n l Bm J W hJ ((hW.cell (p := ⟨Bm, 0, none⟩) hBm).trans hm) h0).mono fun _ _ ⟨h1, h2⟩ => ⟨h1, .inl ⟨[], List.Perm.refl _, h2⟩⟩

theorem values_any (m : Option Nat) (w : World) : Calls Tryz.prog 135 #[.map m] w fun e w' => e = .returned (.func (.func 172) #[] #[.pointer (some ⟨w.heap.size, 0, none⟩)]) ∧ w' = w.alloc (.cells #[.map m] 79) := by
  have hmf : ∀ (fn : Fn) (first cap : Array Value) (w : World), (Instr.makeFunc fn first cap).run Tryz.prog w = .ok (.func fn first cap) w := fun _ _ _ _ => rfl
  go_enter Tryz.func135, Tryz.ntmps135
  go_wp2
  go_ret
  exact ⟨rfl, rfl⟩
set_option maxHeartbeats 400000 in
/-- slices.Collect over a bag's map. -/
theorem collect_any (Bm : Nat) (m : Option Nat) (S : List (It (Cx 26))) (w : World) (hBm : Bm < w.heap.size) (hm : w.cell? ⟨Bm, 0, none⟩ = some (.map m)) (hS : (m = none ∧ S = []) ∨ ∃ b, m = some b ∧ Mp w b S) (hl : S.length ≤ 1048576) :
    Calls Tryz.prog 170 #[.func (.func 172) #[] #[.pointer (some ⟨Bm, 0, none⟩)]] w fun e w' => ∃ v L, e = .returned v ∧ L.Perm S ∧ Rw 112 w' w.heap.size v L ∧ Below w.heap.size w w' := by
  have eg : ∀ args w, (callFunc 172 args).run Tryz.prog w = .ok (.enter 172 args) w := enters_of Tryz.func172 (by kernel_rfl) rfl
  have hA : Calls Tryz.prog 209 #[.slice none 0 0, .func (.func 172) #[] #[.pointer (some ⟨Bm, 0, none⟩)]] w fun e w' => ∃ v L, e = .returned v ∧ L.Perm S ∧ Rw 112 w' w.heap.size v L ∧ Below w.heap.size w w' := by
    refine (callsIn_wide (n := 3)).1 ?_
    rcases hS with ⟨rfl, rfl⟩ | ⟨b, rfl, hM⟩
    · exact appendseq_in 3 (by omega) 172 _ eg _ _ 0 (by omega) w (values_nil 2 Bm w hBm hm)
    · exact appendseq_in 3 (by omega) 172 _ eg _ _ S.length hl w (values_stops 2 Bm b S (by omega) w hBm hm hM)
  go_enter Tryz.func170, Tryz.ntmps170
  go_wp2_with fail
  refine Calls.mono hA ?_
  rintro e w1 ⟨v, L, rfl, h1, h2, h3⟩
  go_wp2
  go_ret
  exact ⟨v, L, rfl, h1, h2, h3⟩
set_option maxHeartbeats 400000 in
theorem sortedfunc_any (Bm : Nat) (m : Option Nat) (S : List (It (Cx 26))) (w : World) (hBm : Bm < w.heap.size) (hm : w.cell? ⟨Bm, 0, none⟩ = some (.map m)) (hS : (m = none ∧ S = []) ∨ ∃ b, m = some b ∧ Mp w b S) (hs : Srt S) (hl : S.length ≤ 1048576) :
    Calls Tryz.prog 134 #[.func (.func 172) #[] #[.pointer (some ⟨Bm, 0, none⟩)], .func (.func 136) #[] #[]] w fun e w' => ∃ v, e = .returned v ∧ Rw 112 w' w.heap.size v S ∧ Below w.heap.size w w' := by
  have hC := collect_any Bm m S w hBm hm hS hl
  go_enter Tryz.func134, Tryz.ntmps134
  go_wp2_with fail
  refine Calls.mono hC ?_
  rintro e w1 ⟨v, L, rfl, h1, h2, h3⟩
  have hSo := sort_any v L S w.heap.size w1 h2 (by have := h1.length_eq; omega) h1 hs
  go_wp2_with fail
  refine Calls.mono hSo ?_
  rintro e w2 ⟨rfl, h4, h5⟩
  have hb := h3.grown h5 h3.size (fun k e => (h2.lt k e).1)
  go_wp2
  go_ret
  exact ⟨v, rfl, h4, hb⟩
set_option maxHeartbeats 400000 in
theorem items_any (g o : Nat) (cs : Array Value) (ty : TypeId) (m : Option Nat) (S : List (It (Cx 26))) (w : World) (h : Bg w g o cs ty m S) (hl : S.length ≤ 1048576) :
    Calls Tryz.prog 91 #[.pointer (some ⟨g, o, none⟩)] w fun e w' => ∃ v, e = .returned v ∧ Rw 112 w' w.heap.size v S ∧ Below w.heap.size w w' := by
  have hz := orz_some g o w
  have hc := h.c0
  have hb : Below w.heap.size w (w.alloc (.cells #[.map m] 79)) := (Below.refl _ w).alloc (Nat.le_refl _) _
  have hV := values_any m w
  have hF := sortedfunc_any w.heap.size m S (w.alloc (.cells #[.map m] 79)) (by simp) (cell_of_row _ _ 0 _ _ _ (heap_alloc_new w _)) (by
    rcases h.map with hn | ⟨b, hb, hM⟩
    · exact .inl hn
    · exact .inr ⟨b, hb, hM.alloc _⟩) h.srt hl
  generalize w.alloc (.cells #[.map m] 79) = W1 at *
  clear h
  go_enter Tryz.func91, Tryz.ntmps91
  go_wp2_with fail
  refine Calls.mono hz ?_
  rintro e w1 ⟨rfl, hw1⟩
  obtain rfl := hw1.symm
  go_wp2_with fail
  refine Calls.mono hV ?_
  rintro e w1 ⟨rfl, hw2⟩
  obtain rfl := hw2.symm
  go_wp2_with fail
  refine Calls.mono hF ?_
  rintro e w2 ⟨v, rfl, h1, h2⟩
  go_wp2
  go_ret
  exact ⟨v, rfl, h1.lower hb.size, hb.trans (h2.mono hb.size)⟩
end Go.Proofs.YtmlfekbmbnfkjabGreatDoor.E

