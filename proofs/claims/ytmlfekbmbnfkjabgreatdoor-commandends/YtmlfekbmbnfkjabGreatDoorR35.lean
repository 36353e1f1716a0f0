/-
  What Get and Remove come to (28 cells an item).
-/
import Derived.Test.YtmlfekbmbnfkjabGreatDoorR17
import Derived.Test.YtmlfekbmbnfkjabGreatDoorR26
import Derived.Test.YtmlfekbmbnfkjabGreatDoorR22
namespace Go.Proofs.YtmlfekbmbnfkjabGreatDoor.E
set_option maxRecDepth 100000
open Go.RowKit
open Go.ChangeMaps (setBlock)

/-- What is there, or the zero item. -/
def gets (S : List (It (Cx 26))) (r n : Int) : It (Cx 26) := (find S r n).getD ⟨0, 0, zx⟩
theorem Bg.lookup {w : World} {g o : Nat} {cs : Array Value} {ty : TypeId} {m : Option Nat} {S : List (It (Cx 26))} (h : Bg w g o cs ty m S) (r n : Int) :
    (Instr.lookup 79 (.map m) (.agg (dotc r n)) true).run Tryz.prog w = .ok (.tuple #[.agg (xc (gets S r n)), .bool (hasD S r n)]) w := by
  rcases h.map with ⟨rfl, rfl⟩ | ⟨b, rfl, hm⟩
  · exact lookup_nil w r n
  · exact hm.lookup r n
theorem Bg.del {w : World} {g o : Nat} {cs : Array Value} {ty : TypeId} {m : Option Nat} {S : List (It (Cx 26))} (h : Bg w g o cs ty m S) (r n : Int) (t0 : TypeId) (W : World) (hW : W.heap = w.heap) (h1 : W.os = w.os) (h2 : W.tape = w.tape) (h3 : W.output = w.output) :
    ∃ w', (Builtin.delete_ #[79, 32] t0 #[.map m, .agg (dotc r n)]).run Tryz.prog W = .ok (.tuple #[]) w' ∧ Bg w' g o cs ty m (Go.Proofs.YtmlfekbmbnfkjabGreatDoor.del S r n) ∧ Tn g m m w w' := by
  rcases h.map with ⟨rfl, rfl⟩ | ⟨b, rfl, hm⟩
  · exact ⟨W, delete_nil W r n t0, ⟨by rw [hW]; exact h.blk, h.at', .inl ⟨rfl, rfl⟩⟩, h1, h2, h3, by rw [hW]; exact Nat.le_refl _, fun k _ _ _ => by rw [hW], fun _ e => .inl e⟩
  · obtain ⟨ob, ho⟩ := hm.delete r n t0
    have := ho W (by rw [hW])
    exact ⟨_, this.1, h.blocked hW this.2, tn_blocked g b w W ob hW h1 h2 h3⟩
theorem y_al {o : Oper} {a : Act} {w w' : World} {K : Act → World → Prop} {Q : Exit → Act → World → Prop} {ty : TypeId} {v : Value} (ho : o.op = .alloc ty) (hr : (Instr.alloc ty true (.tuple #[])).run Tryz.prog w = .ok v w') (h : K (a.put o.dst v) w') : o.wp Tryz.prog a w K Q := by
  unfold Oper.wp execOp
  simp only [ho, Sem.run_bind, Sem.run_pure, Result.andThen_ok, hr]
  exact h
theorem alloc_it (w : World) : (Instr.alloc 112 true (.tuple #[])).run Tryz.prog w = .ok (.pointer (some ⟨w.heap.size, 0, none⟩)) (w.alloc (.cells #[Value.int IntKind.i64 0, Value.int IntKind.i64 0, Value.int IntKind.i64 0, Value.int IntKind.i64 0, Value.int IntKind.i64 0, Value.int IntKind.i64 0, Value.int IntKind.i64 0, Value.int IntKind.i64 0, Value.int IntKind.i64 0, Value.int IntKind.i64 0, Value.int IntKind.i64 0, Value.int IntKind.i64 0, Value.int IntKind.i64 0, Value.int IntKind.i64 0, Value.int IntKind.i64 0, Value.int IntKind.i64 0, Value.int IntKind.i64 0, Value.int IntKind.i64 0, Value.int IntKind.i64 0, Value.int IntKind.i64 0, Value.int IntKind.i64 0, Value.int IntKind.i64 0, Value.string { data := #[] }, Value.string { data := #[] }, Value.string { data := #[] }, Value.int IntKind.i64 0, Value.int IntKind.i64 0, Value.int IntKind.i64 0] 112)) := by
  simp [go_sem]
/-- What Get and Remove read. -/
structure Gr (g o : Nat) (cs : Array Value) (ty : TypeId) (m : Option Nat) (S : List (It (Cx 26))) (B : Nat) (r n : Int) (W : World) : Prop where
  bg : Bg W g o cs ty m S
  dt : LiesD W B r n
theorem Gr.below {g o : Nat} {cs : Array Value} {ty : TypeId} {m : Option Nat} {S : List (It (Cx 26))} {B : Nat} {r n : Int} {W W' : World} (h : Gr g o cs ty m S B r n W) (hb : Below W.heap.size W W') : Gr g o cs ty m S B r n W' := ⟨h.bg.below hb (Nat.le_refl _), h.dt.below hb h.dt.lt⟩
theorem enters_orz (xs : Array Value) (w : World) : (callFunc 58 xs).run Tryz.prog w = .ok (.enter 58 xs) w := enters Tryz.func58 (by kernel_rfl) (by kernel_rfl) xs w

theorem ldx {w : World} {g : Nat} {i : It (Cx 26)} (h : w.heap[g]? = some (.cells (xc i) 112 (0, 0))) : (loadVar 47 ⟨g, 2, none⟩).run Tryz.prog w = .ok (.agg i.x.l.toArray) w := by
  have hr : w.rangeAt g 2 i.x.l := fun j u hu => by
    rw [cell_of_row w _ (2 + j) _ _ _ h]
    simp only [xc, xl, List.getElem?_toArray]
    rw [show 2 + j = j + 1 + 1 by omega, List.getElem?_cons_succ, List.getElem?_cons_succ]
    exact hu
  have hs := size_x i.x
  rw [List.size_toArray] at hs
  exact run_loadVar_mid (P := Tryz.prog) w g 2 47 _ _ hr Tryz.underlying47 rfl hs
theorem x_one (x : Cx 26) : x.l.toArray.all (·.oneCell') = true := by
  rw [Array.all_eq_true_iff_forall_mem]
  exact fun u hu => x.one u (by simpa using hu)
theorem store_x {w : World} {g : Nat} {x y : Cx 26} (h : LiesX w g x) : (storeVar 47 ⟨g, 0, none⟩ (.agg y.l.toArray)).run Tryz.prog w = .ok () (w.setRow g y.l.toArray) :=
  run_storeVar_row (P := Tryz.prog) w g 47 47 x.l.toArray y.l.toArray h (size_x y) (by rw [List.size_toArray, List.size_toArray, x.len, y.len]) (x_one y)
theorem ret_x2 {fn : Func} {R : Ending → World → Prop} {a : Act} {w : World} {p u : Tmp} {g : Nat} {x : Cx 26} {v : Value} (h : fn.results = #[.cell p 47, .tmp u]) (hp : a.tmps.getD p undef = .pointer (some ⟨g, 0, none⟩))
    (hu : a.tmps.getD u undef = v) (hd : a.defers = []) (hg : LiesX w g x) (hR : R (.returned (.tuple #[.agg x.l.toArray, v])) w) : bodyPost Tryz.prog fn R .ret a w := by
  refine bodyPost_ret ?_ hd hR
  rw [results_cell_tmp h, hp, hu]
  simp only [asAddr, Sem.run_pure, Result.andThen_ok, load_x hg]
theorem zx_arr : (zx : Cx 26).l.toArray = #[Value.int IntKind.i64 0, Value.int IntKind.i64 0, Value.int IntKind.i64 0, Value.int IntKind.i64 0, Value.int IntKind.i64 0, Value.int IntKind.i64 0, Value.int IntKind.i64 0, Value.int IntKind.i64 0, Value.int IntKind.i64 0, Value.int IntKind.i64 0, Value.int IntKind.i64 0, Value.int IntKind.i64 0, Value.int IntKind.i64 0, Value.int IntKind.i64 0, Value.int IntKind.i64 0, Value.int IntKind.i64 0, Value.int IntKind.i64 0, Value.int IntKind.i64 0, Value.int IntKind.i64 0, Value.int IntKind.i64 0, Value.string { data := #[] }, Value.string { data := #[] }, Value.string { data := #[] }, Value.int IntKind.i64 0, Value.int IntKind.i64 0, Value.int IntKind.i64 0] := rfl
set_option maxHeartbeats 1000000 in
theorem get_any (g o : Nat) (cs : Array Value) (ty : TypeId) (m : Option Nat) (S : List (It (Cx 26))) (r n : Int) (w : World) (h : Bg w g o cs ty m S) :
    Calls Tryz.prog 156 #[.pointer (some ⟨g, o, none⟩), .agg (dotc r n)] w fun e w' => e = .returned (.tuple #[.agg (gets S r n).x.l.toArray, .bool (hasD S r n)]) ∧ Below w.heap.size w w' := by
  have hb0 : Below w.heap.size w ((w.alloc (.cells (dotc r n) 32)).alloc (.cells (zx : Cx 26).l.toArray 47)) := ((Below.refl _ w).alloc (Nat.le_refl _) _).alloc (by simp) _
  have hG0 : Gr g o cs ty m S w.heap.size r n ((w.alloc (.cells (dotc r n) 32)).alloc (.cells (zx : Cx 26).l.toArray 47)) := ⟨h.below hb0 (Nat.le_refl _), (liesD_new w r n).alloc _⟩
  have hZ0 : LiesX ((w.alloc (.cells (dotc r n) 32)).alloc (.cells (zx : Cx 26).l.toArray 47)) (w.heap.size + 1) zx := by
    have := heap_alloc_new (w.alloc (.cells (dotc r n) 32)) (.cells (zx : Cx 26).l.toArray 47)
    rwa [World.size_alloc] at this
  generalize hW0 : (w.alloc (.cells (dotc r n) 32)).alloc (.cells (zx : Cx 26).l.toArray 47) = W0 at *
  rw [zx_arr] at hW0
  obtain ⟨B, hB⟩ : ∃ B, w.heap.size = B := ⟨_, rfl⟩
  rw [hB] at hG0 hZ0
  have hz := orz_some g o W0.drew
  have hbd : Below W0.heap.size W0 W0.drew := (Below.refl _ W0).drew
  have hGd := hG0.below hbd
  have hb1 : Below W0.drew.heap.size W0.drew (W0.drew.alloc (.cells (xc (gets S r n)) 112)) := (Below.refl _ _).alloc (Nat.le_refl _) _
  have hbz : Below W0.drew.heap.size W0.drew (W0.drew.alloc (.cells #[Value.int IntKind.i64 0, Value.int IntKind.i64 0, Value.int IntKind.i64 0, Value.int IntKind.i64 0, Value.int IntKind.i64 0, Value.int IntKind.i64 0, Value.int IntKind.i64 0, Value.int IntKind.i64 0, Value.int IntKind.i64 0, Value.int IntKind.i64 0, Value.int IntKind.i64 0, Value.int IntKind.i64 0, Value.int IntKind.i64 0, Value.int IntKind.i64 0, Value.int IntKind.i64 0, Value.int IntKind.i64 0, Value.int IntKind.i64 0, Value.int IntKind.i64 0, Value.int IntKind.i64 0, Value.int IntKind.i64 0, Value.int IntKind.i64 0, Value.int IntKind.i64 0, Value.string { data := #[] }, Value.string { data := #[] }, Value.string { data := #[] }, Value.int IntKind.i64 0, Value.int IntKind.i64 0, Value.int IntKind.i64 0] 112)) := (Below.refl _ _).alloc (Nat.le_refl _) _
  have hst := st_new W0.drew (gets S r n)
  have hG1 := hGd.below hb1
  have hGz := hGd.below hbz
  have hZ1 : LiesX (W0.drew.alloc (.cells (xc (gets S r n)) 112)) (B + 1) zx := by
    rw [LiesX, hb1.block (B + 1) (by show _ < W0.heap.size; exact hZ0.lt)]; exact hZ0
  have hI1 := heap_alloc_new W0.drew (.cells (xc (gets S r n)) 112)
  have hal := alloc_it W0.drew
  have hBe : Below w.heap.size w (W0.drew.alloc (.cells (xc (gets S r n)) 112)) := hb0.trans ((hbd.trans (hb1.mono hbd.size)).mono hb0.size)
  generalize hWz : W0.drew.alloc (.cells #[Value.int IntKind.i64 0, Value.int IntKind.i64 0, Value.int IntKind.i64 0, Value.int IntKind.i64 0, Value.int IntKind.i64 0, Value.int IntKind.i64 0, Value.int IntKind.i64 0, Value.int IntKind.i64 0, Value.int IntKind.i64 0, Value.int IntKind.i64 0, Value.int IntKind.i64 0, Value.int IntKind.i64 0, Value.int IntKind.i64 0, Value.int IntKind.i64 0, Value.int IntKind.i64 0, Value.int IntKind.i64 0, Value.int IntKind.i64 0, Value.int IntKind.i64 0, Value.int IntKind.i64 0, Value.int IntKind.i64 0, Value.int IntKind.i64 0, Value.int IntKind.i64 0, Value.string { data := #[] }, Value.string { data := #[] }, Value.string { data := #[] }, Value.int IntKind.i64 0, Value.int IntKind.i64 0, Value.int IntKind.i64 0] 112) = Wz at *
  generalize hW1 : W0.drew.alloc (.cells (xc (gets S r n)) 112) = W1 at *
  have hlk : ∀ W, Gr g o cs ty m S B r n W → (Instr.lookup 79 (.map m) (.agg (dotc r n)) true).run Tryz.prog W = .ok (.tuple #[.agg (xc (gets S r n)), .bool (hasD S r n)]) W := fun W hh => hh.bg.lookup r n
  have hzz := orz_some g o Wz
  have hldx := ldx hI1
  have hstx := store_x (y := (gets S r n).x) hZ1
  have hLF : LiesX (W1.setRow (B + 1) (gets S r n).x.l.toArray) (B + 1) (gets S r n).x := setRow_heap W1 (B + 1) _ _ _ _ hZ1
  have hBF : Below w.heap.size w (W1.setRow (B + 1) (gets S r n).x.l.toArray) := below_setRow hBe (by omega) _
  generalize W1.setRow (B + 1) (gets S r n).x.l.toArray = WF at *
  generalize gets S r n = i at *
  generalize hasD S r n = ok at *
  have HBF : Hid (Below w.heap.size w WF) := hBF
  have hHs : Gr g o cs ty m S B r n W0.drew := hGd
  have hbsz : W0.drew.heap.size = W0.heap.size := rfl
  clear h hG0 hbd hb1 hbz hGd hb0 hZ0 hZ1 hI1 hBe hBF
  go_enter Tryz.func156, Tryz.ntmps156
  go_wp2_with fail
  clear hW0 hWz hW1
  go_cut [6, 7] from 6 (fun v6 v7 wr => v6 = .pointer (some ⟨W0.drew.heap.size, 0, none⟩) ∧ v7 = .bool ok ∧ wr = W1)
  case first =>
    refine wp_region_noPanic ?_
    refine wp_region_held_drew (S := fun W' : World => Gr g o cs ty m S B r n W') (by kernel_rfl) hHs (fun hHeld => ?_)
    refine wpAnyH_take (i := 0) (oi := { dst := some 9, op := _, type := _, pos := _, after := _, guard := _ }) (v := .pointer (some ⟨g, o, none⟩)) rfl (by kernel_rfl) (by kernel_rfl) (by kernel_rfl) (fun _ _ _ h => h) (Or.inl ⟨by rfl, ?_⟩) (by assumption) ?_
    · intro w9 hSw
      exact y_move rfl rfl
    simp only [Act.put, List.setIfInBounds_toArray, List.set_cons_zero, List.set_cons_succ]
    refine wpAnyH_take (i := 5) (oi := { dst := some 14, op := _, type := _, pos := _, after := _, guard := _ }) (v := .agg (dotc r n)) rfl (by kernel_rfl) (by kernel_rfl) (by kernel_rfl) (fun _ _ _ h => h) (Or.inl ⟨by rfl, ?_⟩) (by assumption) ?_
    · intro w9 hSw
      exact y_load rfl rfl (load_d hSw.dt)
    simp only [Act.put, List.setIfInBounds_toArray, List.set_cons_zero, List.set_cons_succ]
    refine wpAnyH_ready (rs := [1, 10]) (by kernel_rfl) (by simp) ?_
    refine AllReadyH.cons (o := { dst := some 10, op := _, type := _, pos := _, after := _, guard := _ }) rfl (fun K hK => ?_) ?_
    · rw [if_pos (by rfl)]
      refine y_call (f := 58) (xs := [.tmp 9]) (vs := [.pointer (some ⟨g, o, none⟩)]) rfl rfl (enters_orz _ _) hz ?_
      rintro e wq ⟨rfl, hwq⟩
      obtain rfl := hwq.symm
      refine ⟨_, rfl, ?_⟩
      refine hK.out _ _ hHs (fun hHeld => ?_)
      clear hK K
      simp only [Act.put, List.setIfInBounds_toArray, List.set_cons_zero, List.set_cons_succ]
      refine wpAnyH_take (i := 2) (oi := { dst := some 11, op := _, type := _, pos := _, after := _, guard := _ }) (v := .pointer (some ⟨g, o, none⟩)) rfl (by kernel_rfl) (by kernel_rfl) (by kernel_rfl) (fun _ _ _ h => h) (Or.inl ⟨by rfl, ?_⟩) (by assumption) ?_
      · intro w9 hSw
        exact y_nil rfl rfl
      simp only [Act.put, List.setIfInBounds_toArray, List.set_cons_zero, List.set_cons_succ]
      refine wpAnyH_take (i := 3) (oi := { dst := some 12, op := _, type := _, pos := _, after := _, guard := _ }) (v := .pointer (some ⟨g, o, none⟩)) rfl (by kernel_rfl) (by kernel_rfl) (by kernel_rfl) (fun _ _ _ h => h) (Or.inl ⟨by rfl, ?_⟩) (by assumption) ?_
      · intro w9 hSw
        exact y_field rfl rfl (field_b _ _ _)
      simp only [Act.put, List.setIfInBounds_toArray, List.set_cons_zero, List.set_cons_succ]
      refine wpAnyH_take (i := 4) (oi := { dst := some 13, op := _, type := _, pos := _, after := _, guard := _ }) (v := .map m) rfl (by kernel_rfl) (by kernel_rfl) (by kernel_rfl) (fun _ _ _ h => h) (Or.inl ⟨by rfl, ?_⟩) (by assumption) ?_
      · intro w9 hSw
        exact y_load rfl rfl (load_m hSw.bg.c0)
      simp only [Act.put, List.setIfInBounds_toArray, List.set_cons_zero, List.set_cons_succ]
      refine wpAnyH_take (i := 6) (oi := { dst := some 15, op := _, type := _, pos := _, after := _, guard := _ }) (v := .tuple #[.agg (xc i), .bool ok]) rfl (by kernel_rfl) (by kernel_rfl) (by kernel_rfl) (fun _ _ _ h => h) (Or.inl ⟨by rfl, ?_⟩) (by assumption) ?_
      · intro w9 hSw
        exact y_look rfl rfl rfl (hlk _ hSw)
      simp only [Act.put, List.setIfInBounds_toArray, List.set_cons_zero, List.set_cons_succ]
      refine wpAnyH_take (i := 7) (oi := { dst := some 8, op := _, type := _, pos := _, after := _, guard := _ }) (v := .tuple #[.agg (xc i), .bool ok]) rfl (by kernel_rfl) (by kernel_rfl) (by kernel_rfl) (fun _ _ _ h => h) (Or.inl ⟨by rfl, ?_⟩) (by assumption) ?_
      · intro w9 hSw
        exact y_move rfl rfl
      simp only [Act.put, List.setIfInBounds_toArray, List.set_cons_zero, List.set_cons_succ]
      refine wpAnyH_take (i := 8) (oi := { dst := some 16, op := _, type := _, pos := _, after := _, guard := _ }) (v := .agg (xc i)) rfl (by kernel_rfl) (by kernel_rfl) (by kernel_rfl) (fun _ _ _ h => h) (Or.inl ⟨by rfl, ?_⟩) (by assumption) ?_
      · intro w9 hSw
        exact y_extract rfl rfl rfl
      simp only [Act.put, List.setIfInBounds_toArray, List.set_cons_zero, List.set_cons_succ]
      refine wpAnyH_take (i := 9) (oi := { dst := some 17, op := _, type := _, pos := _, after := _, guard := _ }) (v := .bool ok) rfl (by kernel_rfl) (by kernel_rfl) (by kernel_rfl) (fun _ _ _ h => h) (Or.inl ⟨by rfl, ?_⟩) (by assumption) ?_
      · intro w9 hSw
        exact y_extract rfl rfl rfl
      simp only [Act.put, List.setIfInBounds_toArray, List.set_cons_zero, List.set_cons_succ]
      clear hHeld
      refine wpAnyH_ready (rs := [10]) (by kernel_rfl) (by simp) ?_
      refine AllReadyH.cons (o := { dst := some 6, op := _, type := _, pos := _, after := _, guard := _ }) rfl (fun K hK => ?_) AllReadyH.nil
      rw [if_pos (by rfl)]
      refine y_al (ty := 112) rfl hal ?_
      refine hK.out _ _ hGz (fun hHeld => ?_)
      clear hK K
      simp only [Act.put, List.setIfInBounds_toArray, List.set_cons_zero, List.set_cons_succ]
      clear hHeld
      refine wpAnyH_ready (rs := [11]) (by kernel_rfl) (by simp) ?_
      refine AllReadyH.cons (o := { dst := none, op := _, type := _, pos := _, after := _, guard := _ }) rfl (fun K hK => ?_) AllReadyH.nil
      rw [if_pos (by rfl)]
      refine y_store (ty := 112) (x := .tmp 6) (y := .tmp 16) (ad := ⟨W0.drew.heap.size, 0, none⟩) (v := .agg (xc i)) (w' := W1) rfl rfl rfl hst ?_
      refine hK.out _ _ hG1 (fun hHeld => ?_)
      clear hK K
      simp only [Act.put]
      refine wpAnyH_take (i := 12) (oi := { dst := some 7, op := _, type := _, pos := _, after := _, guard := _ }) (v := .bool ok) rfl (by kernel_rfl) (by kernel_rfl) (by kernel_rfl) (fun _ _ _ h => h) (Or.inl ⟨by rfl, ?_⟩) (by assumption) ?_
      · intro w9 hSw
        exact y_assign rfl rfl
      simp only [Act.put, List.setIfInBounds_toArray, List.set_cons_zero, List.set_cons_succ]
      refine wpAnyH_done (by kernel_rfl) ?_ _
      refine NoPanic.normal ?_
      clear hHeld
      go_wp2
      go_meet
      case rel => exact ⟨rfl, rfl, rfl⟩
    refine AllReadyH.cons (o := { dst := some 6, op := _, type := _, pos := _, after := _, guard := _ }) rfl (fun K hK => ?_) AllReadyH.nil
    rw [if_pos (by rfl)]
    refine y_al (ty := 112) rfl hal ?_
    refine hK.out _ _ hGz (fun hHeld => ?_)
    clear hK K
    simp only [Act.put, List.setIfInBounds_toArray, List.set_cons_zero, List.set_cons_succ]
    clear hHeld
    refine wpAnyH_ready (rs := [1]) (by kernel_rfl) (by simp) ?_
    refine AllReadyH.cons (o := { dst := some 10, op := _, type := _, pos := _, after := _, guard := _ }) rfl (fun K hK => ?_) AllReadyH.nil
    rw [if_pos (by rfl)]
    refine y_call (f := 58) (xs := [.tmp 9]) (vs := [.pointer (some ⟨g, o, none⟩)]) rfl rfl (enters_orz _ _) hzz ?_
    rintro e wq ⟨rfl, hwq⟩
    obtain rfl := hwq.symm
    refine ⟨_, rfl, ?_⟩
    refine hK.out _ _ hGz (fun hHeld => ?_)
    clear hK K
    simp only [Act.put, List.setIfInBounds_toArray, List.set_cons_zero, List.set_cons_succ]
    refine wpAnyH_take (i := 2) (oi := { dst := some 11, op := _, type := _, pos := _, after := _, guard := _ }) (v := .pointer (some ⟨g, o, none⟩)) rfl (by kernel_rfl) (by kernel_rfl) (by kernel_rfl) (fun _ _ _ h => h) (Or.inl ⟨by rfl, ?_⟩) (by assumption) ?_
    · intro w9 hSw
      exact y_nil rfl rfl
    simp only [Act.put, List.setIfInBounds_toArray, List.set_cons_zero, List.set_cons_succ]
    refine wpAnyH_take (i := 3) (oi := { dst := some 12, op := _, type := _, pos := _, after := _, guard := _ }) (v := .pointer (some ⟨g, o, none⟩)) rfl (by kernel_rfl) (by kernel_rfl) (by kernel_rfl) (fun _ _ _ h => h) (Or.inl ⟨by rfl, ?_⟩) (by assumption) ?_
    · intro w9 hSw
      exact y_field rfl rfl (field_b _ _ _)
    simp only [Act.put, List.setIfInBounds_toArray, List.set_cons_zero, List.set_cons_succ]
    refine wpAnyH_take (i := 4) (oi := { dst := some 13, op := _, type := _, pos := _, after := _, guard := _ }) (v := .map m) rfl (by kernel_rfl) (by kernel_rfl) (by kernel_rfl) (fun _ _ _ h => h) (Or.inl ⟨by rfl, ?_⟩) (by assumption) ?_
    · intro w9 hSw
      exact y_load rfl rfl (load_m hSw.bg.c0)
    simp only [Act.put, List.setIfInBounds_toArray, List.set_cons_zero, List.set_cons_succ]
    refine wpAnyH_take (i := 6) (oi := { dst := some 15, op := _, type := _, pos := _, after := _, guard := _ }) (v := .tuple #[.agg (xc i), .bool ok]) rfl (by kernel_rfl) (by kernel_rfl) (by kernel_rfl) (fun _ _ _ h => h) (Or.inl ⟨by rfl, ?_⟩) (by assumption) ?_
    · intro w9 hSw
      exact y_look rfl rfl rfl (hlk _ hSw)
    simp only [Act.put, List.setIfInBounds_toArray, List.set_cons_zero, List.set_cons_succ]
    refine wpAnyH_take (i := 7) (oi := { dst := some 8, op := _, type := _, pos := _, after := _, guard := _ }) (v := .tuple #[.agg (xc i), .bool ok]) rfl (by kernel_rfl) (by kernel_rfl) (by kernel_rfl) (fun _ _ _ h => h) (Or.inl ⟨by rfl, ?_⟩) (by assumption) ?_
    · intro w9 hSw
      exact y_move rfl rfl
    simp only [Act.put, List.setIfInBounds_toArray, List.set_cons_zero, List.set_cons_succ]
    refine wpAnyH_take (i := 8) (oi := { dst := some 16, op := _, type := _, pos := _, after := _, guard := _ }) (v := .agg (xc i)) rfl (by kernel_rfl) (by kernel_rfl) (by kernel_rfl) (fun _ _ _ h => h) (Or.inl ⟨by rfl, ?_⟩) (by assumption) ?_
    · intro w9 hSw
      exact y_extract rfl rfl rfl
    simp only [Act.put, List.setIfInBounds_toArray, List.set_cons_zero, List.set_cons_succ]
    refine wpAnyH_take (i := 9) (oi := { dst := some 17, op := _, type := _, pos := _, after := _, guard := _ }) (v := .bool ok) rfl (by kernel_rfl) (by kernel_rfl) (by kernel_rfl) (fun _ _ _ h => h) (Or.inl ⟨by rfl, ?_⟩) (by assumption) ?_
    · intro w9 hSw
      exact y_extract rfl rfl rfl
    simp only [Act.put, List.setIfInBounds_toArray, List.set_cons_zero, List.set_cons_succ]
    clear hHeld
    refine wpAnyH_ready (rs := [11]) (by kernel_rfl) (by simp) ?_
    refine AllReadyH.cons (o := { dst := none, op := _, type := _, pos := _, after := _, guard := _ }) rfl (fun K hK => ?_) AllReadyH.nil
    rw [if_pos (by rfl)]
    refine y_store (ty := 112) (x := .tmp 6) (y := .tmp 16) (ad := ⟨W0.drew.heap.size, 0, none⟩) (v := .agg (xc i)) (w' := W1) rfl rfl rfl hst ?_
    refine hK.out _ _ hG1 (fun hHeld => ?_)
    clear hK K
    simp only [Act.put]
    refine wpAnyH_take (i := 12) (oi := { dst := some 7, op := _, type := _, pos := _, after := _, guard := _ }) (v := .bool ok) rfl (by kernel_rfl) (by kernel_rfl) (by kernel_rfl) (fun _ _ _ h => h) (Or.inl ⟨by rfl, ?_⟩) (by assumption) ?_
    · intro w9 hSw
      exact y_assign rfl rfl
    simp only [Act.put, List.setIfInBounds_toArray, List.set_cons_zero, List.set_cons_succ]
    refine wpAnyH_done (by kernel_rfl) ?_ _
    refine NoPanic.normal ?_
    clear hHeld
    go_wp2
    go_meet
    case rel => exact ⟨rfl, rfl, rfl⟩
  case rest =>
    obtain ⟨rfl, rfl, rfl⟩ := hcut
    go_wp2_with (first
      | (refine wpList_loadR (ty := 47) (x := .tmp 18) (ad := ⟨W0.drew.heap.size, 2, none⟩) (v := .agg i.x.l.toArray) rfl rfl rfl hldx ?_)
      | (refine wpList_storeR (ty := 47) (x := .tmp 4) (y := .tmp 19) (ad := ⟨B + 1, 0, none⟩) (v := .agg i.x.l.toArray) (w' := WF) rfl rfl rfl rfl hstx ?_))
    refine ret_x2 rfl rfl rfl rfl hLF ?_
    exact ⟨rfl, HBF.out⟩
end Go.Proofs.YtmlfekbmbnfkjabGreatDoor.E

/-
  The function that a space's Items hands to slices.DeleteFunc: is an event live no more?
-/
namespace Go.Proofs.YtmlfekbmbnfkjabGreatDoor
set_option maxRecDepth 100000
open Go.RowKit

/-- What the function reads: a holding's live events. -/
structure Sf where
  cs : Array Value
  m : Option Nat
  X : List Ev
structure Sit (w : World) (k B : Nat) (F : Sf) : Prop where
  cell : w.cell? ⟨k, 0, none⟩ = some (.pointer (some ⟨B, 0, none⟩))
  bg : E.Bg w B 0 F.cs 86 F.m (F.X.map eit)
theorem Sit.below {w w' : World} {k B : Nat} {F : Sf} (h : Sit w k B F) (hb : Below w.heap.size w w') : Sit w' k B F :=
  ⟨(hb.cell (World.block_lt_of_cell? w _ h.cell)).trans h.cell, h.bg.below hb (Nat.le_refl _)⟩
def badS (F : Sf) (u : Ev) : Bool := !hasD (F.X.map eit) u.r u.n
theorem alloc_evz (w : World) : (Instr.alloc 47 true (.tuple #[])).run Tryz.prog w = .ok (.pointer (some ⟨w.heap.size, 0, none⟩)) (w.alloc (.cells (E.zx).l.toArray 47)) := by
  simp [go_sem]
  rfl
theorem liesX_new (w : World) (x : Cx 26) : E.LiesX (w.alloc (.cells x.l.toArray 47)) w.heap.size x := heap_alloc_new w _
theorem enters_get (xs : Array Value) (w : World) : (callFunc 156 xs).run Tryz.prog w = .ok (.enter 156 xs) w := enters Tryz.func156 (by kernel_rfl) (by kernel_rfl) xs w
set_option maxHeartbeats 4000000 in
theorem sitf_any (u : Ev) (_hu16 : u.deps.length = 16) (k B : Nat) (F : Sf) (w : World) (hT0 : Sit w k B F) :
    Calls Tryz.prog 155 #[.agg (evc u), .pointer (some ⟨k, 0, none⟩)] w fun e w' => e = .returned (.bool (badS F u)) ∧ Below w.heap.size w w' := by
  have hE0 := liesE_new w u
  have hB : Below w.heap.size w (w.alloc (.cells (evc u) 47)) := (Below.refl _ w).alloc (Nat.le_refl _) _
  have hT1 := hT0.below hB
  obtain ⟨W, hW⟩ : ∃ W, w.alloc (.cells (evc u) 47) = W := ⟨_, rfl⟩
  rw [hW] at hE0 hB hT1
  obtain ⟨D, hD⟩ : ∃ D, w.heap.size = D := ⟨_, rfl⟩
  have hE : LiesE W D u := by rw [← hD]; exact hE0
  have hT : Sit W k B F := hT1
  have HB : Hid (Below w.heap.size w W) := hB
  have HA : Hid (badS F u = !hasD (F.X.map eit) u.r u.n) := rfl
  clear hT0 hE0 hB hT1
  go_enter Tryz.func155, Tryz.ntmps155
  go_upto_region 1 with (fail)
  clear hW
  refine wp_region_noPanic ?_
  refine wp_region_held_drew (S := fun W' : World => Below W.heap.size W W') (by kernel_rfl) (Below.refl _ _).drew (fun hHeld => ?_)
  refine wpAnyH_take (i := 0) (oi := { dst := some 7, op := _, type := _, pos := _, after := _, guard := _ }) (v := .pointer (some ⟨B, 0, none⟩)) rfl (by kernel_rfl) (by kernel_rfl) (by kernel_rfl) (fun _ _ _ h => h) (Or.inl ⟨by rfl, ?_⟩) (by assumption) ?_
  · intro w9 hSw
    exact y_load rfl rfl (load_ph (hT.below hSw).cell)
  simp only [Act.put, List.setIfInBounds_toArray, List.set_cons_zero, List.set_cons_succ]
  refine wpAnyH_take (i := 1) (oi := { dst := some 8, op := _, type := _, pos := _, after := _, guard := _ }) (v := .pointer (some ⟨B, 0, none⟩)) rfl (by kernel_rfl) (by kernel_rfl) (by kernel_rfl) (fun _ _ _ h => h) (Or.inl ⟨by rfl, ?_⟩) (by assumption) ?_
  · intro w9 hSw
    exact y_nil rfl rfl
  simp only [Act.put, List.setIfInBounds_toArray, List.set_cons_zero, List.set_cons_succ]
  refine wpAnyH_take (i := 2) (oi := { dst := some 9, op := _, type := _, pos := _, after := _, guard := _ }) (v := .pointer (some ⟨B, 0, none⟩)) rfl (by kernel_rfl) (by kernel_rfl) (by kernel_rfl) (fun _ _ _ h => h) (Or.inl ⟨by rfl, ?_⟩) (by assumption) ?_
  · intro w9 hSw
    exact y_field rfl rfl (field_h0 _ _)
  simp only [Act.put, List.setIfInBounds_toArray, List.set_cons_zero, List.set_cons_succ]
  refine wpAnyH_take (i := 3) (oi := { dst := some 10, op := _, type := _, pos := _, after := _, guard := _ }) (v := .pointer (some ⟨D, 0, none⟩)) rfl (by kernel_rfl) (by kernel_rfl) (by kernel_rfl) (fun _ _ _ h => h) (Or.inl ⟨by rfl, ?_⟩) (by assumption) ?_
  · intro w9 hSw
    exact y_field rfl rfl (field_ev0 _ _)
  simp only [Act.put, List.setIfInBounds_toArray, List.set_cons_zero, List.set_cons_succ]
  refine wpAnyH_take (i := 4) (oi := { dst := some 11, op := _, type := _, pos := _, after := _, guard := _ }) (v := .agg (dotc u.r u.n)) rfl (by kernel_rfl) (by kernel_rfl) (by kernel_rfl) (fun _ _ _ h => h) (Or.inl ⟨by rfl, ?_⟩) (by assumption) ?_
  · intro w9 hSw
    exact y_load rfl rfl (hE.below hSw hE.lt).dotAt
  simp only [Act.put, List.setIfInBounds_toArray, List.set_cons_zero, List.set_cons_succ]
  clear hHeld
  have hd0 : Below W.heap.size W W.drew := (Below.refl _ W).drew
  refine wpAnyH_ready (rs := [5, 9]) (by kernel_rfl) (by simp) ?_
  refine AllReadyH.cons (o := { dst := some 12, op := _, type := _, pos := _, after := _, guard := _ }) rfl (fun K hK => ?_) ?_
  · rw [if_pos (by rfl)]
    refine y_call (f := 156) (xs := [.tmp 9, .tmp 11]) (vs := [.pointer (some ⟨B, 0, none⟩), .agg (dotc u.r u.n)]) rfl rfl (enters_get _ _) (E.get_any B 0 F.cs 86 F.m (F.X.map eit) u.r u.n W.drew (hT.below hd0).bg) ?_
    rintro ex wc1 ⟨rfl, hbc⟩
    refine ⟨_, rfl, ?_⟩
    have hb1 : Below W.heap.size W wc1 := hd0.trans (hbc.mono hd0.size)
    refine hK.out _ _ hb1 (fun hHeld => ?_)
    clear hK K
    simp only [Act.put, List.setIfInBounds_toArray, List.set_cons_zero, List.set_cons_succ]
    clear hHeld
    have hHeld : Below W.heap.size W wc1 := hb1
    refine wpAnyH_take (i := 6) (oi := { dst := some 6, op := _, type := _, pos := _, after := _, guard := _ }) (v := .tuple #[.agg (E.gets (F.X.map eit) u.r u.n).x.l.toArray, .bool (hasD (F.X.map eit) u.r u.n)]) rfl (by kernel_rfl) (by kernel_rfl) (by kernel_rfl) (fun _ _ _ h => h) (Or.inl ⟨by rfl, ?_⟩) (by assumption) ?_
    · intro w9 hSw
      exact y_move rfl rfl
    simp only [Act.put, List.setIfInBounds_toArray, List.set_cons_zero, List.set_cons_succ]
    refine wpAnyH_take (i := 7) (oi := { dst := some 13, op := _, type := _, pos := _, after := _, guard := _ }) (v := .agg (E.gets (F.X.map eit) u.r u.n).x.l.toArray) rfl (by kernel_rfl) (by kernel_rfl) (by kernel_rfl) (fun _ _ _ h => h) (Or.inl ⟨by rfl, ?_⟩) (by assumption) ?_
    · intro w9 hSw
      exact y_extract rfl rfl rfl
    simp only [Act.put, List.setIfInBounds_toArray, List.set_cons_zero, List.set_cons_succ]
    refine wpAnyH_take (i := 8) (oi := { dst := some 14, op := _, type := _, pos := _, after := _, guard := _ }) (v := .bool (hasD (F.X.map eit) u.r u.n)) rfl (by kernel_rfl) (by kernel_rfl) (by kernel_rfl) (fun _ _ _ h => h) (Or.inl ⟨by rfl, ?_⟩) (by assumption) ?_
    · intro w9 hSw
      exact y_extract rfl rfl rfl
    simp only [Act.put, List.setIfInBounds_toArray, List.set_cons_zero, List.set_cons_succ]
    clear hHeld
    refine wpAnyH_ready (rs := [9]) (by kernel_rfl) (by simp) ?_
    refine AllReadyH.cons (o := { dst := some 4, op := _, type := _, pos := _, after := _, guard := _ }) rfl (fun K hK => ?_) AllReadyH.nil
    rw [if_pos (by rfl)]
    refine y_alloc (ty := 47) rfl (alloc_evz wc1) ?_
    have hb2 : Below W.heap.size W (wc1.alloc (.cells (E.zx).l.toArray 47)) := hb1.alloc hb1.size _
    refine hK.out _ _ hb2 (fun hHeld => ?_)
    clear hK K
    simp only [Act.put, List.setIfInBounds_toArray, List.set_cons_zero, List.set_cons_succ]
    clear hHeld
    refine wpAnyH_ready (rs := [10]) (by kernel_rfl) (by simp) ?_
    refine AllReadyH.cons (o := { dst := none, op := _, type := _, pos := _, after := _, guard := _ }) rfl (fun K hK => ?_) AllReadyH.nil
    rw [if_pos (by rfl)]
    refine y_store (ty := 47) (x := .tmp 4) (y := .tmp 13) (ad := ⟨wc1.heap.size, 0, none⟩) (v := .agg (E.gets (F.X.map eit) u.r u.n).x.l.toArray) (w' := (wc1.alloc (.cells (E.zx).l.toArray 47)).setRow (wc1.heap.size) ((E.gets (F.X.map eit) u.r u.n).x.l.toArray)) rfl rfl rfl (E.store_x (x := E.zx) (liesX_new wc1 E.zx)) ?_
    have hbF : Below W.heap.size W ((wc1.alloc (.cells (E.zx).l.toArray 47)).setRow (wc1.heap.size) ((E.gets (F.X.map eit) u.r u.n).x.l.toArray)) := below_setRow hb2 hb1.size _
    refine hK.out _ _ hbF (fun hHeld => ?_)
    clear hK K
    simp only [Act.put]
    refine wpAnyH_take (i := 11) (oi := { dst := some 5, op := _, type := _, pos := _, after := _, guard := _ }) (v := .bool (hasD (F.X.map eit) u.r u.n)) rfl (by kernel_rfl) (by kernel_rfl) (by kernel_rfl) (fun _ _ _ h => h) (Or.inl ⟨by rfl, ?_⟩) (by assumption) ?_
    · intro w9 hSw
      exact y_assign rfl rfl
    simp only [Act.put, List.setIfInBounds_toArray, List.set_cons_zero, List.set_cons_succ]
    refine wpAnyH_done (by kernel_rfl) ?_ _
    refine NoPanic.normal ?_
    clear hHeld
    have FIN : Hid (Below w.heap.size w _) := HB.out.trans (hbF.mono HB.out.size)
    clear hbF hE hT
    go_wp2
    go_ret
    exact ⟨by rw [HA.out]; rfl, FIN.out⟩
  refine AllReadyH.cons (o := { dst := some 4, op := _, type := _, pos := _, after := _, guard := _ }) rfl (fun K hK => ?_) AllReadyH.nil
  rw [if_pos (by rfl)]
  refine y_alloc (ty := 47) rfl (alloc_evz W.drew) ?_
  have hb1 : Below W.heap.size W (W.drew.alloc (.cells (E.zx).l.toArray 47)) := hd0.alloc hd0.size _
  refine hK.out _ _ hb1 (fun hHeld => ?_)
  clear hK K
  simp only [Act.put, List.setIfInBounds_toArray, List.set_cons_zero, List.set_cons_succ]
  clear hHeld
  refine wpAnyH_ready (rs := [5]) (by kernel_rfl) (by simp) ?_
  refine AllReadyH.cons (o := { dst := some 12, op := _, type := _, pos := _, after := _, guard := _ }) rfl (fun K hK => ?_) AllReadyH.nil
  rw [if_pos (by rfl)]
  refine y_call (f := 156) (xs := [.tmp 9, .tmp 11]) (vs := [.pointer (some ⟨B, 0, none⟩), .agg (dotc u.r u.n)]) rfl rfl (enters_get _ _) (E.get_any B 0 F.cs 86 F.m (F.X.map eit) u.r u.n (W.drew.alloc (.cells (E.zx).l.toArray 47)) (hT.below hb1).bg) ?_
  rintro ex wc1 ⟨rfl, hbc⟩
  refine ⟨_, rfl, ?_⟩
  have hb2 : Below W.heap.size W wc1 := hb1.trans (hbc.mono hb1.size)
  refine hK.out _ _ hb2 (fun hHeld => ?_)
  clear hK K
  simp only [Act.put, List.setIfInBounds_toArray, List.set_cons_zero, List.set_cons_succ]
  clear hHeld
  have hHeld : Below W.heap.size W wc1 := hb2
  refine wpAnyH_take (i := 6) (oi := { dst := some 6, op := _, type := _, pos := _, after := _, guard := _ }) (v := .tuple #[.agg (E.gets (F.X.map eit) u.r u.n).x.l.toArray, .bool (hasD (F.X.map eit) u.r u.n)]) rfl (by kernel_rfl) (by kernel_rfl) (by kernel_rfl) (fun _ _ _ h => h) (Or.inl ⟨by rfl, ?_⟩) (by assumption) ?_
  · intro w9 hSw
    exact y_move rfl rfl
  simp only [Act.put, List.setIfInBounds_toArray, List.set_cons_zero, List.set_cons_succ]
  refine wpAnyH_take (i := 7) (oi := { dst := some 13, op := _, type := _, pos := _, after := _, guard := _ }) (v := .agg (E.gets (F.X.map eit) u.r u.n).x.l.toArray) rfl (by kernel_rfl) (by kernel_rfl) (by kernel_rfl) (fun _ _ _ h => h) (Or.inl ⟨by rfl, ?_⟩) (by assumption) ?_
  · intro w9 hSw
    exact y_extract rfl rfl rfl
  simp only [Act.put, List.setIfInBounds_toArray, List.set_cons_zero, List.set_cons_succ]
  refine wpAnyH_take (i := 8) (oi := { dst := some 14, op := _, type := _, pos := _, after := _, guard := _ }) (v := .bool (hasD (F.X.map eit) u.r u.n)) rfl (by kernel_rfl) (by kernel_rfl) (by kernel_rfl) (fun _ _ _ h => h) (Or.inl ⟨by rfl, ?_⟩) (by assumption) ?_
  · intro w9 hSw
    exact y_extract rfl rfl rfl
  simp only [Act.put, List.setIfInBounds_toArray, List.set_cons_zero, List.set_cons_succ]
  clear hHeld
  refine wpAnyH_ready (rs := [10]) (by kernel_rfl) (by simp) ?_
  refine AllReadyH.cons (o := { dst := none, op := _, type := _, pos := _, after := _, guard := _ }) rfl (fun K hK => ?_) AllReadyH.nil
  rw [if_pos (by rfl)]
  refine y_store (ty := 47) (x := .tmp 4) (y := .tmp 13) (ad := ⟨W.drew.heap.size, 0, none⟩) (v := .agg (E.gets (F.X.map eit) u.r u.n).x.l.toArray) (w' := (wc1).setRow (W.drew.heap.size) ((E.gets (F.X.map eit) u.r u.n).x.l.toArray)) rfl rfl rfl (E.store_x (x := E.zx) (by have := liesX_new W.drew E.zx; unfold E.LiesX at this ⊢; rw [hbc.block _ (by simp)]; exact this)) ?_
  have hbF : Below W.heap.size W ((wc1).setRow (W.drew.heap.size) ((E.gets (F.X.map eit) u.r u.n).x.l.toArray)) := below_setRow hb2 (Nat.le_refl _) _
  refine hK.out _ _ hbF (fun hHeld => ?_)
  clear hK K
  simp only [Act.put]
  refine wpAnyH_take (i := 11) (oi := { dst := some 5, op := _, type := _, pos := _, after := _, guard := _ }) (v := .bool (hasD (F.X.map eit) u.r u.n)) rfl (by kernel_rfl) (by kernel_rfl) (by kernel_rfl) (fun _ _ _ h => h) (Or.inl ⟨by rfl, ?_⟩) (by assumption) ?_
  · intro w9 hSw
    exact y_assign rfl rfl
  simp only [Act.put, List.setIfInBounds_toArray, List.set_cons_zero, List.set_cons_succ]
  refine wpAnyH_done (by kernel_rfl) ?_ _
  refine NoPanic.normal ?_
  clear hHeld
  have FIN : Hid (Below w.heap.size w _) := HB.out.trans (hbF.mono HB.out.size)
  clear hbF hE hT
  go_wp2
  go_ret
  exact ⟨by rw [HA.out]; rfl, FIN.out⟩
end Go.Proofs.YtmlfekbmbnfkjabGreatDoor

