/-
  A key's live and dead events in memory; what an event ends of them.
-/
import Derived.Test.YtmlfekbmbnfkjabGreatDoorQ10
import Derived.Test.YtmlfekbmbnfkjabGreatDoorQ44
import Derived.Test.YtmlfekbmbnfkjabGreatDoorQ12
import Derived.Test.YtmlfekbmbnfkjabGreatDoorQ18
import Derived.Maps.RangeRun
import Derived.Test.YtmlfekbmbnfkjabGreatDoorQ42
import Derived.Test.YtmlfekbmbnfkjabGreatDoorQ43
namespace Go.Proofs.YtmlfekbmbnfkjabGreatDoor
set_option maxRecDepth 100000
open Go.RowKit
open Go.ChangeMaps (setBlock)

/-- What is kept of a key. -/
structure Ho (w : World) (h : Nat) (m1 m2 : Option Nat) (L : List Ev) (DL : List Ed) : Prop where
  live : E.Bg w h 0 #[.map m1, .map m2] 86 m1 (L.map eit)
  dead : D.Bg w h 1 #[.map m1, .map m2] 86 m2 (DL.map dit)
  ne : ∀ k, m1 = some k → m2 ≠ some k
  wl : ∀ a ∈ L, Wide a
  wd : ∀ d ∈ DL, Wide d.push
theorem Ho.below {w w' : World} {h B : Nat} {m1 m2 : Option Nat} {L : List Ev} {DL : List Ed} (k : Ho w h m1 m2 L DL) (hb : Below B w w') (hB : w.heap.size ≤ B) : Ho w' h m1 m2 L DL :=
  ⟨k.live.below hb hB, k.dead.below hb hB, k.ne, k.wl, k.wd⟩
theorem hold_new (w : World) : Ho (w.alloc (.cells #[.map none, .map none] 86)) w.heap.size none none [] [] :=
  ⟨⟨heap_alloc_new w _, rfl, .inl ⟨rfl, rfl⟩⟩, ⟨heap_alloc_new w _, rfl, .inl ⟨rfl, rfl⟩⟩, by simp, by simp, by simp⟩

theorem LiesE.dotAt {w : World} {g : Nat} {e : Ev} (h : LiesE w g e) : (loadVar 32 ⟨g, 0, none⟩).run Tryz.prog w = .ok (.agg (dotc e.r e.n)) w := by
  have hr : w.rangeAt g 0 (dotc e.r e.n).toList := fun j u hu => by
    rw [Nat.zero_add, cell_of_row w _ j _ _ _ h]
    rcases j with _ | _ | j
    · simpa [dotc, evc, evl] using hu
    · simpa [dotc, evc, evl] using hu
    · simp [dotc] at hu
  exact run_loadVar_mid (P := Tryz.prog) w g 0 32 _ _ hr Tryz.underlying32 rfl (by kernel_rfl)
theorem field_ev0 (w : World) (g : Nat) : (Instr.fieldAt 47 (.pointer (some ⟨g, 0, none⟩)) 0).run Tryz.prog w = .ok (.pointer (some ⟨g, 0, none⟩)) w := by kernel_rfl
theorem field_ev2 (w : World) (g : Nat) : (Instr.fieldAt 47 (.pointer (some ⟨g, 0, none⟩)) 2).run Tryz.prog w = .ok (.pointer (some ⟨g, 3, none⟩)) w := by kernel_rfl
theorem field_h0 (w : World) (g : Nat) : (Instr.fieldAt 86 (.pointer (some ⟨g, 0, none⟩)) 0).run Tryz.prog w = .ok (.pointer (some ⟨g, 0, none⟩)) w := by kernel_rfl
theorem field_h1 (w : World) (g : Nat) : (Instr.fieldAt 86 (.pointer (some ⟨g, 0, none⟩)) 1).run Tryz.prog w = .ok (.pointer (some ⟨g, 1, none⟩)) w := by kernel_rfl
theorem load_ph {w : World} {ad : Addr} {v : Value} (h : w.cell? ad = some v) : (loadVar 76 ad).run Tryz.prog w = .ok v w := by go_simp
theorem build_end (w : World) (a : Ev) (ha : a.deps.length = 16) (r n : Int) : (Instr.build 108 #[(0, .agg (evc a)), (1, .agg (dotc r n))]).run Tryz.prog w = .ok (.agg (edX ⟨a, r, n⟩).l.toArray) w := by
  have e1 : (edX ⟨a, r, n⟩).l = evl a ++ [.int .i64 r, .int .i64 n] := edX_l (d := ⟨a, r, n⟩) ha
  rw [e1, evc]
  have hl := evl_length a ha
  generalize evl a = l at hl
  match l, hl with
  | [a0, a1, a2, a3, a4, a5, a6, a7, a8, a9, a10, a11, a12, a13, a14, a15, a16, a17, a18, a19, a20, a21, a22, a23, a24, a25], hl =>
    refine Eq.trans (b := Result.ok (Value.agg ([a0, a1, a2, a3, a4, a5, a6, a7, a8, a9, a10, a11, a12, a13, a14, a15, a16, a17, a18, a19, a20, a21, a22, a23, a24, a25] ++ [Value.int .i64 r, Value.int .i64 n]).toArray) w) ?_ rfl
    kernel_rfl
theorem load_evx {w : World} {g : Nat} {e : Ev} (h : LiesE w g e) (hl : e.deps.length = 16) : (loadVar 47 ⟨g, 0, none⟩).run Tryz.prog w = .ok (.agg (evc e)) w := load_ev_run h hl
theorem enters_putd (xs : Array Value) (w : World) : (callFunc 57 xs).run Tryz.prog w = .ok (.enter 57 xs) w := enters Tryz.func57 (by kernel_rfl) (by kernel_rfl) xs w
theorem enters_drope (xs : Array Value) (w : World) : (callFunc 54 xs).run Tryz.prog w = .ok (.enter 54 xs) w := enters Tryz.func54 (by kernel_rfl) (by kernel_rfl) xs w

/-- What end's function reads: the event, and where the holding lies. -/
structure Rd2 (w : World) (Be Bk h : Nat) (e : Ev) : Prop where
  ev : LiesE w Be e
  pt : w.heap[Bk]? = some (.cells #[.pointer (some ⟨h, 0, none⟩)] 76 (0, 0))
theorem Rd2.below {w w' : World} {Be Bk h B : Nat} {e : Ev} (k : Rd2 w Be Bk h e) (hb : Below B w w') (hB : w.heap.size ≤ B) : Rd2 w' Be Bk h e :=
  ⟨k.ev.below hb (by have := k.ev.lt; omega), by rw [hb.block Bk (by have := (Array.getElem?_eq_some_iff.1 k.pt).1; omega)]; exact k.pt⟩

theorem types_ne : (47 : Nat) ≠ 86 ∧ (76 : Nat) ≠ 86 ∧ (86 : Nat) ≠ 112 := by decide
theorem D.Bg.kpc {w w' : World} {g o : Nat} {cs : Array Value} {ty : TypeId} {m m' : Option Nat} {S : List (It (Cx 28))} (h : D.Bg w g o cs ty m S) (ht : Tn g m m' w w') : Kpc ty w w' :=
  ⟨ht.size, fun k cur t hne hk => ht.block k (Array.getElem?_eq_some_iff.1 hk).1 (fun e => by
      subst e
      rw [h.blk] at hk
      simp only [Option.some.injEq, Obj.cells.injEq] at hk
      exact hne hk.2.1.symm) (fun e => by
      subst e
      obtain ⟨b, e, hm⟩ := h.map.resolve_left (by simp)
      obtain rfl := Option.some.inj e
      obtain ⟨es, c, hb⟩ := D.Mp.blk hm
      rw [hb] at hk; cases hk)⟩
theorem Rd2.kpc {w w' : World} {Be Bk h : Nat} {e : Ev} (k : Rd2 w Be Bk h e) (hk : Kpc 86 w w') : Rd2 w' Be Bk h e :=
  ⟨(hk.2 Be _ _ types_ne.1 k.ev).trans k.ev, (hk.2 Bk _ _ types_ne.2.1 k.pt).trans k.pt⟩

set_option maxHeartbeats 1000000 in
theorem hendf_any (e a : Ev) (he16 : e.deps.length = 16) (ha16 : a.deps.length = 16) (Be Bk h : Nat) (m1 m2 : Option Nat) (DL : List Ed) (w : World) (hR : Rd2 w Be Bk h e) (hB : D.Bg w h 1 #[.map m1, .map m2] 86 m2 (DL.map dit)) :
    Calls Tryz.prog 55 #[.agg (evc a), .pointer (some ⟨Be, 0, none⟩), .pointer (some ⟨Bk, 0, none⟩)] w fun ex w' => ex = .returned (.bool (endsE e a)) ∧ ∃ m2', D.Bg w' h 1 #[.map m1, .map m2'] 86 m2' ((if fell e a then putD DL ⟨a, e.r, e.n⟩ else DL).map dit) ∧ Tn h m2 m2' w w' := by
  have hb0 : Below w.heap.size w (w.alloc (.cells (evc a) 47)) := (Below.refl _ w).alloc (Nat.le_refl _) _
  have hA0 := liesE_new w a
  have hR0 := hR.below hb0 (Nat.le_refl _)
  have hB0 := hB.below hb0 (Nat.le_refl _)
  generalize hW0 : w.alloc (.cells (evc a) 47) = W0 at *
  have hE0 := hR0.ev
  have hen := ends_any e a he16 ha16 W0
  have hAl := hA0.lt
  have HR : Hid _ := hR0
  have HB : Hid _ := hB0
  have HB0 : Hid _ := hb0
  clear hR hB hR0 hB0 hb0
  have hcase : (endsE e a = false ∧ fell e a = false) ∨ (endsE e a = true ∧ a.kind ≠ 9 ∧ fell e a = false) ∨ (endsE e a = true ∧ a.kind = 9 ∧ fell e a = true) := by
    unfold fell
    cases endsE e a
    · exact .inl ⟨rfl, rfl⟩
    · by_cases hk : a.kind = 9
      · exact .inr (.inr ⟨rfl, hk, by simp [hk]⟩)
      · exact .inr (.inl ⟨rfl, hk, by simp [hk]⟩)
  rcases hcase with ⟨h1, h2⟩ | ⟨h1, hk, h2⟩ | ⟨h1, hk, h2⟩
  · rw [h1] at hen ⊢
    rw [h2]
    go_enter Tryz.func55, Tryz.ntmps55
    go_wp2_with (first | refine load_ev rfl rfl rfl hE0 he16 ?_ | refine load_ev rfl rfl rfl hA0 ha16 ?_)
    refine Calls.mono hen ?_
    rintro ex w2 ⟨rfl, hb2⟩
    have FIN : Hid _ := And.intro (HB.out.below hb2 (Nat.le_refl _)) ((Tn.of_below (g := h) m2 HB0.out).trans (Tn.of_below m2 hb2))
    clear hb2 hA0 hE0 hen
    go_wp2
    go_ret
    exact ⟨rfl, m2, FIN.out.1, FIN.out.2⟩
  · rw [h1] at hen ⊢
    rw [h2]
    have hk9 : (a.kind == 9) = false := by simpa using hk
    go_enter Tryz.func55, Tryz.ntmps55
    go_wp2_with (first | refine load_ev rfl rfl rfl hE0 he16 ?_ | refine load_ev rfl rfl rfl hA0 ha16 ?_)
    refine Calls.mono hen ?_
    rintro ex w2 ⟨rfl, hb2⟩
    have hkc := (hA0.below hb2 hAl).c19
    have FIN : Hid _ := And.intro (HB.out.below hb2 (Nat.le_refl _)) ((Tn.of_below (g := h) m2 HB0.out).trans (Tn.of_below m2 hb2))
    clear hb2 hA0 hE0 hen
    go_wp2
    go_ret
    exact ⟨rfl, m2, FIN.out.1, FIN.out.2⟩
  · rw [h1] at hen ⊢
    rw [h2]
    have hk9 : (a.kind == 9) = true := by simpa using hk
    go_enter Tryz.func55, Tryz.ntmps55
    go_wp2_with (first | refine load_ev rfl rfl rfl hE0 he16 ?_ | refine load_ev rfl rfl rfl hA0 ha16 ?_)
    refine Calls.mono hen ?_
    rintro ex w2 ⟨rfl, hb2⟩
    have hA2 := hA0.below hb2 hAl
    have hR2 := HR.out.below hb2 (Nat.le_refl _)
    have hkc := hA2.c19
    have hB2 := HB.out.below hb2 (Nat.le_refl _)
    have HT2 : Hid _ := (Tn.of_below (g := h) m2 HB0.out).trans (Tn.of_below m2 hb2)
    have hbd : Below w2.heap.size w2 w2.drew := (Below.refl _ w2).drew
    have hR3 := hR2.below hbd (Nat.le_refl _)
    have hB3 := hB2.below hbd (Nat.le_refl _)
    have hHs : LiesE w2.drew w.heap.size a ∧ Rd2 w2.drew Be Bk h e := ⟨hA2, hR3⟩
    have hP := D.put_any h 1 #[.map m1, .map m2] 86 m2 (DL.map dit) (dit ⟨a, e.r, e.n⟩) w2.drew hB3
    rw [put_dit] at hP
    have HP : Hid _ := hP
    have HK3 : Hid (∀ m' w3, Tn h m2 m' w2.drew w3 → LiesE w3 w.heap.size a ∧ Rd2 w3 Be Bk h e) := fun m' w3 ht => by
      have hk := D.Bg.kpc hB3 ht
      exact ⟨(hk.2 _ _ _ types_ne.1 hA2).trans hA2, hR3.kpc hk⟩
    have HT3 : Hid (Tn h m2 m2 w w2.drew) := HT2.out.trans (Tn.of_below m2 hbd)
    clear hb2 hA0 hE0 hen hA2 hR2 hB2 HR HB HB0 hP hbd hR3 hB3
    go_wp2_with fail
    clear hkc
    refine wp_region_noPanic ?_
    refine wp_region_held_drew (S := fun W' : World => LiesE W' w.heap.size a ∧ Rd2 W' Be Bk h e) (by kernel_rfl) hHs (fun hHeld => ?_)
    refine wpAnyH_take (i := 0) (oi := { dst := some 16, op := _, type := _, pos := _, after := _, guard := _ }) (v := .pointer (some ⟨h, 0, none⟩)) rfl (by kernel_rfl) (by kernel_rfl) (by kernel_rfl) (fun _ _ _ h => h) (Or.inl ⟨by rfl, ?_⟩) (by assumption) ?_
    · intro w9 hSw
      exact y_load rfl rfl (load_ph (cell_of_row _ _ 0 _ _ _ hSw.2.pt))
    simp only [Act.put, List.setIfInBounds_toArray, List.set_cons_zero, List.set_cons_succ]
    refine wpAnyH_take (i := 1) (oi := { dst := some 17, op := _, type := _, pos := _, after := _, guard := _ }) (v := .pointer (some ⟨h, 0, none⟩)) rfl (by kernel_rfl) (by kernel_rfl) (by kernel_rfl) (fun _ _ _ h => h) (Or.inl ⟨by rfl, ?_⟩) (by assumption) ?_
    · intro w9 hSw
      exact y_nil rfl rfl
    simp only [Act.put, List.setIfInBounds_toArray, List.set_cons_zero, List.set_cons_succ]
    refine wpAnyH_take (i := 2) (oi := { dst := some 18, op := _, type := _, pos := _, after := _, guard := _ }) (v := .pointer (some ⟨h, 1, none⟩)) rfl (by kernel_rfl) (by kernel_rfl) (by kernel_rfl) (fun _ _ _ h => h) (Or.inl ⟨by rfl, ?_⟩) (by assumption) ?_
    · intro w9 hSw
      exact y_field rfl rfl (field_h1 _ _)
    simp only [Act.put, List.setIfInBounds_toArray, List.set_cons_zero, List.set_cons_succ]
    refine wpAnyH_take (i := 3) (oi := { dst := some 19, op := _, type := _, pos := _, after := _, guard := _ }) (v := .pointer (some ⟨w.heap.size, 0, none⟩)) rfl (by kernel_rfl) (by kernel_rfl) (by kernel_rfl) (fun _ _ _ h => h) (Or.inl ⟨by rfl, ?_⟩) (by assumption) ?_
    · intro w9 hSw
      exact y_field rfl rfl (field_ev0 _ _)
    simp only [Act.put, List.setIfInBounds_toArray, List.set_cons_zero, List.set_cons_succ]
    refine wpAnyH_take (i := 4) (oi := { dst := some 20, op := _, type := _, pos := _, after := _, guard := _ }) (v := .agg (dotc a.r a.n)) rfl (by kernel_rfl) (by kernel_rfl) (by kernel_rfl) (fun _ _ _ h => h) (Or.inl ⟨by rfl, ?_⟩) (by assumption) ?_
    · intro w9 hSw
      exact y_load rfl rfl hSw.1.dotAt
    simp only [Act.put, List.setIfInBounds_toArray, List.set_cons_zero, List.set_cons_succ]
    refine wpAnyH_take (i := 5) (oi := { dst := some 21, op := _, type := _, pos := _, after := _, guard := _ }) (v := .agg (evc a)) rfl (by kernel_rfl) (by kernel_rfl) (by kernel_rfl) (fun _ _ _ h => h) (Or.inl ⟨by rfl, ?_⟩) (by assumption) ?_
    · intro w9 hSw
      exact y_load rfl rfl (load_evx hSw.1 ha16)
    simp only [Act.put, List.setIfInBounds_toArray, List.set_cons_zero, List.set_cons_succ]
    refine wpAnyH_take (i := 6) (oi := { dst := some 22, op := _, type := _, pos := _, after := _, guard := _ }) (v := .pointer (some ⟨Be, 0, none⟩)) rfl (by kernel_rfl) (by kernel_rfl) (by kernel_rfl) (fun _ _ _ h => h) (Or.inl ⟨by rfl, ?_⟩) (by assumption) ?_
    · intro w9 hSw
      exact y_field rfl rfl (field_ev0 _ _)
    simp only [Act.put, List.setIfInBounds_toArray, List.set_cons_zero, List.set_cons_succ]
    refine wpAnyH_take (i := 7) (oi := { dst := some 23, op := _, type := _, pos := _, after := _, guard := _ }) (v := .agg (dotc e.r e.n)) rfl (by kernel_rfl) (by kernel_rfl) (by kernel_rfl) (fun _ _ _ h => h) (Or.inl ⟨by rfl, ?_⟩) (by assumption) ?_
    · intro w9 hSw
      exact y_load rfl rfl hSw.2.ev.dotAt
    simp only [Act.put, List.setIfInBounds_toArray, List.set_cons_zero, List.set_cons_succ]
    refine wpAnyH_take (i := 8) (oi := { dst := some 24, op := _, type := _, pos := _, after := _, guard := _ }) (v := .agg (edX ⟨a, e.r, e.n⟩).l.toArray) rfl (by kernel_rfl) (by kernel_rfl) (by kernel_rfl) (fun _ _ _ h => h) (Or.inl ⟨by rfl, ?_⟩) (by assumption) ?_
    · intro w9 hSw
      exact y_b2 (ty := 108) (i := 0) (j := 1) (x := .tmp 21) (y := .tmp 23) (p := .agg (evc a)) (q := .agg (dotc e.r e.n)) rfl rfl rfl (build_end _ a ha16 _ _)
    simp only [Act.put, List.setIfInBounds_toArray, List.set_cons_zero, List.set_cons_succ]
    clear hHeld
    refine wpAnyH_ready (rs := [9]) (by kernel_rfl) (by simp) ?_
    refine AllReadyH.cons (o := { dst := some 25, op := _, type := _, pos := _, after := _, guard := _ }) rfl (fun K hK => ?_) AllReadyH.nil
    rw [if_pos (by rfl)]
    refine y_call (f := 57) (xs := [.tmp 18, .tmp 20, .tmp 24]) (vs := [.pointer (some ⟨h, 1, none⟩), .agg (dotc a.r a.n), .agg (edX ⟨a, e.r, e.n⟩).l.toArray]) rfl rfl (enters_putd _ _) HP.out ?_
    rintro ex w3 ⟨rfl, m2', hB3, ht3⟩
    refine ⟨_, rfl, ?_⟩
    have FIN : Hid (∃ m2', D.Bg w3 h 1 #[.map m1, .map m2'] 86 m2' ((putD DL ⟨a, e.r, e.n⟩).map dit) ∧ Tn h m2 m2' w w3) := ⟨m2', hB3, HT3.out.trans ht3⟩
    refine hK.out _ _ (HK3.out _ _ ht3) (fun hHeld => ?_)
    clear hK K
    simp only [Act.put]
    refine wpAnyH_done (by kernel_rfl) ?_ _
    refine NoPanic.normal ?_
    clear hHeld
    go_wp2
    go_ret
    exact ⟨rfl, FIN.out⟩
end Go.Proofs.YtmlfekbmbnfkjabGreatDoor

/-
  What end comes to: what an event ends of a key's live events.
-/
namespace Go.Proofs.YtmlfekbmbnfkjabGreatDoor
set_option maxRecDepth 100000
open Go.RowKit
open Go.ChangeMaps (setBlock)

theorem idle (w : World) : CallsD Tryz.prog 138 #[] .returning w fun e u' w' => e = .returned (.tuple #[]) ∧ u' = .returning ∧ w' = w := by
  refine callsD_of_wpS Tryz.func138 rfl fun c₀ cs hu => ?_
  apply wpS_region
  simp [wpOpsS, go_sem, recoverD, hu, Tryz.ntmps138]
  cases c₀
  simp_all [bodyPostS, results, Tryz.results138]
set_option maxHeartbeats 1000000 in
theorem istrue_any (e a : Ev) (he16 : e.deps.length = 16) (ha16 : a.deps.length = 16) (Be Bk h : Nat) (m1 m2 : Option Nat) (DL : List Ed) (w : World) (hR : Rd2 w Be Bk h e) (hB : D.Bg w h 1 #[.map m1, .map m2] 86 m2 (DL.map dit)) :
    Calls Tryz.prog 99 #[.func (.func 55) #[] #[.pointer (some ⟨Be, 0, none⟩), .pointer (some ⟨Bk, 0, none⟩)], .agg (evc a)] w fun ex w' => ex = .returned (.bool (endsE e a)) ∧ ∃ m2', D.Bg w' h 1 #[.map m1, .map m2'] 86 m2' ((if fell e a then putD DL ⟨a, e.r, e.n⟩ else DL).map dit) ∧ Tn h m2 m2' w w' := by
  have hb0 : Below w.heap.size w (w.alloc (.cells (evc a) 47)) := (Below.refl _ w).alloc (Nat.le_refl _) _
  have hA0 := liesE_new w a
  have hH := hendf_any e a he16 ha16 Be Bk h m1 m2 DL (w.alloc (.cells (evc a) 47)) (hR.below hb0 (Nat.le_refl _)) (hB.below hb0 (Nat.le_refl _))
  generalize hW0 : w.alloc (.cells (evc a) 47) = W0 at *
  have hf : ∀ W, (binOp .eql 59 (.func (.func 55) #[] #[.pointer (some ⟨Be, 0, none⟩), .pointer (some ⟨Bk, 0, none⟩)]) .nilFunc).run Tryz.prog W = .ok (.bool false) W := fun W => by kernel_rfl
  generalize (if fell e a then putD DL ⟨a, e.r, e.n⟩ else DL) = DL' at *
  clear hR hB
  go_enter_defers Tryz.func99, Tryz.ntmps99
  go_wp2_with (first | refine load_ev rfl rfl rfl hA0 ha16 ?_)
  refine hH.mono ?_
  rintro ex w2 ⟨rfl, m2', hB2, ht2⟩
  have FIN : Hid (∃ m2', D.Bg w2 h 1 #[.map m1, .map m2'] 86 m2' (DL'.map dit) ∧ Tn h m2 m2' w w2) := ⟨m2', hB2, (Tn.of_below m2 hb0).trans ht2⟩
  clear hB2 ht2 hb0 hA0 hH
  go_wp2
  refine leaves_cons (f := 138) (args := #[]) (by simp) (by simp [go_sem]) ?_
  refine (idle _).mono ?_
  rintro e u' w'' ⟨rfl, rfl, rfl⟩
  have hF := FIN.out
  simp [Leaves, settle, results, Tryz.results99]
  exact hF

/-- Between two things that were asked. -/
structure Kh (w0 : World) (e : Ev) (Be Bk h : Nat) (m1 m2 : Option Nat) (L : List Ev) (DL : List Ed) (j : Nat) (m2' : Option Nat) (W : World) : Prop where
  live : E.Bg W h 0 #[.map m1, .map m2'] 86 m1 (L.map eit)
  dead : D.Bg W h 1 #[.map m1, .map m2'] 86 m2' ((deadTo e (L.take j) DL).map dit)
  rd : Rd2 W Be Bk h e
  tn : Tn h m2 m2' w0 W
  ne : ∀ k, m1 = some k → m2' ≠ some k
open Classical in
noncomputable def qE (e : Ev) (L : List Ev) (i : It (Cx 26)) : Bool := decide (∃ a ∈ L, eit a = i ∧ endsE e a = true)
open Classical in
theorem qE_is {e : Ev} {L : List Ev} (hs : SrE L) {a : Ev} (ha : a ∈ L) : qE e L (eit a) = endsE e a := by
  unfold qE
  rw [Bool.eq_iff_iff, decide_eq_true_iff]
  constructor
  · rintro ⟨b, hb, he, h⟩
    have h1 : b.r = a.r := congrArg It.r he
    have h2 : b.n = a.n := congrArg It.n he
    rw [← hs.same hb ha h1 h2]; exact h
  · exact fun h => ⟨a, ha, rfl, h⟩
theorem gone_is {e : Ev} {L : List Ev} (hs : SrE L) {a : Ev} (ha : a ∈ L) : E.gone e.deps (qE e L) (eit a) = endsE e a := by
  unfold E.gone
  rw [qE_is hs ha]
  show (hasv e.deps a.r a.n && endsE e a) = endsE e a
  cases hh : hasv e.deps a.r a.n
  · rw [ends_covers hh]; rfl
  · rfl
theorem gone_not {e : Ev} {L : List Ev} (hs : SrE L) : ((L.map eit).filter fun i => !E.gone e.deps (qE e L) i) = (L.filter fun a => !endsE e a).map eit := by
  rw [List.filter_map]
  congr 1
  refine List.filter_congr fun a ha => ?_
  simp only [Function.comp_apply]
  rw [gone_is hs ha]
theorem map_at {L : List Ev} {j : Nat} {i : It (Cx 26)} (h : (L.map eit)[j]? = some i) : ∃ a, L[j]? = some a ∧ i = eit a := by
  rw [List.getElem?_map] at h
  cases ha : L[j]? with
  | none => rw [ha] at h; cases h
  | some a => rw [ha] at h; exact ⟨a, rfl, (Option.some.inj h).symm⟩
theorem Kh.whj {w0 : World} {e : Ev} {Be Bk h : Nat} {m1 m2 : Option Nat} {L : List Ev} {DL : List Ed} (he16 : e.deps.length = 16) (hw : ∀ a ∈ L, Wide a) (hs : SrE L) :
    E.WhJ (qE e L) e.deps (.func (.func 55) #[] #[.pointer (some ⟨Be, 0, none⟩), .pointer (some ⟨Bk, 0, none⟩)]) (L.map eit) w0.heap.size (fun j W => ∃ m2', Kh w0 e Be Bk h m1 m2 L DL j m2' W) := by
  refine ⟨fun j i W hi hK hh => ?_, fun j i W hi hK hh => ?_, fun j W W' row hK hg hr => ?_⟩
  · obtain ⟨m2', hK⟩ := hK
    obtain ⟨a, ha, rfl⟩ := map_at hi
    have ham := List.mem_of_getElem? ha
    rw [show (eit a).x.l.toArray = evc a from evX_c (hw a ham).1]
    refine (istrue_any e a he16 (hw a ham).1 Be Bk h m1 m2' (deadTo e (L.take j) DL) W hK.rd hK.dead).mono ?_
    rintro ex w' ⟨rfl, m2'', hB, ht⟩
    refine ⟨by rw [qE_is hs ham], ⟨m2'', ?_⟩, D.Bg.kpc hK.dead ht⟩
    refine ⟨hK.live.other hB.blk rfl (fun k hk hm => ht.block k hk (fun e => (hK.live.own k hm).2 e) (hK.ne k hm)), ?_, hK.rd.kpc (D.Bg.kpc hK.dead ht), hK.tn.trans ht, fun k hk hm => ?_⟩
    · rw [List.take_add_one, ha, Option.toList_some, deadTo_snoc]; exact hB
    · rcases ht.own k hm with h1 | h1
      · exact hK.ne k hk h1
      · have := (hK.live.own k hk).1; omega
  · obtain ⟨m2', hK⟩ := hK
    obtain ⟨a, ha, rfl⟩ := map_at hi
    refine ⟨m2', hK.live, ?_, hK.rd, hK.tn, hK.ne⟩
    rw [List.take_add_one, ha, Option.toList_some, deadTo_snoc]
    have hf : fell e a = false := by
      unfold fell
      rw [ends_covers hh]; rfl
    rw [hf]
    exact hK.dead
  · obtain ⟨m2', hK⟩ := hK
    have hty : ∀ (k : Nat) (cur : Array Value) (t : TypeId), t ≠ 112 → W.heap[k]? = some (.cells cur t (0, 0)) → W'.heap[k]? = W.heap[k]? := fun k cur t ht hk => hg.block k (Array.getElem?_eq_some_iff.1 hk).1 (fun e => by
      obtain ⟨-, cur', hc⟩ := hr k e.symm
      rw [hk] at hc
      simp only [Option.some.injEq, Obj.cells.injEq] at hc
      exact ht hc.2.1)
    have hmp : ∀ k, k < W.heap.size → (∃ es c, W.heap[k]? = some (.map es c)) → W'.heap[k]? = W.heap[k]? := fun k hk hm => hg.block k hk (fun e => by
      obtain ⟨-, cur', hc⟩ := hr k e.symm
      obtain ⟨es, c, hm⟩ := hm
      rw [hm] at hc; cases hc)
    refine ⟨m2', hK.live.kept fun k hk ho => ?_, hK.dead.kept fun k hk ho => ?_, ⟨?_, ?_⟩, ⟨?_, ?_, ?_, ?_, ?_, ?_⟩, hK.ne⟩
    · rcases ho with rfl | ho
      · exact hty k _ _ types_ne.2.2 hK.live.blk
      · obtain ⟨b, e, hm⟩ := hK.live.map.resolve_left (by rw [ho]; simp)
        rw [e] at ho
        obtain rfl := Option.some.inj ho
        exact hmp _ hk (E.Mp.blk hm)
    · rcases ho with rfl | ho
      · exact hty k _ _ types_ne.2.2 hK.dead.blk
      · obtain ⟨b, e, hm⟩ := hK.dead.map.resolve_left (by rw [ho]; simp)
        rw [e] at ho
        obtain rfl := Option.some.inj ho
        exact hmp _ hk (D.Mp.blk hm)
    · exact (hty Be _ _ (by decide) hK.rd.ev).trans hK.rd.ev
    · exact (hty Bk _ _ (by decide) hK.rd.pt).trans hK.rd.pt
    · exact hg.os.trans hK.tn.os
    · exact hg.tape.trans hK.tn.tape
    · exact hg.output.trans hK.tn.output
    · exact Nat.le_trans hK.tn.size hg.size
    · intro k hk h1 h2
      exact (hg.block k (Nat.lt_of_lt_of_le hk hK.tn.size) (fun e => by have := (hr k e.symm).1; omega)).trans (hK.tn.block k hk h1 h2)
    · exact hK.tn.own
end Go.Proofs.YtmlfekbmbnfkjabGreatDoor

/-
  What end comes to.
-/
namespace Go.Proofs.YtmlfekbmbnfkjabGreatDoor
set_option maxRecDepth 100000
open Go.RowKit

/-- What a call may have turned: a key's block and its maps. -/
structure To (h : Nat) (m1 m2 m1' m2' : Option Nat) (w w' : World) : Prop where
  os : w'.os = w.os
  tape : w'.tape = w.tape
  output : w'.output = w.output
  size : w.heap.size ≤ w'.heap.size
  block : ∀ k, k < w.heap.size → k ≠ h → m1 ≠ some k → m2 ≠ some k → w'.heap[k]? = w.heap[k]?
  own1 : ∀ k, m1' = some k → m1 = some k ∨ w.heap.size ≤ k
  own2 : ∀ k, m2' = some k → m2 = some k ∨ w.heap.size ≤ k
theorem To.of_below {h : Nat} (m1 m2 : Option Nat) {w w' : World} (hb : Below w.heap.size w w') : To h m1 m2 m1 m2 w w' :=
  ⟨hb.os, hb.tape, hb.output, hb.size, fun k hk _ _ _ => hb.block k hk, fun _ e => .inl e, fun _ e => .inl e⟩
theorem To.trans {h : Nat} {m1 m2 n1 n2 p1 p2 : Option Nat} {a b c : World} (x : To h m1 m2 n1 n2 a b) (y : To h n1 n2 p1 p2 b c) : To h m1 m2 p1 p2 a c :=
  ⟨y.os.trans x.os, y.tape.trans x.tape, y.output.trans x.output, Nat.le_trans x.size y.size,
   fun i hi hg h1 h2 => (y.block i (Nat.lt_of_lt_of_le hi x.size) hg
      (fun e => by rcases x.own1 i e with q | q; · exact h1 q
                   · omega)
      (fun e => by rcases x.own2 i e with q | q; · exact h2 q
                   · omega)).trans (x.block i hi hg h1 h2),
   fun i hi => by
    rcases y.own1 i hi with q | q
    · exact x.own1 i q
    · exact .inr (Nat.le_trans x.size q),
   fun i hi => by
    rcases y.own2 i hi with q | q
    · exact x.own2 i q
    · exact .inr (Nat.le_trans x.size q)⟩
theorem To.ofTn1 {h : Nat} {m1 m1' : Option Nat} (m2 : Option Nat) {w w' : World} (t : Tn h m1 m1' w w') : To h m1 m2 m1' m2 w w' :=
  ⟨t.os, t.tape, t.output, t.size, fun k hk hh h1 _ => t.block k hk hh h1, t.own, fun _ e => .inl e⟩
theorem To.ofTn2 {h : Nat} {m2 m2' : Option Nat} (m1 : Option Nat) {w w' : World} (t : Tn h m2 m2' w w') : To h m1 m2 m1 m2' w w' :=
  ⟨t.os, t.tape, t.output, t.size, fun k hk hh _ h2 => t.block k hk hh h2, fun _ e => .inl e, t.own⟩

theorem endsnone_any (k : Int) (w : World) : Calls Tryz.prog 53 #[.int .i64 k] w fun e w' => e = .returned (.bool (decide (k = 2 ∨ k = 9))) ∧ w' = w := by
  by_cases h2 : k = 2
  · subst h2
    go_enter Tryz.func53, Tryz.ntmps53
    go_wp2
    go_ret
    exact ⟨rfl, rfl⟩
  · by_cases h9 : k = 9
    · subst h9
      go_enter Tryz.func53, Tryz.ntmps53
      go_wp2
      go_ret
      exact ⟨rfl, rfl⟩
    · have e2 : (k == 2) = false := by simpa using h2
      have e9 : (k == 9) = false := by simpa using h9
      have ed : decide (k = 2 ∨ k = 9) = false := by simp [h2, h9]
      rw [ed]
      go_enter Tryz.func53, Tryz.ntmps53
      go_wp2
      go_ret
      exact ⟨rfl, rfl⟩
theorem ends_none {e : Ev} (h : e.kind = 2 ∨ e.kind = 9) (a : Ev) : endsE e a = false := by
  unfold endsE hits
  rcases h with h | h <;> simp [h]
theorem dead_none {e : Ev} (h : e.kind = 2 ∨ e.kind = 9) (L : List Ev) (DL : List Ed) : deadTo e L DL = DL := by
  have hf : ∀ a, fell e a = false := fun a => by unfold fell; rw [ends_none h]; rfl
  unfold deadTo
  induction L generalizing DL with
  | nil => rfl
  | cons a L ih => rw [List.foldl_cons, hf]; exact ih DL
theorem live_none {e : Ev} (h : e.kind = 2 ∨ e.kind = 9) (L : List Ev) : (L.filter fun a => !endsE e a) = L := List.filter_eq_self.2 fun a _ => by rw [ends_none h]; rfl
theorem mem_putD {DL : List Ed} {d x : Ed} (h : x ∈ putD DL d) : x = d ∨ x ∈ DL := by
  unfold putD at h
  rcases List.mem_append.1 h with h | h
  · exact .inr (List.mem_filter.1 h).1
  · rcases List.mem_cons.1 h with h | h
    · exact .inl h
    · exact .inr (List.mem_filter.1 h).1
theorem mem_dead {e : Ev} {x : Ed} : ∀ (L : List Ev) (DL : List Ed), x ∈ deadTo e L DL → (∃ a ∈ L, x = ⟨a, e.r, e.n⟩) ∨ x ∈ DL
  | [], _, h => .inr h
  | a :: L, DL, h => by
    have h' : x ∈ deadTo e L (if fell e a then putD DL ⟨a, e.r, e.n⟩ else DL) := h
    rcases mem_dead L _ h' with ⟨b, hb, e1⟩ | h1
    · exact .inl ⟨b, by simp [hb], e1⟩
    · split at h1
      · rcases mem_putD h1 with e1 | h2
        · exact .inl ⟨a, by simp, e1⟩
        · exact .inr h2
      · exact .inr h1

theorem E.Bg.kpc {w w' : World} {g o : Nat} {cs : Array Value} {ty : TypeId} {m m' : Option Nat} {S : List (It (Cx 26))} (h : E.Bg w g o cs ty m S) (ht : Tn g m m' w w') : Kpc ty w w' :=
  ⟨ht.size, fun k cur t hne hk => ht.block k (Array.getElem?_eq_some_iff.1 hk).1 (fun e => by
      subst e
      rw [h.blk] at hk
      simp only [Option.some.injEq, Obj.cells.injEq] at hk
      exact hne hk.2.1.symm) (fun e => by
      subst e
      obtain ⟨b, e, hm⟩ := h.map.resolve_left (by simp)
      obtain rfl := Option.some.inj e
      obtain ⟨es, c, hb⟩ := E.Mp.blk hm
      rw [hb] at hk; cases hk)⟩
set_option maxHeartbeats 1000000 in
theorem hend_any (e : Ev) (he : Wide e) (h : Nat) (m1 m2 : Option Nat) (L : List Ev) (DL : List Ed) (w : World) (hH : Ho w h m1 m2 L DL) (hl : L.length ≤ 1048576) :
    Calls Tryz.prog 35 #[.pointer (some ⟨h, 0, none⟩), .agg (evc e)] w fun ex w' => ex = .returned (.tuple #[]) ∧ ∃ m2', Ho w' h m1 m2' (L.filter fun a => !endsE e a) (deadTo e L DL) ∧ To h m1 m2 m1 m2' w w' := by
  have he16 := he.1
  have hb0 : Below w.heap.size w ((w.alloc (.cells #[.pointer (some ⟨h, 0, none⟩)] 76)).alloc (.cells (evc e) 47)) := ((Below.refl _ w).alloc (Nat.le_refl _) _).alloc (by simp) _
  have hE0 : LiesE ((w.alloc (.cells #[.pointer (some ⟨h, 0, none⟩)] 76)).alloc (.cells (evc e) 47)) (w.heap.size + 1) e := by
    have := liesE_new (w.alloc (.cells #[.pointer (some ⟨h, 0, none⟩)] 76)) e
    rwa [World.size_alloc] at this
  have hP0 : ((w.alloc (.cells #[.pointer (some ⟨h, 0, none⟩)] 76)).alloc (.cells (evc e) 47)).heap[w.heap.size]? = some (.cells #[.pointer (some ⟨h, 0, none⟩)] 76 (0, 0)) := by
    rw [Below.heap_alloc _ _ _ (by simp)]; exact heap_alloc_new w _
  have hH0 := hH.below hb0 (Nat.le_refl _)
  generalize hW0 : (w.alloc (.cells #[.pointer (some ⟨h, 0, none⟩)] 76)).alloc (.cells (evc e) 47) = W0 at *
  have hkc := hE0.c19
  have hN := endsnone_any e.kind W0
  by_cases hk : e.kind = 2 ∨ e.kind = 9
  · rw [live_none hk, dead_none hk]
    have hd : decide (e.kind = 2 ∨ e.kind = 9) = true := by simpa using hk
    rw [hd] at hN
    have FIN : Hid (Ho W0 h m1 m2 L DL ∧ To h m1 m2 m1 m2 w W0) := ⟨hH0, To.of_below m1 m2 hb0⟩
    clear hH hH0 hb0 hE0 hP0 hk hd
    go_enter Tryz.func35, Tryz.ntmps35
    go_wp2_with fail
    refine Calls.mono hN ?_
    rintro ex w2 ⟨rfl, hw2⟩
    obtain rfl := hw2.symm
    go_wp2
    refine bodyPost_ret (results_none rfl _ _ _) rfl ?_
    exact ⟨rfl, m2, FIN.out⟩
  · have hd : decide (e.kind = 2 ∨ e.kind = 9) = false := by simpa using hk
    rw [hd] at hN
    have hbd : Below W0.heap.size W0 W0.drew := (Below.refl _ W0).drew
    have hHd := hH0.below hbd (Nat.le_refl _)
    have hRd : Rd2 W0.drew (w.heap.size + 1) w.heap.size h e := ⟨hE0, hP0⟩
    have hK : Kh W0.drew e (w.heap.size + 1) w.heap.size h m1 m2 L DL 0 m2 W0.drew := ⟨hHd.live, hHd.dead, hRd, Tn.refl _ _ _, hHd.ne⟩
    have hsr : SrE L := srt_eit.1 hHd.live.srt
    have hD := E.drop_any h 0 m1 (L.map eit) #[.map m1, .map m2] 86 e.deps he16 (qE e L) 55 #[.pointer (some ⟨w.heap.size + 1, 0, none⟩), .pointer (some ⟨w.heap.size, 0, none⟩)] W0.drew _ (Kh.whj (w0 := W0.drew) (m1 := m1) (m2 := m2) (DL := DL) he16 hH.wl hsr) types_ne.2.2 hHd.live (by rw [List.length_map]; exact hl) ⟨m2, hK⟩ (fun W ⟨m2', k⟩ => ⟨_, k.live⟩)
    have hD2 : Calls Tryz.prog 54 #[.pointer (some ⟨h, 0, none⟩), .agg (vals e.deps), .func (.func 55) #[] #[.pointer (some ⟨w.heap.size + 1, 0, none⟩), .pointer (some ⟨w.heap.size, 0, none⟩)]] W0.drew fun ex w' => (∃ v, ex = .returned v) ∧ Rd2 w' (w.heap.size + 1) w.heap.size h e ∧ ∃ m2', Ho w' h m1 m2' (L.filter fun a => !endsE e a) (deadTo e L DL) ∧ To h m1 m2 m1 m2' w w' := by
      refine hD.mono ?_
      rintro ex w' ⟨rfl, w2, cs', ⟨m2', kh⟩, hB2, hB3, ht⟩
      refine ⟨⟨_, rfl⟩, kh.rd.kpc (E.Bg.kpc hB2 ht), m2', ?_, ((To.of_below m1 m2 (hb0.trans (hbd.mono hb0.size))).trans (To.ofTn2 m1 kh.tn)).trans (To.ofTn1 m2' ht)⟩
      have hcs : cs' = #[.map m1, .map m2'] := by
        have h1 := hB2.blk
        rw [kh.live.blk] at h1
        simp only [Option.some.injEq, Obj.cells.injEq] at h1
        exact h1.1.symm
      rw [gone_not hsr] at hB3
      rw [hcs] at hB3
      have hdd := kh.dead
      rw [List.length_map, List.take_length] at hdd
      refine ⟨hB3, hdd.kept fun k hk ho => ?_, kh.ne, fun a ha => hH.wl a (List.mem_filter.1 ha).1, fun d hdm => ?_⟩
      · rcases ho with rfl | ho
        · rw [hB3.blk, hdd.blk]
        · exact ht.block k hk (fun e => (hdd.own k ho).2 e) (fun e => kh.ne k e ho)
      · rcases mem_dead _ _ hdm with ⟨a, ha, rfl⟩ | h1
        · exact hH.wl a ha
        · exact hH.wd d h1
    have HD : Hid _ := hD2
    have hHs : Rd2 W0.drew (w.heap.size + 1) w.heap.size h e := hRd
    clear hD hD2 hK hHd hRd hH hH0 hb0 hE0 hP0 hk hd hbd hsr
    go_enter Tryz.func35, Tryz.ntmps35
    go_wp2_with fail
    refine Calls.mono hN ?_
    rintro ex w2 ⟨rfl, hw2⟩
    obtain rfl := hw2.symm
    go_wp2_with fail
    clear hkc hN
    refine wp_region_noPanic ?_
    refine wp_region_held_drew (S := fun W' : World => Rd2 W' (w.heap.size + 1) w.heap.size h e) (by kernel_rfl) hHs (fun hHeld => ?_)
    refine wpAnyH_take (i := 0) (oi := { dst := some 8, op := _, type := _, pos := _, after := _, guard := _ }) (v := .pointer (some ⟨h, 0, none⟩)) rfl (by kernel_rfl) (by kernel_rfl) (by kernel_rfl) (fun _ _ _ h => h) (Or.inl ⟨by rfl, ?_⟩) (by assumption) ?_
    · intro w9 hSw
      exact y_load rfl rfl (load_ph (cell_of_row _ _ 0 _ _ _ hSw.pt))
    simp only [Act.put, List.setIfInBounds_toArray, List.set_cons_zero, List.set_cons_succ]
    refine wpAnyH_take (i := 1) (oi := { dst := some 9, op := _, type := _, pos := _, after := _, guard := _ }) (v := .pointer (some ⟨h, 0, none⟩)) rfl (by kernel_rfl) (by kernel_rfl) (by kernel_rfl) (fun _ _ _ h => h) (Or.inl ⟨by rfl, ?_⟩) (by assumption) ?_
    · intro w9 hSw
      exact y_nil rfl rfl
    simp only [Act.put, List.setIfInBounds_toArray, List.set_cons_zero, List.set_cons_succ]
    refine wpAnyH_take (i := 2) (oi := { dst := some 10, op := _, type := _, pos := _, after := _, guard := _ }) (v := .pointer (some ⟨h, 0, none⟩)) rfl (by kernel_rfl) (by kernel_rfl) (by kernel_rfl) (fun _ _ _ h => h) (Or.inl ⟨by rfl, ?_⟩) (by assumption) ?_
    · intro w9 hSw
      exact y_field rfl rfl (field_h0 _ _)
    simp only [Act.put, List.setIfInBounds_toArray, List.set_cons_zero, List.set_cons_succ]
    refine wpAnyH_take (i := 3) (oi := { dst := some 11, op := _, type := _, pos := _, after := _, guard := _ }) (v := .pointer (some ⟨w.heap.size + 1, 3, none⟩)) rfl (by kernel_rfl) (by kernel_rfl) (by kernel_rfl) (fun _ _ _ h => h) (Or.inl ⟨by rfl, ?_⟩) (by assumption) ?_
    · intro w9 hSw
      exact y_field rfl rfl (field_ev2 _ _)
    simp only [Act.put, List.setIfInBounds_toArray, List.set_cons_zero, List.set_cons_succ]
    refine wpAnyH_take (i := 4) (oi := { dst := some 12, op := _, type := _, pos := _, after := _, guard := _ }) (v := .agg (vals e.deps)) rfl (by kernel_rfl) (by kernel_rfl) (by kernel_rfl) (fun _ _ _ h => h) (Or.inl ⟨by rfl, ?_⟩) (by assumption) ?_
    · intro w9 hSw
      exact y_load rfl rfl (load_dp hSw.ev he16)
    simp only [Act.put, List.setIfInBounds_toArray, List.set_cons_zero, List.set_cons_succ]
    refine wpAnyH_take (i := 5) (oi := { dst := some 13, op := _, type := _, pos := _, after := _, guard := _ }) (v := .func (.func 55) #[] #[.pointer (some ⟨w.heap.size + 1, 0, none⟩), .pointer (some ⟨w.heap.size, 0, none⟩)]) rfl (by kernel_rfl) (by kernel_rfl) (by kernel_rfl) (fun _ _ _ h => h) (Or.inl ⟨by rfl, ?_⟩) (by assumption) ?_
    · intro w9 hSw
      exact y_mkf (x := .tmp 3) (y := .tmp 2) rfl rfl rfl
    simp only [Act.put, List.setIfInBounds_toArray, List.set_cons_zero, List.set_cons_succ]
    clear hHeld
    refine wpAnyH_ready (rs := [6]) (by kernel_rfl) (by simp) ?_
    refine AllReadyH.cons (o := { dst := some 14, op := _, type := _, pos := _, after := _, guard := _ }) rfl (fun K hK => ?_) AllReadyH.nil
    rw [if_pos (by rfl)]
    refine y_call (f := 54) (xs := [.tmp 10, .tmp 12, .tmp 13]) (vs := [.pointer (some ⟨h, 0, none⟩), .agg (vals e.deps), .func (.func 55) #[] #[.pointer (some ⟨w.heap.size + 1, 0, none⟩), .pointer (some ⟨w.heap.size, 0, none⟩)]]) rfl rfl (enters_drope _ _) HD.out ?_
    rintro ex w3 ⟨⟨v3, rfl⟩, hR3, hFIN⟩
    refine ⟨_, rfl, ?_⟩
    have FIN : Hid (∃ m2', Ho w3 h m1 m2' (L.filter fun a => !endsE e a) (deadTo e L DL) ∧ To h m1 m2 m1 m2' w w3) := hFIN
    clear hFIN
    refine hK.out _ _ hR3 (fun hHeld => ?_)
    clear hK K
    simp only [Act.put]
    refine wpAnyH_done (by kernel_rfl) ?_ _
    refine NoPanic.normal ?_
    clear hHeld
    go_wp2
    go_end0
    exact ⟨rfl, FIN.out⟩
end Go.Proofs.YtmlfekbmbnfkjabGreatDoor

/-
  A map from texts to pointers in memory: look-up, update, delete, range.
-/
namespace Go.Proofs.YtmlfekbmbnfkjabGreatDoor
set_option maxRecDepth 100000
open Go.RowKit
open Go.ChangeMaps (setBlock heap_setBlock_same heap_setBlock_other)
open Go.MapKept (Stamped stamped_iff stamped_push stamped_modify stamped_erase stamped_empty)

abbrev Key := List UInt8
def kvK (p : Key × Nat) : Value × Value := (.string (sb p.1), .pointer (some ⟨p.2, 0, none⟩))
def kvM (e : MapEntry) : Value × Value := (e.key, e.val)
/-- A block is a map of these. -/
def Mk (w : World) (b : Nat) (S : List (Key × Nat)) : Prop :=
  ∃ (es : Array MapEntry) (clock : Nat) (L : List (Key × Nat)), w.heap[b]? = some (.map es clock) ∧ Stamped es clock ∧ es.toList.map kvM = L.map kvK ∧ L.Perm S ∧ (S.map Prod.fst).Nodup
section
variable {w w' : World} {b : Nat} {S : List (Key × Nat)}
theorem Mk.lt (h : Mk w b S) : b < w.heap.size := by
  obtain ⟨es, clock, L, hb, -⟩ := h
  exact (Array.getElem?_eq_some_iff.1 hb).1
theorem Mk.blk (h : Mk w b S) : ∃ es c, w.heap[b]? = some (.map es c) := by
  obtain ⟨es, clock, L, hb, -⟩ := h
  exact ⟨es, clock, hb⟩
theorem Mk.nodup (h : Mk w b S) : (S.map Prod.fst).Nodup := by
  obtain ⟨es, clock, L, -, -, -, -, hn⟩ := h
  exact hn
theorem Mk.kept (h : Mk w b S) (hk : w'.heap[b]? = w.heap[b]?) : Mk w' b S := by
  obtain ⟨es, clock, L, hb, rest⟩ := h
  exact ⟨es, clock, L, hk.trans hb, rest⟩
end
theorem mk_new (w : World) : Mk (w.alloc (.map #[] 0)) w.heap.size [] :=
  ⟨#[], 0, [], MapKept.heap_alloc w _ |>.1, stamped_empty 0, rfl, List.Perm.refl _, by simp⟩
theorem sb_beq2 (s t : Key) : (sb s == sb t) = decide (s = t) := by
  show ((sb s).data == (sb t).data) = _
  rw [Bool.eq_iff_iff, decide_eq_true_iff, beq_iff_eq]
  constructor
  · intro h
    have := congrArg Array.toList h
    rwa [data_sb, data_sb] at this
  · rintro rfl; rfl
/-- What lies under a key. -/
def at? (S : List (Key × Nat)) (k : Key) : Option Nat := (S.find? fun p => decide (p.1 = k)).map Prod.snd
def ptr? : Option Nat → Value
  | none => .pointer none
  | some h => .pointer (some ⟨h, 0, none⟩)
theorem at_mem {S : List (Key × Nat)} {k : Key} {h : Nat} (ha : at? S k = some h) : (k, h) ∈ S := by
  unfold at? at ha
  cases hf : S.find? fun p => decide (p.1 = k) with
  | none => rw [hf] at ha; cases ha
  | some p =>
    rw [hf] at ha
    obtain rfl := Option.some.inj ha
    have h1 := List.find?_some hf
    have h2 := List.mem_of_find?_eq_some hf
    simp only [decide_eq_true_eq] at h1
    rw [← h1]
    exact h2
theorem at_none {S : List (Key × Nat)} {k : Key} (ha : at? S k = none) (h : Nat) : (k, h) ∉ S := by
  unfold at? at ha
  intro hm
  cases hf : S.find? fun p => decide (p.1 = k) with
  | none =>
    have := List.find?_eq_none.1 hf _ hm
    simp at this
  | some p => rw [hf] at ha; cases ha
theorem nodup_one {S : List (Key × Nat)} (hn : (S.map Prod.fst).Nodup) {k : Key} {h h' : Nat} (h1 : (k, h) ∈ S) (h2 : (k, h') ∈ S) : h = h' := by
  induction S with
  | nil => simp at h1
  | cons p S ih =>
    simp only [List.map_cons, List.nodup_cons] at hn
    rcases List.mem_cons.1 h1 with e1 | h1'
    · rcases List.mem_cons.1 h2 with e2 | h2'
      · rw [← e1] at e2; exact (Prod.mk.inj e2).2.symm
      · exact absurd (List.mem_map.2 ⟨_, h2', by rw [← e1]⟩) hn.1
    · rcases List.mem_cons.1 h2 with e2 | h2'
      · exact absurd (List.mem_map.2 ⟨_, h1', by rw [← e2]⟩) hn.1
      · exact ih hn.2 h1' h2'
theorem at_of_mem {S : List (Key × Nat)} (hn : (S.map Prod.fst).Nodup) {k : Key} {h : Nat} (hm : (k, h) ∈ S) : at? S k = some h := by
  cases ha : at? S k with
  | none => exact absurd hm (at_none ha h)
  | some h' => rw [nodup_one hn (at_mem ha) hm]
theorem at_perm {L S : List (Key × Nat)} (hp : L.Perm S) (hn : (S.map Prod.fst).Nodup) (k : Key) : at? L k = at? S k := by
  cases ha : at? L k with
  | none =>
    cases hb : at? S k with
    | none => rfl
    | some h => exact absurd (hp.mem_iff.2 (at_mem hb)) (at_none ha h)
  | some h => exact (at_of_mem hn (hp.mem_iff.1 (at_mem ha))).symm
theorem run_findNow_str (k : Key) : ∀ (es : List MapEntry) (L : List (Key × Nat)) (i : Nat), es.map kvM = L.map kvK →
    (at? L k = none ∧ Instr.findNow .string (.string (sb k)) es i = some none) ∨
    ∃ j h, L[j]? = some (k, h) ∧ at? L k = some h ∧ Instr.findNow .string (.string (sb k)) es i = some (some (i + j, .pointer (some ⟨h, 0, none⟩)))
  | [], [], i, _ => .inl ⟨rfl, rfl⟩
  | [], _ :: _, i, h => by simp at h
  | _ :: _, [], i, h => by simp at h
  | e :: es, p :: L, i, h => by
    simp only [List.map_cons, List.cons.injEq, kvM, kvK, Prod.mk.injEq] at h
    obtain ⟨⟨h1, h2⟩, h3⟩ := h
    have ih := run_findNow_str k es L (i + 1) h3
    have hs : Instr.sameNow .string (.string (sb k)) e.key = some (decide (k = p.1)) := by
      rw [h1]
      show some (sb k == sb p.1) = _
      rw [sb_beq2]
    by_cases hd : k = p.1
    · subst hd
      refine .inr ⟨0, p.2, rfl, by simp [at?], ?_⟩
      unfold Instr.findNow
      rw [hs, h2]
      simp
    · have hat : at? (p :: L) k = at? L k := by
        have : ¬ p.1 = k := fun e => hd e.symm
        simp [at?, this]
      have hf : Instr.findNow .string (.string (sb k)) (e :: es) i = Instr.findNow .string (.string (sb k)) es (i + 1) := by
        conv => lhs; unfold Instr.findNow
        rw [hs]
        simp [hd]
      rw [hat, hf]
      rcases ih with ih | ⟨j, h, a, c, d⟩
      · exact .inl ih
      · exact .inr ⟨j + 1, h, a, c, by rw [d, show i + 1 + j = i + (j + 1) by omega]⟩
theorem run_findKey_str (k : Key) (es : List MapEntry) (L : List (Key × Nat)) (h : es.map kvM = L.map kvK) :
    (at? L k = none ∧ ∀ w, (Instr.findKey 9 (.string (sb k)) es).run Tryz.prog w = .ok none w) ∨
    ∃ j h, L[j]? = some (k, h) ∧ at? L k = some h ∧ ∀ w, (Instr.findKey 9 (.string (sb k)) es).run Tryz.prog w = .ok (some (j, .pointer (some ⟨h, 0, none⟩))) w := by
  rcases run_findNow_str k es L 0 h with ⟨h1, h2⟩ | ⟨j, h', h1, h2, h3⟩
  · exact .inl ⟨h1, fun w => by simp [Instr.findKey, Sem.run_bind, run_underlying Tryz.underlying9, h2]⟩
  · exact .inr ⟨j, h', h1, h2, fun w => by simp [Instr.findKey, Sem.run_bind, run_underlying Tryz.underlying9, h3]⟩
theorem run_checkKey_str (w : World) (em : Bool) (k : Key) : (Instr.checkKey em 10000 9 (.string (sb k))).run Tryz.prog w = .ok () w := by kernel_rfl
theorem run_keyStays_str (w : World) (k : Key) : (Instr.keyThatStays (.string (sb k)) (.string (sb k))).run Tryz.prog w = .ok (.string (sb k)) w := by
  simp [Instr.keyThatStays, Instr.sameBits, bytes_self]
/-- 'm[k]'. -/
theorem Mk.lookup {w : World} {b : Nat} {S : List (Key × Nat)} (h : Mk w b S) (k : Key) :
    (Instr.lookup 56 (.map (some b)) (.string (sb k)) false).run Tryz.prog w = .ok (ptr? (at? S k)) w := by
  obtain ⟨es, clock, L, hb, hst, hL, hp, hS⟩ := h
  rw [← at_perm hp hS]
  rcases run_findKey_str k es.toList L hL with ⟨h1, h2⟩ | ⟨j, h', h1, h2, h3⟩
  · simp [Instr.lookup, Sem.run_bind, run_underlying Tryz.underlying56, MapKept.run_getObj_map hb, run_checkKey_str, h2, h1, Tryz.zeroValue76, ptr?]
  · simp [Instr.lookup, Sem.run_bind, run_underlying Tryz.underlying56, MapKept.run_getObj_map hb, run_checkKey_str, h3, h2, ptr?]
theorem look_nil (w : World) (k : Key) : (Instr.lookup 56 (.map none) (.string (sb k)) false).run Tryz.prog w = .ok (.pointer none) w := by
  rcases run_findKey_str k [] [] rfl with ⟨h1, h2⟩ | ⟨j, i, h1, _⟩
  · simp [Instr.lookup, Sem.run_bind, run_underlying Tryz.underlying56, run_checkKey_str, h2, Tryz.zeroValue76]
  · simp at h1
/-- The others. -/
def but (S : List (Key × Nat)) (k : Key) : List (Key × Nat) := S.filter fun p => !decide (p.1 = k)
theorem mem_but {S : List (Key × Nat)} {k : Key} {p : Key × Nat} : p ∈ but S k ↔ p ∈ S ∧ p.1 ≠ k := by simp [but]
theorem but_nodup {S : List (Key × Nat)} (hn : (S.map Prod.fst).Nodup) (k : Key) : ((but S k).map Prod.fst).Nodup :=
  List.Pairwise.sublist (List.Sublist.map _ List.filter_sublist) hn
theorem but_none {S : List (Key × Nat)} {k : Key} (ha : at? S k = none) : but S k = S := List.filter_eq_self.2 fun p hp => by
  by_cases e : p.1 = k
  · obtain ⟨q, x⟩ := p
    subst e
    exact absurd hp (at_none ha x)
  · simp [e]
theorem but_perm {L S : List (Key × Nat)} (hp : L.Perm S) (k : Key) : (but L k).Perm (but S k) := hp.filter _
theorem erase_but {L : List (Key × Nat)} (hn : (L.map Prod.fst).Nodup) {j : Nat} {k : Key} {h : Nat} (hj : L[j]? = some (k, h)) : L.eraseIdx j = but L k := by
  induction L generalizing j with
  | nil => simp at hj
  | cons p L ih =>
    simp only [List.map_cons, List.nodup_cons] at hn
    cases j with
    | zero =>
      obtain rfl : p = (k, h) := by simpa using hj
      have : but L k = L := List.filter_eq_self.2 fun q hq => by
        have : ¬ q.1 = k := fun e => hn.1 (List.mem_map.2 ⟨q, hq, e⟩)
        simp [this]
      simp only [List.eraseIdx_cons_zero]
      conv => rhs; unfold but
      simp only [List.filter_cons, decide_true, Bool.not_true, Bool.false_eq_true, if_false]
      exact this.symm
    | succ j =>
      have hj' : L[j]? = some (k, h) := by simpa using hj
      have hne : ¬ p.1 = k := fun e => hn.1 (List.mem_map.2 ⟨_, List.mem_of_getElem? hj', e.symm⟩)
      simp only [List.eraseIdx_cons_succ]
      rw [ih hn.2 hj']
      simp [but, hne]
theorem nodup_perm {L S : List (Key × Nat)} (hp : L.Perm S) (hn : (S.map Prod.fst).Nodup) : (L.map Prod.fst).Nodup := ((hp.map Prod.fst).nodup_iff).2 hn
/-- 'm[k] = p'. -/
theorem Mk.update {w : World} {b : Nat} {S : List (Key × Nat)} (h : Mk w b S) (k : Key) (x : Nat) :
    ∃ o : Obj, ∀ W : World, W.heap[b]? = w.heap[b]? → (Instr.mapUpdate 56 (.map (some b)) (.string (sb k)) (.pointer (some ⟨x, 0, none⟩))).run Tryz.prog W = .ok () (setBlock W b o) ∧ Mk (setBlock W b o) b ((k, x) :: but S k) := by
  obtain ⟨es, clock, L, hb0, hst, hL, hp, hS⟩ := h
  rw [hb0]
  have hnk : (((k, x) :: but S k).map Prod.fst).Nodup := by
    simp only [List.map_cons, List.nodup_cons]
    refine ⟨fun hm => ?_, but_nodup hS k⟩
    obtain ⟨p, hp1, hp2⟩ := List.mem_map.1 hm
    exact (mem_but.1 hp1).2 hp2
  have hkeys : ∀ y ∈ es.toList, ∃ p ∈ L, y.key = .string (sb p.1) := fun y hy => by
    have : kvM y ∈ L.map kvK := by rw [← hL]; exact List.mem_map.2 ⟨y, hy, rfl⟩
    obtain ⟨p, hp1, e⟩ := List.mem_map.1 this
    exact ⟨p, hp1, (congrArg Prod.fst e).symm⟩
  rcases run_findKey_str k es.toList L hL with ⟨h1, h2⟩ | ⟨j, h0, h1, h2, h3⟩
  · have hno : ∀ y ∈ es.toList, y.key ≠ .string (sb k) := fun y hy e => by
      obtain ⟨p, hp1, e'⟩ := hkeys y hy
      rw [e'] at e
      have : p.1 = k := sb_inj.1 (by simpa using e)
      exact at_none h1 p.2 (by rw [← this]; exact hp1)
    refine ⟨.map (es.push ⟨.string (sb k), .pointer (some ⟨x, 0, none⟩), clock⟩) (clock + 1), fun w hb => ⟨?_, _, _, L ++ [(k, x)], heap_setBlock_same hb _, stamped_push hst hno, ?_, ?_, hnk⟩⟩
    · simp [Instr.mapUpdate, Sem.run_bind, run_underlying Tryz.underlying56, MapKept.run_getObj_map hb, run_checkKey_str, h2, MapKept.run_setObj_map _ hb, setBlock]
    · rw [Array.toList_push, List.map_append, hL, List.map_append]; rfl
    · refine (List.perm_append_singleton (k, x) L).trans (List.Perm.cons _ ?_)
      rw [at_perm hp hS] at h1
      rw [but_none h1]
      exact hp
  · have hjl : j < es.toList.length := by
      have h4 := (List.getElem?_eq_some_iff.1 h1).1
      have h5 := congrArg List.length hL
      simp only [List.length_map] at h5
      omega
    have hjs : j < es.size := by simpa using hjl
    obtain ⟨e0, he0⟩ : ∃ e0, es.toList[j]? = some e0 := ⟨_, List.getElem?_eq_getElem hjl⟩
    have hk0 : e0.key = .string (sb k) := by
      have h4 : (es.toList.map kvM)[j]? = (L.map kvK)[j]? := by rw [hL]
      rw [List.getElem?_map, List.getElem?_map, h1, he0] at h4
      simp only [Option.map_some, Option.some.injEq, kvM, kvK, Prod.mk.injEq] at h4
      exact h4.1
    have hj? : es[j]? = some e0 := by simpa using he0
    refine ⟨.map (es.modify j fun e => { e with key := .string (sb k), val := .pointer (some ⟨x, 0, none⟩) }) clock, fun w hb => ⟨?_, _, _, L.set j (k, x), heap_setBlock_same hb _, stamped_modify hst _ _ (fun _ _ => rfl) (fun e _ he => ?_), ?_, ?_, hnk⟩⟩
    · simp [Instr.mapUpdate, Sem.run_bind, run_underlying Tryz.underlying56, MapKept.run_getObj_map hb, run_checkKey_str, h3, MapKept.run_setObj_map _ hb, setBlock, hj?, hk0, run_keyStays_str]
    · rw [hj?] at he
      cases he
      exact hk0.symm
    · rw [Array.toList_modify]
      apply List.ext_getElem?
      intro m
      by_cases hm : m = j
      · subst hm
        rw [List.getElem?_map, List.getElem?_map, List.getElem?_modify_eq, he0, List.getElem?_set_self (List.getElem?_eq_some_iff.1 h1).1]
        rfl
      · rw [List.getElem?_map, List.getElem?_map, List.getElem?_modify, List.getElem?_set_ne (fun e => hm (Eq.symm e))]
        have h8 : (es.toList.map kvM)[m]? = (L.map kvK)[m]? := by rw [hL]
        have h9 : ¬ j = m := fun e => hm e.symm
        simpa [h9] using h8
    · refine (perm_set h1).trans (List.Perm.cons _ ?_)
      rw [erase_but (nodup_perm hp hS) h1]
      exact but_perm hp k
theorem Mk.delete {w : World} {b : Nat} {S : List (Key × Nat)} (h : Mk w b S) (k : Key) (ty : TypeId) :
    ∃ o : Obj, ∀ W : World, W.heap[b]? = w.heap[b]? → (Builtin.delete_ #[56, 9] ty #[.map (some b), .string (sb k)]).run Tryz.prog W = .ok (.tuple #[]) (setBlock W b o) ∧ Mk (setBlock W b o) b (but S k) := by
  obtain ⟨es, clock, L, hb0, hst, hL, hp, hS⟩ := h
  rw [hb0]
  rcases run_findKey_str k es.toList L hL with ⟨h1, h2⟩ | ⟨j, h0, h1, h2, h3⟩
  · refine ⟨.map es clock, fun w hb => ⟨?_, _, _, L, heap_setBlock_same hb _, hst, hL, ?_, but_nodup hS k⟩⟩
    · simp [Builtin.delete_, Sem.run_bind, run_underlying Tryz.underlying56, MapKept.run_getObj_map hb, run_checkKey_str, h2, MapKept.run_setObj_map _ hb, setBlock]
    · rw [at_perm hp hS] at h1
      rw [but_none h1]; exact hp
  · have hjl : j < es.toList.length := by
      have h4 := (List.getElem?_eq_some_iff.1 h1).1
      have h5 := congrArg List.length hL
      simp only [List.length_map] at h5
      omega
    have hjs : j < es.size := by simpa using hjl
    have hsub : (es.eraseIdxIfInBounds j).toList = es.toList.eraseIdx j := by
      unfold Array.eraseIdxIfInBounds
      rw [dif_pos hjs]
      simp
    refine ⟨.map (es.eraseIdxIfInBounds j) clock, fun w hb => ⟨?_, _, _, L.eraseIdx j, heap_setBlock_same hb _, stamped_erase hst j, ?_, ?_, but_nodup hS k⟩⟩
    · simp [Builtin.delete_, Sem.run_bind, run_underlying Tryz.underlying56, MapKept.run_getObj_map hb, run_checkKey_str, h3, MapKept.run_setObj_map _ hb, setBlock]
    · rw [hsub, map_erase, hL, map_erase]
    · rw [erase_but (nodup_perm hp hS) h1]
      exact but_perm hp k
theorem del_nil (w : World) (k : Key) (ty : TypeId) : (Builtin.delete_ #[56, 9] ty #[.map none, .string (sb k)]).run Tryz.prog w = .ok (.tuple #[]) w := by
  simp [Builtin.delete_, Sem.run_bind, run_underlying Tryz.underlying56, run_checkKey_str]
end Go.Proofs.YtmlfekbmbnfkjabGreatDoor

/-
  A space in memory; what of comes to.
-/
namespace Go.Proofs.YtmlfekbmbnfkjabGreatDoor
set_option maxRecDepth 100000
open Go.RowKit
open Go.ChangeMaps (setBlock)

/-- What a space is. -/
structure St where
  seen : List Int
  time : Int
  L : List Ev
  DL : List Ed
def ofKeyD (k : Key) (DL : List Ed) : List Ed := DL.filter fun d => decide (d.push.key = k)
/-- Where it lies: its map, the keys' blocks and their maps, and which key a block belongs to. -/
structure Lay where
  km : Option Nat
  S : List (Key × Nat)
  m1 : Nat → Option Nat
  m2 : Nat → Option Nat
  own : Nat → Option Key
def spc (s : St) (km : Option Nat) : Array Value := ((s.seen.map (Value.int .i64)) ++ [Value.int .i64 s.time, Value.map km]).toArray
/-- A space lies there; but for one key, if x names it. -/
structure SpK (Y : Lay) (w : World) (g : Nat) (s : St) (x : Option Key) : Prop where
  blk : w.heap[g]? = some (.cells (spc s Y.km) 58 (0, 0))
  len : s.seen.length = 16
  map : (Y.km = none ∧ Y.S = []) ∨ ∃ b, Y.km = some b ∧ Mk w b Y.S
  ho : ∀ p ∈ Y.S, x ≠ some p.1 → Ho w p.2 (Y.m1 p.2) (Y.m2 p.2) (ofKeyE p.1 s.L) (ofKeyD p.1 s.DL)
  has : ∀ k, x ≠ some k → ((∃ h, (k, h) ∈ Y.S) ↔ (ofKeyE k s.L ≠ [] ∨ ofKeyD k s.DL ≠ []))
  og : Y.own g = none
  ob : ∀ b, Y.km = some b → Y.own b = none
  oh : ∀ p ∈ Y.S, x ≠ some p.1 → Y.own p.2 = some p.1 ∧ (∀ k, Y.m1 p.2 = some k → Y.own k = some p.1) ∧ (∀ k, Y.m2 p.2 = some k → Y.own k = some p.1)
  ol : ∀ k, Y.own k ≠ none → k < w.heap.size
  srL : SrE s.L
  srD : SrD s.DL
  wl : ∀ a ∈ s.L, Wide a
  wd : ∀ d ∈ s.DL, Wide d.push
/-- What a call may have turned. -/
structure Tm (g : Nat) (Y Y' : Lay) (w w' : World) : Prop where
  os : w'.os = w.os
  tape : w'.tape = w.tape
  output : w'.output = w.output
  size : w.heap.size ≤ w'.heap.size
  block : ∀ k, k < w.heap.size → k ≠ g → Y.km ≠ some k → Y.own k = none → w'.heap[k]? = w.heap[k]?
  km : ∀ k, Y'.km = some k → Y.km = some k ∨ w.heap.size ≤ k
  own : ∀ k, Y'.own k ≠ none → Y.own k ≠ none ∨ w.heap.size ≤ k
theorem Tm.refl (g : Nat) (Y : Lay) (w : World) : Tm g Y Y w w := ⟨rfl, rfl, rfl, Nat.le_refl _, fun _ _ _ _ _ => rfl, fun _ h => .inl h, fun _ h => .inl h⟩
theorem Tm.trans {g : Nat} {X Y Z : Lay} {a b c : World} (h : Tm g X Y a b) (k : Tm g Y Z b c) : Tm g X Z a c :=
  ⟨k.os.trans h.os, k.tape.trans h.tape, k.output.trans h.output, Nat.le_trans h.size k.size,
   fun i hi hg hm ho => (k.block i (Nat.lt_of_lt_of_le hi h.size) hg
      (fun e => by rcases h.km i e with q | q; · exact hm q
                   · omega)
      (by
        cases hy : Y.own i with
        | none => rfl
        | some key =>
          rcases h.own i (by rw [hy]; simp) with q | q
          · exact absurd ho q
          · omega)).trans (h.block i hi hg hm ho),
   fun i hi => by
    rcases k.km i hi with q | q
    · exact h.km i q
    · exact .inr (Nat.le_trans h.size q),
   fun i hi => by
    rcases k.own i hi with q | q
    · exact h.own i q
    · exact .inr (Nat.le_trans h.size q)⟩
theorem Tm.of_below {g : Nat} (Y : Lay) {w w' : World} (h : Below w.heap.size w w') : Tm g Y Y w w' :=
  ⟨h.os, h.tape, h.output, h.size, fun k hk _ _ _ => h.block k hk, fun _ e => .inl e, fun _ e => .inl e⟩
/-- All of it lies above B. -/
structure Above (B : Nat) (g : Nat) (Y : Lay) : Prop where
  g : B ≤ g
  km : ∀ k, Y.km = some k → B ≤ k
  own : ∀ k, Y.own k ≠ none → B ≤ k
theorem Tm.below {g B : Nat} {Y Y' : Lay} {w w' : World} (h : Tm g Y Y' w w') (ha : Above B g Y) (hB : B ≤ w.heap.size) : Below B w w' ∧ Above B g Y' := by
  refine ⟨⟨h.os, h.tape, h.output, h.size, fun k hk => h.block k (by omega) (by have := ha.g; omega) (fun e => by have := ha.km k e; omega) ?_⟩, ha.g, fun k hk => ?_, fun k hk => ?_⟩
  · cases hy : Y.own k with
    | none => rfl
    | some key => have := ha.own k (by rw [hy]; simp); omega
  · rcases h.km k hk with q | q
    · exact ha.km k q
    · omega
  · rcases h.own k hk with q | q
    · exact ha.own k q
    · omega
theorem Ho.kept {w w' : World} {h : Nat} {m1 m2 : Option Nat} {L : List Ev} {DL : List Ed} (k : Ho w h m1 m2 L DL) (hb : ∀ i, i < w.heap.size → (i = h ∨ m1 = some i ∨ m2 = some i) → w'.heap[i]? = w.heap[i]?) : Ho w' h m1 m2 L DL :=
  ⟨k.live.kept fun i hi ho => hb i hi (ho.elim .inl (fun e => .inr (.inl e))), k.dead.kept fun i hi ho => hb i hi (ho.elim .inl (fun e => .inr (.inr e))), k.ne, k.wl, k.wd⟩
section
variable {Y : Lay} {w w' : World} {g : Nat} {s : St} {x : Option Key}
theorem SpK.lt (h : SpK Y w g s x) : g < w.heap.size := (Array.getElem?_eq_some_iff.1 h.blk).1
theorem SpK.mlt (h : SpK Y w g s x) : ∀ b, Y.km = some b → b < w.heap.size ∧ b ≠ g := by
  intro b hb
  obtain ⟨b', e, hm⟩ := h.map.resolve_left (by rw [hb]; simp)
  rw [hb] at e
  obtain rfl := Option.some.inj e
  refine ⟨hm.lt, ?_⟩
  rintro rfl
  obtain ⟨es, c, hh⟩ := hm.blk
  rw [h.blk] at hh
  cases hh
theorem SpK.nodup (h : SpK Y w g s x) : (Y.S.map Prod.fst).Nodup := by
  rcases h.map with ⟨-, e⟩ | ⟨b, -, hm⟩
  · rw [e]; simp
  · exact hm.nodup
/-- What lies elsewhere plays no part. -/
theorem SpK.kept (h : SpK Y w g s x) (hb : ∀ k, k < w.heap.size → (k = g ∨ Y.km = some k ∨ Y.own k ≠ none) → w'.heap[k]? = w.heap[k]?) (hs : w.heap.size ≤ w'.heap.size) : SpK Y w' g s x := by
  refine ⟨by rw [hb g h.lt (.inl rfl)]; exact h.blk, h.len, ?_, fun p hp hx => (h.ho p hp hx).kept fun i hi ho => hb i hi (.inr (.inr ?_)), h.has, h.og, h.ob, h.oh, fun k hk => Nat.lt_of_lt_of_le (h.ol k hk) hs, h.srL, h.srD, h.wl, h.wd⟩
  · rcases h.map with hn | ⟨b, e, hm⟩
    · exact .inl hn
    · exact .inr ⟨b, e, hm.kept (hb b hm.lt (.inr (.inl e)))⟩
  · obtain ⟨h1, h2, h3⟩ := h.oh p hp hx
    rcases ho with rfl | ho | ho
    · rw [h1]; simp
    · rw [h2 i ho]; simp
    · rw [h3 i ho]; simp
theorem SpK.below (h : SpK Y w g s x) {B : Nat} (hb : Below B w w') (hB : w.heap.size ≤ B) : SpK Y w' g s x :=
  h.kept (fun k hk _ => hb.block k (by omega)) hb.size
theorem SpK.cell (h : SpK Y w g s x) (i : Nat) : w.cell? ⟨g, i, none⟩ = (spc s Y.km)[i]? := cell_of_row w g i _ _ _ h.blk
theorem SpK.c17 (h : SpK Y w g s x) : w.cell? ⟨g, 17, none⟩ = some (.map Y.km) := by
  rw [h.cell]
  unfold spc
  rw [List.getElem?_toArray, List.getElem?_append_right (by simp [h.len])]
  simp [h.len]
theorem SpK.c16 (h : SpK Y w g s x) : w.cell? ⟨g, 16, none⟩ = some (.int .i64 s.time) := by
  rw [h.cell]
  unfold spc
  rw [List.getElem?_toArray, List.getElem?_append_right (by simp [h.len])]
  simp [h.len]
theorem SpK.vec (h : SpK Y w g s x) : w.rangeAt g 0 (s.seen.map (Value.int .i64)) := fun j v hv => by
  rw [Nat.zero_add, h.cell]
  unfold spc
  rw [List.getElem?_toArray, List.getElem?_append_left (List.getElem?_eq_some_iff.1 hv).1]
  exact hv
theorem SpK.fz (h : SpK Y w g s x) (i : Nat) : w.frozen? ⟨g, i, none⟩ = false := frozen_of_row w g i _ _ h.blk
end
theorem load_seen {Y : Lay} {w : World} {g : Nat} {s : St} {x : Option Key} (h : SpK Y w g s x) : (loadVar 41 ⟨g, 0, none⟩).run Tryz.prog w = .ok (.agg (vals s.seen)) w :=
  run_loadVar_mid (P := Tryz.prog) w g 0 41 _ _ h.vec Tryz.underlying41 rfl (by rw [List.length_map, h.len]; kernel_rfl)
theorem neq_ptr (w : World) (ad : Addr) : (binOp .neq 76 (.pointer (some ad)) (.pointer none)).run Tryz.prog w = .ok (.bool true) w := by kernel_rfl
theorem neq_nil (w : World) : (binOp .neq 76 (.pointer none) (.pointer none)).run Tryz.prog w = .ok (.bool false) w := by kernel_rfl
theorem of_core (Y : Lay) (w : World) (g : Nat) (s : St) (x : Option Key) (key : Key) (h : SpK Y w g s x) :
    Calls Tryz.prog 34 #[.pointer (some ⟨g, 0, none⟩), .string (sb key)] w fun e w' => ∃ hb, e = .returned (.pointer (some ⟨hb, 0, none⟩)) ∧ ((at? Y.S key = some hb ∧ w' = w) ∨ (at? Y.S key = none ∧ hb = w.heap.size ∧ w' = w.alloc (.cells #[.map none, .map none] 86))) := by
  have hc := h.c17
  have hlk : (Instr.lookup 56 (.map Y.km) (.string (sb key)) false).run Tryz.prog w = .ok (ptr? (at? Y.S key)) w := by
    rcases h.map with ⟨e1, e2⟩ | ⟨b, e, hm⟩
    · rw [e1, e2]; exact look_nil w key
    · rw [e]; exact hm.lookup key
  cases ha : at? Y.S key with
  | none =>
    rw [ha] at hlk
    simp only [ptr?] at hlk
    have hn := neq_nil w
    clear h
    go_enter Tryz.func34, Tryz.ntmps34
    go_wp2
    go_ret
    exact ⟨_, rfl, .inr ⟨trivial, rfl, rfl⟩⟩
  | some hb =>
    rw [ha] at hlk
    simp only [ptr?] at hlk
    have hn := neq_ptr w ⟨hb, 0, none⟩
    clear h
    go_enter Tryz.func34, Tryz.ntmps34
    go_wp2
    go_ret
    exact ⟨hb, rfl, .inl ⟨rfl, rfl⟩⟩
end Go.Proofs.YtmlfekbmbnfkjabGreatDoor

/-
  What keep comes to.
-/
namespace Go.Proofs.YtmlfekbmbnfkjabGreatDoor
set_option maxRecDepth 100000
open Go.RowKit
open Go.ChangeMaps (setBlock heap_setBlock_same heap_setBlock_other)

/-- A key's block in hand. -/
structure Hand (Y : Lay) (w : World) (key : Key) (h : Nat) (m1 m2 : Option Nat) (L : List Ev) (DL : List Ed) : Prop where
  ho : Ho w h m1 m2 L DL
  oh : Y.own h = some key
  o1 : ∀ k, m1 = some k → Y.own k = some key
  o2 : ∀ k, m2 = some k → Y.own k = some key
  mem : ∀ h', (key, h') ∈ Y.S → h' = h
/-- The key's block lies under its key then. -/
def Lay.put (Y : Lay) (km : Option Nat) (key : Key) (h : Nat) (m1 m2 : Option Nat) : Lay :=
  { km := km, S := (key, h) :: but Y.S key, m1 := fun x => if x = h then m1 else Y.m1 x, m2 := fun x => if x = h then m2 else Y.m2 x, own := Y.own }
def Lay.drop (Y : Lay) (key : Key) : Lay := { Y with S := but Y.S key }
section
variable {Y : Lay} {w w' : World} {g : Nat} {s : St} {key : Key} {h : Nat} {m1 m2 : Option Nat}
theorem SpK.put_back (hS : SpK Y w g s (some key)) (hd : Hand Y w key h m1 m2 (ofKeyE key s.L) (ofKeyD key s.DL)) {b : Nat} (hne : ofKeyE key s.L ≠ [] ∨ ofKeyD key s.DL ≠ [])
    (hk : ∀ k, k < w.heap.size → Y.own k ≠ none → w'.heap[k]? = w.heap[k]?) (hs : w.heap.size ≤ w'.heap.size) (hg : w'.heap[g]? = some (.cells (spc s (some b)) 58 (0, 0))) (hm : Mk w' b ((key, h) :: but Y.S key)) (hb : Y.own b = none) :
    SpK (Y.put (some b) key h m1 m2) w' g s none := by
  have hoth : ∀ p ∈ but Y.S key, p ∈ Y.S ∧ some key ≠ some p.1 ∧ p.2 ≠ h := fun p hp => by
    obtain ⟨h1, h2⟩ := mem_but.1 hp
    refine ⟨h1, fun e => h2 (Option.some.inj e).symm, fun e => ?_⟩
    have := (hS.oh p h1 (fun e => h2 (Option.some.inj e).symm)).1
    rw [e, hd.oh] at this
    exact h2 (Option.some.inj this).symm
  refine ⟨hg, hS.len, .inr ⟨b, rfl, hm⟩, fun p hp _ => ?_, fun k _ => ?_, hS.og, fun b' e => ?_, fun p hp _ => ?_, fun k hk' => Nat.lt_of_lt_of_le (hS.ol k hk') hs, hS.srL, hS.srD, hS.wl, hS.wd⟩
  · rcases List.mem_cons.1 hp with rfl | hp'
    · simp only [Lay.put, if_true]
      refine hd.ho.kept fun i hi ho => hk i hi ?_
      rcases ho with rfl | ho | ho
      · rw [hd.oh]; simp
      · rw [hd.o1 i ho]; simp
      · rw [hd.o2 i ho]; simp
    · obtain ⟨h1, h2, h3⟩ := hoth p hp'
      simp only [Lay.put, if_neg h3]
      refine (hS.ho p h1 h2).kept fun i hi ho => hk i hi ?_
      obtain ⟨q1, q2, q3⟩ := hS.oh p h1 h2
      rcases ho with rfl | ho | ho
      · rw [q1]; simp
      · rw [q2 i ho]; simp
      · rw [q3 i ho]; simp
  · by_cases e : key = k
    · subst e
      exact ⟨fun _ => hne, fun _ => ⟨h, List.mem_cons_self ..⟩⟩
    · rw [← hS.has k (fun e' => e (Option.some.inj e'))]
      constructor
      · rintro ⟨h', hm'⟩
        rcases List.mem_cons.1 hm' with e' | hm''
        · exact absurd (Prod.mk.inj e').1.symm e
        · exact ⟨h', (mem_but.1 hm'').1⟩
      · rintro ⟨h', hm'⟩
        exact ⟨h', List.mem_cons_of_mem _ (mem_but.2 ⟨hm', fun e' => e e'.symm⟩)⟩
  · obtain rfl := Option.some.inj e
    exact hb
  · rcases List.mem_cons.1 hp with rfl | hp'
    · simp only [Lay.put, if_true]
      exact ⟨hd.oh, hd.o1, hd.o2⟩
    · obtain ⟨h1, h2, h3⟩ := hoth p hp'
      simp only [Lay.put, if_neg h3]
      exact hS.oh p h1 h2
theorem SpK.let_go (hS : SpK Y w g s (some key)) (hne : ofKeyE key s.L = [] ∧ ofKeyD key s.DL = [])
    (hk : ∀ k, k < w.heap.size → Y.own k ≠ none → w'.heap[k]? = w.heap[k]?) (hs : w.heap.size ≤ w'.heap.size) (hg : w'.heap[g]? = w.heap[g]?) (hm : ∀ b, Y.km = some b → Mk w' b (but Y.S key)) :
    SpK (Y.drop key) w' g s none := by
  refine ⟨hg.trans hS.blk, hS.len, ?_, fun p hp _ => ?_, fun k _ => ?_, hS.og, hS.ob, fun p hp _ => ?_, fun k hk' => Nat.lt_of_lt_of_le (hS.ol k hk') hs, hS.srL, hS.srD, hS.wl, hS.wd⟩
  · rcases hS.map with ⟨e1, e2⟩ | ⟨b, e, hm'⟩
    · exact .inl ⟨e1, by show but Y.S key = []; rw [e2]; rfl⟩
    · exact .inr ⟨b, e, hm b e⟩
  · obtain ⟨h1, h2⟩ := mem_but.1 hp
    have h2' : some key ≠ some p.1 := fun e => h2 (Option.some.inj e).symm
    refine (hS.ho p h1 h2').kept fun i hi ho => hk i hi ?_
    obtain ⟨q1, q2, q3⟩ := hS.oh p h1 h2'
    rcases ho with rfl | ho | ho
    · rw [q1]; simp
    · rw [q2 i ho]; simp
    · rw [q3 i ho]; simp
  · by_cases e : key = k
    · subst e
      constructor
      · rintro ⟨h', hm'⟩
        exact absurd rfl (mem_but.1 hm').2
      · rintro (h' | h')
        · exact absurd hne.1 h'
        · exact absurd hne.2 h'
    · rw [← hS.has k (fun e' => e (Option.some.inj e'))]
      constructor
      · rintro ⟨h', hm'⟩
        exact ⟨h', (mem_but.1 hm').1⟩
      · rintro ⟨h', hm'⟩
        exact ⟨h', mem_but.2 ⟨hm', fun e' => e e'.symm⟩⟩
  · obtain ⟨h1, h2⟩ := mem_but.1 hp
    exact hS.oh p h1 (fun e => h2 (Option.some.inj e).symm)
end
theorem eql_km_some (w : World) (b : Nat) : (binOp .eql 56 (.map (some b)) (.map none)).run Tryz.prog w = .ok (.bool false) w := by kernel_rfl
theorem eql_km_none (w : World) : (binOp .eql 56 (.map none) (.map none)).run Tryz.prog w = .ok (.bool true) w := by kernel_rfl
theorem spc_set {s : St} (hl : s.seen.length = 16) (km km' : Option Nat) : (spc s km).setIfInBounds 17 (.map km') = spc s km' := by
  unfold spc
  rw [List.setIfInBounds_toArray, List.set_append_right _ _ (by simp [hl])]
  simp [hl]
set_option maxHeartbeats 1000000 in
theorem keep_any (Y : Lay) (w : World) (g : Nat) (s : St) (key : Key) (h : Nat) (m1 m2 : Option Nat) (hS : SpK Y w g s (some key)) (hd : Hand Y w key h m1 m2 (ofKeyE key s.L) (ofKeyD key s.DL)) :
    Calls Tryz.prog 38 #[.pointer (some ⟨g, 0, none⟩), .string (sb key), .pointer (some ⟨h, 0, none⟩)] w fun e w' => e = .returned (.tuple #[]) ∧ ∃ Y', SpK Y' w' g s none ∧ Tm g Y Y' w w' := by
  have hL := E.len_any h 0 #[.map m1, .map m2] 86 m1 _ w hd.ho.live
  have hD := D.len_any h 1 #[.map m1, .map m2] 86 m2 _ w hd.ho.dead
  rw [List.length_map] at hL hD
  have hc := hS.c17
  have hown : ∀ b, Y.km = some b → ∀ k, Y.own k ≠ none → k ≠ b := fun b hb k hk e => by rw [e, hS.ob b hb] at hk; exact hk rfl
  by_cases hemp : ofKeyE key s.L = [] ∧ ofKeyD key s.DL = []
  · rw [hemp.1] at hL
    rw [hemp.2] at hD
    simp only [List.length_nil] at hL hD
    obtain ⟨w2, hdel, hfin⟩ : ∃ w2, (Builtin.delete_ #[56, 9] 0 #[.map Y.km, .string (sb key)]).run Tryz.prog w = .ok (.tuple #[]) w2 ∧ SpK (Y.drop key) w2 g s none ∧ Tm g Y (Y.drop key) w w2 := by
      rcases hS.map with ⟨e1, e2⟩ | ⟨b, e, hm⟩
      · rw [e1]
        refine ⟨w, del_nil w key 0, hS.let_go hemp (fun _ _ _ => rfl) (Nat.le_refl _) rfl (fun b e => by rw [e1] at e; cases e), rfl, rfl, rfl, Nat.le_refl _, fun _ _ _ _ _ => rfl, fun _ e => .inl e, fun _ e => .inl e⟩
      · obtain ⟨ob, ho⟩ := hm.delete key 0
        obtain ⟨hr, hm'⟩ := ho w rfl
        have hbl : ∀ k, k < w.heap.size → k ≠ b → (setBlock w b ob).heap[k]? = w.heap[k]? := fun k hk hne => (E.grownBy_setBlock w b ob).block k hk (fun e => hne (Option.some.inj e))
        rw [e]
        refine ⟨_, hr, hS.let_go hemp (fun k hk ho' => hbl k hk (hown b e k ho')) (by simp [setBlock]) (hbl g hS.lt (hS.mlt b e).2.symm) (fun b' e' => by rw [e] at e'; obtain rfl := Option.some.inj e'; exact hm'), rfl, rfl, rfl, by simp [setBlock], fun k hk _ hkm _ => hbl k hk (fun e' => hkm (by rw [e, e'])), fun _ e => .inl e, fun _ e => .inl e⟩
    have FIN : Hid _ := hfin
    clear hS hd hfin hown
    go_enter Tryz.func38, Tryz.ntmps38
    go_wp2_with fail
    refine Calls.mono hL ?_
    rintro e w3 ⟨rfl, hw3⟩
    obtain rfl := hw3.symm
    go_wp2_with fail
    refine Calls.mono hD ?_
    rintro e w3 ⟨rfl, hw3⟩
    obtain rfl := hw3.symm
    go_wp2
    refine bodyPost_ret (results_none rfl _ _ _) rfl ?_
    exact ⟨rfl, _, FIN.out⟩
  · have hne : ofKeyE key s.L ≠ [] ∨ ofKeyD key s.DL ≠ [] := by
      by_cases h1 : ofKeyE key s.L = []
      · exact .inr fun h2 => hemp ⟨h1, h2⟩
      · exact .inl h1
    have hcase : ((ofKeyE key s.L).length ≠ 0) ∨ ((ofKeyE key s.L).length = 0 ∧ (ofKeyD key s.DL).length ≠ 0) := by
      rcases hne with h1 | h1
      · exact .inl fun e => h1 (List.eq_nil_of_length_eq_zero e)
      · by_cases h2 : (ofKeyE key s.L).length = 0
        · exact .inr ⟨h2, fun e => h1 (List.eq_nil_of_length_eq_zero e)⟩
        · exact .inl h2
    generalize (ofKeyE key s.L).length = n1 at *
    generalize (ofKeyD key s.DL).length = n2 at *
    rcases hS.map with ⟨e1, e2⟩ | ⟨b, e, hm⟩
    · have hfr := hS.fz 17
      rw [e1] at hc
      have hac : (w.alloc (.map #[] 0)).cell? ⟨g, 17, none⟩ = some (.map none) := (Below.cell ((Below.refl _ w).alloc (Nat.le_refl _) _) hS.lt).trans hc
      have hblk : (w.alloc (.map #[] 0)).heap[g]? = some (.cells (spc s none) 58 (0, 0)) := by rw [Below.heap_alloc w _ g hS.lt, hS.blk, e1]
      have haf : (w.alloc (.map #[] 0)).frozen? ⟨g, 17, none⟩ = false := frozen_of_row _ g 17 _ _ hblk
      have hmk := run_makeMap (P := Tryz.prog) (w := w)
      have hg1 : ((w.alloc (.map #[] 0)).setCell ⟨g, 17, none⟩ (.map (some w.heap.size))).heap[g]? = some (.cells (spc s (some w.heap.size)) 58 (0, 0)) := by
        rw [heap_setCell_same _ g 17 _ _ _ hblk, spc_set hS.len]
      have hc1 : ((w.alloc (.map #[] 0)).setCell ⟨g, 17, none⟩ (.map (some w.heap.size))).cell? ⟨g, 17, none⟩ = some (.map (some w.heap.size)) := by
        rw [cell_of_row _ g 17 _ _ _ hg1]
        unfold spc
        rw [List.getElem?_toArray, List.getElem?_append_right (by simp [hS.len])]
        simp [hS.len]
      have hm1 : Mk ((w.alloc (.map #[] 0)).setCell ⟨g, 17, none⟩ (.map (some w.heap.size))) w.heap.size [] := (mk_new w).kept (Below.heap_setCell _ _ _ _ (show w.heap.size ≠ g by have := hS.lt; omega))
      have hbl1 : ∀ k, k < w.heap.size → k ≠ g → ((w.alloc (.map #[] 0)).setCell ⟨g, 17, none⟩ (.map (some w.heap.size))).heap[k]? = w.heap[k]? := fun k hk hne' => by
        rw [Below.heap_setCell _ _ _ k hne', Below.heap_alloc w _ k hk]
      have hs1 : ((w.alloc (.map #[] 0)).setCell ⟨g, 17, none⟩ (.map (some w.heap.size))).heap.size = w.heap.size + 1 := by simp [World.setCell]
      have ho1 : ((w.alloc (.map #[] 0)).setCell ⟨g, 17, none⟩ (.map (some w.heap.size))).os = w.os ∧ ((w.alloc (.map #[] 0)).setCell ⟨g, 17, none⟩ (.map (some w.heap.size))).tape = w.tape ∧ ((w.alloc (.map #[] 0)).setCell ⟨g, 17, none⟩ (.map (some w.heap.size))).output = w.output := ⟨rfl, rfl, rfl⟩
      obtain ⟨W1, hW1⟩ : ∃ W1, (w.alloc (.map #[] 0)).setCell ⟨g, 17, none⟩ (.map (some w.heap.size)) = W1 := ⟨_, rfl⟩
      rw [hW1] at hg1 hc1 hm1 hbl1 hs1 ho1
      obtain ⟨ob, ho⟩ := hm1.update key h
      obtain ⟨hu, hm2⟩ := ho W1 rfl
      have hbl2 : ∀ k, k < W1.heap.size → k ≠ w.heap.size → (setBlock W1 w.heap.size ob).heap[k]? = W1.heap[k]? := fun k hk hne' => (E.grownBy_setBlock W1 _ ob).block k hk (fun e => hne' (Option.some.inj e))
      have hgne : ∀ k, Y.own k ≠ none → k ≠ g := fun k hk e => by rw [e, hS.og] at hk; exact hk rfl
      have hz : but Y.S key = [] := by rw [e2]; rfl
      have hob : Y.own w.heap.size = none := by
        cases hy : Y.own w.heap.size with
        | none => rfl
        | some q => have := hS.ol w.heap.size (by rw [hy]; simp); omega
      have FIN : Hid (SpK (Y.put (some w.heap.size) key h m1 m2) (setBlock W1 w.heap.size ob) g s none ∧ Tm g Y (Y.put (some w.heap.size) key h m1 m2) w (setBlock W1 w.heap.size ob)) := by
        refine ⟨hS.put_back hd hne (fun k hk hk2 => (hbl2 k (by omega) (by omega)).trans (hbl1 k hk (hgne k hk2))) (by simp [setBlock]; omega) ((hbl2 g (by have := hS.lt; omega) (by have := hS.lt; omega)).trans hg1) (by rw [hz]; exact hm2) hob, ho1.1, ho1.2.1, ho1.2.2, by simp [setBlock]; omega, fun k hk hkg _ _ => (hbl2 k (by omega) (by omega)).trans (hbl1 k hk hkg), fun k e => .inr (by have := Option.some.inj e; omega), fun _ e => .inl e⟩
      have he := eql_km_none w
      clear ho hm1 hm2 hbl1 hbl2 hgne hob hS hd hown hblk hg1 hs1 ho1 hz hne
      rcases hcase with h1 | ⟨h1, h2⟩
      · have hn : ((n1 : Int) == 0) = false := by simpa using h1
        go_enter Tryz.func38, Tryz.ntmps38
        go_wp2_with fail
        refine Calls.mono hL ?_
        rintro e w3 ⟨rfl, hw3⟩
        obtain rfl := hw3.symm
        go_wp2
        go_end0
        exact ⟨rfl, _, FIN.out⟩
      · subst h1
        have hn : ((n2 : Int) == 0) = false := by simpa using h2
        go_enter Tryz.func38, Tryz.ntmps38
        go_wp2_with fail
        refine Calls.mono hL ?_
        rintro e w3 ⟨rfl, hw3⟩
        obtain rfl := hw3.symm
        go_wp2_with fail
        refine Calls.mono hD ?_
        rintro e w3 ⟨rfl, hw3⟩
        obtain rfl := hw3.symm
        go_wp2
        go_end0
        exact ⟨rfl, _, FIN.out⟩
    · rw [e] at hc
      obtain ⟨ob, ho⟩ := hm.update key h
      obtain ⟨hu, hm2⟩ := ho w rfl
      have hbl2 : ∀ k, k < w.heap.size → k ≠ b → (setBlock w b ob).heap[k]? = w.heap[k]? := fun k hk hne' => (E.grownBy_setBlock w _ ob).block k hk (fun e => hne' (Option.some.inj e))
      have FIN : Hid (SpK (Y.put (some b) key h m1 m2) (setBlock w b ob) g s none ∧ Tm g Y (Y.put (some b) key h m1 m2) w (setBlock w b ob)) := by
        refine ⟨hS.put_back hd hne (fun k hk hk2 => hbl2 k hk (hown b e k hk2)) (by simp [setBlock]) (by rw [hbl2 g hS.lt (hS.mlt b e).2.symm, hS.blk, e]) hm2 (hS.ob b e), rfl, rfl, rfl, by simp [setBlock], fun k hk _ hkm _ => hbl2 k hk (fun e' => hkm (by rw [e, e'])), fun k e' => .inl (by rw [e]; exact e'), fun _ e => .inl e⟩
      have he := eql_km_some w b
      clear ho hm2 hbl2 hS hd hown hne hm
      rcases hcase with h1 | ⟨h1, h2⟩
      · have hn : ((n1 : Int) == 0) = false := by simpa using h1
        go_enter Tryz.func38, Tryz.ntmps38
        go_wp2_with fail
        refine Calls.mono hL ?_
        rintro e w3 ⟨rfl, hw3⟩
        obtain rfl := hw3.symm
        go_wp2
        go_end0
        exact ⟨rfl, _, FIN.out⟩
      · subst h1
        have hn : ((n2 : Int) == 0) = false := by simpa using h2
        go_enter Tryz.func38, Tryz.ntmps38
        go_wp2_with fail
        refine Calls.mono hL ?_
        rintro e w3 ⟨rfl, hw3⟩
        obtain rfl := hw3.symm
        go_wp2_with fail
        refine Calls.mono hD ?_
        rintro e w3 ⟨rfl, hw3⟩
        obtain rfl := hw3.symm
        go_wp2
        go_end0
        exact ⟨rfl, _, FIN.out⟩
end Go.Proofs.YtmlfekbmbnfkjabGreatDoor

/-
  What it is to see an event, key by key.
-/
namespace Go.Proofs.YtmlfekbmbnfkjabGreatDoor
set_option maxRecDepth 100000
open Go.RowKit

theorem befE_trans {a b c : Ev} (h : befE a b = true) (k : befE b c = true) : befE a c = true := by rw [befE_iff] at *; omega
theorem befE_asymm {a b : Ev} (h : befE a b = true) : befE b a = false := by
  rw [befE_iff] at h
  cases hb : befE b a
  · rfl
  · rw [befE_iff] at hb; omega
theorem befE_tri (a b : Ev) : sameDot a b ∨ befE a b = true ∨ befE b a = true := by
  unfold sameDot
  rw [befE_iff, befE_iff]; omega
/-- Two lists in order with the same elements are one. -/
theorem ordered_one {α : Type} {R : α → α → Prop} (hR : ∀ a b, R a b → ¬ R b a) : ∀ {S T : List α}, S.Pairwise R → T.Pairwise R → S.Perm T → S = T
  | [], T, _, _, hp => (List.Perm.nil_eq hp)
  | a :: S, [], _, _, hp => absurd hp.length_eq (by simp)
  | a :: S, b :: T, hS, hT, hp => by
    obtain ⟨h1, h2⟩ := List.pairwise_cons.1 hS
    obtain ⟨k1, k2⟩ := List.pairwise_cons.1 hT
    have e : a = b := by
      have ha : a ∈ b :: T := hp.mem_iff.1 (by simp)
      have hb : b ∈ a :: S := hp.mem_iff.2 (by simp)
      rcases List.mem_cons.1 ha with e | ha
      · exact e
      · rcases List.mem_cons.1 hb with e | hb
        · exact e.symm
        · exact absurd (k1 a ha) (hR _ _ (h1 b hb))
    subst e
    rw [ordered_one hR h2 k2 (List.perm_cons a |>.1 hp)]
theorem SrE.one {S T : List Ev} (h : SrE S) (k : SrE T) (hp : S.Perm T) : S = T := ordered_one (fun a b h h' => by rw [befE_asymm h] at h'; cases h') h k hp
theorem SrD.one {S T : List Ed} (h : SrD S) (k : SrD T) (hp : S.Perm T) : S = T := ordered_one (R := fun a b : Ed => befE a.push b.push = true) (fun a b h h' => by rw [befE_asymm h] at h'; cases h') h k hp
def noDot (L : List Ev) (e : Ev) : Prop := ∀ a ∈ L, ¬ sameDot a e
def noDotD (DL : List Ed) (e : Ev) : Prop := ∀ d ∈ DL, ¬ sameDot d.push e
theorem putE_perm {L : List Ev} {e : Ev} (h : noDot L e) : (putE L e).Perm (e :: L) := by
  unfold putE
  refine (List.perm_middle).trans (List.Perm.cons e ?_)
  refine (filter_or_perm _ _ L (fun i _ h => by have := befE_asymm h.1; rw [h.2] at this; cases this)).trans ?_
  refine List.Perm.of_eq (List.filter_eq_self.2 fun a ha => ?_)
  rcases befE_tri a e with h' | h' | h'
  · exact absurd h' (h a ha)
  · rw [h']; rfl
  · rw [h', Bool.or_true]
theorem putD_perm {DL : List Ed} {d : Ed} (h : noDotD DL d.push) : (putD DL d).Perm (d :: DL) := by
  unfold putD
  refine (List.perm_middle).trans (List.Perm.cons d ?_)
  refine (filter_or_perm _ _ DL (fun i _ h => by have := befE_asymm h.1; rw [h.2] at this; cases this)).trans ?_
  refine List.Perm.of_eq (List.filter_eq_self.2 fun a ha => ?_)
  rcases befE_tri a.push d.push with h' | h' | h'
  · exact absurd h' (h a ha)
  · rw [h']; rfl
  · rw [h', Bool.or_true]
theorem SrE.put {L : List Ev} (h : SrE L) (e : Ev) : SrE (putE L e) := by
  unfold SrE putE
  rw [List.pairwise_append]
  refine ⟨List.Pairwise.filter _ h, List.pairwise_cons.2 ⟨fun a ha => (List.mem_filter.1 ha).2, List.Pairwise.filter _ h⟩, fun a ha b hb => ?_⟩
  have h1 := (List.mem_filter.1 ha).2
  rcases List.mem_cons.1 hb with rfl | hb
  · exact h1
  · exact befE_trans h1 (List.mem_filter.1 hb).2
theorem SrD.put {L : List Ed} (h : SrD L) (e : Ed) : SrD (putD L e) := by
  unfold SrD putD
  rw [List.pairwise_append]
  refine ⟨List.Pairwise.filter _ h, List.pairwise_cons.2 ⟨fun a ha => (List.mem_filter.1 ha).2, List.Pairwise.filter _ h⟩, fun a ha b hb => ?_⟩
  have h1 := (List.mem_filter.1 ha).2
  rcases List.mem_cons.1 hb with rfl | hb
  · exact h1
  · exact befE_trans h1 (List.mem_filter.1 hb).2
theorem SrE.filter {L : List Ev} (h : SrE L) (p : Ev → Bool) : SrE (L.filter p) := List.Pairwise.filter p h
theorem SrD.filter {L : List Ed} (h : SrD L) (p : Ed → Bool) : SrD (L.filter p) := List.Pairwise.filter p h
theorem ofKeyE_put {L : List Ev} {e : Ev} (hs : SrE L) (h : noDot L e) (k : Key) : ofKeyE k (putE L e) = if e.key = k then putE (ofKeyE k L) e else ofKeyE k L := by
  by_cases hk : e.key = k
  · rw [if_pos hk]
    refine SrE.one ((hs.put e).filter _) ((hs.filter _).put e) (((putE_perm h).filter _).trans ?_)
    rw [List.filter_cons_of_pos (by simpa using hk)]
    exact (putE_perm (fun a ha => h a (List.mem_filter.1 ha).1)).symm
  · rw [if_neg hk]
    refine SrE.one ((hs.put e).filter _) (hs.filter _) (((putE_perm h).filter _).trans ?_)
    rw [List.filter_cons_of_neg (by simpa using hk)]
    exact List.Perm.refl _
theorem ofKeyD_put {L : List Ed} {e : Ed} (hs : SrD L) (h : noDotD L e.push) (k : Key) : ofKeyD k (putD L e) = if e.push.key = k then putD (ofKeyD k L) e else ofKeyD k L := by
  by_cases hk : e.push.key = k
  · rw [if_pos hk]
    refine SrD.one ((hs.put e).filter _) ((hs.filter _).put e) (((putD_perm h).filter _).trans ?_)
    rw [List.filter_cons_of_pos (by simpa using hk)]
    exact (putD_perm (fun a ha => h a (List.mem_filter.1 ha).1)).symm
  · rw [if_neg hk]
    refine SrD.one ((hs.put e).filter _) (hs.filter _) (((putD_perm h).filter _).trans ?_)
    rw [List.filter_cons_of_neg (by simpa using hk)]
    exact List.Perm.refl _
theorem fell_key {e a : Ev} (h : fell e a = true) : e.key = a.key := by
  unfold fell at h
  rw [Bool.and_eq_true] at h
  exact ends_key h.1
/-- Key by key. -/
theorem dead_facts {e : Ev} : ∀ (L : List Ev) (DL : List Ed), SrD DL → (∀ a ∈ L, noDotD DL a) → L.Pairwise (fun a b => ¬ sameDot a b) →
    SrD (deadTo e L DL) ∧ (∀ k, ofKeyD k (deadTo e L DL) = if e.key = k then deadTo e (ofKeyE k L) (ofKeyD k DL) else ofKeyD k DL)
  | [], DL, hs, _, _ => ⟨hs, fun k => by split <;> rfl⟩
  | a :: L, DL, hs, hn, hp => by
    obtain ⟨p1, p2⟩ := List.pairwise_cons.1 hp
    have hstep : deadTo e (a :: L) DL = deadTo e L (if fell e a then putD DL ⟨a, e.r, e.n⟩ else DL) := rfl
    have hn' : ∀ b ∈ L, noDotD (if fell e a then putD DL ⟨a, e.r, e.n⟩ else DL) b := fun b hb d hd => by
      split at hd
      · rcases mem_putD hd with rfl | hd
        · exact p1 b hb
        · exact hn b (by simp [hb]) d hd
      · exact hn b (by simp [hb]) d hd
    have hs' : SrD (if fell e a then putD DL ⟨a, e.r, e.n⟩ else DL) := by
      split
      · exact hs.put _
      · exact hs
    obtain ⟨i1, i2⟩ := dead_facts L _ hs' hn' p2
    rw [hstep]
    refine ⟨i1, fun k => ?_⟩
    rw [i2 k]
    by_cases hk : e.key = k
    · rw [if_pos hk, if_pos hk]
      cases hf : fell e a
      · simp only [Bool.false_eq_true, if_false]
        unfold ofKeyE
        by_cases ha : a.key = k
        · rw [List.filter_cons_of_pos (by simpa using ha)]
          conv => rhs; unfold deadTo
          rw [List.foldl_cons, hf]
          rfl
        · rw [List.filter_cons_of_neg (by simpa using ha)]
      · have hak : a.key = k := (fell_key hf).symm.trans hk
        simp only [if_true]
        rw [ofKeyD_put (e := ⟨a, e.r, e.n⟩) hs (hn a (by simp)) k, if_pos hak]
        unfold ofKeyE
        rw [List.filter_cons_of_pos (by simpa using hak)]
        conv => rhs; unfold deadTo
        rw [List.foldl_cons, hf]
        rfl
    · rw [if_neg hk, if_neg hk]
      cases hf : fell e a
      · rfl
      · simp only [if_true]
        rw [ofKeyD_put (e := ⟨a, e.r, e.n⟩) hs (hn a (by simp)) k, if_neg (fun e' => hk ((fell_key hf).trans e'))]
theorem ends_of {e : Ev} (k : Key) (L : List Ev) : ofKeyE k (L.filter fun a => !endsE e a) = if e.key = k then (ofKeyE k L).filter (fun a => !endsE e a) else ofKeyE k L := by
  unfold ofKeyE
  by_cases hk : e.key = k
  · rw [if_pos hk, filter_comm]
  · rw [if_neg hk, filter_comm]
    refine List.filter_eq_self.2 fun a ha => ?_
    have h1 := (List.mem_filter.1 ha).2
    simp only [decide_eq_true_eq] at h1
    cases he : endsE e a
    · rfl
    · exact absurd ((ends_key he).trans h1) hk
/-- To see an event. -/
def seeE (s : St) (e : Ev) : St :=
  { seen := s.seen.set e.r.toNat e.n, time := max s.time e.t,
    L := if addsE e.kind then putE (s.L.filter fun a => !endsE e a) e else s.L.filter fun a => !endsE e a,
    DL := deadTo e s.L s.DL }
/-- What holds of a space. -/
structure Inv (s : St) : Prop where
  len : s.seen.length = 16
  seenL : ∀ a ∈ s.L, hasv s.seen a.r a.n = true
  seenD : ∀ d ∈ s.DL, hasv s.seen d.push.r d.push.n = true
  apart : ∀ a ∈ s.L, noDotD s.DL a
  srL : SrE s.L
  srD : SrD s.DL
theorem SrE.unlike {L : List Ev} (h : SrE L) : L.Pairwise fun a b => ¬ sameDot a b := h.imp fun {a b} h => by
  rw [befE_iff] at h
  unfold sameDot
  omega
end Go.Proofs.YtmlfekbmbnfkjabGreatDoor

/-
  A range over a map from texts to pointers.
-/
namespace Go.Proofs.YtmlfekbmbnfkjabGreatDoor
set_option maxRecDepth 100000
open Go.RowKit Go.Shelf
open Go.ChangeMaps (setBlock heap_setBlock_same heap_setBlock_other)
open Go.MapKept (Stamped stamped_iff)

/-- A range over the map: pre has come, rest is to come. -/
def Rgk (w : World) (b r : Nat) (L pre rest : List (Key × Nat)) : Prop :=
  ∃ (es : Array MapEntry) (clock : Nat) (seen : Array Nat) (c0 : Nat), w.heap[b]? = some (.map es clock) ∧ Stamped es clock ∧ w.heap[r]? = some (.mapIter (some b) clock seen c0) ∧ clock ≤ c0 ∧ (leftOf es seen).toList.map kvM = rest.map kvK ∧ (pre ++ rest).Perm L
theorem Rgk.kept {w w' : World} {b r : Nat} {L pre rest : List (Key × Nat)} (h : Rgk w b r L pre rest) (hb : w'.heap[b]? = w.heap[b]?) (hr : w'.heap[r]? = w.heap[r]?) : Rgk w' b r L pre rest := by
  obtain ⟨es, clock, seen, c0, h1, h2, h3, rest⟩ := h
  exact ⟨es, clock, seen, c0, hb.trans h1, h2, hr.trans h3, rest⟩
theorem Rgk.walks {w w' : World} {b r : Nat} {L pre rest : List (Key × Nat)} (h : Rgk w b r L pre rest) (hk : KeepsWalks w w') : Rgk w' b r L pre rest := by
  obtain ⟨es, clock, seen, c0, h1, h2, h3, rest⟩ := h
  exact ⟨es, clock, seen, c0, hk.same b _ h1 rfl, h2, hk.same r _ h3 rfl, rest⟩
theorem Rgk.lt {w : World} {b r : Nat} {L pre rest : List (Key × Nat)} (h : Rgk w b r L pre rest) : b < w.heap.size ∧ r < w.heap.size ∧ r ≠ b := by
  obtain ⟨es, clock, seen, c0, h1, h2, h3, -⟩ := h
  refine ⟨(Array.getElem?_eq_some_iff.1 h1).1, (Array.getElem?_eq_some_iff.1 h3).1, ?_⟩
  rintro rfl
  rw [h1] at h3; cases h3
theorem Rgk.alloc {w : World} {b r : Nat} {L pre rest : List (Key × Nat)} (h : Rgk w b r L pre rest) (o : Obj) : Rgk (w.alloc o) b r L pre rest := h.kept (Below.heap_alloc w o b h.lt.1) (Below.heap_alloc w o r h.lt.2.1)
theorem Rgk.walk {w : World} {b r : Nat} {L pre rest : List (Key × Nat)} (h : Rgk w b r L pre rest) : ∃ o : Obj, w.heap[r]? = some o ∧ o.isWalk = true := by
  obtain ⟨es, clock, seen, c0, h1, h2, h3, -⟩ := h
  exact ⟨_, h3, rfl⟩
theorem Rgk.perm {w : World} {b r : Nat} {L pre rest : List (Key × Nat)} (h : Rgk w b r L pre rest) : (pre ++ rest).Perm L := by
  obtain ⟨es, clock, seen, c0, h1, h2, h3, h4, h5, h6⟩ := h
  exact h6
theorem Rgk.left {w : World} {b r : Nat} {L pre rest : List (Key × Nat)} (h : Rgk w b r L pre rest) : w.rangeLeft b r = rest.length := by
  obtain ⟨es, clock, seen, c0, h1, h2, h3, h4, h5, -⟩ := h
  simp only [World.rangeLeft, h1, h3]
  have := congrArg List.length h5
  simpa using this
/-- 'range m'. -/
theorem Mk.range {w : World} {b : Nat} {S : List (Key × Nat)} (h : Mk w b S) : ∃ (clock : Nat) (L : List (Key × Nat)), (Instr.range 56 (.map (some b))).run Tryz.prog w = .ok (.pointer (some ⟨w.heap.size, 0, none⟩)) (w.alloc (.mapIter (some b) clock #[] clock)) ∧
    L.Perm S ∧ Rgk (w.alloc (.mapIter (some b) clock #[] clock)) b w.heap.size L [] L := by
  have hlt := h.lt
  obtain ⟨es, clock, L, hb, hst, hL, hp, hS⟩ := h
  refine ⟨clock, L, run_range_map w 56 _ _ b es clock Tryz.underlying56 hb, hp, es, clock, #[], clock, ((MapKept.heap_alloc w _).2 b hlt).trans hb, hst, (MapKept.heap_alloc w _).1, Nat.le_refl _, ?_, List.Perm.refl _⟩
  have e0 : leftOf es #[] = es := Array.filter_eq_self.2 (by simp)
  rw [e0]; exact hL
/-- The step. -/
theorem Rgk.next {w : World} {b r : Nat} {L pre rest : List (Key × Nat)} (h : Rgk w b r L pre rest) (ty : TypeId) :
    (rest = [] ∧ (Instr.next (.pointer (some ⟨r, 0, none⟩)) false ty).run Tryz.prog w = .ok (.tuple #[.bool false]) w) ∨
    ∃ (i : Key × Nat) (rest' : List (Key × Nat)) (w' : World), (Instr.next (.pointer (some ⟨r, 0, none⟩)) false ty).run Tryz.prog w = .ok (.tuple #[.bool true, .string (sb i.1), .pointer (some ⟨i.2, 0, none⟩)]) w' ∧
      (Instr.entry (.pointer (some ⟨r, 0, none⟩))).run Tryz.prog w' = .ok (.tuple #[.string (sb i.1), .pointer (some ⟨i.2, 0, none⟩)]) w' ∧ Rgk w' b r L (pre ++ [i]) rest' ∧ rest'.length < rest.length ∧ w.grownBy w' (some r) := by
  have hne := h.lt.2.2
  obtain ⟨es, clock, seen, c0, hb, hst, hr, hc, hL, hp⟩ := h
  obtain ⟨s1, s2, s3⟩ := hst
  rcases run_next_at (P := Tryz.prog) w ty r b clock c0 seen es clock hr hb s1 hc with ⟨h0, hrun⟩ | ⟨e, he, w1, hal, hrun⟩
  · refine .inl ⟨?_, hrun⟩
    have : (leftOf es seen).toList = [] := by
      have h2 : leftOf es seen = #[] := Array.eq_empty_of_size_eq_zero h0
      rw [h2]
    rw [this] at hL
    cases rest with
    | nil => rfl
    | cons a l => simp at hL
  · obtain ⟨j, hj⟩ := List.getElem?_of_mem he
    have hnd : ((leftOf es seen).toList.map (·.born)).Nodup := by
      unfold leftOf
      rw [Array.toList_filter]
      exact List.Nodup.sublist (List.Sublist.map _ List.filter_sublist) s2
    have hjL : (rest.map kvK)[j]? = some (kvM e) := by rw [← hL, List.getElem?_map, hj]; rfl
    rw [List.getElem?_map, Option.map_eq_some_iff] at hjL
    obtain ⟨i, hi, hkv⟩ := hjL
    have hk : e.key = .string (sb i.1) := (congrArg Prod.fst hkv).symm
    have hv : e.val = .pointer (some ⟨i.2, 0, none⟩) := (congrArg Prod.snd hkv).symm
    have hr1 : w1.heap[r]? = some (.mapIter (some b) clock seen c0) := by rcases hal with rfl | rfl <;> exact hr
    have hb1 : w1.heap[b]? = some (.map es clock) := by rcases hal with rfl | rfl <;> exact hb
    have hset := MapKept.heap_set (o' := .mapIter (some b) clock (seen.push e.born) clock) hr1
    have hb' : (setBlock w1 r (.mapIter (some b) clock (seen.push e.born) clock)).heap[b]? = some (.map es clock) := (hset.2 b (fun e1 => hne e1.symm)).trans hb1
    refine .inr ⟨i, rest.eraseIdx j, _, by rw [← hk, ← hv]; exact hrun, by rw [← hk, ← hv]; exact run_entry_at _ r b clock seen es clock e hset.1 hb' (mem_left he).1 s2, ⟨es, clock, seen.push e.born, clock, hb', ⟨s1, s2, s3⟩, hset.1, Nat.le_refl _, ?_, ?_⟩, ?_, ?_⟩
    · rw [E.left_push, E.filter_born hnd hj, map_erase, hL, map_erase]
    · rw [List.append_assoc]
      refine List.Perm.trans (List.Perm.append_left pre ?_) hp
      exact (perm_erase hi).symm
    · have := (List.getElem?_eq_some_iff.1 hi).1
      rw [List.length_eraseIdx, if_pos this]; omega
    · rcases hal with rfl | rfl <;> exact ⟨rfl, rfl, rfl, by simp [setBlock], fun k _ hk => hset.2 k (fun e1 => hk (by rw [e1]))⟩

/-- All keys together. -/
theorem keys_perm {α : Type} (f : α → Key) : ∀ (S : List (Key × Nat)) (L : List α), (S.map Prod.fst).Nodup → (∀ a ∈ L, f a ∈ S.map Prod.fst) → (S.flatMap fun p => L.filter fun a => decide (f a = p.1)).Perm L
  | [], L, _, h => by
    cases L with
    | nil => exact List.Perm.refl _
    | cons a L => have := h a (by simp); simp at this
  | p :: S, L, hn, h => by
    simp only [List.map_cons, List.nodup_cons] at hn
    have hR : ∀ a ∈ L.filter (fun a => !decide (f a = p.1)), f a ∈ S.map Prod.fst := fun a ha => by
      obtain ⟨h1, h2⟩ := List.mem_filter.1 ha
      have := h a h1
      simp only [List.map_cons, List.mem_cons] at this
      rcases this with e | e
      · simp [e] at h2
      · exact e
    have ih := keys_perm f S (L.filter fun a => !decide (f a = p.1)) hn.2 hR
    have e1 : (S.flatMap fun q => (L.filter fun a => !decide (f a = p.1)).filter fun a => decide (f a = q.1)) = S.flatMap fun q => L.filter fun a => decide (f a = q.1) := by
      suffices hh : ∀ T : List (Key × Nat), (∀ q ∈ T, q.1 ≠ p.1) → (T.flatMap fun q => (L.filter fun a => !decide (f a = p.1)).filter fun a => decide (f a = q.1)) = T.flatMap fun q => L.filter fun a => decide (f a = q.1) from hh S (fun q hq e => hn.1 (List.mem_map.2 ⟨q, hq, e⟩))
      intro T
      induction T with
      | nil => intro _; rfl
      | cons q T ihT =>
        intro hT
        rw [List.flatMap_cons, List.flatMap_cons, ihT (fun x hx => hT x (by simp [hx]))]
        congr 1
        rw [List.filter_filter]
        refine List.filter_congr fun a _ => ?_
        have hq := hT q (by simp)
        by_cases e : f a = q.1
        · have : ¬ f a = p.1 := fun e2 => hq (e.symm.trans e2)
          simp [e, hq]
        · simp [e]
    rw [e1] at ih
    rw [List.flatMap_cons]
    refine (List.Perm.append_left _ ih).trans ?_
    have := filter_or_perm (fun a => decide (f a = p.1)) (fun a => !decide (f a = p.1)) L (fun a _ hh => by simp at hh)
    refine this.trans (List.Perm.of_eq (List.filter_eq_self.2 fun a _ => by simp))
end Go.Proofs.YtmlfekbmbnfkjabGreatDoor

/-
  What together comes to: all keys' things, in their dots' order (28 cells an item).
-/
namespace Go.Proofs.YtmlfekbmbnfkjabGreatDoor.E
set_option maxRecDepth 100000
open Go.RowKit Go.Shelf

theorem ldx_at {w : World} {g : Nat} {i : It (Cx 26)} (h : w.heap[g]? = some (.cells (xc i) 112 (0, 0))) : (loadVar 47 ⟨g, 2, none⟩).run Tryz.prog w = .ok (.agg i.x.l.toArray) w := by
  have hr : w.rangeAt g 2 i.x.l := fun j u hu => by
    rw [cell_of_row w _ (2 + j) _ _ _ h]
    simp only [xc, xl, List.getElem?_toArray]
    rw [show 2 + j = j + 1 + 1 by omega, List.getElem?_cons_succ, List.getElem?_cons_succ]
    exact hu
  have hs := size_x i.x
  rw [List.size_toArray] at hs
  exact run_loadVar_mid (P := Tryz.prog) w g 2 47 _ _ hr Tryz.underlying47 rfl hs
/-- What lies in the bag so far. -/
structure Tg (w : World) (Ba : Nat) (AS : List Ev) (A0 : List Ev) (m : Option Nat) (wr : World) : Prop where
  bg : Bg wr Ba 0 #[.map m] 81 m (AS.map eit)
  sr : SrE AS
  pm : AS.Perm A0
  ow : ∀ k, m = some k → w.heap.size ≤ k
  be : Below w.heap.size w wr
  ba : w.heap.size ≤ Ba
theorem Tg.below {w : World} {Ba : Nat} {AS A0 : List Ev} {m : Option Nat} {wr wx : World} (h : Tg w Ba AS A0 m wr) (hb : Below wr.heap.size wr wx) : Tg w Ba AS A0 m wx :=
  ⟨h.bg.below hb (Nat.le_refl _), h.sr, h.pm, h.ow, h.be.trans (hb.mono h.be.size), h.ba⟩
theorem Tg.grown {w : World} {Ba : Nat} {AS A0 : List Ev} {m : Option Nat} {wr wx : World} {r : Nat} (h : Tg w Ba AS A0 m wr) (hg : wr.grownBy wx (some r)) (hr : w.heap.size ≤ r) (h1 : r ≠ Ba) (h2 : m ≠ some r) : Tg w Ba AS A0 m wx :=
  ⟨h.bg.kept fun k hk ho => hg.block k hk (fun e => by
      have := Option.some.inj e
      rcases ho with rfl | ho
      · exact h1 this.symm
      · exact h2 (by rw [← this]; exact ho)), h.sr, h.pm, h.ow, h.be.grown hg h.be.size (fun k e => by have := Option.some.inj e; omega), h.ba⟩
theorem Rgk.blk {w : World} {b r : Nat} {L pre rest : List (Key × Nat)} (h : Rgk w b r L pre rest) : ∃ x y z u, w.heap[r]? = some (.mapIter x y z u) := by
  obtain ⟨es, clock, seen, c0, h1, h2, h3, -⟩ := h
  exact ⟨_, _, _, _, h3⟩
theorem Tg.put {w : World} {Ba : Nat} {AS A0 : List Ev} {m m' : Option Nat} {wr wx : World} {a : Ev} (h : Tg w Ba AS A0 m wr) (hB : Bg wx Ba 0 ((#[.map m] : Array Value).setIfInBounds 0 (.map m')) 81 m' (Go.Proofs.YtmlfekbmbnfkjabGreatDoor.put (AS.map eit) (eit a))) (ht : Tn Ba m m' wr wx) (hp : (putE AS a).Perm (a :: AS)) (hs : SrE (putE AS a)) (he : Go.Proofs.YtmlfekbmbnfkjabGreatDoor.put (AS.map eit) (eit a) = (putE AS a).map eit) : Tg w Ba (putE AS a) (A0 ++ [a]) m' wx := by
  refine ⟨by rw [← he]; exact hB, hs, hp.trans ((h.pm.cons a).trans (List.perm_append_singleton a A0).symm), fun k hk => ?_, h.be.trans (ht.below h.be.size h.ba h.ow), h.ba⟩
  rcases ht.own k hk with q | q
  · exact h.ow k q
  · exact Nat.le_trans h.be.size q
end Go.Proofs.YtmlfekbmbnfkjabGreatDoor.E

/-
  What together comes to: its walk (28 cells an item).
-/
namespace Go.Proofs.YtmlfekbmbnfkjabGreatDoor.E
set_option maxRecDepth 100000
open Go.RowKit Go.Shelf

/-- What is put together. -/
structure Src (w : World) (km : Option Nat) (S : List (Key × Nat)) (X : List Ev) : Prop where
  map : (km = none ∧ S = []) ∨ ∃ b, km = some b ∧ Mk w b S
  ho : ∀ p ∈ S, ∃ cs m, Bg w p.2 0 cs 86 m ((ofKeyE p.1 X).map eit)
  all : ∀ a ∈ X, Ev.key a ∈ S.map Prod.fst
  nd : (S.map Prod.fst).Nodup
  sr : SrE X
  len : X.length ≤ 1000000
theorem Rgk.below {w w' : World} {b r : Nat} {L pre rest : List (Key × Nat)} (h : Rgk w b r L pre rest) (hb : Below w.heap.size w w') : Rgk w' b r L pre rest := h.kept (hb.block b h.lt.1) (hb.block r h.lt.2.1)

end Go.Proofs.YtmlfekbmbnfkjabGreatDoor.E

/-
  What together comes to: all keys' things, in their dots' order (30 cells an item).
-/
namespace Go.Proofs.YtmlfekbmbnfkjabGreatDoor.D
set_option maxRecDepth 100000
open Go.RowKit Go.Shelf

theorem ldx_at {w : World} {g : Nat} {i : It (Cx 28)} (h : w.heap[g]? = some (.cells (xc i) 135 (0, 0))) : (loadVar 108 ⟨g, 2, none⟩).run Tryz.prog w = .ok (.agg i.x.l.toArray) w := by
  have hr : w.rangeAt g 2 i.x.l := fun j u hu => by
    rw [cell_of_row w _ (2 + j) _ _ _ h]
    simp only [xc, xl, List.getElem?_toArray]
    rw [show 2 + j = j + 1 + 1 by omega, List.getElem?_cons_succ, List.getElem?_cons_succ]
    exact hu
  have hs := size_x i.x
  rw [List.size_toArray] at hs
  exact run_loadVar_mid (P := Tryz.prog) w g 2 108 _ _ hr Tryz.underlying108 rfl hs
/-- What lies in the bag so far. -/
structure Tg (w : World) (Ba : Nat) (AS : List Ed) (A0 : List Ed) (m : Option Nat) (wr : World) : Prop where
  bg : Bg wr Ba 0 #[.map m] 84 m (AS.map dit)
  sr : SrD AS
  pm : AS.Perm A0
  ow : ∀ k, m = some k → w.heap.size ≤ k
  be : Below w.heap.size w wr
  ba : w.heap.size ≤ Ba
theorem Tg.below {w : World} {Ba : Nat} {AS A0 : List Ed} {m : Option Nat} {wr wx : World} (h : Tg w Ba AS A0 m wr) (hb : Below wr.heap.size wr wx) : Tg w Ba AS A0 m wx :=
  ⟨h.bg.below hb (Nat.le_refl _), h.sr, h.pm, h.ow, h.be.trans (hb.mono h.be.size), h.ba⟩
theorem Tg.grown {w : World} {Ba : Nat} {AS A0 : List Ed} {m : Option Nat} {wr wx : World} {r : Nat} (h : Tg w Ba AS A0 m wr) (hg : wr.grownBy wx (some r)) (hr : w.heap.size ≤ r) (h1 : r ≠ Ba) (h2 : m ≠ some r) : Tg w Ba AS A0 m wx :=
  ⟨h.bg.kept fun k hk ho => hg.block k hk (fun e => by
      have := Option.some.inj e
      rcases ho with rfl | ho
      · exact h1 this.symm
      · exact h2 (by rw [← this]; exact ho)), h.sr, h.pm, h.ow, h.be.grown hg h.be.size (fun k e => by have := Option.some.inj e; omega), h.ba⟩
theorem Rgk.blk {w : World} {b r : Nat} {L pre rest : List (Key × Nat)} (h : Rgk w b r L pre rest) : ∃ x y z u, w.heap[r]? = some (.mapIter x y z u) := by
  obtain ⟨es, clock, seen, c0, h1, h2, h3, -⟩ := h
  exact ⟨_, _, _, _, h3⟩
theorem Tg.put {w : World} {Ba : Nat} {AS A0 : List Ed} {m m' : Option Nat} {wr wx : World} {a : Ed} (h : Tg w Ba AS A0 m wr) (hB : Bg wx Ba 0 ((#[.map m] : Array Value).setIfInBounds 0 (.map m')) 84 m' (Go.Proofs.YtmlfekbmbnfkjabGreatDoor.put (AS.map dit) (dit a))) (ht : Tn Ba m m' wr wx) (hp : (putD AS a).Perm (a :: AS)) (hs : SrD (putD AS a)) (he : Go.Proofs.YtmlfekbmbnfkjabGreatDoor.put (AS.map dit) (dit a) = (putD AS a).map dit) : Tg w Ba (putD AS a) (A0 ++ [a]) m' wx := by
  refine ⟨by rw [← he]; exact hB, hs, hp.trans ((h.pm.cons a).trans (List.perm_append_singleton a A0).symm), fun k hk => ?_, h.be.trans (ht.below h.be.size h.ba h.ow), h.ba⟩
  rcases ht.own k hk with q | q
  · exact h.ow k q
  · exact Nat.le_trans h.be.size q
end Go.Proofs.YtmlfekbmbnfkjabGreatDoor.D

/-
  What together comes to: its walk (30 cells an item).
-/
namespace Go.Proofs.YtmlfekbmbnfkjabGreatDoor.D
set_option maxRecDepth 100000
open Go.RowKit Go.Shelf

/-- What is put together. -/
structure Src (w : World) (km : Option Nat) (S : List (Key × Nat)) (X : List Ed) : Prop where
  map : (km = none ∧ S = []) ∨ ∃ b, km = some b ∧ Mk w b S
  ho : ∀ p ∈ S, ∃ cs m, Bg w p.2 1 cs 86 m ((ofKeyD p.1 X).map dit)
  all : ∀ a ∈ X, (fun d : Ed => d.push.key) a ∈ S.map Prod.fst
  nd : (S.map Prod.fst).Nodup
  sr : SrD X
  len : X.length ≤ 1000000
theorem Rgk.below {w w' : World} {b r : Nat} {L pre rest : List (Key × Nat)} (h : Rgk w b r L pre rest) (hb : Below w.heap.size w w') : Rgk w' b r L pre rest := h.kept (hb.block b h.lt.1) (hb.block r h.lt.2.1)

end Go.Proofs.YtmlfekbmbnfkjabGreatDoor.D

