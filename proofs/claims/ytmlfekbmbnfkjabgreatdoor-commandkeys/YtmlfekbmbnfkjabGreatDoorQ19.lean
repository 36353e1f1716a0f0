/-
  A key's live and dead events in memory; what an event ends of them.
-/
import Derived.Test.YtmlfekbmbnfkjabGreatDoorQ13
import Derived.Test.YtmlfekbmbnfkjabGreatDoorQ17
import Derived.Test.YtmlfekbmbnfkjabGreatDoorQ18
import Derived.Test.YtmlfekbmbnfkjabGreatDoorQ09
namespace Go.Proofs.YtmlfekbmbnfkjabGreatDoor
set_option maxRecDepth 100000
open Go.RowKit
open Go.ChangeMaps (setBlock)

/-- What is kept of a key. -/
structure Ho (w : World) (h : Nat) (m1 m2 : Option Nat) (L : List Ev) (DL : List Ed) : Prop where
  live : E.Bg w h 0 #[.map m1, .map m2] 86 m1 (L.map eit)
  dead : D.Bg w h 1 #[.map m1, .map m2] 86 m2 (DL.map dit)
  ne : ∀ k, m1 = some k → m2 ≠ some k
  wl : ∀ a ∈ L, Wide a
  wd : ∀ d ∈ DL, Wide d.push
theorem Ho.below {w w' : World} {h B : Nat} {m1 m2 : Option Nat} {L : List Ev} {DL : List Ed} (k : Ho w h m1 m2 L DL) (hb : Below B w w') (hB : w.heap.size ≤ B) : Ho w' h m1 m2 L DL :=
  ⟨k.live.below hb hB, k.dead.below hb hB, k.ne, k.wl, k.wd⟩
theorem hold_new (w : World) : Ho (w.alloc (.cells #[.map none, .map none] 86)) w.heap.size none none [] [] :=
  ⟨⟨heap_alloc_new w _, rfl, .inl ⟨rfl, rfl⟩⟩, ⟨heap_alloc_new w _, rfl, .inl ⟨rfl, rfl⟩⟩, by simp, by simp, by simp⟩

theorem LiesE.dotAt {w : World} {g : Nat} {e : Ev} (h : LiesE w g e) : (loadVar 32 ⟨g, 0, none⟩).run Tryz.prog w = .ok (.agg (dotc e.r e.n)) w := by
  have hr : w.rangeAt g 0 (dotc e.r e.n).toList := fun j u hu => by
    rw [Nat.zero_add, cell_of_row w _ j _ _ _ h]
    rcases j with _ | _ | j
    · simpa [dotc, evc, evl] using hu
    · simpa [dotc, evc, evl] using hu
    · simp [dotc] at hu
  exact run_loadVar_mid (P := Tryz.prog) w g 0 32 _ _ hr Tryz.underlying32 rfl (by kernel_rfl)
theorem field_ev0 (w : World) (g : Nat) : (Instr.fieldAt 47 (.pointer (some ⟨g, 0, none⟩)) 0).run Tryz.prog w = .ok (.pointer (some ⟨g, 0, none⟩)) w := by kernel_rfl
theorem field_ev2 (w : World) (g : Nat) : (Instr.fieldAt 47 (.pointer (some ⟨g, 0, none⟩)) 2).run Tryz.prog w = .ok (.pointer (some ⟨g, 3, none⟩)) w := by kernel_rfl
theorem field_h0 (w : World) (g : Nat) : (Instr.fieldAt 86 (.pointer (some ⟨g, 0, none⟩)) 0).run Tryz.prog w = .ok (.pointer (some ⟨g, 0, none⟩)) w := by kernel_rfl
theorem field_h1 (w : World) (g : Nat) : (Instr.fieldAt 86 (.pointer (some ⟨g, 0, none⟩)) 1).run Tryz.prog w = .ok (.pointer (some ⟨g, 1, none⟩)) w := by kernel_rfl
theorem load_ph {w : World} {ad : Addr} {v : Value} (h : w.cell? ad = some v) : (loadVar 76 ad).run Tryz.prog w = .ok v w := by go_simp
theorem build_end (w : World) (a : Ev) (ha : a.deps.length = 16) (r n : Int) : (Instr.build 108 #[(0, .agg (evc a)), (1, .agg (dotc r n))]).run Tryz.prog w = .ok (.agg (edX ⟨a, r, n⟩).l.toArray) w := by
  have e1 : (edX ⟨a, r, n⟩).l = evl a ++ [.int .i64 r, .int .i64 n] := edX_l (d := ⟨a, r, n⟩) ha
  rw [e1, evc]
  have hl := evl_length a ha
  generalize evl a = l at hl
  match l, hl with
  | [a0, a1, a2, a3, a4, a5, a6, a7, a8, a9, a10, a11, a12, a13, a14, a15, a16, a17, a18, a19, a20, a21, a22, a23, a24, a25], hl =>
    refine Eq.trans (b := Result.ok (Value.agg ([a0, a1, a2, a3, a4, a5, a6, a7, a8, a9, a10, a11, a12, a13, a14, a15, a16, a17, a18, a19, a20, a21, a22, a23, a24, a25] ++ [Value.int .i64 r, Value.int .i64 n]).toArray) w) ?_ rfl
    kernel_rfl
theorem load_evx {w : World} {g : Nat} {e : Ev} (h : LiesE w g e) (hl : e.deps.length = 16) : (loadVar 47 ⟨g, 0, none⟩).run Tryz.prog w = .ok (.agg (evc e)) w := load_ev_run h hl
theorem enters_putd (xs : Array Value) (w : World) : (callFunc 57 xs).run Tryz.prog w = .ok (.enter 57 xs) w := enters Tryz.func57 (by kernel_rfl) (by kernel_rfl) xs w
theorem enters_drope (xs : Array Value) (w : World) : (callFunc 54 xs).run Tryz.prog w = .ok (.enter 54 xs) w := enters Tryz.func54 (by kernel_rfl) (by kernel_rfl) xs w

/-- What end's function reads: the event, and where the holding lies. -/
structure Rd2 (w : World) (Be Bk h : Nat) (e : Ev) : Prop where
  ev : LiesE w Be e
  pt : w.heap[Bk]? = some (.cells #[.pointer (some ⟨h, 0, none⟩)] 76 (0, 0))
theorem Rd2.below {w w' : World} {Be Bk h B : Nat} {e : Ev} (k : Rd2 w Be Bk h e) (hb : Below B w w') (hB : w.heap.size ≤ B) : Rd2 w' Be Bk h e :=
  ⟨k.ev.below hb (by have := k.ev.lt; omega), by rw [hb.block Bk (by have := (Array.getElem?_eq_some_iff.1 k.pt).1; omega)]; exact k.pt⟩

theorem types_ne : (47 : Nat) ≠ 86 ∧ (76 : Nat) ≠ 86 ∧ (86 : Nat) ≠ 112 := by decide
theorem D.Bg.kpc {w w' : World} {g o : Nat} {cs : Array Value} {ty : TypeId} {m m' : Option Nat} {S : List (It (Cx 28))} (h : D.Bg w g o cs ty m S) (ht : Tn g m m' w w') : Kpc ty w w' :=
  ⟨ht.size, fun k cur t hne hk => ht.block k (Array.getElem?_eq_some_iff.1 hk).1 (fun e => by
      subst e
      rw [h.blk] at hk
      simp only [Option.some.injEq, Obj.cells.injEq] at hk
      exact hne hk.2.1.symm) (fun e => by
      subst e
      obtain ⟨b, e, hm⟩ := h.map.resolve_left (by simp)
      obtain rfl := Option.some.inj e
      obtain ⟨es, c, hb⟩ := D.Mp.blk hm
      rw [hb] at hk; cases hk)⟩
theorem Rd2.kpc {w w' : World} {Be Bk h : Nat} {e : Ev} (k : Rd2 w Be Bk h e) (hk : Kpc 86 w w') : Rd2 w' Be Bk h e :=
  ⟨(hk.2 Be _ _ types_ne.1 k.ev).trans k.ev, (hk.2 Bk _ _ types_ne.2.1 k.pt).trans k.pt⟩

set_option maxHeartbeats 1000000 in
theorem hendf_any (e a : Ev) (he16 : e.deps.length = 16) (ha16 : a.deps.length = 16) (Be Bk h : Nat) (m1 m2 : Option Nat) (DL : List Ed) (w : World) (hR : Rd2 w Be Bk h e) (hB : D.Bg w h 1 #[.map m1, .map m2] 86 m2 (DL.map dit)) :
    Calls Tryz.prog 55 #[.agg (evc a), .pointer (some ⟨Be, 0, none⟩), .pointer (some ⟨Bk, 0, none⟩)] w fun ex w' => ex = .returned (.bool (endsE e a)) ∧ ∃ m2', D.Bg w' h 1 #[.map m1, .map m2'] 86 m2' ((if fell e a then putD DL ⟨a, e.r, e.n⟩ else DL).map dit) ∧ Tn h m2 m2' w w' := by
  have hb0 : Below w.heap.size w (w.alloc (.cells (evc a) 47)) := (Below.refl _ w).alloc (Nat.le_refl _) _
  have hA0 := liesE_new w a
  have hR0 := hR.below hb0 (Nat.le_refl _)
  have hB0 := hB.below hb0 (Nat.le_refl _)
  generalize hW0 : w.alloc (.cells (evc a) 47) = W0 at *
  have hE0 := hR0.ev
  have hen := ends_any e a he16 ha16 W0
  have hAl := hA0.lt
  have HR : Hid _ := hR0
  have HB : Hid _ := hB0
  have HB0 : Hid _ := hb0
  clear hR hB hR0 hB0 hb0
  have hcase : (endsE e a = false ∧ fell e a = false) ∨ (endsE e a = true ∧ a.kind ≠ 9 ∧ fell e a = false) ∨ (endsE e a = true ∧ a.kind = 9 ∧ fell e a = true) := by
    unfold fell
    cases endsE e a
    · exact .inl ⟨rfl, rfl⟩
    · by_cases hk : a.kind = 9
      · exact .inr (.inr ⟨rfl, hk, by simp [hk]⟩)
      · exact .inr (.inl ⟨rfl, hk, by simp [hk]⟩)
  rcases hcase with ⟨h1, h2⟩ | ⟨h1, hk, h2⟩ | ⟨h1, hk, h2⟩
  · rw [h1] at hen ⊢
    rw [h2]
    go_enter Tryz.func55, Tryz.ntmps55
    go_wp2_with (first | refine load_ev rfl rfl rfl hE0 he16 ?_ | refine load_ev rfl rfl rfl hA0 ha16 ?_)
    refine Calls.mono hen ?_
    rintro ex w2 ⟨rfl, hb2⟩
    have FIN : Hid _ := And.intro (HB.out.below hb2 (Nat.le_refl _)) ((Tn.of_below (g := h) m2 HB0.out).trans (Tn.of_below m2 hb2))
    clear hb2 hA0 hE0 hen
    go_wp2
    go_ret
    exact ⟨rfl, m2, FIN.out.1, FIN.out.2⟩
  · rw [h1] at hen ⊢
    rw [h2]
    have hk9 : (a.kind == 9) = false := by simpa using hk
    go_enter Tryz.func55, Tryz.ntmps55
    go_wp2_with (first | refine load_ev rfl rfl rfl hE0 he16 ?_ | refine load_ev rfl rfl rfl hA0 ha16 ?_)
    refine Calls.mono hen ?_
    rintro ex w2 ⟨rfl, hb2⟩
    have hkc := (hA0.below hb2 hAl).c19
    have FIN : Hid _ := And.intro (HB.out.below hb2 (Nat.le_refl _)) ((Tn.of_below (g := h) m2 HB0.out).trans (Tn.of_below m2 hb2))
    clear hb2 hA0 hE0 hen
    go_wp2
    go_ret
    exact ⟨rfl, m2, FIN.out.1, FIN.out.2⟩
  · rw [h1] at hen ⊢
    rw [h2]
    have hk9 : (a.kind == 9) = true := by simpa using hk
    go_enter Tryz.func55, Tryz.ntmps55
    go_wp2_with (first | refine load_ev rfl rfl rfl hE0 he16 ?_ | refine load_ev rfl rfl rfl hA0 ha16 ?_)
    refine Calls.mono hen ?_
    rintro ex w2 ⟨rfl, hb2⟩
    have hA2 := hA0.below hb2 hAl
    have hR2 := HR.out.below hb2 (Nat.le_refl _)
    have hkc := hA2.c19
    have hB2 := HB.out.below hb2 (Nat.le_refl _)
    have HT2 : Hid _ := (Tn.of_below (g := h) m2 HB0.out).trans (Tn.of_below m2 hb2)
    have hbd : Below w2.heap.size w2 w2.drew := (Below.refl _ w2).drew
    have hR3 := hR2.below hbd (Nat.le_refl _)
    have hB3 := hB2.below hbd (Nat.le_refl _)
    have hHs : LiesE w2.drew w.heap.size a ∧ Rd2 w2.drew Be Bk h e := ⟨hA2, hR3⟩
    have hP := D.put_any h 1 #[.map m1, .map m2] 86 m2 (DL.map dit) (dit ⟨a, e.r, e.n⟩) w2.drew hB3
    rw [put_dit] at hP
    have HP : Hid _ := hP
    have HK3 : Hid (∀ m' w3, Tn h m2 m' w2.drew w3 → LiesE w3 w.heap.size a ∧ Rd2 w3 Be Bk h e) := fun m' w3 ht => by
      have hk := D.Bg.kpc hB3 ht
      exact ⟨(hk.2 _ _ _ types_ne.1 hA2).trans hA2, hR3.kpc hk⟩
    have HT3 : Hid (Tn h m2 m2 w w2.drew) := HT2.out.trans (Tn.of_below m2 hbd)
    clear hb2 hA0 hE0 hen hA2 hR2 hB2 HR HB HB0 hP hbd hR3 hB3
    go_wp2_with fail
    clear hkc
    refine wp_region_noPanic ?_
    refine wp_region_held_drew (S := fun W' : World => LiesE W' w.heap.size a ∧ Rd2 W' Be Bk h e) (by kernel_rfl) hHs (fun hHeld => ?_)
    refine wpAnyH_take (i := 0) (oi := { dst := some 16, op := _, type := _, pos := _, after := _, guard := _ }) (v := .pointer (some ⟨h, 0, none⟩)) rfl (by kernel_rfl) (by kernel_rfl) (by kernel_rfl) (fun _ _ _ h => h) (Or.inl ⟨by rfl, ?_⟩) (by assumption) ?_
    · intro w9 hSw
      exact y_load rfl rfl (load_ph (cell_of_row _ _ 0 _ _ _ hSw.2.pt))
    simp only [Act.put, List.setIfInBounds_toArray, List.set_cons_zero, List.set_cons_succ]
    refine wpAnyH_take (i := 1) (oi := { dst := some 17, op := _, type := _, pos := _, after := _, guard := _ }) (v := .pointer (some ⟨h, 0, none⟩)) rfl (by kernel_rfl) (by kernel_rfl) (by kernel_rfl) (fun _ _ _ h => h) (Or.inl ⟨by rfl, ?_⟩) (by assumption) ?_
    · intro w9 hSw
      exact y_nil rfl rfl
    simp only [Act.put, List.setIfInBounds_toArray, List.set_cons_zero, List.set_cons_succ]
    refine wpAnyH_take (i := 2) (oi := { dst := some 18, op := _, type := _, pos := _, after := _, guard := _ }) (v := .pointer (some ⟨h, 1, none⟩)) rfl (by kernel_rfl) (by kernel_rfl) (by kernel_rfl) (fun _ _ _ h => h) (Or.inl ⟨by rfl, ?_⟩) (by assumption) ?_
    · intro w9 hSw
      exact y_field rfl rfl (field_h1 _ _)
    simp only [Act.put, List.setIfInBounds_toArray, List.set_cons_zero, List.set_cons_succ]
    refine wpAnyH_take (i := 3) (oi := { dst := some 19, op := _, type := _, pos := _, after := _, guard := _ }) (v := .pointer (some ⟨w.heap.size, 0, none⟩)) rfl (by kernel_rfl) (by kernel_rfl) (by kernel_rfl) (fun _ _ _ h => h) (Or.inl ⟨by rfl, ?_⟩) (by assumption) ?_
    · intro w9 hSw
      exact y_field rfl rfl (field_ev0 _ _)
    simp only [Act.put, List.setIfInBounds_toArray, List.set_cons_zero, List.set_cons_succ]
    refine wpAnyH_take (i := 4) (oi := { dst := some 20, op := _, type := _, pos := _, after := _, guard := _ }) (v := .agg (dotc a.r a.n)) rfl (by kernel_rfl) (by kernel_rfl) (by kernel_rfl) (fun _ _ _ h => h) (Or.inl ⟨by rfl, ?_⟩) (by assumption) ?_
    · intro w9 hSw
      exact y_load rfl rfl hSw.1.dotAt
    simp only [Act.put, List.setIfInBounds_toArray, List.set_cons_zero, List.set_cons_succ]
    refine wpAnyH_take (i := 5) (oi := { dst := some 21, op := _, type := _, pos := _, after := _, guard := _ }) (v := .agg (evc a)) rfl (by kernel_rfl) (by kernel_rfl) (by kernel_rfl) (fun _ _ _ h => h) (Or.inl ⟨by rfl, ?_⟩) (by assumption) ?_
    · intro w9 hSw
      exact y_load rfl rfl (load_evx hSw.1 ha16)
    simp only [Act.put, List.setIfInBounds_toArray, List.set_cons_zero, List.set_cons_succ]
    refine wpAnyH_take (i := 6) (oi := { dst := some 22, op := _, type := _, pos := _, after := _, guard := _ }) (v := .pointer (some ⟨Be, 0, none⟩)) rfl (by kernel_rfl) (by kernel_rfl) (by kernel_rfl) (fun _ _ _ h => h) (Or.inl ⟨by rfl, ?_⟩) (by assumption) ?_
    · intro w9 hSw
      exact y_field rfl rfl (field_ev0 _ _)
    simp only [Act.put, List.setIfInBounds_toArray, List.set_cons_zero, List.set_cons_succ]
    refine wpAnyH_take (i := 7) (oi := { dst := some 23, op := _, type := _, pos := _, after := _, guard := _ }) (v := .agg (dotc e.r e.n)) rfl (by kernel_rfl) (by kernel_rfl) (by kernel_rfl) (fun _ _ _ h => h) (Or.inl ⟨by rfl, ?_⟩) (by assumption) ?_
    · intro w9 hSw
      exact y_load rfl rfl hSw.2.ev.dotAt
    simp only [Act.put, List.setIfInBounds_toArray, List.set_cons_zero, List.set_cons_succ]
    refine wpAnyH_take (i := 8) (oi := { dst := some 24, op := _, type := _, pos := _, after := _, guard := _ }) (v := .agg (edX ⟨a, e.r, e.n⟩).l.toArray) rfl (by kernel_rfl) (by kernel_rfl) (by kernel_rfl) (fun _ _ _ h => h) (Or.inl ⟨by rfl, ?_⟩) (by assumption) ?_
    · intro w9 hSw
      exact y_b2 (ty := 108) (i := 0) (j := 1) (x := .tmp 21) (y := .tmp 23) (p := .agg (evc a)) (q := .agg (dotc e.r e.n)) rfl rfl rfl (build_end _ a ha16 _ _)
    simp only [Act.put, List.setIfInBounds_toArray, List.set_cons_zero, List.set_cons_succ]
    clear hHeld
    refine wpAnyH_ready (rs := [9]) (by kernel_rfl) (by simp) ?_
    refine AllReadyH.cons (o := { dst := some 25, op := _, type := _, pos := _, after := _, guard := _ }) rfl (fun K hK => ?_) AllReadyH.nil
    rw [if_pos (by rfl)]
    refine y_call (f := 57) (xs := [.tmp 18, .tmp 20, .tmp 24]) (vs := [.pointer (some ⟨h, 1, none⟩), .agg (dotc a.r a.n), .agg (edX ⟨a, e.r, e.n⟩).l.toArray]) rfl rfl (enters_putd _ _) HP.out ?_
    rintro ex w3 ⟨rfl, m2', hB3, ht3⟩
    refine ⟨_, rfl, ?_⟩
    have FIN : Hid (∃ m2', D.Bg w3 h 1 #[.map m1, .map m2'] 86 m2' ((putD DL ⟨a, e.r, e.n⟩).map dit) ∧ Tn h m2 m2' w w3) := ⟨m2', hB3, HT3.out.trans ht3⟩
    refine hK.out _ _ (HK3.out _ _ ht3) (fun hHeld => ?_)
    clear hK K
    simp only [Act.put]
    refine wpAnyH_done (by kernel_rfl) ?_ _
    refine NoPanic.normal ?_
    clear hHeld
    go_wp2
    go_ret
    exact ⟨rfl, FIN.out⟩
end Go.Proofs.YtmlfekbmbnfkjabGreatDoor

/-
  What end comes to: what an event ends of a key's live events.
-/
namespace Go.Proofs.YtmlfekbmbnfkjabGreatDoor
set_option maxRecDepth 100000
open Go.RowKit
open Go.ChangeMaps (setBlock)

theorem idle (w : World) : CallsD Tryz.prog 138 #[] .returning w fun e u' w' => e = .returned (.tuple #[]) ∧ u' = .returning ∧ w' = w := by
  refine callsD_of_wpS Tryz.func138 rfl fun c₀ cs hu => ?_
  apply wpS_region
  simp [wpOpsS, go_sem, recoverD, hu, Tryz.ntmps138]
  cases c₀
  simp_all [bodyPostS, results, Tryz.results138]
set_option maxHeartbeats 1000000 in
theorem istrue_any (e a : Ev) (he16 : e.deps.length = 16) (ha16 : a.deps.length = 16) (Be Bk h : Nat) (m1 m2 : Option Nat) (DL : List Ed) (w : World) (hR : Rd2 w Be Bk h e) (hB : D.Bg w h 1 #[.map m1, .map m2] 86 m2 (DL.map dit)) :
    Calls Tryz.prog 99 #[.func (.func 55) #[] #[.pointer (some ⟨Be, 0, none⟩), .pointer (some ⟨Bk, 0, none⟩)], .agg (evc a)] w fun ex w' => ex = .returned (.bool (endsE e a)) ∧ ∃ m2', D.Bg w' h 1 #[.map m1, .map m2'] 86 m2' ((if fell e a then putD DL ⟨a, e.r, e.n⟩ else DL).map dit) ∧ Tn h m2 m2' w w' := by
  have hb0 : Below w.heap.size w (w.alloc (.cells (evc a) 47)) := (Below.refl _ w).alloc (Nat.le_refl _) _
  have hA0 := liesE_new w a
  have hH := hendf_any e a he16 ha16 Be Bk h m1 m2 DL (w.alloc (.cells (evc a) 47)) (hR.below hb0 (Nat.le_refl _)) (hB.below hb0 (Nat.le_refl _))
  generalize hW0 : w.alloc (.cells (evc a) 47) = W0 at *
  have hf : ∀ W, (binOp .eql 59 (.func (.func 55) #[] #[.pointer (some ⟨Be, 0, none⟩), .pointer (some ⟨Bk, 0, none⟩)]) .nilFunc).run Tryz.prog W = .ok (.bool false) W := fun W => by kernel_rfl
  generalize (if fell e a then putD DL ⟨a, e.r, e.n⟩ else DL) = DL' at *
  clear hR hB
  go_enter_defers Tryz.func99, Tryz.ntmps99
  go_wp2_with (first | refine load_ev rfl rfl rfl hA0 ha16 ?_)
  refine hH.mono ?_
  rintro ex w2 ⟨rfl, m2', hB2, ht2⟩
  have FIN : Hid (∃ m2', D.Bg w2 h 1 #[.map m1, .map m2'] 86 m2' (DL'.map dit) ∧ Tn h m2 m2' w w2) := ⟨m2', hB2, (Tn.of_below m2 hb0).trans ht2⟩
  clear hB2 ht2 hb0 hA0 hH
  go_wp2
  refine leaves_cons (f := 138) (args := #[]) (by simp) (by simp [go_sem]) ?_
  refine (idle _).mono ?_
  rintro e u' w'' ⟨rfl, rfl, rfl⟩
  have hF := FIN.out
  simp [Leaves, settle, results, Tryz.results99]
  exact hF

/-- Between two things that were asked. -/
structure Kh (w0 : World) (e : Ev) (Be Bk h : Nat) (m1 m2 : Option Nat) (L : List Ev) (DL : List Ed) (j : Nat) (m2' : Option Nat) (W : World) : Prop where
  live : E.Bg W h 0 #[.map m1, .map m2'] 86 m1 (L.map eit)
  dead : D.Bg W h 1 #[.map m1, .map m2'] 86 m2' ((deadTo e (L.take j) DL).map dit)
  rd : Rd2 W Be Bk h e
  tn : Tn h m2 m2' w0 W
  ne : ∀ k, m1 = some k → m2' ≠ some k
open Classical in
noncomputable def qE (e : Ev) (L : List Ev) (i : It (Cx 26)) : Bool := decide (∃ a ∈ L, eit a = i ∧ endsE e a = true)
open Classical in
theorem qE_is {e : Ev} {L : List Ev} (hs : SrE L) {a : Ev} (ha : a ∈ L) : qE e L (eit a) = endsE e a := by
  unfold qE
  rw [Bool.eq_iff_iff, decide_eq_true_iff]
  constructor
  · rintro ⟨b, hb, he, h⟩
    have h1 : b.r = a.r := congrArg It.r he
    have h2 : b.n = a.n := congrArg It.n he
    rw [← hs.same hb ha h1 h2]; exact h
  · exact fun h => ⟨a, ha, rfl, h⟩
theorem gone_is {e : Ev} {L : List Ev} (hs : SrE L) {a : Ev} (ha : a ∈ L) : E.gone e.deps (qE e L) (eit a) = endsE e a := by
  unfold E.gone
  rw [qE_is hs ha]
  show (hasv e.deps a.r a.n && endsE e a) = endsE e a
  cases hh : hasv e.deps a.r a.n
  · rw [ends_covers hh]; rfl
  · rfl
theorem gone_not {e : Ev} {L : List Ev} (hs : SrE L) : ((L.map eit).filter fun i => !E.gone e.deps (qE e L) i) = (L.filter fun a => !endsE e a).map eit := by
  rw [List.filter_map]
  congr 1
  refine List.filter_congr fun a ha => ?_
  simp only [Function.comp_apply]
  rw [gone_is hs ha]
theorem map_at {L : List Ev} {j : Nat} {i : It (Cx 26)} (h : (L.map eit)[j]? = some i) : ∃ a, L[j]? = some a ∧ i = eit a := by
  rw [List.getElem?_map] at h
  cases ha : L[j]? with
  | none => rw [ha] at h; cases h
  | some a => rw [ha] at h; exact ⟨a, rfl, (Option.some.inj h).symm⟩
theorem Kh.whj {w0 : World} {e : Ev} {Be Bk h : Nat} {m1 m2 : Option Nat} {L : List Ev} {DL : List Ed} (he16 : e.deps.length = 16) (hw : ∀ a ∈ L, Wide a) (hs : SrE L) :
    E.WhJ (qE e L) e.deps (.func (.func 55) #[] #[.pointer (some ⟨Be, 0, none⟩), .pointer (some ⟨Bk, 0, none⟩)]) (L.map eit) w0.heap.size (fun j W => ∃ m2', Kh w0 e Be Bk h m1 m2 L DL j m2' W) := by
  refine ⟨fun j i W hi hK hh => ?_, fun j i W hi hK hh => ?_, fun j W W' row hK hg hr => ?_⟩
  · obtain ⟨m2', hK⟩ := hK
    obtain ⟨a, ha, rfl⟩ := map_at hi
    have ham := List.mem_of_getElem? ha
    rw [show (eit a).x.l.toArray = evc a from evX_c (hw a ham).1]
    refine (istrue_any e a he16 (hw a ham).1 Be Bk h m1 m2' (deadTo e (L.take j) DL) W hK.rd hK.dead).mono ?_
    rintro ex w' ⟨rfl, m2'', hB, ht⟩
    refine ⟨by rw [qE_is hs ham], ⟨m2'', ?_⟩, D.Bg.kpc hK.dead ht⟩
    refine ⟨hK.live.other hB.blk rfl (fun k hk hm => ht.block k hk (fun e => (hK.live.own k hm).2 e) (hK.ne k hm)), ?_, hK.rd.kpc (D.Bg.kpc hK.dead ht), hK.tn.trans ht, fun k hk hm => ?_⟩
    · rw [List.take_add_one, ha, Option.toList_some, deadTo_snoc]; exact hB
    · rcases ht.own k hm with h1 | h1
      · exact hK.ne k hk h1
      · have := (hK.live.own k hk).1; omega
  · obtain ⟨m2', hK⟩ := hK
    obtain ⟨a, ha, rfl⟩ := map_at hi
    refine ⟨m2', hK.live, ?_, hK.rd, hK.tn, hK.ne⟩
    rw [List.take_add_one, ha, Option.toList_some, deadTo_snoc]
    have hf : fell e a = false := by
      unfold fell
      rw [ends_covers hh]; rfl
    rw [hf]
    exact hK.dead
  · obtain ⟨m2', hK⟩ := hK
    have hty : ∀ (k : Nat) (cur : Array Value) (t : TypeId), t ≠ 112 → W.heap[k]? = some (.cells cur t (0, 0)) → W'.heap[k]? = W.heap[k]? := fun k cur t ht hk => hg.block k (Array.getElem?_eq_some_iff.1 hk).1 (fun e => by
      obtain ⟨-, cur', hc⟩ := hr k e.symm
      rw [hk] at hc
      simp only [Option.some.injEq, Obj.cells.injEq] at hc
      exact ht hc.2.1)
    have hmp : ∀ k, k < W.heap.size → (∃ es c, W.heap[k]? = some (.map es c)) → W'.heap[k]? = W.heap[k]? := fun k hk hm => hg.block k hk (fun e => by
      obtain ⟨-, cur', hc⟩ := hr k e.symm
      obtain ⟨es, c, hm⟩ := hm
      rw [hm] at hc; cases hc)
    refine ⟨m2', hK.live.kept fun k hk ho => ?_, hK.dead.kept fun k hk ho => ?_, ⟨?_, ?_⟩, ⟨?_, ?_, ?_, ?_, ?_, ?_⟩, hK.ne⟩
    · rcases ho with rfl | ho
      · exact hty k _ _ types_ne.2.2 hK.live.blk
      · obtain ⟨b, e, hm⟩ := hK.live.map.resolve_left (by rw [ho]; simp)
        rw [e] at ho
        obtain rfl := Option.some.inj ho
        exact hmp _ hk (E.Mp.blk hm)
    · rcases ho with rfl | ho
      · exact hty k _ _ types_ne.2.2 hK.dead.blk
      · obtain ⟨b, e, hm⟩ := hK.dead.map.resolve_left (by rw [ho]; simp)
        rw [e] at ho
        obtain rfl := Option.some.inj ho
        exact hmp _ hk (D.Mp.blk hm)
    · exact (hty Be _ _ (by decide) hK.rd.ev).trans hK.rd.ev
    · exact (hty Bk _ _ (by decide) hK.rd.pt).trans hK.rd.pt
    · exact hg.os.trans hK.tn.os
    · exact hg.tape.trans hK.tn.tape
    · exact hg.output.trans hK.tn.output
    · exact Nat.le_trans hK.tn.size hg.size
    · intro k hk h1 h2
      exact (hg.block k (Nat.lt_of_lt_of_le hk hK.tn.size) (fun e => by have := (hr k e.symm).1; omega)).trans (hK.tn.block k hk h1 h2)
    · exact hK.tn.own
end Go.Proofs.YtmlfekbmbnfkjabGreatDoor

/-
  A function made, as an operation of a region that draws its order.
-/
namespace Go.Proofs.YtmlfekbmbnfkjabGreatDoor
set_option maxRecDepth 100000
open Go.RowKit
theorem y_mkf {o : Oper} {a : Act} {w : World} {x y : Operand} {p q : Value} {f : Fn} (ho : o.op = .makeFunc f #[] #[x, y]) (hx : a.eval x = p) (hy : a.eval y = q) : (execOp a.eval o).run Tryz.prog w = .ok (.value (.func f #[] #[p, q])) w := by
  unfold execOp
  simp only [ho, List.map_toArray, List.map_cons, List.map_nil, hx, hy]
  rfl
end Go.Proofs.YtmlfekbmbnfkjabGreatDoor

/-
  What end comes to.
-/
namespace Go.Proofs.YtmlfekbmbnfkjabGreatDoor
set_option maxRecDepth 100000
open Go.RowKit

/-- What a call may have turned: a key's block and its maps. -/
structure To (h : Nat) (m1 m2 m1' m2' : Option Nat) (w w' : World) : Prop where
  os : w'.os = w.os
  tape : w'.tape = w.tape
  output : w'.output = w.output
  size : w.heap.size ≤ w'.heap.size
  block : ∀ k, k < w.heap.size → k ≠ h → m1 ≠ some k → m2 ≠ some k → w'.heap[k]? = w.heap[k]?
  own1 : ∀ k, m1' = some k → m1 = some k ∨ w.heap.size ≤ k
  own2 : ∀ k, m2' = some k → m2 = some k ∨ w.heap.size ≤ k
theorem To.of_below {h : Nat} (m1 m2 : Option Nat) {w w' : World} (hb : Below w.heap.size w w') : To h m1 m2 m1 m2 w w' :=
  ⟨hb.os, hb.tape, hb.output, hb.size, fun k hk _ _ _ => hb.block k hk, fun _ e => .inl e, fun _ e => .inl e⟩
theorem To.trans {h : Nat} {m1 m2 n1 n2 p1 p2 : Option Nat} {a b c : World} (x : To h m1 m2 n1 n2 a b) (y : To h n1 n2 p1 p2 b c) : To h m1 m2 p1 p2 a c :=
  ⟨y.os.trans x.os, y.tape.trans x.tape, y.output.trans x.output, Nat.le_trans x.size y.size,
   fun i hi hg h1 h2 => (y.block i (Nat.lt_of_lt_of_le hi x.size) hg
      (fun e => by rcases x.own1 i e with q | q; · exact h1 q
                   · omega)
      (fun e => by rcases x.own2 i e with q | q; · exact h2 q
                   · omega)).trans (x.block i hi hg h1 h2),
   fun i hi => by
    rcases y.own1 i hi with q | q
    · exact x.own1 i q
    · exact .inr (Nat.le_trans x.size q),
   fun i hi => by
    rcases y.own2 i hi with q | q
    · exact x.own2 i q
    · exact .inr (Nat.le_trans x.size q)⟩
theorem To.ofTn1 {h : Nat} {m1 m1' : Option Nat} (m2 : Option Nat) {w w' : World} (t : Tn h m1 m1' w w') : To h m1 m2 m1' m2 w w' :=
  ⟨t.os, t.tape, t.output, t.size, fun k hk hh h1 _ => t.block k hk hh h1, t.own, fun _ e => .inl e⟩
theorem To.ofTn2 {h : Nat} {m2 m2' : Option Nat} (m1 : Option Nat) {w w' : World} (t : Tn h m2 m2' w w') : To h m1 m2 m1 m2' w w' :=
  ⟨t.os, t.tape, t.output, t.size, fun k hk hh _ h2 => t.block k hk hh h2, fun _ e => .inl e, t.own⟩

theorem endsnone_any (k : Int) (w : World) : Calls Tryz.prog 53 #[.int .i64 k] w fun e w' => e = .returned (.bool (decide (k = 2 ∨ k = 9))) ∧ w' = w := by
  by_cases h2 : k = 2
  · subst h2
    go_enter Tryz.func53, Tryz.ntmps53
    go_wp2
    go_ret
    exact ⟨rfl, rfl⟩
  · by_cases h9 : k = 9
    · subst h9
      go_enter Tryz.func53, Tryz.ntmps53
      go_wp2
      go_ret
      exact ⟨rfl, rfl⟩
    · have e2 : (k == 2) = false := by simpa using h2
      have e9 : (k == 9) = false := by simpa using h9
      have ed : decide (k = 2 ∨ k = 9) = false := by simp [h2, h9]
      rw [ed]
      go_enter Tryz.func53, Tryz.ntmps53
      go_wp2
      go_ret
      exact ⟨rfl, rfl⟩
theorem ends_none {e : Ev} (h : e.kind = 2 ∨ e.kind = 9) (a : Ev) : endsE e a = false := by
  unfold endsE hits
  rcases h with h | h <;> simp [h]
theorem dead_none {e : Ev} (h : e.kind = 2 ∨ e.kind = 9) (L : List Ev) (DL : List Ed) : deadTo e L DL = DL := by
  have hf : ∀ a, fell e a = false := fun a => by unfold fell; rw [ends_none h]; rfl
  unfold deadTo
  induction L generalizing DL with
  | nil => rfl
  | cons a L ih => rw [List.foldl_cons, hf]; exact ih DL
theorem live_none {e : Ev} (h : e.kind = 2 ∨ e.kind = 9) (L : List Ev) : (L.filter fun a => !endsE e a) = L := List.filter_eq_self.2 fun a _ => by rw [ends_none h]; rfl
theorem mem_putD {DL : List Ed} {d x : Ed} (h : x ∈ putD DL d) : x = d ∨ x ∈ DL := by
  unfold putD at h
  rcases List.mem_append.1 h with h | h
  · exact .inr (List.mem_filter.1 h).1
  · rcases List.mem_cons.1 h with h | h
    · exact .inl h
    · exact .inr (List.mem_filter.1 h).1
theorem mem_dead {e : Ev} {x : Ed} : ∀ (L : List Ev) (DL : List Ed), x ∈ deadTo e L DL → (∃ a ∈ L, x = ⟨a, e.r, e.n⟩) ∨ x ∈ DL
  | [], _, h => .inr h
  | a :: L, DL, h => by
    have h' : x ∈ deadTo e L (if fell e a then putD DL ⟨a, e.r, e.n⟩ else DL) := h
    rcases mem_dead L _ h' with ⟨b, hb, e1⟩ | h1
    · exact .inl ⟨b, by simp [hb], e1⟩
    · split at h1
      · rcases mem_putD h1 with e1 | h2
        · exact .inl ⟨a, by simp, e1⟩
        · exact .inr h2
      · exact .inr h1

theorem E.Bg.kpc {w w' : World} {g o : Nat} {cs : Array Value} {ty : TypeId} {m m' : Option Nat} {S : List (It (Cx 26))} (h : E.Bg w g o cs ty m S) (ht : Tn g m m' w w') : Kpc ty w w' :=
  ⟨ht.size, fun k cur t hne hk => ht.block k (Array.getElem?_eq_some_iff.1 hk).1 (fun e => by
      subst e
      rw [h.blk] at hk
      simp only [Option.some.injEq, Obj.cells.injEq] at hk
      exact hne hk.2.1.symm) (fun e => by
      subst e
      obtain ⟨b, e, hm⟩ := h.map.resolve_left (by simp)
      obtain rfl := Option.some.inj e
      obtain ⟨es, c, hb⟩ := E.Mp.blk hm
      rw [hb] at hk; cases hk)⟩
set_option maxHeartbeats 1000000 in
theorem hend_any (e : Ev) (he : Wide e) (h : Nat) (m1 m2 : Option Nat) (L : List Ev) (DL : List Ed) (w : World) (hH : Ho w h m1 m2 L DL) (hl : L.length ≤ 1048576) :
    Calls Tryz.prog 35 #[.pointer (some ⟨h, 0, none⟩), .agg (evc e)] w fun ex w' => ex = .returned (.tuple #[]) ∧ ∃ m2', Ho w' h m1 m2' (L.filter fun a => !endsE e a) (deadTo e L DL) ∧ To h m1 m2 m1 m2' w w' := by
  have he16 := he.1
  have hb0 : Below w.heap.size w ((w.alloc (.cells #[.pointer (some ⟨h, 0, none⟩)] 76)).alloc (.cells (evc e) 47)) := ((Below.refl _ w).alloc (Nat.le_refl _) _).alloc (by simp) _
  have hE0 : LiesE ((w.alloc (.cells #[.pointer (some ⟨h, 0, none⟩)] 76)).alloc (.cells (evc e) 47)) (w.heap.size + 1) e := by
    have := liesE_new (w.alloc (.cells #[.pointer (some ⟨h, 0, none⟩)] 76)) e
    rwa [World.size_alloc] at this
  have hP0 : ((w.alloc (.cells #[.pointer (some ⟨h, 0, none⟩)] 76)).alloc (.cells (evc e) 47)).heap[w.heap.size]? = some (.cells #[.pointer (some ⟨h, 0, none⟩)] 76 (0, 0)) := by
    rw [Below.heap_alloc _ _ _ (by simp)]; exact heap_alloc_new w _
  have hH0 := hH.below hb0 (Nat.le_refl _)
  generalize hW0 : (w.alloc (.cells #[.pointer (some ⟨h, 0, none⟩)] 76)).alloc (.cells (evc e) 47) = W0 at *
  have hkc := hE0.c19
  have hN := endsnone_any e.kind W0
  by_cases hk : e.kind = 2 ∨ e.kind = 9
  · rw [live_none hk, dead_none hk]
    have hd : decide (e.kind = 2 ∨ e.kind = 9) = true := by simpa using hk
    rw [hd] at hN
    have FIN : Hid (Ho W0 h m1 m2 L DL ∧ To h m1 m2 m1 m2 w W0) := ⟨hH0, To.of_below m1 m2 hb0⟩
    clear hH hH0 hb0 hE0 hP0 hk hd
    go_enter Tryz.func35, Tryz.ntmps35
    go_wp2_with fail
    refine Calls.mono hN ?_
    rintro ex w2 ⟨rfl, hw2⟩
    obtain rfl := hw2.symm
    go_wp2
    refine bodyPost_ret (results_none rfl _ _ _) rfl ?_
    exact ⟨rfl, m2, FIN.out⟩
  · have hd : decide (e.kind = 2 ∨ e.kind = 9) = false := by simpa using hk
    rw [hd] at hN
    have hbd : Below W0.heap.size W0 W0.drew := (Below.refl _ W0).drew
    have hHd := hH0.below hbd (Nat.le_refl _)
    have hRd : Rd2 W0.drew (w.heap.size + 1) w.heap.size h e := ⟨hE0, hP0⟩
    have hK : Kh W0.drew e (w.heap.size + 1) w.heap.size h m1 m2 L DL 0 m2 W0.drew := ⟨hHd.live, hHd.dead, hRd, Tn.refl _ _ _, hHd.ne⟩
    have hsr : SrE L := srt_eit.1 hHd.live.srt
    have hD := E.drop_any h 0 m1 (L.map eit) #[.map m1, .map m2] 86 e.deps he16 (qE e L) 55 #[.pointer (some ⟨w.heap.size + 1, 0, none⟩), .pointer (some ⟨w.heap.size, 0, none⟩)] W0.drew _ (Kh.whj (w0 := W0.drew) (m1 := m1) (m2 := m2) (DL := DL) he16 hH.wl hsr) types_ne.2.2 hHd.live (by rw [List.length_map]; exact hl) ⟨m2, hK⟩ (fun W ⟨m2', k⟩ => ⟨_, k.live⟩)
    have hD2 : Calls Tryz.prog 54 #[.pointer (some ⟨h, 0, none⟩), .agg (vals e.deps), .func (.func 55) #[] #[.pointer (some ⟨w.heap.size + 1, 0, none⟩), .pointer (some ⟨w.heap.size, 0, none⟩)]] W0.drew fun ex w' => (∃ v, ex = .returned v) ∧ Rd2 w' (w.heap.size + 1) w.heap.size h e ∧ ∃ m2', Ho w' h m1 m2' (L.filter fun a => !endsE e a) (deadTo e L DL) ∧ To h m1 m2 m1 m2' w w' := by
      refine hD.mono ?_
      rintro ex w' ⟨rfl, w2, cs', ⟨m2', kh⟩, hB2, hB3, ht⟩
      refine ⟨⟨_, rfl⟩, kh.rd.kpc (E.Bg.kpc hB2 ht), m2', ?_, ((To.of_below m1 m2 (hb0.trans (hbd.mono hb0.size))).trans (To.ofTn2 m1 kh.tn)).trans (To.ofTn1 m2' ht)⟩
      have hcs : cs' = #[.map m1, .map m2'] := by
        have h1 := hB2.blk
        rw [kh.live.blk] at h1
        simp only [Option.some.injEq, Obj.cells.injEq] at h1
        exact h1.1.symm
      rw [gone_not hsr] at hB3
      rw [hcs] at hB3
      have hdd := kh.dead
      rw [List.length_map, List.take_length] at hdd
      refine ⟨hB3, hdd.kept fun k hk ho => ?_, kh.ne, fun a ha => hH.wl a (List.mem_filter.1 ha).1, fun d hdm => ?_⟩
      · rcases ho with rfl | ho
        · rw [hB3.blk, hdd.blk]
        · exact ht.block k hk (fun e => (hdd.own k ho).2 e) (fun e => kh.ne k e ho)
      · rcases mem_dead _ _ hdm with ⟨a, ha, rfl⟩ | h1
        · exact hH.wl a ha
        · exact hH.wd d h1
    have HD : Hid _ := hD2
    have hHs : Rd2 W0.drew (w.heap.size + 1) w.heap.size h e := hRd
    clear hD hD2 hK hHd hRd hH hH0 hb0 hE0 hP0 hk hd hbd hsr
    go_enter Tryz.func35, Tryz.ntmps35
    go_wp2_with fail
    refine Calls.mono hN ?_
    rintro ex w2 ⟨rfl, hw2⟩
    obtain rfl := hw2.symm
    go_wp2_with fail
    clear hkc hN
    refine wp_region_noPanic ?_
    refine wp_region_held_drew (S := fun W' : World => Rd2 W' (w.heap.size + 1) w.heap.size h e) (by kernel_rfl) hHs (fun hHeld => ?_)
    refine wpAnyH_take (i := 0) (oi := { dst := some 8, op := _, type := _, pos := _, after := _, guard := _ }) (v := .pointer (some ⟨h, 0, none⟩)) rfl (by kernel_rfl) (by kernel_rfl) (by kernel_rfl) (fun _ _ _ h => h) (Or.inl ⟨by rfl, ?_⟩) (by assumption) ?_
    · intro w9 hSw
      exact y_load rfl rfl (load_ph (cell_of_row _ _ 0 _ _ _ hSw.pt))
    simp only [Act.put, List.setIfInBounds_toArray, List.set_cons_zero, List.set_cons_succ]
    refine wpAnyH_take (i := 1) (oi := { dst := some 9, op := _, type := _, pos := _, after := _, guard := _ }) (v := .pointer (some ⟨h, 0, none⟩)) rfl (by kernel_rfl) (by kernel_rfl) (by kernel_rfl) (fun _ _ _ h => h) (Or.inl ⟨by rfl, ?_⟩) (by assumption) ?_
    · intro w9 hSw
      exact y_nil rfl rfl
    simp only [Act.put, List.setIfInBounds_toArray, List.set_cons_zero, List.set_cons_succ]
    refine wpAnyH_take (i := 2) (oi := { dst := some 10, op := _, type := _, pos := _, after := _, guard := _ }) (v := .pointer (some ⟨h, 0, none⟩)) rfl (by kernel_rfl) (by kernel_rfl) (by kernel_rfl) (fun _ _ _ h => h) (Or.inl ⟨by rfl, ?_⟩) (by assumption) ?_
    · intro w9 hSw
      exact y_field rfl rfl (field_h0 _ _)
    simp only [Act.put, List.setIfInBounds_toArray, List.set_cons_zero, List.set_cons_succ]
    refine wpAnyH_take (i := 3) (oi := { dst := some 11, op := _, type := _, pos := _, after := _, guard := _ }) (v := .pointer (some ⟨w.heap.size + 1, 3, none⟩)) rfl (by kernel_rfl) (by kernel_rfl) (by kernel_rfl) (fun _ _ _ h => h) (Or.inl ⟨by rfl, ?_⟩) (by assumption) ?_
    · intro w9 hSw
      exact y_field rfl rfl (field_ev2 _ _)
    simp only [Act.put, List.setIfInBounds_toArray, List.set_cons_zero, List.set_cons_succ]
    refine wpAnyH_take (i := 4) (oi := { dst := some 12, op := _, type := _, pos := _, after := _, guard := _ }) (v := .agg (vals e.deps)) rfl (by kernel_rfl) (by kernel_rfl) (by kernel_rfl) (fun _ _ _ h => h) (Or.inl ⟨by rfl, ?_⟩) (by assumption) ?_
    · intro w9 hSw
      exact y_load rfl rfl (load_dp hSw.ev he16)
    simp only [Act.put, List.setIfInBounds_toArray, List.set_cons_zero, List.set_cons_succ]
    refine wpAnyH_take (i := 5) (oi := { dst := some 13, op := _, type := _, pos := _, after := _, guard := _ }) (v := .func (.func 55) #[] #[.pointer (some ⟨w.heap.size + 1, 0, none⟩), .pointer (some ⟨w.heap.size, 0, none⟩)]) rfl (by kernel_rfl) (by kernel_rfl) (by kernel_rfl) (fun _ _ _ h => h) (Or.inl ⟨by rfl, ?_⟩) (by assumption) ?_
    · intro w9 hSw
      exact y_mkf (x := .tmp 3) (y := .tmp 2) rfl rfl rfl
    simp only [Act.put, List.setIfInBounds_toArray, List.set_cons_zero, List.set_cons_succ]
    clear hHeld
    refine wpAnyH_ready (rs := [6]) (by kernel_rfl) (by simp) ?_
    refine AllReadyH.cons (o := { dst := some 14, op := _, type := _, pos := _, after := _, guard := _ }) rfl (fun K hK => ?_) AllReadyH.nil
    rw [if_pos (by rfl)]
    refine y_call (f := 54) (xs := [.tmp 10, .tmp 12, .tmp 13]) (vs := [.pointer (some ⟨h, 0, none⟩), .agg (vals e.deps), .func (.func 55) #[] #[.pointer (some ⟨w.heap.size + 1, 0, none⟩), .pointer (some ⟨w.heap.size, 0, none⟩)]]) rfl rfl (enters_drope _ _) HD.out ?_
    rintro ex w3 ⟨⟨v3, rfl⟩, hR3, hFIN⟩
    refine ⟨_, rfl, ?_⟩
    have FIN : Hid (∃ m2', Ho w3 h m1 m2' (L.filter fun a => !endsE e a) (deadTo e L DL) ∧ To h m1 m2 m1 m2' w w3) := hFIN
    clear hFIN
    refine hK.out _ _ hR3 (fun hHeld => ?_)
    clear hK K
    simp only [Act.put]
    refine wpAnyH_done (by kernel_rfl) ?_ _
    refine NoPanic.normal ?_
    clear hHeld
    go_wp2
    go_end0
    exact ⟨rfl, FIN.out⟩
end Go.Proofs.YtmlfekbmbnfkjabGreatDoor

