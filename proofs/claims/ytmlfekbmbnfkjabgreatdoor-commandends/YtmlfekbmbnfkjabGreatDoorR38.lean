/-
  LRANGE.
-/
import Derived.Test.YtmlfekbmbnfkjabGreatDoorR37
import Derived.Test.YtmlfekbmbnfkjabGreatDoorR09
import Derived.Test.YtmlfekbmbnfkjabGreatDoorR30
namespace Go.Proofs.YtmlfekbmbnfkjabGreatDoor
set_option maxRecDepth 100000
open Go.RowKit

theorem slice_ev22 (W : World) {ao : Option Addr} {m c a b : Nat} (h1 : a ≤ b) (h2 : b ≤ c) : (Instr.sliceAt 22 (.slice ao m c) (some (.int .i64 (a : Int))) (some (.int .i64 (b : Int))) none).run Tryz.prog W = .ok (.slice (dropA ao c a) (b - a) (c - a)) W := by
  have hs : (sizeOf 47).run Tryz.prog W = .ok 26 W := Tryz.sizeOf47 W
  have ht : Tryz.prog.underlying 22 = some (.slice 47) := Tryz.underlying22
  have he : Tryz.prog.elem 22 = 47 := by kernel_rfl
  rw [run_sliceAt_slice W 22 _ _ _ _ (by rw [he]; exact ht), run_slice_lh W 22 ao m c (by rw [he]; exact ht) .i64 .i64 (a : Int) (b : Int) (by omega) (by omega) (by omega), he, hs, Result.andThen_ok]
  unfold sliced dropA
  simp
theorem cutZ_is {α : Type} {L : List α} {fr tt : Int} {a b : Nat} (hs : T15.spanZ L.length fr tt = ((a : Int), (b : Int))) : cutZ L fr tt = (L.drop a).take (b - a) := by
  unfold cutZ
  rw [hs]
  rfl
set_option maxHeartbeats 4000000 in
theorem tellitems_any (p : Option Addr) (c : Cl) (S : List Ev) (w : World) (hl0 : S.length ≤ 1000) (hwn : T15.Wide64 c.n) (hwm : T15.Wide64 c.m) (hM : ∀ u, Below w.heap.size w u → Calls Tryz.prog 124 #[.pointer p, .string (sb c.key)] u fun x w' => ∃ ao cc, x = .returned (.slice ao S.length cc) ∧ Evs w' ao S.length cc S ∧ Below u.heap.size u w') : PlanC 82 p c (Po.tell 6 [] 0 ((cutZ S c.n c.m).map (·.value))) w := by
  obtain ⟨nm, ky, fd, vl, n, m⟩ := c
  have F0 := fr_new w ⟨nm, ky, fd, vl, n, m⟩
  obtain ⟨W0, hW0⟩ : ∃ W0, (w.alloc (.cells (clc ⟨nm, ky, fd, vl, n, m⟩) 38)).alloc (.cells outz 53) = W0 := ⟨_, rfl⟩
  rw [hW0] at F0
  have hW1 : (w.alloc (.cells (clc ⟨nm, ky, fd, vl, n, m⟩) 38)).alloc (.cells #[.int .i64 0, .string ⟨#[]⟩, .int .i64 0, .slice none 0 0, .int .i64 0, .string ⟨#[]⟩, .string ⟨#[]⟩, .string ⟨#[]⟩, .int .i64 0, .int .i64 0, .int .i64 0, .bool false] 53) = W0 := hW0
  obtain ⟨B, hB⟩ : ∃ B, w.heap.size = B := ⟨_, rfl⟩
  rw [hB] at F0
  have FW0 : Hid (Fr w W0 B (B + 1) ⟨nm, ky, fd, vl, n, m⟩) := F0.1
  have hOW0 : Hid (W0.heap[B + 1]? = some (.cells outz 53 (0, 0))) := F0.2
  clear hW0 F0
  have HM : Hid (∀ u, Below w.heap.size w u → _) := hM
  clear hM
  have HWN : Hid (T15.Wide64 n ∧ T15.Wide64 m) := ⟨hwn, hwm⟩
  clear hwn hwm
  show PlanC 82 p _ (Po.tell 6 [] 0 ((cutZ S n m).map (·.value))) w
  go_enter Tryz.func82, Tryz.ntmps82
  have hC := HM.out W0 FW0.out.be
  have hc1 := FW0.out.c1
  have hc2 := FW0.out.c2
  have hc3 := FW0.out.c3
  have hc4 := FW0.out.c4
  have hc5 := FW0.out.c5
  have hld := FW0.out.load
  go_wp2_with (first | (refine wpList_loadR (ty := 38) (x := .tmp 3) (ad := ⟨B, 0, none⟩) (v := .agg (clc ⟨nm, ky, fd, vl, n, m⟩)) rfl rfl rfl hld ?_))
  refine Calls.mono hC ?_
  rintro ex w1 ⟨ao, cc, rfl, hEv, hb⟩
  have Fw1 : Hid (Fr w w1 B (B + 1) ⟨nm, ky, fd, vl, n, m⟩) := FW0.out.below hb
  have hOw1 : Hid (w1.heap[B + 1]? = some (.cells outz 53 (0, 0))) := (hb.block _ (heap_lt22 hOW0.out)).trans hOW0.out
  have HPL : Hid (Evs w1 ao S.length cc S) := hEv
  clear hEv
  clear hC hb hc1 hc2 hc3 hc4 hc5 hld
  obtain ⟨N0, hN0⟩ : ∃ N, S.length = N := ⟨_, rfl⟩
  obtain ⟨a, b, hsp, hab, hbn⟩ := span_in S.length n m
  have HCT : Hid (cutZ S n m = (S.drop a).take (b - a)) := cutZ_is hsp
  have HSP : Hid (a ≤ b ∧ b ≤ S.length) := ⟨hab, hbn⟩
  have hZ := fun W => T15.zspan_any (N0 : Int) n m W ⟨by omega, by omega⟩ HWN.out.1 HWN.out.2
  rw [← hN0, hsp] at hZ
  rw [hN0] at hZ hl0 hbn HPL
  have hbc : b ≤ cc := by have := HPL.out.room; omega
  have hsl := fun W => slice_ev22 W (ao := ao) (m := N0) (c := cc) hab hbc
  have HEV : Hid (Evs w1 (dropA ao cc a) (b - a) (cc - a) (cutZ S n m)) := by rw [HCT.out]; exact (HPL.out.drop (by omega)).take (by omega)
  rw [hN0]
  clear hN0 hsp
  have HLO : Hid (B + 1 < w1.heap.size ∧ B ≤ w1.heap.size) := ⟨heap_lt22 hOw1.out, by have := heap_lt22 hOw1.out; omega⟩
  have hc1 := Fw1.out.c4
  have hc5 := Fw1.out.c5
  go_wp2_with fail
  refine Calls.mono (hZ _) ?_
  rintro ex w9 ⟨rfl, hw9⟩
  obtain rfl := hw9.symm
  clear hZ hc1 hc5
  generalize dropA ao cc a = a8 at *
  obtain ⟨X, hX⟩ : ∃ X, cutZ S n m = X := ⟨_, rfl⟩
  have HXX : Hid (cutZ S n m = X) := hX
  rw [hX] at HEV
  generalize cc - a = c8 at *
  obtain ⟨N, hN⟩ : ∃ N, b - a = N := ⟨_, rfl⟩
  rw [hN] at hsl HEV
  have hN9 : N ≤ 1000 := by omega
  clear hN hab hbn HSP HCT HPL hX
  go_wp2_with fail
  clear hsl
  go_loopw [8, 30] (fun vb i wr => ∃ k : Nat, k ≤ N ∧ i = .int .i64 (k : Int) ∧ Aside (TRow wr w1.heap.size vb ((X.take k).map (·.value)) ∧ Below w1.heap.size w1 wr)) (fun _ i _ => N - (intOf i).toNat)
  case atStart => exact ⟨0, Nat.zero_le _, rfl, trow_none _ _, Below.refl _ _⟩
  case round =>
    obtain ⟨k, hk, rfl, HS⟩ := hrel
    by_cases hlt : k < N
    · have hlt' : (k : Int) < (N : Int) := by omega
      obtain ⟨bb, off, d, rfl, hd, hdw, hr, hbl⟩ := (HEV.out.below HS.out.2 (Nat.le_refl _)).at hlt
      have hd16 := hdw.1
      have hix := fun W : World => index_ev W (b := bb) (off := off) (k := k) (m := N) (c := c8) hlt
      have hst : (storeVar 47 ⟨wr.heap.size, 0, none⟩ (.agg (evc d))).run Tryz.prog (wr.alloc (.cells (evc zv) 47)) = .ok () (wr.alloc (.cells (evc d) 47)) := run_storeVar_new wr 47 (evc zv) (evc d) (size26 d hd16) (by rw [evc_size d hd16, evc_size zv rfl]) (evc_one d)
      have hn5 := liesE_new wr d
      have hb5 : Below wr.heap.size wr (wr.alloc (.cells (evc d) 47)) := below_alloc22 _ _
      have hrow5 := HS.out.1.below hb5 (Nat.le_refl _)
      have hbe5 : Below w1.heap.size w1 (wr.alloc (.cells (evc d) 47)) := HS.out.2.trans (hb5.mono HS.out.2.size)
      obtain ⟨W5, hW5⟩ : ∃ W5, wr.alloc (.cells (evc d) 47) = W5 := ⟨_, rfl⟩
      rw [hW5] at hst hn5 hrow5 hbe5
      have hc0 := hn5.c22 hd16
      have hb6 : Below W5.heap.size W5 (W5.alloc (.cells #[.string (sb d.value)] 9)) := below_alloc22 _ _
      have hRow := hrow5.below hb6 (Nat.le_refl _)
      have hle : w1.heap.size ≤ W5.heap.size := hbe5.size
      have hlk : ((X.take k).map (·.value)).length ≤ 2000 := by rw [List.length_map, List.length_take]; omega
      have HFIN : Hid (∀ v' w', TRow w' w1.heap.size v' ((X.take k).map (·.value) ++ [d.value]) → (W5.alloc (.cells #[.string (sb d.value)] 9)).grownBy w' u8.ownBlock → TRow w' w1.heap.size v' ((X.take (k + 1)).map (·.value)) ∧ Below w1.heap.size w1 w') := fun v' w' h1 h2 => ⟨by rw [List.take_add_one, hd, List.map_append]; exact h1, (hbe5.trans (hb6.mono hbe5.size)).grown h2 (Nat.le_trans hbe5.size hb6.size) (fun k hk => hRow.own k hk)⟩
      generalize (X.take k).map (·.value) = XT at *
      clear hn5 hb5 hrow5 hbe5 hb6 hd HS hbl hdw
      go_wp2_with (first
        | refine load_ev_mid rfl rfl rfl hr hd16 ?_
        | (refine wpList_storeR (ty := 47) (x := .tmp 10) (y := .tmp 33) (ad := ⟨wr.heap.size, 0, none⟩) (v := .agg (evc d)) (w' := W5) rfl rfl rfl rfl hst ?_)
        | (at_builtin; refine wpList_appT rfl _ _ rfl w1.heap.size _ XT rfl hRow d.value rfl rfl (by omega) hle ?_))
      intro v' w' h1 h2
      have H6 : Aside _ := HFIN.out v' w' h1 h2
      clear h1 h2 hr hst hRow hle hlk HFIN hix hc0
      go_wp2
      go_roundw
      case rel => exact ⟨k + 1, by omega, by go_num, H6⟩
      case measure => simp [intOf]; omega
    · have hlt' : ¬ (k : Int) < (N : Int) := by omega
      have HX : Hid (TRow wr w1.heap.size u8 (X.map (·.value)) ∧ Below w1.heap.size w1 wr) := by
        have := HS.out
        rw [List.take_of_length_le (by have := HEV.out.len; omega)] at this
        exact this
      obtain ⟨a2, c2, rfl, -⟩ := HX.out.1.tl
      have HRwr : Hid (TRow wr w1.heap.size (.slice a2 (X.map (·.value)).length c2) (X.map (·.value))) := HX.out.1
      obtain ⟨q2, hq2⟩ : ∃ q2, (X.map (·.value)).length = q2 := ⟨_, rfl⟩
      rw [hq2] at HRwr ⊢
      have Fwr : Hid (Fr w wr B (B + 1) ⟨nm, ky, fd, vl, n, m⟩) := ⟨(HX.out.2.block _ (heap_lt22 Fw1.out.cl)).trans Fw1.out.cl, Fw1.out.be.trans (HX.out.2.mono Fw1.out.be.size), Fw1.out.lo, Fw1.out.hi⟩
      have hOwr : Hid (wr.heap[B + 1]? = some (.cells outz 53 (0, 0))) := (HX.out.2.block _ (heap_lt22 hOw1.out)).trans hOw1.out
      clear HX HS hq2
      have hC := carray_any a2 q2 c2 wr
      have hc1 := Fwr.out.c1
      have hc2 := Fwr.out.c2
      have hc3 := Fwr.out.c3
      have hc4 := Fwr.out.c4
      have hc5 := Fwr.out.c5
      have hld := Fwr.out.load
      go_wp2_with (first | (refine wpList_loadR (ty := 38) (x := .tmp 3) (ad := ⟨B, 0, none⟩) (v := .agg (clc ⟨nm, ky, fd, vl, n, m⟩)) rfl rfl rfl hld ?_))
      refine Calls.mono hC ?_
      rintro ex w2 ⟨rfl, hb⟩
      have Fw2 : Hid (Fr w w2 B (B + 1) ⟨nm, ky, fd, vl, n, m⟩) := Fwr.out.below hb
      have hOw2 : Hid (w2.heap[B + 1]? = some (.cells outz 53 (0, 0))) := (hb.block _ (heap_lt22 hOwr.out)).trans hOwr.out
      have HRw2 : Hid (TRow w2 w1.heap.size (.slice a2 q2 c2) (X.map (·.value))) := HRwr.out.below hb (Nat.le_refl _)
      clear hC hb hc1 hc2 hc3 hc4 hc5 hld
      have hC := ctell_any 6 [] 0 a2 q2 c2 w2
      have hc1 := Fw2.out.c1
      have hc2 := Fw2.out.c2
      have hc3 := Fw2.out.c3
      have hc4 := Fw2.out.c4
      have hc5 := Fw2.out.c5
      have hld := Fw2.out.load
      go_wp2_with (first | (refine wpList_loadR (ty := 38) (x := .tmp 3) (ad := ⟨B, 0, none⟩) (v := .agg (clc ⟨nm, ky, fd, vl, n, m⟩)) rfl rfl rfl hld ?_))
      refine Calls.mono hC ?_
      rintro ex w3 ⟨rfl, hb⟩
      have Fw3 : Hid (Fr w w3 B (B + 1) ⟨nm, ky, fd, vl, n, m⟩) := Fw2.out.below hb
      have hOw3 : Hid (w3.heap[B + 1]? = some (.cells outz 53 (0, 0))) := (hb.block _ (heap_lt22 hOw2.out)).trans hOw2.out
      have HRw3 : Hid (TRow w3 w1.heap.size (.slice a2 q2 c2) (X.map (·.value))) := HRw2.out.below hb (Nat.le_refl _)
      clear hC hb hc1 hc2 hc3 hc4 hc5 hld
      have hst := storeVar_out (cs := outx 6 [] 0 a2 q2 c2 opzz false) hOw3.out rfl rfl (outx_one _ _ _ _ _ _ _ _ _ _ _ _ _ _)
      have hgw4 := setRow_heap w3 (B + 1) _ (outx 6 [] 0 a2 q2 c2 opzz false) _ _ hOw3.out
      have Fw4 := Fw3.out.set (outx 6 [] 0 a2 q2 c2 opzz false)
      have HR4 : TRow (w3.setRow (B + 1) (outx 6 [] 0 a2 q2 c2 opzz false)) w1.heap.size (.slice a2 q2 c2) (X.map (·.value)) := HRw3.out.keep (fun k hk => setRow_ne22 _ _ _ _ (by have := HRw3.out.own k hk; have := HLO.out.1; omega))
      generalize w3.setRow (B + 1) (outx 6 [] 0 a2 q2 c2 opzz false) = w4 at *
      go_wp2_with (first | (refine wpList_storeR (ty := 53) (x := .tmp 4) (y := .tmp 43) (ad := ⟨B + 1, 0, none⟩) (v := .agg (outx 6 [] 0 a2 q2 c2 opzz false)) (w' := w4) rfl rfl rfl rfl hst ?_))
      refine ret_out rfl rfl rfl hgw4 rfl ?_
      rw [HXX.out]
      exact ⟨_, _, _, rfl, by first | exact HR4.lower (by have := HLO.out.2; omega) | (rw [hB]; exact HR4.lower HLO.out.2), by first | exact Fw4.be | (rw [← hB]; exact Fw4.be)⟩
end Go.Proofs.YtmlfekbmbnfkjabGreatDoor

/-
  What Dead and Time come to.
-/
namespace Go.Proofs.YtmlfekbmbnfkjabGreatDoor
set_option maxRecDepth 100000
open Go.RowKit Go.Shelf

theorem stime_any (Y : Lay) (w : World) (g : Nat) (s : St) (x : Option Key) (hS : SpK Y w g s x) :
    Calls Tryz.prog 11 #[.pointer (some ⟨g, 0, none⟩)] w fun e w' => e = .returned (.int .i64 s.time) ∧ w' = w := by
  have hz := sorz_some g w
  have hc := hS.c16
  clear hS
  go_enter Tryz.func11, Tryz.ntmps11
  go_wp2_with fail
  refine Calls.mono hz ?_
  rintro e w2 ⟨rfl, hw2⟩
  obtain rfl := hw2.symm
  go_wp2
  go_ret
  exact ⟨rfl, rfl⟩
end Go.Proofs.YtmlfekbmbnfkjabGreatDoor

/-
  What CommandEnds asks of a space that keeps nothing of a key; an event that is built.
-/
namespace Go.Proofs.YtmlfekbmbnfkjabGreatDoor
set_option maxRecDepth 100000
open Go.RowKit

section
variable {Y : Lay} {g : Nat} {s : St} {w : World}
theorem ix_get : ixN [71, 69, 84] = some 1 := by decide
theorem ix_lrange : ixN [76, 82, 65, 78, 71, 69] = some 21 := by decide
theorem plan_get0 (k : List UInt8) (h : At22 Y g s w) (h0 : ofKeyE k s.L = []) : PlanT (pg g) ⟨[71, 69, 84], k, [], [], 0, 0⟩ (Po.tell 5 [] 0 []) w := by
  obtain ⟨h1, h2⟩ := none_type h0
  refine plan_rowT _ h ix_get rfl (by unfold typS; rw [h1]; rfl) fun u hb hA => PlanC.bare rfl ?_
  have := gettext_any (pg g) ⟨[71, 69, 84], k, [], [], 0, 0⟩ _ _ u fun v hv => stext_any Y v g s k (hA.below hv).sp (by have := h.fine.len; omega)
  rw [h2] at this
  exact this
theorem sitems_no (k : Key) (h : At22 Y g s w) (ht : ¬ typeE (ofKeyE k s.L) k = 6) : Calls Tryz.prog 124 #[.pointer (some ⟨g, 0, none⟩), .string (sb k)] w fun e w' => e = .returned (.slice none 0 0) ∧ Below w.heap.size w w' := by
  have hT := stype_any Y w g s k h.sp (by have := h.fine.len; omega)
  generalize typeE (ofKeyE k s.L) k = t at *
  have htb : (t == 6) = false := by simpa using ht
  clear h
  go_enter Tryz.func124, Tryz.ntmps124
  go_wp2_with fail
  refine Calls.mono hT ?_
  rintro e w1 ⟨rfl, hb1⟩
  have FIN : Hid (Below w.heap.size w w1) := hb1
  clear hT hb1
  go_wp2
  go_ret
  exact ⟨rfl, FIN.out⟩
theorem plan_lrange0 (k : List UInt8) (h : At22 Y g s w) (h0 : ofKeyE k s.L = []) : PlanT (pg g) ⟨[76, 82, 65, 78, 71, 69], k, [], [], 0, -1⟩ (Po.tell 6 [] 0 []) w := by
  obtain ⟨h1, h2⟩ := none_type h0
  refine plan_rowT _ h ix_lrange rfl (by unfold typS; rw [h1]; rfl) fun u hb hA => ?_
  exact tellitems_any (pg g) ⟨[76, 82, 65, 78, 71, 69], k, [], [], 0, -1⟩ [] u (by decide) (show T15.Wide64 0 from ⟨by decide, by decide⟩) (show T15.Wide64 (-1) from ⟨by decide, by decide⟩) fun v hv =>
    (sitems_no k (hA.below hv) (by rw [h1]; decide)).mono fun x w' ⟨h3, h4⟩ => ⟨none, 0, h3, Evs.nil w', h4⟩
end

theorem y_idx22 {o : Oper} {a : Act} {w : World} {x y : Operand} {t : TypeId} {vx vy v : Value} (ho : o.op = .indexAddr t x y) (hx : a.eval x = vx) (hy : a.eval y = vy) (hv : (Instr.indexAt t vx vy).run Tryz.prog w = .ok v w) : (execOp a.eval o).run Tryz.prog w = .ok (.value v) w := by
  unfold execOp
  simp only [ho, hx, hy, Sem.run_bind, Sem.run_pure, Result.andThen_ok, hv]
theorem idx_vv (w : World) (b : Nat) (k : Nat) (hk : k < 16) : (Instr.indexAt 41 (.pointer (some ⟨b, 0, none⟩)) (.int .i64 (k : Int))).run Tryz.prog w = .ok (.pointer (some ⟨b, k, none⟩)) w := by
  have hk' : (k : Int) < 16 := by omega
  go_simp
theorem bld_dot22 (w : World) (r n : Int) : (Instr.build 32 #[(0, .int .i64 r), (1, .int .i64 n)]).run Tryz.prog w = .ok (.agg #[.int .i64 r, .int .i64 n]) w := by go_simp
theorem sixteen {v : List Int} (h : v.length = 16) : ∃ a0 a1 a2 a3 a4 a5 a6 a7 a8 a9 a10 a11 a12 a13 a14 a15, v = [a0, a1, a2, a3, a4, a5, a6, a7, a8, a9, a10, a11, a12, a13, a14, a15] := by
  match v, h with
  | [a0, a1, a2, a3, a4, a5, a6, a7, a8, a9, a10, a11, a12, a13, a14, a15], _ => exact ⟨_, _, _, _, _, _, _, _, _, _, _, _, _, _, _, _, rfl⟩
theorem bld_ev22 (w : World) (r n t : Int) (v : List Int) (hv : v.length = 16) (k : Int) (ky f vl : List UInt8) (m rr rn : Int) :
    (Instr.build 47 #[(0, .agg #[.int .i64 r, .int .i64 n]), (1, .int .i64 t), (2, .agg (vals v)), (3, .agg (opx k ky f vl m rr rn))]).run Tryz.prog w = .ok (.agg (evc ⟨r, n, t, v, k, ky, f, vl, m, rr, rn⟩)) w := by
  obtain ⟨a0, a1, a2, a3, a4, a5, a6, a7, a8, a9, a10, a11, a12, a13, a14, a15, rfl⟩ := sixteen hv
  have h1 : vals [a0, a1, a2, a3, a4, a5, a6, a7, a8, a9, a10, a11, a12, a13, a14, a15] = #[.int .i64 a0, .int .i64 a1, .int .i64 a2, .int .i64 a3, .int .i64 a4, .int .i64 a5, .int .i64 a6, .int .i64 a7, .int .i64 a8, .int .i64 a9, .int .i64 a10, .int .i64 a11, .int .i64 a12, .int .i64 a13, .int .i64 a14, .int .i64 a15] := rfl
  rw [h1]
  unfold opx
  go_simp
  rfl
theorem laid_vv (w : World) {v : List Int} (hv : v.length = 16) : ∃ w', (storeVar 41 ⟨w.heap.size, 0, none⟩ (.agg (vals v))).run Tryz.prog (w.alloc (.cells (vals zeros) 41)) = .ok () w' ∧ w'.heap[w.heap.size]? = some (.cells (vals v) 41 (0, 0)) ∧ Below w.heap.size w w' ∧ w'.heap.size = w.heap.size + 1 := by
  have hz : (vals v).size = 16 := by simp [vals, hv]
  exact ⟨w.alloc (.cells (vals v) 41), run_storeVar_new w 41 (vals zeros) (vals v) (by rw [hz]; kernel_rfl) (by rw [hz]; rfl) (by simp [vals, Value.oneCell']), heap_alloc_new w _, (Below.refl _ w).alloc (Nat.le_refl _) _, by simp⟩
theorem load_vv5 {w : World} {V : Nat} {v : List Int} (h : w.heap[V]? = some (.cells (vals v) 41 (0, 0))) (hv : v.length = 16) : (loadVar 3 ⟨V, 5, none⟩).run Tryz.prog w = .ok (.int .i64 (v.getD 5 0)) w := by
  obtain ⟨a0, a1, a2, a3, a4, a5, a6, a7, a8, a9, a10, a11, a12, a13, a14, a15, rfl⟩ := sixteen hv
  have hc : w.cell? ⟨V, 5, none⟩ = some (.int .i64 a5) := by rw [cell_of_row w V 5 _ _ _ h]; rfl
  clear h
  go_simp
  try rfl
theorem load_vvr {w : World} {V : Nat} {v : List Int} (h : w.heap[V]? = some (.cells (vals v) 41 (0, 0))) (hv : v.length = 16) : (loadVar 41 ⟨V, 0, none⟩).run Tryz.prog w = .ok (.agg (vals v)) w :=
  run_loadVar_row w V 41 41 _ (0, 0) _ h Tryz.underlying41 rfl (by rw [show (vals v).size = 16 by simp [vals, hv]]; kernel_rfl)
theorem neq_err22 (w : World) : (binOp .neq 43 (.int .i64 0) (.int .i64 0)).run Tryz.prog w = .ok (.bool false) w := by go_simp
theorem guard_err22 (w : World) (op : BinOp) (x y : Operand) : (eqGuard op 43 x y (.int .i64 0) (.int .i64 0)).run Tryz.prog w = .ok () w := by go_simp
theorem del_next {l : List Ev} (h : Came l) (hl : l.length ≤ 60) {k : Key} (h0 : k ≠ []) (h1 : k.length ≤ 64) :
    Inv (seenS l) ∧ Wide (delEv 5 ((seenS l).seen.getD 5 0 + 1) (seenS l).time (seenS l).seen k) ∧ (seenS l).L.length ≤ 1048576 ∧ applyE (seenS l) (delEv 5 ((seenS l).seen.getD 5 0 + 1) (seenS l).time (seenS l).seen k) = 0 ∧
      applyS (seenS l) (delEv 5 ((seenS l).seen.getD 5 0 + 1) (seenS l).time (seenS l).seen k) = seeE (seenS l) (delEv 5 ((seenS l).seen.getD 5 0 + 1) (seenS l).time (seenS l).seen k) ∧
      ofKeyE k (seeE (seenS l) (delEv 5 ((seenS l).seen.getD 5 0 + 1) (seenS l).time (seenS l).seen k)).L = [] ∧ Fine22 (seeE (seenS l) (delEv 5 ((seenS l).seen.getD 5 0 + 1) (seenS l).time (seenS l).seen k)) := by
  obtain ⟨e, he⟩ : ∃ e, delEv 5 ((seenS l).seen.getD 5 0 + 1) (seenS l).time (seenS l).seen k = e := ⟨_, rfl⟩
  have hw : Wide (delEv 5 ((seenS l).seen.getD 5 0 + 1) (seenS l).time (seenS l).seen k) := ⟨h.inv.len, ⟨by show k.length ≤ _; omega, by show 0 ≤ _; omega, by show 0 ≤ _; omega⟩⟩
  obtain ⟨ho, hf⟩ := del_op 5 ((seenS l).seen.getD 5 0 + 1) (seenS l).time (seenS l).seen k h0 h1
  have hok := next_ok (e := delEv 5 ((seenS l).seen.getD 5 0 + 1) (seenS l).time (seenS l).seen k) h (by omega) rfl ⟨(by show (0 : Int) ≤ 5; decide), (by show (5 : Int) < 16; decide)⟩ rfl h.time_bd ho hf
  have hre := next_ready (e := delEv 5 ((seenS l).seen.getD 5 0 + 1) (seenS l).time (seenS l).seen k) h (by omega) rfl ⟨(by show (0 : Int) ≤ 5; decide), (by show (5 : Int) < 16; decide)⟩ rfl hok
  have hg := del_gone (e := delEv 5 ((seenS l).seen.getD 5 0 + 1) (seenS l).time (seenS l).seen k) h rfl rfl
  have hc := came_fine (h.snoc hw hre) (by rw [List.length_append]; simp; omega)
  rw [seenS_snoc] at hc
  refine ⟨h.inv, hw, by have := h.short.1; omega, ?_, ?_, hg, hc⟩
  · unfold applyE; rw [hok, hre]; rfl
  · unfold applyS; rw [hre]; rfl
theorem enters_stime22 (xs : Array Value) (w : World) : (callFunc 11 xs).run Tryz.prog w = .ok (.enter 11 xs) w := enters Tryz.func11 (by kernel_rfl) (by kernel_rfl) xs w
theorem enters_sapply22 (xs : Array Value) (w : World) : (callFunc 10 xs).run Tryz.prog w = .ok (.enter 10 xs) w := enters Tryz.func10 (by kernel_rfl) (by kernel_rfl) xs w
end Go.Proofs.YtmlfekbmbnfkjabGreatDoor

