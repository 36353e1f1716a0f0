/-
  What the reader's way op comes to. (Written by gengop.py.)
-/
import Derived.Test.YthdhnilfkpbmpaaGkd
import Derived.Test.YthdhnilfkpbmpaaOnl
namespace Go.Proofs.Ythdhnilfkpbmpaa
set_option maxRecDepth 100000

open Go.RowKit

/-- Reading an operation, part by part. -/
def t6 (s : Rd) : List UInt8 × Rd := rdT (k5 s).2
def t7 (s : Rd) : List UInt8 × Rd := whenT (usesF (k5 s).1) (t6 s).2
def t8 (s : Rd) : List UInt8 × Rd := whenT (usesV (k5 s).1) (t7 s).2
def t9 (s : Rd) : Int × Rd := whenI (usesN (k5 s).1) (t8 s).2
def t10 (s : Rd) : Int × Rd := whenN (usesR (k5 s).1) (t9 s).2
def t11 (s : Rd) : Int × Rd := whenN (usesR (k5 s).1) (t10 s).2
def U5 (s : Rd) : Ev := { zop with kind := (k5 s).1 }
def U6 (s : Rd) : Ev := { U5 s with key := (t6 s).1 }
def U7 (s : Rd) : Ev := { U6 s with field := (t7 s).1 }
def U8 (s : Rd) : Ev := { U7 s with value := (t8 s).1 }
def U9 (s : Rd) : Ev := { U8 s with num := (t9 s).1 }
def U11 (s : Rd) : Ev := { U9 s with rr := (t10 s).1, rn := (t11 s).1 }

theorem rdT_not {S : Rd} (h : S.e ≠ 0) : rdT S = ([], S) := by rw [rdT, if_pos h]
theorem rdI_not {S : Rd} (h : S.e ≠ 0) : rdI S = (0, S) := by rw [rdI, if_pos h]
theorem rdN_not {S : Rd} (h : S.e ≠ 0) : rdN S = (0, S) := by rw [rdN, if_pos h]
theorem whenT_eq {b c : Bool} {S : Rd} (h : S.e = 0 → b = c) : whenT b S = whenT c S := by
  by_cases h0 : S.e = 0
  · rw [h h0]
  · cases b <;> cases c <;> simp [whenT, rdT_not h0]
theorem whenI_eq {b c : Bool} {S : Rd} (h : S.e = 0 → b = c) : whenI b S = whenI c S := by
  by_cases h0 : S.e = 0
  · rw [h h0]
  · cases b <;> cases c <;> simp [whenI, rdI_not h0]
theorem whenN_eq {b c : Bool} {S : Rd} (h : S.e = 0 → b = c) : whenN b S = whenN c S := by
  by_cases h0 : S.e = 0
  · rw [h h0]
  · cases b <;> cases c <;> simp [whenN, rdN_not h0]

section
variable {s : Rd} {u : Ev}
theorem st7_t (hm : (t6 s).2.e = 0 → u = U6 s) (hu : usesF u.kind = true) : rdT (t6 s).2 = t7 s :=
  (whenT_eq (b := true) fun h => by rw [← hu, hm h]; rfl : whenT true (t6 s).2 = _)
theorem st7_m {v : List UInt8} (hm : (t6 s).2.e = 0 → u = U6 s) (hv : (t7 s).2.e = 0 → v = (t7 s).1) (h : (t7 s).2.e = 0) : { u with field := v } = U7 s := by
  rw [hm (whenT_ok h).1, hv h]; rfl
theorem st7_f (hm : (t6 s).2.e = 0 → u = U6 s) (hu : usesF u.kind = false) : t7 s = ([], (t6 s).2) :=
  ((whenT_eq (b := false) fun h => by rw [← hu, hm h]; rfl : whenT false (t6 s).2 = t7 s)).symm
theorem st7_n (hm : (t6 s).2.e = 0 → u = U6 s) (e : t7 s = ([], (t6 s).2)) (h : (t7 s).2.e = 0) : u = U7 s := by
  rw [hm (whenT_ok h).1, U7, e]; rfl
theorem st8_t (hm : (t7 s).2.e = 0 → u = U7 s) (hu : usesV u.kind = true) : rdT (t7 s).2 = t8 s :=
  (whenT_eq (b := true) fun h => by rw [← hu, hm h]; rfl : whenT true (t7 s).2 = _)
theorem st8_m {v : List UInt8} (hm : (t7 s).2.e = 0 → u = U7 s) (hv : (t8 s).2.e = 0 → v = (t8 s).1) (h : (t8 s).2.e = 0) : { u with value := v } = U8 s := by
  rw [hm (whenT_ok h).1, hv h]; rfl
theorem st8_f (hm : (t7 s).2.e = 0 → u = U7 s) (hu : usesV u.kind = false) : t8 s = ([], (t7 s).2) :=
  ((whenT_eq (b := false) fun h => by rw [← hu, hm h]; rfl : whenT false (t7 s).2 = t8 s)).symm
theorem st8_n (hm : (t7 s).2.e = 0 → u = U7 s) (e : t8 s = ([], (t7 s).2)) (h : (t8 s).2.e = 0) : u = U8 s := by
  rw [hm (whenT_ok h).1, U8, e]; rfl
theorem st9_t (hm : (t8 s).2.e = 0 → u = U8 s) (hu : usesN u.kind = true) : rdI (t8 s).2 = t9 s :=
  (whenI_eq (b := true) fun h => by rw [← hu, hm h]; rfl : whenI true (t8 s).2 = _)
theorem st9_m {v : Int} (hm : (t8 s).2.e = 0 → u = U8 s) (hv : (t9 s).2.e = 0 → v = (t9 s).1) (h : (t9 s).2.e = 0) : { u with num := v } = U9 s := by
  rw [hm (whenI_ok h).1, hv h]; rfl
theorem st9_f (hm : (t8 s).2.e = 0 → u = U8 s) (hu : usesN u.kind = false) : t9 s = (0, (t8 s).2) :=
  ((whenI_eq (b := false) fun h => by rw [← hu, hm h]; rfl : whenI false (t8 s).2 = t9 s)).symm
theorem st9_n (hm : (t8 s).2.e = 0 → u = U8 s) (e : t9 s = (0, (t8 s).2)) (h : (t9 s).2.e = 0) : u = U9 s := by
  rw [hm (whenI_ok h).1, U9, e]; rfl
theorem st10_t (hm : (t9 s).2.e = 0 → u = U9 s) (hu : usesR u.kind = true) : rdN (t9 s).2 = t10 s :=
  (whenN_eq (b := true) fun h => by rw [← hu, hm h]; rfl : whenN true (t9 s).2 = _)
theorem st11_t (hm : (t9 s).2.e = 0 → u = U9 s) (hu : usesR u.kind = true) : rdN (t10 s).2 = t11 s :=
  (whenN_eq (b := true) fun h => by rw [← hu, hm (whenN_ok (c := usesR (k5 s).1) (s := (t9 s).2) h).1]; rfl : whenN true (t10 s).2 = _)
theorem st11_m {v n : Int} (hm : (t9 s).2.e = 0 → u = U9 s) (hv : (t11 s).2.e = 0 → v = (t10 s).1 ∧ n = (t11 s).1) (h : (t11 s).2.e = 0) : { u with rr := v, rn := n } = U11 s := by
  rw [hm (whenN_ok (c := usesR (k5 s).1) (s := (t9 s).2) (whenN_ok h).1).1, (hv h).1, (hv h).2]; rfl
theorem st11_f (hm : (t9 s).2.e = 0 → u = U9 s) (hu : usesR u.kind = false) : t10 s = (0, (t9 s).2) ∧ t11 s = (0, (t9 s).2) := by
  have e1 : t10 s = (0, (t9 s).2) := ((whenN_eq (b := false) fun h => by rw [← hu, hm h]; rfl : whenN false (t9 s).2 = t10 s)).symm
  refine ⟨e1, ?_⟩
  have e2 : whenN false (t10 s).2 = t11 s := whenN_eq (b := false) fun h => by rw [← hu, hm (by rw [e1] at h; exact h)]; rfl
  rw [← e2, e1]; rfl
theorem st11_n (hm : (t9 s).2.e = 0 → u = U9 s) (e : t10 s = (0, (t9 s).2) ∧ t11 s = (0, (t9 s).2)) (h : (t11 s).2.e = 0) : u = U11 s := by
  have h9 : (t9 s).2.e = 0 := by rw [e.2] at h; exact h
  rw [hm h9, U11, e.1, e.2]; rfl
end

/-- Where the blocks lie to one another. -/
structure Side (w0 : World) (g z k : Nat) (ao : Option Addr) : Prop where
  kg : k ≠ g
  zg : z ≠ g
  zk : z ≠ k
  a : Ahead ao w0.heap.size
  k0 : w0.heap.size ≤ k
/-- Where op stands. -/
structure Opn (w0 w : World) (g z k : Nat) (ao : Option Addr) (c : Nat) (l : List UInt8) (S : Rd) (U u : Ev) : Prop where
  o : LiesO w k u
  z : LiesO w z zop
  r : Rdr w g ao c l S
  c : Chg g w0 w
  m : S.e = 0 → u = U

theorem Chg.other {g k j : Nat} {a w : World} (h : Chg g a w) (hk : a.heap.size ≤ k) (v : Value) : Chg g a (w.setCell ⟨k, j, none⟩ v) :=
  ⟨h.os, h.tape, h.output, by simpa [World.setCell] using h.size, fun i hi hg => (Below.heap_setCell w ⟨k, j, none⟩ v i (by show i ≠ k; omega)).trans (h.block i hi hg)⟩
theorem Rdr.other {w : World} {g k j : Nat} {ao : Option Addr} {c : Nat} {l : List UInt8} {s : Rd} (h : Rdr w g ao c l s) (v : Value) (hk : k ≠ g) (ha : ∀ ad, ao = some ad → ad.block ≠ k) : Rdr (w.setCell ⟨k, j, none⟩ v) g ao c l s := by
  obtain ⟨p, h1, h2⟩ := h.raw
  refine ⟨⟨p, ?_, h2⟩, ⟨h.bytes.len, h.bytes.room, h.bytes.none, fun ad had i u hu => ?_⟩, h.apart, h.cap⟩
  · rw [Raw, Below.heap_setCell w ⟨k, j, none⟩ v g (Ne.symm hk)]; exact h1
  · have hbk : (ad.add i).block = ad.block := by unfold Addr.add; split <;> rfl
    rw [World.cell?_of_block (w := w) (Below.heap_setCell w ⟨k, j, none⟩ v _ (by rw [hbk]; exact ha ad had))]
    exact h.bytes.cells ad had i u hu

section
variable {w0 w w' : World} {g z k : Nat} {ao : Option Addr} {c : Nat} {l : List UInt8} {S S' : Rd} {U U' u : Ev}
theorem Opn.key (h : Opn w0 w g z k ao c l S U u) (d : Side w0 g z k ao) (hc : Chg g w w') (hr : Rdr w' g ao c l S') (v : List UInt8) (hm : S'.e = 0 → { u with key := v } = U') : Opn w0 (w'.setCell ⟨k, 1, none⟩ (.string (sb v))) g z k ao c l S' U' { u with key := v } :=
  ⟨(hc.lies h.o d.kg).setK v, (hc.lies h.z d.zg).other _ _ d.zk, hr.other _ d.kg (d.a.ne d.k0), (h.c.trans hc).other d.k0 _, hm⟩
theorem Opn.field (h : Opn w0 w g z k ao c l S U u) (d : Side w0 g z k ao) (hc : Chg g w w') (hr : Rdr w' g ao c l S') (v : List UInt8) (hm : S'.e = 0 → { u with field := v } = U') : Opn w0 (w'.setCell ⟨k, 2, none⟩ (.string (sb v))) g z k ao c l S' U' { u with field := v } :=
  ⟨(hc.lies h.o d.kg).setF v, (hc.lies h.z d.zg).other _ _ d.zk, hr.other _ d.kg (d.a.ne d.k0), (h.c.trans hc).other d.k0 _, hm⟩
theorem Opn.value (h : Opn w0 w g z k ao c l S U u) (d : Side w0 g z k ao) (hc : Chg g w w') (hr : Rdr w' g ao c l S') (v : List UInt8) (hm : S'.e = 0 → { u with value := v } = U') : Opn w0 (w'.setCell ⟨k, 3, none⟩ (.string (sb v))) g z k ao c l S' U' { u with value := v } :=
  ⟨(hc.lies h.o d.kg).setV v, (hc.lies h.z d.zg).other _ _ d.zk, hr.other _ d.kg (d.a.ne d.k0), (h.c.trans hc).other d.k0 _, hm⟩
theorem Opn.num (h : Opn w0 w g z k ao c l S U u) (d : Side w0 g z k ao) (hc : Chg g w w') (hr : Rdr w' g ao c l S') (v : Int) (hm : S'.e = 0 → { u with num := v } = U') : Opn w0 (w'.setCell ⟨k, 4, none⟩ (.int .i64 v)) g z k ao c l S' U' { u with num := v } :=
  ⟨(hc.lies h.o d.kg).setN v, (hc.lies h.z d.zg).other _ _ d.zk, hr.other _ d.kg (d.a.ne d.k0), (h.c.trans hc).other d.k0 _, hm⟩
theorem Opn.ref (h : Opn w0 w g z k ao c l S U u) (d : Side w0 g z k ao) (hc : Chg g w w') (hr : Rdr w' g ao c l S') (r n : Int) (hm : S'.e = 0 → { u with rr := r, rn := n } = U') : Opn w0 (w'.setCells k 5 (dotc r n).toList) g z k ao c l S' U' { u with rr := r, rn := n } :=
  ⟨(hc.lies h.o d.kg).setR r n, (hc.lies h.z d.zg).otherD _ _ _ _ d.zk, (hr.other (j := 5) _ d.kg (d.a.ne d.k0)).other (j := 6) _ d.kg (d.a.ne d.k0), ((h.c.trans hc).other (j := 5) d.k0 _).other (j := 6) d.k0 _, hm⟩
end

/-- An operation that was read. -/
def GotO (w : World) (g : Nat) (ao : Option Addr) (c : Nat) (l : List UInt8) (s : Rd) (e : Ending) (w' : World) : Prop :=
  ∃ u : Ev, e = .returned (.agg (opc u)) ∧ Rdr w' g ao c l (t11 s).2 ∧ ((t11 s).2.e = 0 → u = U11 s) ∧ Chg g w w'

theorem opn_start {w0 w1 : World} {g : Nat} {ao : Option Addr} {c : Nat} {l : List UInt8} {s : Rd} {x : Int} (hg : g < w0.heap.size) (ha : Ahead ao w0.heap.size) (hc : Chg g (w0.alloc (.cells (opc zop) 28)) w1) (hr : Rdr w1 g ao c l (k5 s).2) (hx : (k5 s).2.e = 0 → x = (k5 s).1) :
    Opn w0 ((w1.alloc (.cells (opc zop) 28)).setRow w1.heap.size (opc { zop with kind := x })) g w0.heap.size w1.heap.size ao c l (k5 s).2 (U5 s) { zop with kind := x } ∧ Side w0 g w0.heap.size w1.heap.size ao := by
  have h1 := hc.size
  simp only [World.size_alloc] at h1
  have hz := hc.lies (liesO_new w0 zop) (by omega)
  refine ⟨⟨(liesO_new w1 zop).row _, (hz.alloc _).rowOther _ (by omega), (hr.alloc _).row _ (by omega) (ha.ne (by omega)), (((Chg.refl g w0).alloc _).trans hc |>.alloc _).row (by omega) _, fun h => by rw [hx h]; rfl⟩, ⟨by omega, by omega, by omega, ha, by omega⟩⟩

set_option maxHeartbeats 4000000 in
theorem gop_any (g : Nat) (ao : Option Addr) (c : Nat) (l : List UInt8) (s : Rd) (w : World) (h : Rdr w g ao c l s) (ha : Ahead ao w.heap.size) :
    Calls Try.prog 72 #[.pointer (some ⟨g, 0, none⟩)] w fun e w' => GotO w g ao c l s e w' := by
  have hg := h.lt
  have HG : Hid _ := gkind_any g ao c l s _ (h.alloc (.cells (opc zop) 28))
  have HA : Hid (Ahead ao w.heap.size) := ha
  clear h ha
  go_enter Try.func72, Try.ntmps72
  go_wp2_with fail
  refine Calls.mono HG.out ?_
  rintro e w1 ⟨x, rfl, hr, hx, hc⟩
  obtain ⟨h5, d⟩ := opn_start hg HA.out hc hr hx
  have hn := liesO_new w1 zop
  have HT : Hid _ := gtext_any g ao c l _ _ h5.r
  clear hr hx hc HG
  have H5 : Hid (Opn w _ g w.heap.size w1.heap.size ao c l (k5 s).2 (U5 s) { zop with kind := x }) := h5
  have HD : Hid (Side w g w.heap.size w1.heap.size ao) := d
  clear h5 d
  go_wp2_with (refine store_op (e := { zop with kind := x }) rfl rfl rfl rfl hn ?_)
  refine Calls.mono HT.out ?_
  rintro e w2 ⟨v, rfl, hr, hv, hc⟩
  have H6 : Hid (Opn w _ g w.heap.size w1.heap.size ao c l (t6 s).2 (U6 s) _) := H5.out.key HD.out hc hr v fun h => by rw [H5.out.m (rdT_ok h).1, hv h]; rfl
  have hO := hc.lies H5.out.o HD.out.kg
  have d0 := hO.c0
  have d1 := hO.c1
  have f1 := hO.frozen (k := 1)
  clear hr hv hc hn hO H5 HT
  generalize w1.heap.size = k at *
  generalize hzz : w.heap.size = z at *
  have HZ : Hid _ := hzz
  clear hzz
  go_wp2_with fail
  refine (usesfield_any _ _).mono ?_
  rintro e' w3 ⟨rfl, hw⟩
  obtain ⟨u, hS, hk⟩ : ∃ u : Ev, Opn w w3 g z k ao c l (t6 s).2 (U6 s) u ∧ u.kind = x := ⟨_, by rw [hw]; exact H6.out, rfl⟩
  clear hw H6 d0 d1 f1
  rw [← hk]
  clear hk
  go_upto_if 12 with (fail)
  go_cut [] from 4 (fun w' => ∃ u' : Ev, Opn w w' g z k ao c l (t7 s).2 (U7 s) u')
  case first =>
    rcases Bool.eq_false_or_eq_true (usesF u.kind) with hu | hu
    · have he := st7_t hS.m hu
      have HT : Hid _ := gtext_any g ao c l _ _ hS.r
      rw [he] at HT
      have H0 : Hid (Opn w w3 g z k ao c l (t6 s).2 _ u) := hS
      rw [hu]
      clear hu he hS
      go_wp2_with fail
      refine Calls.mono HT.out ?_
      rintro e' w4 ⟨v, rfl, hr, hv, hc⟩
      have HN : Hid (∃ u' : Ev, Opn w _ g z k ao c l (t7 s).2 (U7 s) u') := ⟨_, H0.out.field HD.out hc hr v (st7_m H0.out.m hv)⟩
      have hO := hc.lies H0.out.o HD.out.kg
      have d1 := hO.c2
      have f1 := hO.frozen (k := 2)
      clear hr hv hc hO H0 HT
      go_wp2
      go_meet
      case rel => exact HN.out
    · have he := st7_f hS.m hu
      have HN : Hid (∃ u' : Ev, Opn w w3 g z k ao c l (t7 s).2 (U7 s) u') := ⟨u, hS.o, hS.z, by rw [he]; exact hS.r, hS.c, st7_n hS.m he⟩
      rw [hu]
      clear hu he hS
      go_wp2
      go_meet
      case rel => exact HN.out
  case rest =>
  clear hS u
  rename World => w4
  obtain ⟨u, hS⟩ := hcut
  have c0 := hS.o.c0
  go_wp2_with fail
  refine (usesvalue_any _ _).mono ?_
  rintro e' w' ⟨rfl, hw⟩
  obtain rfl := hw.symm
  clear c0
  go_upto_if 18 with (fail)
  go_cut [] from 4 (fun w' => ∃ u' : Ev, Opn w w' g z k ao c l (t8 s).2 (U8 s) u')
  case first =>
    rcases Bool.eq_false_or_eq_true (usesV u.kind) with hu | hu
    · have he := st8_t hS.m hu
      have HT : Hid _ := gtext_any g ao c l _ _ hS.r
      rw [he] at HT
      have H0 : Hid (Opn w w4 g z k ao c l (t7 s).2 _ u) := hS
      rw [hu]
      clear hu he hS
      go_wp2_with fail
      refine Calls.mono HT.out ?_
      rintro e' w5 ⟨v, rfl, hr, hv, hc⟩
      have HN : Hid (∃ u' : Ev, Opn w _ g z k ao c l (t8 s).2 (U8 s) u') := ⟨_, H0.out.value HD.out hc hr v (st8_m H0.out.m hv)⟩
      have hO := hc.lies H0.out.o HD.out.kg
      have d1 := hO.c3
      have f1 := hO.frozen (k := 3)
      clear hr hv hc hO H0 HT
      go_wp2
      go_meet
      case rel => exact HN.out
    · have he := st8_f hS.m hu
      have HN : Hid (∃ u' : Ev, Opn w w4 g z k ao c l (t8 s).2 (U8 s) u') := ⟨u, hS.o, hS.z, by rw [he]; exact hS.r, hS.c, st8_n hS.m he⟩
      rw [hu]
      clear hu he hS
      go_wp2
      go_meet
      case rel => exact HN.out
  case rest =>
  clear hS u
  rename World => w5
  obtain ⟨u, hS⟩ := hcut
  have c0 := hS.o.c0
  go_wp2_with fail
  refine (usesnum_any _ _).mono ?_
  rintro e' w' ⟨rfl, hw⟩
  obtain rfl := hw.symm
  clear c0
  go_upto_if 24 with (fail)
  go_cut [] from 4 (fun w' => ∃ u' : Ev, Opn w w' g z k ao c l (t9 s).2 (U9 s) u')
  case first =>
    rcases Bool.eq_false_or_eq_true (usesN u.kind) with hu | hu
    · have he := st9_t hS.m hu
      have HT : Hid _ := gsigned_any g ao c l _ _ hS.r
      rw [he] at HT
      have H0 : Hid (Opn w w5 g z k ao c l (t8 s).2 _ u) := hS
      rw [hu]
      clear hu he hS
      go_wp2_with fail
      refine Calls.mono HT.out ?_
      rintro e' w6 ⟨v, rfl, hr, hv, hc⟩
      have HN : Hid (∃ u' : Ev, Opn w _ g z k ao c l (t9 s).2 (U9 s) u') := ⟨_, H0.out.num HD.out hc hr v (st9_m H0.out.m hv)⟩
      have hO := hc.lies H0.out.o HD.out.kg
      have d1 := hO.c4
      have f1 := hO.frozen (k := 4)
      clear hr hv hc hO H0 HT
      go_wp2
      go_meet
      case rel => exact HN.out
    · have he := st9_f hS.m hu
      have HN : Hid (∃ u' : Ev, Opn w w5 g z k ao c l (t9 s).2 (U9 s) u') := ⟨u, hS.o, hS.z, by rw [he]; exact hS.r, hS.c, st9_n hS.m he⟩
      rw [hu]
      clear hu he hS
      go_wp2
      go_meet
      case rel => exact HN.out
  case rest =>
  clear hS u
  rename World => w6
  obtain ⟨u, hS⟩ := hcut
  have c0 := hS.o.c0
  go_wp2_with fail
  refine (usesref_any _ _).mono ?_
  rintro e' w' ⟨rfl, hw⟩
  obtain rfl := hw.symm
  clear c0
  go_upto_if 30 with (fail)
  go_cut [] from 4 (fun w' => ∃ u' : Ev, Opn w w' g z k ao c l (t11 s).2 (U11 s) u')
  case first =>
    rcases Bool.eq_false_or_eq_true (usesR u.kind) with hu | hu
    · have he := st10_t hS.m hu
      have he2 := st11_t hS.m hu
      have hz := HZ.out
      have HT : Hid _ := gdot_any g ao c l _ _ hS.r (fun ad had => Nat.lt_of_lt_of_le (HA.out ad had) (by have := hS.c.size; omega))
      have H0 : Hid (Opn w w6 g z k ao c l (t9 s).2 _ u) := hS
      have HE : Hid _ := he
      have HF : Hid _ := he2
      rw [hu]
      clear hu he he2 hS hz
      go_wp2_with fail
      refine Calls.mono HT.out ?_
      rintro e' w7 ⟨r, n, rfl, hr, hv, hc⟩
      rw [HE.out, HF.out] at hr hv
      have HN : Hid (∃ u' : Ev, Opn w _ g z k ao c l (t11 s).2 (U11 s) u') := ⟨_, H0.out.ref HD.out hc hr r n (st11_m H0.out.m hv)⟩
      have hO := hc.lies H0.out.o HD.out.kg
      have t5 := hO.thereR
      clear hr hv hc hO H0 HT
      go_wp2_with (refine store_dot_at rfl rfl rfl rfl t5 ?_)
      go_meet
      case rel => exact HN.out
    · have he := st11_f hS.m hu
      have HN : Hid (∃ u' : Ev, Opn w w6 g z k ao c l (t11 s).2 (U11 s) u') := ⟨u, hS.o, hS.z, by rw [he.2]; exact hS.r, hS.c, st11_n hS.m he⟩
      rw [hu]
      clear hu he hS
      go_wp2
      go_meet
      case rel => exact HN.out
  case rest =>
  clear hS u
  rename World => w7
  obtain ⟨u, hS⟩ := hcut
  go_wp2_with (first | refine load_op rfl rfl rfl hS.o ?_ | refine store_op rfl rfl rfl rfl hS.z ?_)
  refine ret_op rfl rfl rfl (hS.z.row _) ?_
  have hz := HZ.out
  exact ⟨u, rfl, hS.r.row _ HD.out.zg (HA.out.ne (by omega)), hS.m, hS.c.row (by omega) _⟩
end Go.Proofs.Ythdhnilfkpbmpaa
