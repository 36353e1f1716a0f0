/-
  What rightTexts and onlyUsed come to.
-/
import Derived.Test.YthlebgioamcioabGreatQ23
import Derived.Test.YthlebgioamcioabGreatQ36
import Derived.Laws.Cover1
import Derived.Deep.Cut
namespace Go.Proofs.YthlebgioamcioabGreat
set_option maxRecDepth 100000
open Go.RowKit

def textsE (e : Ev) : Bool := decide (e.key.length ≤ 64 ∧ e.field.length ≤ 64 ∧ e.value.length ≤ 64)

theorem run_max3 (w : World) (x y z : Int) : (Builtin.max_ #[3, 3, 3] 3 #[.int .i64 x, .int .i64 y, .int .i64 z]).run Tryz.prog w = .ok (.int .i64 (max (max x y) z)) w := by
  rw [run_max_int3]
  congr 2
  repeat' split
  all_goals omega

theorem boxedO (w : World) (e : Ev) : LiesO (w.alloc (.cells (opc e) 27)) w.heap.size e ∧ Below w.heap.size w (w.alloc (.cells (opc e) 27)) :=
  ⟨liesO_new w e, (Below.refl _ _).alloc (Nat.le_refl _) _⟩

set_option maxHeartbeats 400000 in
theorem righttexts_any (e : Ev) (w : World) (hk : e.key.length ≤ 9223372036854775807) (hf : e.field.length ≤ 9223372036854775807) (hv : e.value.length ≤ 9223372036854775807) :
    Calls Tryz.prog 168 #[.agg (opc e)] w fun e' w' => e' = .returned (.bool (textsE e)) ∧ Below w.heap.size w w' := by
  obtain ⟨hO, hB⟩ := boxedO w e
  have c1 := hO.c1
  have c2 := hO.c2
  have c3 := hO.c3
  clear hO
  have HB : Hid (Below w.heap.size w (w.alloc (.cells (opc e) 27))) := hB
  clear hB
  have s1 := sb_size e.key
  have s2 := sb_size e.field
  have s3 := sb_size e.value
  have HR : Hid (∀ b : Bool, (b = true ↔ (sb e.key).size ≤ 64 ∧ (sb e.field).size ≤ 64 ∧ (sb e.value).size ≤ 64) → b = textsE e) := by
    intro b hb
    rw [s1, s2, s3] at hb
    rw [Bool.eq_iff_iff, hb, textsE, decide_eq_true_iff]
  rw [← s1] at hk
  rw [← s2] at hf
  rw [← s3] at hv
  clear s1 s2 s3
  generalize textsE e = R at *
  generalize sb e.key = K at *
  generalize sb e.field = F at *
  generalize sb e.value = V at *
  go_enter Tryz.func168, Tryz.ntmps168
  have hm := fun W : World => run_max3 W K.size F.size V.size
  go_wp2
  go_ret
  refine ⟨congrArg (fun b => Ending.returned (.bool b)) (HR.out _ ?_), HB.out⟩
  simp only [decide_eq_true_iff]
  omega

/-! A part of an operation is laid. -/
section
variable {w : World} {g : Nat} {e : Ev}
theorem LiesO.setK (h : LiesO w g e) (s : List UInt8) : LiesO (w.setCell ⟨g, 1, none⟩ (.string (sb s))) g { e with key := s } := by
  rw [LiesO, heap_setCell_same w g 1 _ _ _ h]; rfl
theorem LiesO.setF (h : LiesO w g e) (s : List UInt8) : LiesO (w.setCell ⟨g, 2, none⟩ (.string (sb s))) g { e with field := s } := by
  rw [LiesO, heap_setCell_same w g 2 _ _ _ h]; rfl
theorem LiesO.setV (h : LiesO w g e) (s : List UInt8) : LiesO (w.setCell ⟨g, 3, none⟩ (.string (sb s))) g { e with value := s } := by
  rw [LiesO, heap_setCell_same w g 3 _ _ _ h]; rfl
theorem LiesO.setN (h : LiesO w g e) (n : Int) : LiesO (w.setCell ⟨g, 4, none⟩ (.int .i64 n)) g { e with num := n } := by
  rw [LiesO, heap_setCell_same w g 4 _ _ _ h]; rfl
theorem LiesO.setR (h : LiesO w g e) (r n : Int) : LiesO (w.setCells g 5 (dotc r n).toList) g { e with rr := r, rn := n } := by
  have h1 : (w.setCell ⟨g, 5, none⟩ (.int .i64 r)).heap[g]? = some (.cells (opc { e with rr := r }) 27 (0, 0)) := by
    rw [heap_setCell_same w g 5 _ _ _ h]; rfl
  show ((w.setCell ⟨g, 5, none⟩ (.int .i64 r)).setCell ⟨g, 6, none⟩ (.int .i64 n)).heap[g]? = _
  rw [heap_setCell_same _ g 6 _ _ _ h1]; rfl
theorem LiesO.other (h : LiesO w g e) (ad : Addr) (v : Value) (hg : g ≠ ad.block) : LiesO (w.setCell ad v) g e := by
  rw [LiesO, heap_setCell_other w ad g v hg]; exact h
theorem LiesO.otherD (h : LiesO w g e) (k o : Nat) (r n : Int) (hg : g ≠ k) : LiesO (w.setCells k o (dotc r n).toList) g e :=
  ((h.other ⟨k, o, none⟩ _ hg).other ⟨k, o + 1, none⟩ _ hg)
theorem LiesO.thereR (h : LiesO w g e) : w.there g 5 2 := fun j hj => by
  refine ⟨?_, h.frozen⟩
  rw [h.co]
  match j, hj with
  | 0, _ => rfl
  | 1, _ => rfl
theorem below_setCells2 {B g o : Nat} {a w : World} (h : Below B a w) (hg : B ≤ g) (r n : Int) : Below B a (w.setCells g o (dotc r n).toList) :=
  (h.setCell (p := ⟨g, o, none⟩) hg _).setCell (p := ⟨g, o + 1, none⟩) hg _
end
theorem ret_op {fn : Func} {R : Ending → World → Prop} {a : Act} {w : World} {p : Tmp} {g : Nat} {e : Ev} (h : fn.results = #[.cell p 27]) (hp : a.tmps.getD p undef = .pointer (some ⟨g, 0, none⟩))
    (hd : a.defers = []) (hg : LiesO w g e) (hR : R (.returned (.agg (opc e))) w) : bodyPost Tryz.prog fn R .ret a w :=
  bodyPost_ret (results_cell_row h a.tmps w g 27 _ (0, 0) _ hp hg Tryz.underlying27 rfl (size7 e)) hd hR

/-- An operation without what it doesn't use, part by part. -/
def part1 (e : Ev) : Ev := { e with field := [], value := [], num := 0, rr := 0, rn := 0 }
def part2 (e : Ev) : Ev := { part1 e with field := if usesF e.kind then e.field else [] }
def part3 (e : Ev) : Ev := { part2 e with value := if usesV e.kind then e.value else [] }
def part4 (e : Ev) : Ev := { part3 e with num := if usesN e.kind then e.num else 0 }
def used (e : Ev) : Ev := { part4 e with rr := if usesR e.kind then e.rr else 0, rn := if usesR e.kind then e.rn else 0 }
def zop : Ev := ⟨0, 0, 0, [], 0, [], [], [], 0, 0, 0⟩

theorem zop_cells : opc zop = #[.int .i64 0, .string ⟨#[]⟩, .string ⟨#[]⟩, .string ⟨#[]⟩, .int .i64 0, .int .i64 0, .int .i64 0] := rfl
theorem boxedO3 (w : World) (e : Ev) :
    LiesO (((w.alloc (.cells (opc e) 27)).alloc (.cells (opc zop) 27)).alloc (.cells (opc zop) 27)) w.heap.size e ∧
    LiesO (((w.alloc (.cells (opc e) 27)).alloc (.cells (opc zop) 27)).alloc (.cells (opc zop) 27)) (w.heap.size + 1) zop ∧
    LiesO (((w.alloc (.cells (opc e) 27)).alloc (.cells (opc zop) 27)).alloc (.cells (opc zop) 27)) (w.heap.size + 1 + 1) zop ∧
    Below w.heap.size w (((w.alloc (.cells (opc e) 27)).alloc (.cells (opc zop) 27)).alloc (.cells (opc zop) 27)) := by
  refine ⟨((liesO_new w e).alloc _).alloc _, ?_, ?_, (((Below.refl _ _).alloc (Nat.le_refl _) _).alloc (by simp) _).alloc (by simp; omega) _⟩
  · have := (liesO_new (w.alloc (.cells (opc e) 27)) zop).alloc (.cells (opc zop) 27)
    simpa using this
  · have := liesO_new ((w.alloc (.cells (opc e) 27)).alloc (.cells (opc zop) 27)) zop
    simpa using this

/-- Where onlyUsed stands: its argument, its result's place, what it makes. -/
structure Usd (w0 w : World) (e u : Ev) : Prop where
  o : LiesO w w0.heap.size e
  z : LiesO w (w0.heap.size + 1) zop
  u : LiesO w (w0.heap.size + 1 + 1) u
  b : Below w0.heap.size w0 w

theorem Usd.setF {w0 w : World} {e u : Ev} (h : Usd w0 w e u) (s : List UInt8) : Usd w0 (w.setCell ⟨w0.heap.size + 1 + 1, 2, none⟩ (.string (sb s))) e { u with field := s } :=
  ⟨h.o.other _ _ (by simp; omega), h.z.other _ _ (by simp), h.u.setF s, h.b.setCell (by simp; omega) _⟩
theorem Usd.setV {w0 w : World} {e u : Ev} (h : Usd w0 w e u) (s : List UInt8) : Usd w0 (w.setCell ⟨w0.heap.size + 1 + 1, 3, none⟩ (.string (sb s))) e { u with value := s } :=
  ⟨h.o.other _ _ (by simp; omega), h.z.other _ _ (by simp), h.u.setV s, h.b.setCell (by simp; omega) _⟩
theorem Usd.setN {w0 w : World} {e u : Ev} (h : Usd w0 w e u) (n : Int) : Usd w0 (w.setCell ⟨w0.heap.size + 1 + 1, 4, none⟩ (.int .i64 n)) e { u with num := n } :=
  ⟨h.o.other _ _ (by simp; omega), h.z.other _ _ (by simp), h.u.setN n, h.b.setCell (by simp; omega) _⟩
theorem Usd.setR {w0 w : World} {e u : Ev} (h : Usd w0 w e u) (r n : Int) : Usd w0 (w.setCells (w0.heap.size + 1 + 1) 5 (dotc r n).toList) e { u with rr := r, rn := n } :=
  ⟨h.o.otherD _ _ _ _ (by omega), h.z.otherD _ _ _ _ (by omega), h.u.setR r n, below_setCells2 h.b (by omega) _ _⟩
theorem Usd.start (w : World) (e : Ev) : Usd w ((((w.alloc (.cells (opc e) 27)).alloc (.cells (opc zop) 27)).alloc (.cells (opc zop) 27)).setRow (w.heap.size + 1 + 1) (opc (part1 e))) e (part1 e) := by
  obtain ⟨h1, h2, h3, h4⟩ := boxedO3 w e
  exact ⟨h1.rowOther _ (by omega), h2.rowOther _ (by omega), h3.row _, below_setRow h4 (by omega) _⟩

theorem part2_t {e : Ev} (h : usesF e.kind = true) : { part1 e with field := e.field } = part2 e := by rw [part2, h]; rfl
theorem part2_f {e : Ev} (h : usesF e.kind = false) : part1 e = part2 e := by rw [part2, h]; rfl
theorem part3_t {e : Ev} (h : usesV e.kind = true) : { part2 e with value := e.value } = part3 e := by rw [part3, h]; rfl
theorem part3_f {e : Ev} (h : usesV e.kind = false) : part2 e = part3 e := by rw [part3, h]; rfl
theorem part4_t {e : Ev} (h : usesN e.kind = true) : { part3 e with num := e.num } = part4 e := by rw [part4, h]; rfl
theorem part4_f {e : Ev} (h : usesN e.kind = false) : part3 e = part4 e := by rw [part4, h]; rfl
theorem used_t {e : Ev} (h : usesR e.kind = true) : { part4 e with rr := e.rr, rn := e.rn } = used e := by rw [used, h]; rfl
theorem used_f {e : Ev} (h : usesR e.kind = false) : part4 e = used e := by rw [used, h]; rfl
theorem opc_get (e : Ev) : (opc e)[0]? = some (.int .i64 e.kind) ∧ (opc e)[1]? = some (.string (sb e.key)) ∧ (opc e)[2]? = some (.string (sb e.field)) ∧ (opc e)[3]? = some (.string (sb e.value)) ∧ (opc e)[4]? = some (.int .i64 e.num) ∧ (opc e)[5]? = some (.int .i64 e.rr) ∧ (opc e)[6]? = some (.int .i64 e.rn) := ⟨rfl, rfl, rfl, rfl, rfl, rfl, rfl⟩

set_option maxHeartbeats 1000000 in
theorem onlyused_any (e : Ev) (w : World) : Calls Tryz.prog 170 #[.agg (opc e)] w fun e' w' => e' = .returned (.agg (opc (used e))) ∧ Below w.heap.size w w' := by
  have hu := Usd.start w e
  obtain ⟨-, -, hz, -⟩ := boxedO3 w e
  obtain ⟨g0, g1, -⟩ := opc_get e
  have c0 := hu.o.c0
  rw [zop_cells] at c0
  go_enter Tryz.func170, Tryz.ntmps170
  go_wp2_with (refine store_op (e := part1 e) rfl rfl rfl rfl hz ?_)
  refine (usesfield_any _ _).mono ?_
  rintro e' w1 ⟨rfl, hw⟩
  have hu1 : Usd w w1 e (part1 e) := by rw [hw]; exact hu
  clear hw c0 hu hz g0 g1
  go_upto_if 11 with (fail)
  go_cut [] from 4 (fun w' => Usd w w' e (part2 e))
  case first =>
    rcases Bool.eq_false_or_eq_true (usesF e.kind) with hk | hk
    · have hc := hu1.o.c2
      have hd := hu1.u.c2
      have hf := hu1.u.frozen (k := 2)
      have HU : Hid (Usd w _ e (part2 e)) := (part2_t hk) ▸ hu1.setF _
      rw [hk]
      clear hk hu1
      go_wp2
      go_meet
      case rel => exact HU.out
    · have HU : Hid (Usd w _ e (part2 e)) := (part2_f hk) ▸ hu1
      rw [hk]
      clear hk hu1
      go_wp2
      go_meet
      case rel => exact HU.out
  case rest =>
  rename World => w2
  have hu2 : Usd w w2 e (part2 e) := hcut
  clear hcut hu1
  have c0 := hu2.o.c0
  go_wp2_with fail
  refine (usesvalue_any _ _).mono ?_
  rintro e' w' ⟨rfl, hw⟩
  obtain rfl := hw.symm
  clear c0
  go_upto_if 17 with (fail)
  go_cut [] from 4 (fun w' => Usd w w' e (part3 e))
  case first =>
    rcases Bool.eq_false_or_eq_true (usesV e.kind) with hk | hk
    · have hc := hu2.o.c3
      have hd := hu2.u.c3
      have hf := hu2.u.frozen (k := 3)
      have HU : Hid (Usd w _ e (part3 e)) := (part3_t hk) ▸ hu2.setV _
      rw [hk]
      clear hk hu2
      go_wp2
      go_meet
      case rel => exact HU.out
    · have HU : Hid (Usd w _ e (part3 e)) := (part3_f hk) ▸ hu2
      rw [hk]
      clear hk hu2
      go_wp2
      go_meet
      case rel => exact HU.out
  case rest =>
  rename World => w3
  have hu3 : Usd w w3 e (part3 e) := hcut
  clear hcut hu2
  have c0 := hu3.o.c0
  go_wp2_with fail
  refine (usesnum_any _ _).mono ?_
  rintro e' w' ⟨rfl, hw⟩
  obtain rfl := hw.symm
  clear c0
  go_upto_if 23 with (fail)
  go_cut [] from 4 (fun w' => Usd w w' e (part4 e))
  case first =>
    rcases Bool.eq_false_or_eq_true (usesN e.kind) with hk | hk
    · have hc := hu3.o.c4
      have hd := hu3.u.c4
      have hf := hu3.u.frozen (k := 4)
      have HU : Hid (Usd w _ e (part4 e)) := (part4_t hk) ▸ hu3.setN _
      rw [hk]
      clear hk hu3
      go_wp2
      go_meet
      case rel => exact HU.out
    · have HU : Hid (Usd w _ e (part4 e)) := (part4_f hk) ▸ hu3
      rw [hk]
      clear hk hu3
      go_wp2
      go_meet
      case rel => exact HU.out
  case rest =>
  rename World => w4
  have hu4 : Usd w w4 e (part4 e) := hcut
  clear hcut hu3
  have c0 := hu4.o.c0
  go_wp2_with fail
  refine (usesref_any _ _).mono ?_
  rintro e' w' ⟨rfl, hw⟩
  obtain rfl := hw.symm
  clear c0
  go_upto_if 29 with (fail)
  go_cut [] from 4 (fun w' => Usd w w' e (used e))
  case first =>
    rcases Bool.eq_false_or_eq_true (usesR e.kind) with hk | hk
    · have r5 := hu4.o.ref
      have t5 := hu4.u.thereR
      have HU : Hid (Usd w _ e (used e)) := (used_t hk) ▸ hu4.setR _ _
      rw [hk]
      clear hk hu4
      go_wp2_with (first | refine load_dot_at rfl rfl rfl r5 ?_ | refine store_dot_at rfl rfl rfl rfl t5 ?_)
      go_meet
      case rel => exact HU.out
    · have HU : Hid (Usd w _ e (used e)) := (used_f hk) ▸ hu4
      rw [hk]
      clear hk hu4
      go_wp2
      go_meet
      case rel => exact HU.out
  case rest =>
  rename World => w5
  have hu5 : Usd w w5 e (used e) := hcut
  clear hcut hu4
  go_wp2_with (first | refine load_op rfl rfl rfl hu5.u ?_ | refine store_op rfl rfl rfl rfl hu5.z ?_)
  exact ret_op rfl rfl rfl (hu5.z.row _) ⟨rfl, below_setRow hu5.b (by omega) _⟩
end Go.Proofs.YthlebgioamcioabGreat

/-
  What putOp comes to: the bytes, and behind them an operation's. (Written by genpop.py.)
-/
namespace Go.Proofs.YthlebgioamcioabGreat
set_option maxRecDepth 100000
open Go.RowKit

theorem tm_le {s : List UInt8} (h : s.length ≤ 64) : (tm s).length ≤ 74 := by
  have := Vq.wd_le s.length
  rw [tm, List.length_append, Vq.num_length]; omega
theorem im_le (x : Int) : (im x).length ≤ 10 := by rw [im, Vq.num_length]; exact Vq.wd_le _
theorem opt_le {c : Bool} {s : List UInt8} {k : Nat} (h : s.length ≤ k) : (opt c s).length ≤ k := by
  unfold opt; split
  · exact h
  · simp
theorem puttext_out (ao : Option Addr) (c : Nat) (l s : List UInt8) (w : World) (hb : Bytes w ao l.length c l) (hm : l.length ≤ 1000000) (hs : s.length ≤ 64) :
    Calls Tryz.prog 120 #[.slice ao l.length c, .string (sb s)] w fun e w' => Out w w' e (l ++ tm s) := by
  have h := sb_size s
  refine (puttext_any ao l.length c l (sb s) w hb (by omega) (by omega)).mono ?_
  rintro e w' ⟨g, cap, rfl, ho, hb', hc⟩
  have e1 : l ++ tm s = l ++ Vq.num (sb s).size ++ (sb s).data.toList := by rw [h, data_sb, tm, List.append_assoc]
  have e2 : (l ++ tm s).length = l.length + Vq.wd (sb s).size + (sb s).size := by rw [h, List.length_append, tm, List.length_append, Vq.num_length]; omega
  exact ⟨g, cap, by rw [e2], by rw [e2, e1]; exact Bytes.own ho, hc, hb'⟩
theorem putint_out (ao : Option Addr) (c : Nat) (l : List UInt8) (n : Int) (w : World) (hb : Bytes w ao l.length c l) (hm : l.length ≤ 1000000) (hn : I64 n) :
    Calls Tryz.prog 228 #[.slice ao l.length c, .int .i64 n] w fun e w' => Out w w' e (l ++ im n) := by
  refine (putint_any ao l.length c l n w hb (by omega) hn).mono ?_
  rintro e w' ⟨g, rfl, ho, hb'⟩
  have e2 : (l ++ im n).length = l.length + Vq.wd (zig n) := by rw [List.length_append, im, Vq.num_length]
  have hw := Vq.wd_le (zig n)
  exact ⟨g, _, by rw [e2], by rw [e2]; exact Bytes.own ho, small_cap (by omega), hb'⟩

/-- Where putOp stands: its bytes, its operation. -/
def Pst (B : Nat) (w0 w : World) (o : Nat) (e : Ev) (q : List UInt8) (s : Value) : Prop :=
  ∃ g c, s = .slice (some ⟨g, 0, none⟩) q.length c ∧ Bytes w (some ⟨g, 0, none⟩) q.length c q ∧ c ≤ maxLen ∧ LiesO w o e ∧ Below B w0 w

/-- An operation's bytes. -/
def opb (e : Ev) : List UInt8 := nm e.kind ++ (tm e.key ++ (opt (usesF e.kind) (tm e.field) ++ (opt (usesV e.kind) (tm e.value) ++ (opt (usesN e.kind) (im e.num) ++ opt (usesR e.kind) (nm e.rr ++ nm e.rn)))))
theorem opb_le {e : Ev} (h1 : e.key.length ≤ 64) (h2 : e.field.length ≤ 64) (h3 : e.value.length ≤ 64) : (opb e).length ≤ 300 := by
  have a1 := nm_le e.kind
  have a2 := tm_le h1
  have a3 := opt_le (c := usesF e.kind) (tm_le h2)
  have a4 := opt_le (c := usesV e.kind) (tm_le h3)
  have a5 := opt_le (c := usesN e.kind) (im_le e.num)
  have a6 := opt_le (c := usesR e.kind) (s := nm e.rr ++ nm e.rn) (k := 20) (by have := nm_le e.rr; have := nm_le e.rn; rw [List.length_append]; omega)
  simp only [opb, List.length_append]
  omega

set_option maxHeartbeats 4000000 in
theorem putop_any (ao : Option Addr) (c : Nat) (l : List UInt8) (e : Ev) (w : World) (hb : Bytes w ao l.length c l) (hm : l.length ≤ 1000) (hf : Fits e) :
    Calls Tryz.prog 184 #[.slice ao l.length c, .agg (opc e)] w fun e' w' => Out w w' e' (l ++ opb e) := by
  have hO := liesO_new w e
  have B0 : Below w.heap.size w (w.alloc (.cells (opc e) 27)) := (Below.refl _ _).alloc (Nat.le_refl _) _
  have HY : Hid (Bytes (w.alloc (.cells (opc e) 27)) ao l.length c l) := hb.below B0 (Nat.le_refl _)
  have H0 : Hid (Below w.heap.size w (w.alloc (.cells (opc e) 27))) := B0
  have HP : Hid (LiesO (w.alloc (.cells (opc e) 27)) w.heap.size e) := hO
  have nk : Nn e.kind := ⟨by have := hf.kind; omega, by have := hf.kind; omega⟩
  obtain ⟨q1, Q1⟩ : ∃ q, Hid (l ++ nm e.kind = q) := ⟨_, rfl⟩
  obtain ⟨q2, Q2⟩ : ∃ q, Hid (q1 ++ tm e.key = q) := ⟨_, rfl⟩
  obtain ⟨q3, Q3⟩ : ∃ q, Hid (q2 ++ opt (usesF e.kind) (tm e.field) = q) := ⟨_, rfl⟩
  obtain ⟨q4, Q4⟩ : ∃ q, Hid (q3 ++ opt (usesV e.kind) (tm e.value) = q) := ⟨_, rfl⟩
  obtain ⟨q5, Q5⟩ : ∃ q, Hid (q4 ++ opt (usesN e.kind) (im e.num) = q) := ⟨_, rfl⟩
  obtain ⟨q6, Q6⟩ : ∃ q, Hid (q5 ++ opt (usesR e.kind) (nm e.rr ++ nm e.rn) = q) := ⟨_, rfl⟩
  have Q7 : Hid (l ++ opb e = q6) := by
    show _ = _
    rw [← Q6.out, ← Q5.out, ← Q4.out, ← Q3.out, ← Q2.out, ← Q1.out, opb]
    simp only [List.append_assoc]
  have L1 : q1.length ≤ 1010 := by rw [← Q1.out, List.length_append]; have := nm_le e.kind; omega
  have L2 : q2.length ≤ 1100 := by rw [← Q2.out, List.length_append]; have := tm_le hf.key; omega
  have L3 : q3.length ≤ 1200 := by rw [← Q3.out, List.length_append]; have := opt_le (c := usesF e.kind) (tm_le hf.field.1); omega
  have L4 : q4.length ≤ 1300 := by rw [← Q4.out, List.length_append]; have := opt_le (c := usesV e.kind) (tm_le hf.value.1); omega
  have L5 : q5.length ≤ 1400 := by rw [← Q5.out, List.length_append]; have := opt_le (c := usesN e.kind) (im_le e.num); omega
  have K1 : Hid (∀ W ao c, Bytes W ao l.length c l → Calls Tryz.prog 183 #[.slice ao l.length c, .int .i64 e.kind] W fun e' w' => Out W w' e' q1) := fun W ao c h => by
    rw [← Q1.out]; exact putnumber_any ao c l e.kind W h (by omega) nk
  have K2 : Hid (∀ W ao c, Bytes W ao q1.length c q1 → Calls Tryz.prog 120 #[.slice ao q1.length c, .string (sb e.key)] W fun e' w' => Out W w' e' q2) := fun W ao c h => by
    rw [← Q2.out]; exact puttext_out ao c q1 e.key W h (by omega) hf.key
  have K3 : Hid (usesF e.kind = true → ∀ W ao c, Bytes W ao q2.length c q2 → Calls Tryz.prog 120 #[.slice ao q2.length c, .string (sb e.field)] W fun e' w' => Out W w' e' q3) := fun hu W ao c h => by
    rw [← Q3.out, hu]; exact puttext_out ao c q2 e.field W h (by omega) hf.field.1
  have K4 : Hid (usesV e.kind = true → ∀ W ao c, Bytes W ao q3.length c q3 → Calls Tryz.prog 120 #[.slice ao q3.length c, .string (sb e.value)] W fun e' w' => Out W w' e' q4) := fun hu W ao c h => by
    rw [← Q4.out, hu]; exact puttext_out ao c q3 e.value W h (by omega) hf.value.1
  have K5 : Hid (usesN e.kind = true → ∀ W ao c, Bytes W ao q4.length c q4 → Calls Tryz.prog 228 #[.slice ao q4.length c, .int .i64 e.num] W fun e' w' => Out W w' e' q5) := fun hu W ao c h => by
    rw [← Q5.out, hu]; exact putint_out ao c q4 e.num W h (by omega) hf.num.1
  have K6 : Hid (usesR e.kind = true → ∀ W ao c, Bytes W ao q5.length c q5 → Calls Tryz.prog 182 #[.slice ao q5.length c, .agg (dotc e.rr e.rn)] W fun e' w' => Out W w' e' q6) := fun hu W ao c h => by
    rw [← Q6.out, hu]
    show Calls _ _ _ _ fun e' w' => Out W w' e' (q5 ++ (nm e.rr ++ nm e.rn))
    rw [← List.append_assoc]
    exact putdot_any ao c q5 e.rr e.rn W h (by omega) hf.ref.1 hf.ref.2.1
  have N3 : Hid (usesF e.kind = false → q2 = q3) := fun hu => by rw [← Q3.out, hu]; simp [opt]
  have N4 : Hid (usesV e.kind = false → q3 = q4) := fun hu => by rw [← Q4.out, hu]; simp [opt]
  have N5 : Hid (usesN e.kind = false → q4 = q5) := fun hu => by rw [← Q5.out, hu]; simp [opt]
  have N6 : Hid (usesR e.kind = false → q5 = q6) := fun hu => by rw [← Q6.out, hu]; simp [opt]
  clear hb B0 hf nk hm L1 L2 L3 L4 L5 hO Q1 Q2 Q3 Q4 Q5 Q6
  rw [Q7.out]
  have c0 := HP.out.c0
  go_enter Tryz.func184, Tryz.ntmps184
  go_wp2_with fail
  refine Calls.mono (K1.out _ _ _ HY.out) ?_
  rintro e1 w1 ⟨g1, c1, rfl, b1, m1, hb1⟩
  have P1 : LiesO w1 w.heap.size e := HP.out.below hb1 HP.out.lt
  have H1 : Hid (Below w.heap.size w w1) := H0.out.trans (hb1.mono H0.out.size)
  have Y1 : Hid _ := b1
  clear c0 HP H0 HY b1 hb1 m1
  have c0 := P1.c0
  have d1 := P1.c1
  go_wp2_with fail
  refine Calls.mono (K2.out _ _ _ Y1.out) ?_
  rintro e2 w2 ⟨g2, c2, rfl, b2, m2, hb2⟩
  have P2 : LiesO w2 w.heap.size e := P1.below hb2 P1.lt
  have H2 : Hid (Below w.heap.size w w2) := H1.out.trans (hb2.mono H1.out.size)
  have Y2 : Hid _ := b2
  have M2 : Hid _ := m2
  clear c0 d1 P1 H1 Y1 b2 hb2 m2
  have c0 := P2.c0
  go_wp2_with fail
  refine (usesfield_any _ _).mono ?_
  rintro e' w' ⟨rfl, hw⟩
  obtain rfl := hw.symm
  clear c0
  go_upto_if 15 with (fail)
  have S2 : Pst w.heap.size w w2 w.heap.size e q2 (.slice (some ⟨g2, 0, none⟩) q2.length c2) := ⟨g2, c2, rfl, Y2.out, M2.out, P2, H2.out⟩
  go_cut [0] from 5 (fun s0 w' => Pst w.heap.size w w' w.heap.size e q3 s0)
  case first =>
    rcases Bool.eq_false_or_eq_true (usesF e.kind) with hu | hu
    · have d1 := P2.c2
      have KK : Hid _ := K3.out hu
      rw [hu]
      clear hu
      go_wp2_with (fail)
      refine Calls.mono (KK.out _ _ _ Y2.out) ?_
      rintro e3 w3 ⟨g3, c3, rfl, b3, m3, hb3⟩
      have S3 : Hid (Pst w.heap.size w w3 w.heap.size e q3 (.slice (some ⟨g3, 0, none⟩) q3.length c3)) := ⟨g3, c3, rfl, b3, m3, P2.below hb3 P2.lt, H2.out.trans (hb3.mono H2.out.size)⟩
      clear d1 b3 m3 hb3 S2 P2
      go_wp2
      go_meet
      case rel => exact S3.out
    · have SS : Hid (Pst w.heap.size w w2 w.heap.size e q3 (.slice (some ⟨g2, 0, none⟩) q2.length c2)) := by
        rw [← N3.out hu]; exact S2
      rw [hu]
      clear hu S2 P2
      go_wp2
      go_meet
      case rel => exact SS.out
  case rest =>
  rename World => w3
  obtain ⟨g3, c3, rfl, b3, m3, P3, hb3⟩ := hcut
  have H3 : Hid (Below w.heap.size w w3) := hb3
  have Y3 : Hid _ := b3
  have M3 : Hid _ := m3
  clear b3 m3 hb3 S2 P2 H2 Y2 M2
  have c0 := P3.c0
  go_wp2_with fail
  refine (usesvalue_any _ _).mono ?_
  rintro e' w' ⟨rfl, hw⟩
  obtain rfl := hw.symm
  clear c0
  go_upto_if 22 with (fail)
  have S3 : Pst w.heap.size w w3 w.heap.size e q3 (.slice (some ⟨g3, 0, none⟩) q3.length c3) := ⟨g3, c3, rfl, Y3.out, M3.out, P3, H3.out⟩
  go_cut [0] from 5 (fun s0 w' => Pst w.heap.size w w' w.heap.size e q4 s0)
  case first =>
    rcases Bool.eq_false_or_eq_true (usesV e.kind) with hu | hu
    · have d1 := P3.c3
      have KK : Hid _ := K4.out hu
      rw [hu]
      clear hu
      go_wp2_with (fail)
      refine Calls.mono (KK.out _ _ _ Y3.out) ?_
      rintro e4 w4 ⟨g4, c4, rfl, b4, m4, hb4⟩
      have S4 : Hid (Pst w.heap.size w w4 w.heap.size e q4 (.slice (some ⟨g4, 0, none⟩) q4.length c4)) := ⟨g4, c4, rfl, b4, m4, P3.below hb4 P3.lt, H3.out.trans (hb4.mono H3.out.size)⟩
      clear d1 b4 m4 hb4 S3 P3
      go_wp2
      go_meet
      case rel => exact S4.out
    · have SS : Hid (Pst w.heap.size w w3 w.heap.size e q4 (.slice (some ⟨g3, 0, none⟩) q3.length c3)) := by
        rw [← N4.out hu]; exact S3
      rw [hu]
      clear hu S3 P3
      go_wp2
      go_meet
      case rel => exact SS.out
  case rest =>
  rename World => w4
  obtain ⟨g4, c4, rfl, b4, m4, P4, hb4⟩ := hcut
  have H4 : Hid (Below w.heap.size w w4) := hb4
  have Y4 : Hid _ := b4
  have M4 : Hid _ := m4
  clear b4 m4 hb4 S3 P3 H3 Y3 M3
  have c0 := P4.c0
  go_wp2_with fail
  refine (usesnum_any _ _).mono ?_
  rintro e' w' ⟨rfl, hw⟩
  obtain rfl := hw.symm
  clear c0
  go_upto_if 29 with (fail)
  have S4 : Pst w.heap.size w w4 w.heap.size e q4 (.slice (some ⟨g4, 0, none⟩) q4.length c4) := ⟨g4, c4, rfl, Y4.out, M4.out, P4, H4.out⟩
  go_cut [0] from 5 (fun s0 w' => Pst w.heap.size w w' w.heap.size e q5 s0)
  case first =>
    rcases Bool.eq_false_or_eq_true (usesN e.kind) with hu | hu
    · have d1 := P4.c4
      have KK : Hid _ := K5.out hu
      rw [hu]
      clear hu
      go_wp2_with (fail)
      refine Calls.mono (KK.out _ _ _ Y4.out) ?_
      rintro e5 w5 ⟨g5, c5, rfl, b5, m5, hb5⟩
      have S5 : Hid (Pst w.heap.size w w5 w.heap.size e q5 (.slice (some ⟨g5, 0, none⟩) q5.length c5)) := ⟨g5, c5, rfl, b5, m5, P4.below hb5 P4.lt, H4.out.trans (hb5.mono H4.out.size)⟩
      clear d1 b5 m5 hb5 S4 P4
      go_wp2
      go_meet
      case rel => exact S5.out
    · have SS : Hid (Pst w.heap.size w w4 w.heap.size e q5 (.slice (some ⟨g4, 0, none⟩) q4.length c4)) := by
        rw [← N5.out hu]; exact S4
      rw [hu]
      clear hu S4 P4
      go_wp2
      go_meet
      case rel => exact SS.out
  case rest =>
  rename World => w5
  obtain ⟨g5, c5, rfl, b5, m5, P5, hb5⟩ := hcut
  have H5 : Hid (Below w.heap.size w w5) := hb5
  have Y5 : Hid _ := b5
  have M5 : Hid _ := m5
  clear b5 m5 hb5 S4 P4 H4 Y4 M4
  have c0 := P5.c0
  go_wp2_with fail
  refine (usesref_any _ _).mono ?_
  rintro e' w' ⟨rfl, hw⟩
  obtain rfl := hw.symm
  clear c0
  go_upto_if 36 with (fail)
  have S5 : Pst w.heap.size w w5 w.heap.size e q5 (.slice (some ⟨g5, 0, none⟩) q5.length c5) := ⟨g5, c5, rfl, Y5.out, M5.out, P5, H5.out⟩
  go_cut [0] from 5 (fun s0 w' => Pst w.heap.size w w' w.heap.size e q6 s0)
  case first =>
    rcases Bool.eq_false_or_eq_true (usesR e.kind) with hu | hu
    · have d1 := P5.ref
      have KK : Hid _ := K6.out hu
      rw [hu]
      clear hu
      go_wp2_with (refine load_dot_at rfl rfl rfl d1 ?_)
      refine Calls.mono (KK.out _ _ _ Y5.out) ?_
      rintro e6 w6 ⟨g6, c6, rfl, b6, m6, hb6⟩
      have S6 : Hid (Pst w.heap.size w w6 w.heap.size e q6 (.slice (some ⟨g6, 0, none⟩) q6.length c6)) := ⟨g6, c6, rfl, b6, m6, P5.below hb6 P5.lt, H5.out.trans (hb6.mono H5.out.size)⟩
      clear d1 b6 m6 hb6 S5 P5
      go_wp2
      go_meet
      case rel => exact S6.out
    · have SS : Hid (Pst w.heap.size w w5 w.heap.size e q6 (.slice (some ⟨g5, 0, none⟩) q5.length c5)) := by
        rw [← N6.out hu]; exact S5
      rw [hu]
      clear hu S5 P5
      go_wp2
      go_meet
      case rel => exact SS.out
  case rest =>
  rename World => w6
  obtain ⟨g6, c6, rfl, b6, m6, P6, hb6⟩ := hcut
  have H6 : Hid (Below w.heap.size w w6) := hb6
  have Y6 : Hid _ := b6
  have M6 : Hid _ := m6
  clear b6 m6 hb6 S5 P5 H5 Y5 M5
  go_wp2
  go_ret
  exact ⟨g6, c6, rfl, Y6.out, M6.out, H6.out⟩
end Go.Proofs.YthlebgioamcioabGreat

