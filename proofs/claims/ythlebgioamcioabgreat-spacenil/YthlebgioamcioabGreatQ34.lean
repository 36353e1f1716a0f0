/-
  More of what calls come to: a text behind bytes, PutInt, and what Take tells where a number's bytes stand, whole or cut off. Asked: that the bytes are fewer than 2^47.
-/
import Derived.Test.YthlebgioamcioabGreatQ33
import Derived.Lib.AppendStr
namespace Go.Proofs.YthlebgioamcioabGreat
set_option maxRecDepth 100000
open Go.RowKit

/-- A text behind bytes of the call's own that fill their room: new memory, or nothing turns. -/
theorem run_append_full {base g n : Nat} {l : List UInt8} (w : World) (ty : TypeId) (s : ByteArray) (hown : w.ownsRow base 5 1 (.slice (some ⟨g, 0, none⟩) n n) n (bs l)) (hsz : n + s.size ≤ 140737488355328) (hbase : base ≤ w.heap.size) :
    ∃ g' cap w', (Builtin.append_ #[106, 9] ty #[.slice (some ⟨g, 0, none⟩) n n, .string s]).run Tryz.prog w = .ok (.slice (some ⟨g', 0, none⟩) (n + s.size) cap) w' ∧
      w'.ownsRow base 5 1 (.slice (some ⟨g', 0, none⟩) (n + s.size) cap) (n + s.size) (bs (l ++ s.data.toList)) ∧ Below w.heap.size w w' ∧ cap ≤ maxLen := by
  obtain ⟨i, hi, hz, hsize, hby⟩ := info_parts info5
  have hb : bs (l ++ s.data.toList) = bs l ++ Lib.strCells s := bs_append _ _
  have hxl : (bs l).length = n := by simpa using hown.1
  have hlen : (bs l ++ Lib.strCells s).length = (n + s.size) * 1 := by rw [List.length_append, hxl, Lib.strCells_length, Nat.mul_one]
  have hown' := hown
  rcases hown.2 with ⟨h, _⟩ | ⟨g', cap', cur, h, hbg, hg, hnc, hcm, hcs, htake⟩
  · cases h
  simp only [Value.slice.injEq, Option.some.injEq, Addr.mk.injEq, and_true, true_and] at h
  obtain ⟨rfl, rfl⟩ := h
  by_cases h0 : s.size = 0
  · have hcs' : cur.size = n := by simpa using hcs
    have hs : Lib.strCells s = [] := List.eq_nil_of_length_eq_zero (by rw [Lib.strCells_length]; exact h0)
    have hr := Lib.run_append_room_string (P := Tryz.prog) w 106 9 ty 5 i Tryz.underlying106 Tryz.underlying9 hi hsize g n n cur hg s (by omega) (by omega)
    have e : (cur.toList.take n ++ Lib.strCells s ++ cur.toList.drop (n + s.size)).toArray = cur := by
      rw [hs, h0, List.append_nil, Nat.add_zero, List.take_append_drop]
    rw [e] at hr
    have hgg := setRow_heap w g cur cur 5 (0, 0) hg
    have hbel : Below w.heap.size w (w.setRow g cur) := ⟨rfl, rfl, rfl, by simp [World.setRow], fun k hk => by
      by_cases hkg : k = g
      · rw [hkg, hgg, hg]
      · exact setRow_other w g k cur hkg⟩
    refine ⟨g, n, _, hr, ?_, hbel, hcm⟩
    rw [hb, hs, h0, List.append_nil, Nat.add_zero]
    exact ⟨hown.1, .inr ⟨g, n, cur, rfl, hbg, hgg, hnc, hcm, hcs, htake⟩⟩
  · have hr := Lib.run_append_grow_string (P := Tryz.prog) w 106 9 ty 5 i (.int .u8 0) Tryz.underlying106 Tryz.underlying9 hi hz ⟨g, 0, none⟩ n n (bs l) (by rw [hsize, hxl]; omega) (hown.cells rfl) s (by omega) (by omega) (by rw [hby]; exact growslice_fits (by omega) (by omega))
    have hge := grownCap_ge w (n + s.size) n 5
    have hcm2 : grownCap w (n + s.size) n 5 ≤ maxLen := grownCap_le_maxLen w (n + s.size) n 5 (by unfold maxLen; omega)
    refine ⟨w.heap.size, _, _, hr, ⟨by rw [hb]; exact hlen, .inr ⟨w.heap.size, _, _, rfl, hbase, heap_alloc_new w.drew _, hge, hcm2, ?_, ?_⟩⟩, (Below.refl _ _).drew.alloc (Nat.le_refl _) _, hcm2⟩
    · have hz1 : (Value.int IntKind.u8 0).cells.size = 1 := rfl
      simp only [Array.size_append, List.size_toArray, size_zeroCells, hz1, hxl, Lib.strCells_length]
      omega
    · rw [hb]
      simp only [Array.toList_append, List.append_assoc]
      rw [← List.append_assoc, ← hlen]
      exact List.take_left

/-- The same at the operation, for a walk. -/
theorem wpList_append_full {base g n : Nat} {l : List UInt8} (w : World) {ops : Array Oper} {rest : List Oper} {o : Oper} {a : Act} {Q : Exit → Act → World → Prop} (hgd : o.guard = none) (sl x : Operand)
    (ho : o.op = .call { callee := .builtin .append, args := #[sl, x], argTypes := #[106, 9] }) (s : ByteArray)
    (hs : a.eval sl = .slice (some ⟨g, 0, none⟩) n n) (hx : a.eval x = .string s) (hown : w.ownsRow base 5 1 (.slice (some ⟨g, 0, none⟩) n n) n (bs l)) (hsz : n + s.size ≤ 140737488355328) (hbase : base ≤ w.heap.size)
    (h : ∀ g' cap w', w'.ownsRow base 5 1 (.slice (some ⟨g', 0, none⟩) (n + s.size) cap) (n + s.size) (bs (l ++ s.data.toList)) → Below w.heap.size w w' → cap ≤ maxLen → wpList Tryz.prog ops Q rest (a.put o.dst (.slice (some ⟨g', 0, none⟩) (n + s.size) cap)) w') :
    wpList Tryz.prog ops Q (o :: rest) a w := by
  refine wpList_plain hgd fun K hK => ?_
  obtain ⟨g', cap, w', hr, h2, h3, h4⟩ := run_append_full w o.type s hown hsz hbase
  unfold Oper.wp execOp
  simp only [ho, resolve, invoke, builtin, Sem.run_bind, Sem.run_pure, Result.andThen_ok, List.map_toArray, List.map_cons, List.map_nil, hs, hx, hr]
  exact hK _ _ (h g' cap w' h2 h3 h4)

/-- The number without a sign that goes for one with a sign. -/
def zig (n : Int) : Nat := if n < 0 then (2 * (-1 - n) + 1).toNat else (2 * n).toNat
theorem zig_lt {n : Int} (h : -9223372036854775808 ≤ n ∧ n ≤ 9223372036854775807) : zig n < 18446744073709551616 := by
  unfold zig; split <;> omega

set_option maxHeartbeats 400000 in
theorem putint_any (ao : Option Addr) (m c : Nat) (l : List UInt8) (n : Int) (w : World) (hb : Bytes w ao m c l) (hm : m ≤ 140737488355328) (hn : -9223372036854775808 ≤ n ∧ n ≤ 9223372036854775807) :
    Calls Tryz.prog 228 #[.slice ao m c, .int .i64 n] w fun e w' =>
      ∃ g, e = .returned (.slice (some ⟨g, 0, none⟩) (m + Vq.wd (zig n)) (m + Vq.wd (zig n))) ∧ w'.ownsRow w.heap.size 5 1 (.slice (some ⟨g, 0, none⟩) (m + Vq.wd (zig n)) (m + Vq.wd (zig n))) (m + Vq.wd (zig n)) (bs (l ++ Vq.num (zig n))) ∧ Below w.heap.size w w' := by
  have hz := zig_lt hn
  by_cases h : n < 0
  · have hput := put_any ao m c l (zig n) w hb hm hz
    have e : ((zig n : Nat) : Int) = 2 * (-1 - n) + 1 := by unfold zig; rw [if_pos h]; omega
    rw [e] at hput
    generalize zig n = z at *
    have Hput : Hid _ := hput
    clear hput e
    go_enter Tryz.func228, Tryz.ntmps228
    go_wp2_with fail
    refine Calls.mono Hput.out ?_
    rintro e w1 ⟨g, rfl, hown, hbel⟩
    go_wp2
    go_ret
    exact ⟨g, rfl, hown, hbel⟩
  · have hput := put_any ao m c l (zig n) w hb hm hz
    have e : ((zig n : Nat) : Int) = 2 * n := by unfold zig; rw [if_neg h]; omega
    rw [e] at hput
    generalize zig n = z at *
    have Hput : Hid _ := hput
    clear hput e
    go_enter Tryz.func228, Tryz.ntmps228
    go_wp2_with fail
    refine Calls.mono Hput.out ?_
    rintro e w1 ⟨g, rfl, hown, hbel⟩
    go_wp2
    go_ret
    exact ⟨g, rfl, hown, hbel⟩

/-- A number's bytes, with others about them. -/
theorem num_there (A B : List UInt8) (u : Nat) :
    (∀ j, j < Vq.wd u - 1 → 128 ≤ (((A ++ Vq.num u ++ B).drop A.length).getD j 0).toNat) ∧ (((A ++ Vq.num u ++ B).drop A.length).getD (Vq.wd u - 1) 0).toNat < 128 ∧
    vseg (A ++ Vq.num u ++ B) A.length (Vq.wd u - 1) = Vq.num u ∧ A.length + (Vq.wd u - 1) < (A ++ Vq.num u ++ B).length := by
  have hp := Vq.wd_pos u
  have hl := Vq.num_length u
  have hd : (A ++ Vq.num u ++ B).drop A.length = Vq.num u ++ B := by rw [List.append_assoc, List.drop_left]
  have hh := Vq.hi_length (Vq.wd u - 1) (u / 128)
  rw [hd]
  refine ⟨?_, ?_, ?_, ?_⟩
  · intro j hj
    have hj2 : j < (Vq.hi (Vq.wd u - 1) (u / 128)).length := by omega
    rw [List.getD_eq_getElem?_getD, List.getElem?_append_left (by omega), Vq.num, List.getElem?_append_left hj2, List.getElem?_eq_getElem hj2, Option.getD_some]
    exact Vq.hi_big _ _ _ (List.getElem_mem hj2)
  · rw [List.getD_eq_getElem?_getD, List.getElem?_append_left (by omega), Vq.num, List.getElem?_append_right (by omega), hh, Nat.sub_self]
    show (UInt8.ofNat (u % 128)).toNat < 128
    rw [Vq.toNat_ofNat_lt _ (by omega)]; omega
  · rw [vseg, hd, show Vq.wd u - 1 + 1 = Vq.wd u from by omega, ← hl, List.take_left]
  · rw [List.length_append, List.length_append]; omega

theorem take_num (ao : Option Addr) (m c : Nat) (A B : List UInt8) (u : Nat) (w : World) (hu : u < 18446744073709551616) (hb : Bytes w ao m c (A ++ Vq.num u ++ B)) (hc : c ≤ maxLen) :
    Calls Tryz.prog 306 #[.slice ao m c, .int .i64 (A.length : Int)] w fun e w' => e = .returned (.tuple #[.int .u64 (u : Int), .int .i64 ((A.length + Vq.wd u : Nat) : Int), .int .i64 0]) ∧ w' = w := by
  obtain ⟨h1, h2, h3, h4⟩ := num_there A B u
  have hp := Vq.wd_pos u
  obtain ⟨_, _, _, _, _, hh⟩ := Vq.whole_num u hu
  have h := take_ok ao m c (A ++ Vq.num u ++ B) A.length (Vq.wd u - 1) w hb hc (by rw [← hb.len]; exact h4) h1 h2 (by rw [h3]; exact hh) (by rw [h3, Vq.val_num u hu]; exact hu)
  rw [h3, Vq.val_num u hu, show A.length + (Vq.wd u - 1) + 1 = A.length + Vq.wd u from by omega] at h
  exact h

theorem take_cut (ao : Option Addr) (m c : Nat) (A : List UInt8) (u r : Nat) (w : World) (hr : r < Vq.wd u) (hb : Bytes w ao m c (A ++ (Vq.num u).take r)) (hc : c ≤ maxLen) :
    Calls Tryz.prog 306 #[.slice ao m c, .int .i64 (A.length : Int)] w fun e w' => e = .returned (.tuple #[.int .u64 0, .int .i64 0, .int .i64 2]) ∧ w' = w := by
  refine take_short ao m c _ A.length w hb hc (by rw [← hb.len, List.length_append]; omega) ?_
  intro x hx
  rw [List.drop_left, Vq.num, List.take_append_of_le_length (by rw [Vq.hi_length]; omega)] at hx
  exact Vq.hi_big _ _ _ (List.mem_of_mem_take hx)
end Go.Proofs.YthlebgioamcioabGreat

/-
  What vlq.TakeInt comes to where a number's bytes stand.
-/
namespace Go.Proofs.YthlebgioamcioabGreat
set_option maxRecDepth 100000
open Go.RowKit

/-- The number with a sign that one without goes for. -/
def zag (u : Nat) : Int := if u % 2 = 1 then -1 - ((u / 2 : Nat) : Int) else ((u / 2 : Nat) : Int)
theorem zag_zig (n : Int) : zag (zig n) = n := by
  unfold zag zig; split <;> split <;> omega

set_option maxHeartbeats 400000 in
/-- TakeInt, where Take tells a number. -/
theorem takeint_ok (ao : Option Addr) (m c : Nat) (l : List UInt8) (a p : Nat) (w : World) (hb : Bytes w ao m c l) (hc : c ≤ maxLen) (ha : a + p < m) (hl : ∀ j, j < p → 128 ≤ ((l.drop a).getD j 0).toNat) (hx : ((l.drop a).getD p 0).toNat < 128)
    (hh : (vseg l a p).head? ≠ some 128) (hv : Vq.val (vseg l a p) < 18446744073709551616) :
    Calls Tryz.prog 321 #[.slice ao m c, .int .i64 (a : Int)] w fun e w' => e = .returned (.tuple #[.int .i64 (zag (Vq.val (vseg l a p))), .int .i64 ((a + p + 1 : Nat) : Int), .int .i64 0]) ∧ w' = w := by
  have hr := hb.room
  have ht := take_ok ao m c l a p w hb hc ha hl hx hh hv
  unfold maxLen at hc
  generalize Vq.val (vseg l a p) = N at *
  clear hl hx hh
  have Ht : Hid _ := ht
  clear ht
  by_cases hodd : N % 2 = 1
  · have e : zag N = -1 - ((N / 2 : Nat) : Int) := by unfold zag; rw [if_pos hodd]
    have ho : ((N : Int) % 2 == 1) = true := by rw [beq_iff_eq]; omega
    rw [e]
    clear e hodd
    go_enter Tryz.func321, Tryz.ntmps321
    go_wp2_with fail
    refine Calls.mono Ht.out ?_
    rintro e w1 ⟨rfl, rfl⟩
    go_wp2
    go_ret3
    exact ⟨rfl, rfl⟩
  · have e : zag N = ((N / 2 : Nat) : Int) := by unfold zag; rw [if_neg hodd]
    have ho : ((N : Int) % 2 == 1) = false := by rw [beq_eq_false_iff_ne]; omega
    rw [e]
    clear e hodd
    go_enter Tryz.func321, Tryz.ntmps321
    go_wp2_with fail
    refine Calls.mono Ht.out ?_
    rintro e w1 ⟨rfl, rfl⟩
    go_wp2
    go_ret3
    exact ⟨rfl, rfl⟩

theorem takeint_num (ao : Option Addr) (m c : Nat) (A B : List UInt8) (n : Int) (w : World) (hn : -9223372036854775808 ≤ n ∧ n ≤ 9223372036854775807) (hb : Bytes w ao m c (A ++ Vq.num (zig n) ++ B)) (hc : c ≤ maxLen) :
    Calls Tryz.prog 321 #[.slice ao m c, .int .i64 (A.length : Int)] w fun e w' => e = .returned (.tuple #[.int .i64 n, .int .i64 ((A.length + Vq.wd (zig n) : Nat) : Int), .int .i64 0]) ∧ w' = w := by
  have hu := zig_lt hn
  obtain ⟨h1, h2, h3, h4⟩ := num_there A B (zig n)
  have hp := Vq.wd_pos (zig n)
  obtain ⟨_, _, _, _, _, hh⟩ := Vq.whole_num (zig n) hu
  have h := takeint_ok ao m c (A ++ Vq.num (zig n) ++ B) A.length (Vq.wd (zig n) - 1) w hb hc (by rw [← hb.len]; exact h4) h1 h2 (by rw [h3]; exact hh) (by rw [h3, Vq.val_num _ hu]; exact hu)
  rw [h3, Vq.val_num _ hu, show A.length + (Vq.wd (zig n) - 1) + 1 = A.length + Vq.wd (zig n) from by omega, zag_zig] at h
  exact h

end Go.Proofs.YthlebgioamcioabGreat

/-
  What Take, TakeInt and TakeText come to, as plain functions of the bytes that are left: the number or text, how many bytes it takes, the error's number (0: none). Bytes that are taken are just those of what is told.
-/
namespace Go.Proofs.YthlebgioamcioabGreat
set_option maxRecDepth 100000
open Go.RowKit

/-- Where the first byte below 128 stands. -/
def fl : List UInt8 → Option Nat
  | [] => none
  | c :: l => if c.toNat < 128 then some 0 else (fl l).map (· + 1)
theorem fl_none : ∀ {l : List UInt8}, fl l = none → ∀ x ∈ l, 128 ≤ x.toNat
  | [], _, x, h => by cases h
  | c :: l, h, x, hx => by
    rw [fl] at h
    split at h
    · cases h
    · rename_i hc
      rcases List.mem_cons.1 hx with rfl | hx
      · omega
      · exact fl_none (Option.map_eq_none_iff.1 h) x hx
theorem fl_some : ∀ {l : List UInt8} {p : Nat}, fl l = some p → p < l.length ∧ (∀ j, j < p → 128 ≤ (l.getD j 0).toNat) ∧ (l.getD p 0).toNat < 128
  | [], p, h => by cases h
  | c :: l, p, h => by
    rw [fl] at h
    split at h
    · rename_i hc
      obtain rfl := Option.some.inj h
      exact ⟨by simp, fun j hj => by omega, by simpa using hc⟩
    · rename_i hc
      obtain ⟨q, hq, rfl⟩ := Option.map_eq_some_iff.1 h
      obtain ⟨h1, h2, h3⟩ := fl_some hq
      refine ⟨by simp; omega, fun j hj => ?_, by simpa using h3⟩
      cases j with
      | zero => simp; omega
      | succ j => simpa using h2 j (by omega)
theorem fl_eq : ∀ {l : List UInt8} {p : Nat}, p < l.length → (∀ j, j < p → 128 ≤ (l.getD j 0).toNat) → (l.getD p 0).toNat < 128 → fl l = some p
  | [], p, h, _, _ => by simp at h
  | c :: l, 0, _, _, h => by
    have hc : c.toNat < 128 := by simpa using h
    rw [fl, if_pos hc]
  | c :: l, p + 1, h0, h1, h2 => by
    have hc : ¬ c.toNat < 128 := by have := h1 0 (by omega); simp at this; omega
    rw [fl, if_neg hc, fl_eq (l := l) (p := p) (by simpa using h0) (fun j hj => by simpa using h1 (j + 1) (by omega)) (by simpa using h2)]
    rfl

/-- Take's error, its number, and how many bytes it takes. -/
def tkE (d : List UInt8) : Int :=
  match fl d with
  | none => 2
  | some p => if (d.take (p + 1)).head? = some 128 then 3 else if Vq.val (d.take (p + 1)) < 18446744073709551616 then 0 else 4
def tkV (d : List UInt8) : Nat := if tkE d = 0 then Vq.val (d.take ((fl d).getD 0 + 1)) else 0
def tkW (d : List UInt8) : Nat := if tkE d = 0 then (fl d).getD 0 + 1 else 0

theorem tkE_ok {d : List UInt8} (h : tkE d = 0) : ∃ p, fl d = some p ∧ (d.take (p + 1)).head? ≠ some 128 ∧ Vq.val (d.take (p + 1)) < 18446744073709551616 ∧ tkV d = Vq.val (d.take (p + 1)) ∧ tkW d = p + 1 := by
  cases hf : fl d with
  | none => rw [tkE, hf] at h; simp at h
  | some p =>
    have h' := h
    rw [tkE, hf] at h
    simp only at h
    by_cases h1 : (d.take (p + 1)).head? = some 128
    · rw [if_pos h1] at h; simp at h
    · by_cases h2 : Vq.val (d.take (p + 1)) < 18446744073709551616
      · refine ⟨p, rfl, h1, h2, ?_, ?_⟩
        · rw [tkV, if_pos h', hf]; rfl
        · rw [tkW, if_pos h', hf]; rfl
      · rw [if_neg h1, if_neg h2] at h; simp at h
theorem tk_not {d : List UInt8} (h : tkE d ≠ 0) : tkV d = 0 ∧ tkW d = 0 := by rw [tkV, tkW, if_neg h, if_neg h]; exact ⟨rfl, rfl⟩
theorem tkE_range (d : List UInt8) : 0 ≤ tkE d ∧ tkE d ≤ 4 := by
  unfold tkE
  split
  · omega
  · split
    · omega
    · split <;> omega
theorem tkV_lt (d : List UInt8) : tkV d < 18446744073709551616 := by
  by_cases h : tkE d = 0
  · obtain ⟨p, -, -, h2, h3, -⟩ := tkE_ok h
    rw [h3]; exact h2
  · rw [(tk_not h).1]; omega
theorem tkW_le (d : List UInt8) : tkW d ≤ d.length := by
  by_cases h : tkE d = 0
  · obtain ⟨p, h1, -, -, -, h4⟩ := tkE_ok h
    have := (fl_some h1).1
    omega
  · rw [(tk_not h).2]; omega

theorem whole_take {d : List UInt8} {p : Nat} (hf : fl d = some p) (hh : (d.take (p + 1)).head? ≠ some 128) : Vq.Whole (d.take (p + 1)) := by
  obtain ⟨h0, h1, h2⟩ := fl_some hf
  exact whole_seg (l := d) (a := 0) (p := p) (by simpa using h0) (by simpa using h1) (by simpa using h2) (by simpa [vseg] using hh)

/-- WHAT IS TAKEN IS JUST THE NUMBER's BYTES. -/
theorem tk_bytes {d : List UInt8} (h : tkE d = 0) : d = Vq.num (tkV d) ++ d.drop (tkW d) := by
  obtain ⟨p, h1, h2, h3, h4, h5⟩ := tkE_ok h
  rw [h4, h5, Vq.num_val _ (whole_take h1 h2) h3, List.take_append_drop]
theorem tk_num (u : Nat) (B : List UInt8) (hu : u < 18446744073709551616) : tkE (Vq.num u ++ B) = 0 ∧ tkV (Vq.num u ++ B) = u ∧ (Vq.num u ++ B).drop (tkW (Vq.num u ++ B)) = B := by
  obtain ⟨h1, h2, h3, h4⟩ := num_there [] B u
  simp only [List.nil_append, List.length_nil, List.drop_zero, vseg, Nat.zero_add] at h1 h2 h3 h4
  have hp := Vq.wd_pos u
  have hf : fl (Vq.num u ++ B) = some (Vq.wd u - 1) := fl_eq h4 h1 h2
  obtain ⟨_, _, _, _, _, hh⟩ := Vq.whole_num u hu
  have e : tkE (Vq.num u ++ B) = 0 := by
    rw [tkE, hf]
    simp only
    rw [h3, if_neg hh, Vq.val_num u hu, if_pos hu]
  refine ⟨e, ?_, ?_⟩
  · rw [tkV, if_pos e, hf]
    simp only [Option.getD_some]
    rw [h3, Vq.val_num u hu]
  · rw [tkW, if_pos e, hf]
    simp only [Option.getD_some]
    rw [show Vq.wd u - 1 + 1 = (Vq.num u).length by rw [Vq.num_length]; omega, List.drop_left]

/-- TAKE, whatever the bytes. -/
theorem take_mod (ao : Option Addr) (m c : Nat) (l : List UInt8) (a : Nat) (w : World) (hb : Bytes w ao m c l) (hc : c ≤ maxLen) (ha : a ≤ m) :
    Calls Tryz.prog 306 #[.slice ao m c, .int .i64 (a : Int)] w fun e w' => e = .returned (.tuple #[.int .u64 (tkV (l.drop a) : Nat), .int .i64 ((if tkE (l.drop a) = 0 then a + tkW (l.drop a) else 0 : Nat) : Int), .int .i64 (tkE (l.drop a))]) ∧ w' = w := by
  have hlen := hb.len
  cases hf : fl (l.drop a) with
  | none =>
    have e : tkE (l.drop a) = 2 := by rw [tkE, hf]
    rw [e, (tk_not (by rw [e]; decide)).1]
    exact take_short ao m c l a w hb hc ha (fl_none hf)
  | some p =>
    obtain ⟨h0, h1, h2⟩ := fl_some hf
    rw [List.length_drop] at h0
    by_cases hh : (vseg l a p).head? = some 128
    · have e : tkE (l.drop a) = 3 := by rw [tkE, hf]; exact if_pos hh
      rw [e, (tk_not (by rw [e]; decide)).1]
      exact take_form ao m c l a p w hb hc (by omega) h1 h2 hh
    · by_cases hv : Vq.val (vseg l a p) < 18446744073709551616
      · have e : tkE (l.drop a) = 0 := by rw [tkE, hf]; exact (if_neg hh).trans (if_pos hv)
        have e1 : tkV (l.drop a) = Vq.val (vseg l a p) := by rw [tkV, if_pos e, hf]; rfl
        have e2 : tkW (l.drop a) = p + 1 := by rw [tkW, if_pos e, hf]; rfl
        rw [e1, e2, e]
        exact take_ok ao m c l a p w hb hc (by omega) h1 h2 hh hv
      · have e : tkE (l.drop a) = 4 := by rw [tkE, hf]; exact (if_neg hh).trans (if_neg hv)
        rw [e, (tk_not (by rw [e]; decide)).1]
        exact take_long ao m c l a p w hb hc (by omega) h1 h2 hh (by omega)

set_option maxHeartbeats 400000 in
/-- TAKEINT, whatever the bytes. -/
theorem takeint_mod (ao : Option Addr) (m c : Nat) (l : List UInt8) (a : Nat) (w : World) (hb : Bytes w ao m c l) (hc : c ≤ maxLen) (ha : a ≤ m) :
    Calls Tryz.prog 321 #[.slice ao m c, .int .i64 (a : Int)] w fun e w' => e = .returned (.tuple #[.int .i64 (zag (tkV (l.drop a))), .int .i64 ((if tkE (l.drop a) = 0 then a + tkW (l.drop a) else 0 : Nat) : Int), .int .i64 (tkE (l.drop a))]) ∧ w' = w := by
  have hlen := hb.len
  have ht : Hid _ := take_mod ao m c l a w hb hc ha
  by_cases h : tkE (l.drop a) = 0
  · obtain ⟨p, hf, h2, h3, h4, h5⟩ := tkE_ok h
    obtain ⟨g0, g1, g2⟩ := fl_some hf
    rw [List.length_drop] at g0
    have := takeint_ok ao m c l a p w hb hc (by omega) g1 g2 h2 h3
    rw [h, h4, h5]
    exact this
  · obtain ⟨e1, e2⟩ := tk_not h
    rw [if_neg h, e1] at ht
    rw [if_neg h, e1, show zag 0 = 0 by decide]
    obtain ⟨r0, r1⟩ := tkE_range (l.drop a)
    generalize tkE (l.drop a) = E at *
    clear e1 e2
    go_enter Tryz.func321, Tryz.ntmps321
    go_wp2_with fail
    refine Calls.mono ht.out ?_
    rintro e w1 ⟨rfl, hw⟩
    obtain rfl := hw.symm
    clear ht hw
    go_wp2
    go_ret3
    exact ⟨rfl, rfl⟩
end Go.Proofs.YthlebgioamcioabGreat

