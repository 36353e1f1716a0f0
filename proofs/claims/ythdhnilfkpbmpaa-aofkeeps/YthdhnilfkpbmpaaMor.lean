/-
  More of what calls come to: a text behind bytes, PutInt, and what Take tells where a number's bytes stand, whole or cut off. Asked: that the bytes are fewer than 2^47.
-/
import Derived.Test.YthdhnilfkpbmpaaTak
import Derived.Lib.AppendStr
namespace Go.Proofs.Ythdhnilfkpbmpaa
open Go.RowKit

/-- A text behind bytes of the call's own that fill their room: new memory, or nothing turns. -/
theorem run_append_full {base g n : Nat} {l : List UInt8} (w : World) (ty : TypeId) (s : ByteArray) (hown : w.ownsRow base 5 1 (.slice (some ⟨g, 0, none⟩) n n) n (bs l)) (hsz : n + s.size ≤ 140737488355328) (hbase : base ≤ w.heap.size) :
    ∃ g' cap w', (Builtin.append_ #[54, 9] ty #[.slice (some ⟨g, 0, none⟩) n n, .string s]).run Try.prog w = .ok (.slice (some ⟨g', 0, none⟩) (n + s.size) cap) w' ∧
      w'.ownsRow base 5 1 (.slice (some ⟨g', 0, none⟩) (n + s.size) cap) (n + s.size) (bs (l ++ s.data.toList)) ∧ Below w.heap.size w w' ∧ cap ≤ maxLen := by
  obtain ⟨i, hi, hz, hsize, hby⟩ := info_parts info5
  have hb : bs (l ++ s.data.toList) = bs l ++ Lib.strCells s := bs_append _ _
  have hxl : (bs l).length = n := by simpa using hown.1
  have hlen : (bs l ++ Lib.strCells s).length = (n + s.size) * 1 := by rw [List.length_append, hxl, Lib.strCells_length, Nat.mul_one]
  have hown' := hown
  rcases hown.2 with ⟨h, _⟩ | ⟨g', cap', cur, h, hbg, hg, hnc, hcm, hcs, htake⟩
  · cases h
  simp only [Value.slice.injEq, Option.some.injEq, Addr.mk.injEq, and_true, true_and] at h
  obtain ⟨rfl, rfl⟩ := h
  by_cases h0 : s.size = 0
  · have hcs' : cur.size = n := by simpa using hcs
    have hs : Lib.strCells s = [] := List.eq_nil_of_length_eq_zero (by rw [Lib.strCells_length]; exact h0)
    have hr := Lib.run_append_room_string (P := Try.prog) w 54 9 ty 5 i Try.underlying54 Try.underlying9 hi hsize g n n cur hg s (by omega) (by omega)
    have e : (cur.toList.take n ++ Lib.strCells s ++ cur.toList.drop (n + s.size)).toArray = cur := by
      rw [hs, h0, List.append_nil, Nat.add_zero, List.take_append_drop]
    rw [e] at hr
    have hgg := setRow_heap w g cur cur 5 (0, 0) hg
    have hbel : Below w.heap.size w (w.setRow g cur) := ⟨rfl, rfl, rfl, by simp [World.setRow], fun k hk => by
      by_cases hkg : k = g
      · rw [hkg, hgg, hg]
      · exact setRow_other w g k cur hkg⟩
    refine ⟨g, n, _, hr, ?_, hbel, hcm⟩
    rw [hb, hs, h0, List.append_nil, Nat.add_zero]
    exact ⟨hown.1, .inr ⟨g, n, cur, rfl, hbg, hgg, hnc, hcm, hcs, htake⟩⟩
  · have hr := Lib.run_append_grow_string (P := Try.prog) w 54 9 ty 5 i (.int .u8 0) Try.underlying54 Try.underlying9 hi hz ⟨g, 0, none⟩ n n (bs l) (by rw [hsize, hxl]; omega) (hown.cells rfl) s (by omega) (by omega) (by rw [hby]; exact growslice_fits (by omega) (by omega))
    have hge := grownCap_ge w (n + s.size) n 5
    have hcm2 : grownCap w (n + s.size) n 5 ≤ maxLen := grownCap_le_maxLen w (n + s.size) n 5 (by unfold maxLen; omega)
    refine ⟨w.heap.size, _, _, hr, ⟨by rw [hb]; exact hlen, .inr ⟨w.heap.size, _, _, rfl, hbase, heap_alloc_new w.drew _, hge, hcm2, ?_, ?_⟩⟩, (Below.refl _ _).drew.alloc (Nat.le_refl _) _, hcm2⟩
    · have hz1 : (Value.int IntKind.u8 0).cells.size = 1 := rfl
      simp only [Array.size_append, List.size_toArray, size_zeroCells, hz1, hxl, Lib.strCells_length]
      omega
    · rw [hb]
      simp only [Array.toList_append, List.append_assoc]
      rw [← List.append_assoc, ← hlen]
      exact List.take_left

/-- The same at the operation, for a walk. -/
theorem wpList_append_full {base g n : Nat} {l : List UInt8} (w : World) {ops : Array Oper} {rest : List Oper} {o : Oper} {a : Act} {Q : Exit → Act → World → Prop} (hgd : o.guard = none) (sl x : Operand)
    (ho : o.op = .call { callee := .builtin .append, args := #[sl, x], argTypes := #[54, 9] }) (s : ByteArray)
    (hs : a.eval sl = .slice (some ⟨g, 0, none⟩) n n) (hx : a.eval x = .string s) (hown : w.ownsRow base 5 1 (.slice (some ⟨g, 0, none⟩) n n) n (bs l)) (hsz : n + s.size ≤ 140737488355328) (hbase : base ≤ w.heap.size)
    (h : ∀ g' cap w', w'.ownsRow base 5 1 (.slice (some ⟨g', 0, none⟩) (n + s.size) cap) (n + s.size) (bs (l ++ s.data.toList)) → Below w.heap.size w w' → cap ≤ maxLen → wpList Try.prog ops Q rest (a.put o.dst (.slice (some ⟨g', 0, none⟩) (n + s.size) cap)) w') :
    wpList Try.prog ops Q (o :: rest) a w := by
  refine wpList_plain hgd fun K hK => ?_
  obtain ⟨g', cap, w', hr, h2, h3, h4⟩ := run_append_full w o.type s hown hsz hbase
  unfold Oper.wp execOp
  simp only [ho, resolve, invoke, builtin, Sem.run_bind, Sem.run_pure, Result.andThen_ok, List.map_toArray, List.map_cons, List.map_nil, hs, hx, hr]
  exact hK _ _ (h g' cap w' h2 h3 h4)

/-- The number without a sign that goes for one with a sign. -/
def zig (n : Int) : Nat := if n < 0 then (2 * (-1 - n) + 1).toNat else (2 * n).toNat
theorem zig_lt {n : Int} (h : -9223372036854775808 ≤ n ∧ n ≤ 9223372036854775807) : zig n < 18446744073709551616 := by
  unfold zig; split <;> omega

set_option maxHeartbeats 400000 in
theorem putint_any (ao : Option Addr) (m c : Nat) (l : List UInt8) (n : Int) (w : World) (hb : Bytes w ao m c l) (hm : m ≤ 140737488355328) (hn : -9223372036854775808 ≤ n ∧ n ≤ 9223372036854775807) :
    Calls Try.prog 56 #[.slice ao m c, .int .i64 n] w fun e w' =>
      ∃ g, e = .returned (.slice (some ⟨g, 0, none⟩) (m + Vq.wd (zig n)) (m + Vq.wd (zig n))) ∧ w'.ownsRow w.heap.size 5 1 (.slice (some ⟨g, 0, none⟩) (m + Vq.wd (zig n)) (m + Vq.wd (zig n))) (m + Vq.wd (zig n)) (bs (l ++ Vq.num (zig n))) ∧ Below w.heap.size w w' := by
  have hz := zig_lt hn
  by_cases h : n < 0
  · have hput := put_any ao m c l (zig n) w hb hm hz
    have e : ((zig n : Nat) : Int) = 2 * (-1 - n) + 1 := by unfold zig; rw [if_pos h]; omega
    rw [e] at hput
    generalize zig n = z at *
    have Hput : Hid _ := hput
    clear hput e
    go_enter Try.func56, Try.ntmps56
    go_wp2_with fail
    refine Calls.mono Hput.out ?_
    rintro e w1 ⟨g, rfl, hown, hbel⟩
    go_wp2
    go_ret
    exact ⟨g, rfl, hown, hbel⟩
  · have hput := put_any ao m c l (zig n) w hb hm hz
    have e : ((zig n : Nat) : Int) = 2 * n := by unfold zig; rw [if_neg h]; omega
    rw [e] at hput
    generalize zig n = z at *
    have Hput : Hid _ := hput
    clear hput e
    go_enter Try.func56, Try.ntmps56
    go_wp2_with fail
    refine Calls.mono Hput.out ?_
    rintro e w1 ⟨g, rfl, hown, hbel⟩
    go_wp2
    go_ret
    exact ⟨g, rfl, hown, hbel⟩

/-- A number's bytes, with others about them. -/
theorem num_there (A B : List UInt8) (u : Nat) :
    (∀ j, j < Vq.wd u - 1 → 128 ≤ (((A ++ Vq.num u ++ B).drop A.length).getD j 0).toNat) ∧ (((A ++ Vq.num u ++ B).drop A.length).getD (Vq.wd u - 1) 0).toNat < 128 ∧
    seg (A ++ Vq.num u ++ B) A.length (Vq.wd u - 1) = Vq.num u ∧ A.length + (Vq.wd u - 1) < (A ++ Vq.num u ++ B).length := by
  have hp := Vq.wd_pos u
  have hl := Vq.num_length u
  have hd : (A ++ Vq.num u ++ B).drop A.length = Vq.num u ++ B := by rw [List.append_assoc, List.drop_left]
  have hh := Vq.hi_length (Vq.wd u - 1) (u / 128)
  rw [hd]
  refine ⟨?_, ?_, ?_, ?_⟩
  · intro j hj
    have hj2 : j < (Vq.hi (Vq.wd u - 1) (u / 128)).length := by omega
    rw [List.getD_eq_getElem?_getD, List.getElem?_append_left (by omega), Vq.num, List.getElem?_append_left hj2, List.getElem?_eq_getElem hj2, Option.getD_some]
    exact Vq.hi_big _ _ _ (List.getElem_mem hj2)
  · rw [List.getD_eq_getElem?_getD, List.getElem?_append_left (by omega), Vq.num, List.getElem?_append_right (by omega), hh, Nat.sub_self]
    show (UInt8.ofNat (u % 128)).toNat < 128
    rw [Vq.toNat_ofNat_lt _ (by omega)]; omega
  · rw [seg, hd, show Vq.wd u - 1 + 1 = Vq.wd u from by omega, ← hl, List.take_left]
  · rw [List.length_append, List.length_append]; omega

theorem take_num (ao : Option Addr) (m c : Nat) (A B : List UInt8) (u : Nat) (w : World) (hu : u < 18446744073709551616) (hb : Bytes w ao m c (A ++ Vq.num u ++ B)) (hc : c ≤ maxLen) :
    Calls Try.prog 77 #[.slice ao m c, .int .i64 (A.length : Int)] w fun e w' => e = .returned (.tuple #[.int .u64 (u : Int), .int .i64 ((A.length + Vq.wd u : Nat) : Int), .int .i64 0]) ∧ w' = w := by
  obtain ⟨h1, h2, h3, h4⟩ := num_there A B u
  have hp := Vq.wd_pos u
  obtain ⟨_, _, _, _, _, hh⟩ := Vq.whole_num u hu
  have h := take_ok ao m c (A ++ Vq.num u ++ B) A.length (Vq.wd u - 1) w hb hc (by rw [← hb.len]; exact h4) h1 h2 (by rw [h3]; exact hh) (by rw [h3, Vq.val_num u hu]; exact hu)
  rw [h3, Vq.val_num u hu, show A.length + (Vq.wd u - 1) + 1 = A.length + Vq.wd u from by omega] at h
  exact h

theorem take_cut (ao : Option Addr) (m c : Nat) (A : List UInt8) (u r : Nat) (w : World) (hr : r < Vq.wd u) (hb : Bytes w ao m c (A ++ (Vq.num u).take r)) (hc : c ≤ maxLen) :
    Calls Try.prog 77 #[.slice ao m c, .int .i64 (A.length : Int)] w fun e w' => e = .returned (.tuple #[.int .u64 0, .int .i64 0, .int .i64 2]) ∧ w' = w := by
  refine take_short ao m c _ A.length w hb hc (by rw [← hb.len, List.length_append]; omega) ?_
  intro x hx
  rw [List.drop_left, Vq.num, List.take_append_of_le_length (by rw [Vq.hi_length]; omega)] at hx
  exact Vq.hi_big _ _ _ (List.mem_of_mem_take hx)
end Go.Proofs.Ythdhnilfkpbmpaa
