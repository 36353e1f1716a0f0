/-
  PeerBoxes, the walk.
-/
import Derived.Test.YteanpepmncgagaaPla
import Derived.Test.YteanpepmncgagaaBqs
import Derived.Test.YteanpepmncgagaaPob
import Derived.Lib.MinMax
namespace Go.Proofs.Yteanpepmncgagaa
set_option maxRecDepth 100000
open Go.RowKit

/-- A text of that many zero bytes. -/
def txt (n : Int) : ByteArray := ⟨(List.replicate n.toNat (0 : UInt8)).toArray⟩
theorem txt_size (n : Int) : (txt n).size = n.toNat := by simp [txt, ByteArray.size]
/-- The number's lowest six bits. -/
theorem and63 (x : Int) : 0 ≤ bits .and .i64 x 63 ∧ bits .and .i64 x 63 ≤ 63 := by
  have h : (BitVec.ofInt 64 x &&& BitVec.ofInt 64 63).toNat ≤ 63 := by
    rw [BitVec.toNat_and]
    exact Nat.le_trans Nat.and_le_right (by decide)
  unfold bits
  simp only [IntKind.wrap_i64]
  have e : (BitVec.ofInt IntKind.i64.bits x &&& BitVec.ofInt IntKind.i64.bits 63).toNat = (BitVec.ofInt 64 x &&& BitVec.ofInt 64 63).toNat := rfl
  rw [e]
  omega
/-- A text made of fresh bytes. -/
theorem run_make0 (w : World) (n : Nat) (hn : n ≤ 63) : (Instr.makeSlice 73 (.int .i64 (n : Int)) (.int .i64 (n : Int))).run Try.prog w = .ok (.slice (some ⟨w.heap.size, 0, none⟩) n n) (w.alloc (.cells (Array.replicate n (.int .u8 0)) 5)) := by
  obtain ⟨i, hi, hz, hs, hb⟩ : ∃ i, Try.prog.info? 5 = some i ∧ i.zero = some (.int .u8 0) ∧ i.size = 1 ∧ i.bytes = 1 := by
    cases h : Try.prog.info? 5 with
    | none => exact absurd h (by decide +kernel)
    | some i =>
      have h2 : (Try.prog.info? 5).map (fun i => (i.zero, i.size, i.bytes)) = some (some (.int .u8 0), 1, 1) := by kernel_rfl
      rw [h] at h2
      simp only [Option.map_some, Option.some.injEq, Prod.mk.injEq] at h2
      exact ⟨i, rfl, h2.1, h2.2.1, h2.2.2⟩
  have h := run_makeSlice (P := Try.prog) w 73 5 i _ Try.underlying73 hi hz .i64 .i64 (n : Int) (n : Int) (by omega) (by omega) (by rw [hs]; simp; omega) (by rw [hb]; omega) (by omega)
  rw [h, hs, Int.toNat_natCast, Nat.mul_one]
  congr 3
  simp only [madeCells, Value.cells]
  apply Array.ext
  · simp
  · intro j h1 h2
    simp [Nat.mod_one]
theorem run_conv0 (w : World) (g n : Nat) (h : w.heap[g]? = some (.cells (Array.replicate n (.int .u8 0)) 5 (0, 0))) : (convert 73 9 (.slice (some ⟨g, 0, none⟩) n n)).run Try.prog w = .ok (.string (txt (n : Int))) w := by
  have h2 := run_convert_bytes_back (P := Try.prog) w 73 9 5 ⟨g, 0, none⟩ n (List.replicate n 0) Try.underlying73 Try.underlying5 Try.underlying9 (fun j hj => by
    rw [Addr.add_mid, Nat.zero_add, cell_of_row w g j _ _ _ h]
    simp at hj
    simp [hj])
  rw [List.length_replicate] at h2
  rw [h2]
  simp [txt]

def tv (x : Int) : Value := .string (txt (bits .and .i64 x 63))
theorem wpList_val {P : Program} {ops : Array Oper} {rest : List Oper} {o : Oper} {a : Act} {w : World} {Q : Exit → Act → World → Prop} {v : Value} (hw : Region.wanted o (yielded ops a.tmps) = true) (hr : (execOp a.eval o).run P w = .ok (.value v) w) (hK : wpList P ops Q rest (a.put o.dst v) w) : wpList P ops Q (o :: rest) a w := by
  refine wpList_step fun K hK' => ?_
  rw [if_pos hw]
  unfold Oper.wp
  rw [hr]
  exact hK' _ _ hK
theorem wpList_valW {P : Program} {ops : Array Oper} {rest : List Oper} {o : Oper} {a : Act} {w w' : World} {Q : Exit → Act → World → Prop} {v : Value} (hw : Region.wanted o (yielded ops a.tmps) = true) (hr : (execOp a.eval o).run P w = .ok (.value v) w') (hK : wpList P ops Q rest (a.put o.dst v) w') : wpList P ops Q (o :: rest) a w := by
  refine wpList_step fun K hK' => ?_
  rw [if_pos hw]
  unfold Oper.wp
  rw [hr]
  exact hK' _ _ hK
theorem wpList_apv {P : Program} {ops : Array Oper} {rest : List Oper} {o : Oper} {a : Act} {w w' : World} {Q : Exit → Act → World → Prop} {x y : Operand} {t1 t2 : TypeId} {v q z : Value} (hw : Region.wanted o (yielded ops a.tmps) = true) (ho : o.op = .call { callee := .builtin .append, args := #[x, y], argTypes := #[t1, t2] }) (hx : a.eval x = v) (hy : a.eval y = q) (hr : (Builtin.append_ #[t1, t2] o.type #[v, q]).run P w = .ok z w') (hK : wpList P ops Q rest (a.put o.dst z) w') : wpList P ops Q (o :: rest) a w := by
  refine wpList_step fun K hK' => ?_
  rw [if_pos hw]
  unfold Oper.wp execOp
  simp only [ho, resolve, invoke, builtin, Sem.run_bind, Sem.run_pure, Result.andThen_ok, List.map_toArray, List.map_cons, List.map_nil, hx, hy, hr]
  exact hK' _ _ hK
theorem exec_slice {o : Oper} {a : Act} {w : World} {x y : Operand} {v q u : Value} (ho : o.op = .slice 64 x (some y) none none) (hx : a.eval x = v) (hy : a.eval y = q) (hr : (Instr.slice 64 v (some q) none none).run Try.prog w = .ok u w) : (execOp a.eval o).run Try.prog w = .ok (.value u) w := by
  have h : Try.prog.underlying 64 = some (.slice (Try.prog.elem 64)) := by kernel_rfl
  unfold execOp
  simp only [ho, hx, hy, Option.map_some, Option.map_none, Sem.run_bind, run_sliceAt_slice _ _ _ _ _ _ h, hr, Result.andThen_ok, Sem.run_pure]
theorem exec_make {o : Oper} {a : Act} {w W : World} {t : TypeId} {x y : Operand} {p q v : Value} (ho : o.op = .makeSlice t x y) (hx : a.eval x = p) (hy : a.eval y = q) (hr : (Instr.makeSlice t p q).run Try.prog w = .ok v W) : (execOp a.eval o).run Try.prog w = .ok (.value v) W := by
  unfold execOp; simp only [ho, hx, hy, Sem.run_bind, hr, Result.andThen_ok, Sem.run_pure]
theorem eql_bi (w : World) (ad : Addr) : (binOp .eql 60 (.pointer (some ad)) (.pointer none)).run Try.prog w = .ok (.bool false) w := by kernel_rfl
theorem eql_bs (w : World) (ad : Addr) : (binOp .eql 62 (.pointer (some ad)) (.pointer none)).run Try.prog w = .ok (.bool false) w := by kernel_rfl
theorem field_b0 (w : World) (b k : Nat) : (Instr.fieldAt 66 (.pointer (some ⟨b, k, none⟩)) 0).run Try.prog w = .ok (.pointer (some ⟨b, k, none⟩)) w := by go_simp
theorem field_b1 (w : World) (b k : Nat) : (Instr.fieldAt 66 (.pointer (some ⟨b, k, none⟩)) 1).run Try.prog w = .ok (.pointer (some ⟨b, k + 1, none⟩)) w := by go_simp
theorem index_i0 (w : World) {g off L cp : Nat} (h : 0 < L) : (Instr.indexAt 64 (.slice (some ⟨g, off, none⟩) L cp) (.int .i64 0)).run Try.prog w = .ok (.pointer (some ⟨g, off, none⟩)) w := by
  have hs : (Try.prog.info? 3).map (·.size) = some 1 := by kernel_rfl
  have ht : Try.prog.underlying 64 = some (.slice 3) := Try.underlying64
  have h' : (0 : Int) < (L : Int) := by omega
  go_simp
set_option maxHeartbeats 1000000 in
theorem lboxes_far (m : Int) (ao : Option Addr) (len cap : Nat) (w : World) (hl : 1000 < len) : Calls Try.prog 8 #[.int .i64 m, .slice ao len cap] w fun e w' => e = .returned (.bool true) ∧ Below w.heap.size w w' := by
  have hA := pawake_any w
  go_enter Try.func8, Try.ntmps8
  go_wp2_with fail
  refine Calls.mono hA ?_
  rintro e w1 ⟨rfl, hb1⟩
  have hA2 := pawake_any w1
  have HB1 : Hid (Below w.heap.size w w1) := hb1
  clear hb1 hA
  go_wp2_with fail
  refine Calls.mono hA2 ?_
  rintro e w3 ⟨rfl, hb3⟩
  have HB3 : Hid (Below w.heap.size w w3) := HB1.out.trans (hb3.mono HB1.out.size)
  clear hb3 hA2
  go_wp2
  go_ret
  exact ⟨rfl, HB3.out⟩
set_option maxHeartbeats 16000000 in
theorem lboxes_go (m : Int) (ao : Option Addr) (len cap : Nat) (N : Nat → Int) (S : Nat → Bool) (w : World) (hE : IsBoxs w ao len N S) (hl : ¬ 1000 < len) : Calls Try.prog 8 #[.int .i64 m, .slice ao len cap] w fun e w' => e = .returned (.bool true) ∧ Below w.heap.size w w' := by
  have hd : decide ((1000 : Int) < (len : Int)) = false := decide_eq_false (by omega)
  have hAw := pawake_any w
  obtain ⟨n, hn⟩ : ∃ n : Nat, (if m < 0 then 0 else if 65536 < m then 65536 else m) = (n : Int) := by
    by_cases h1 : m < 0
    · exact ⟨0, by simp [h1]⟩
    · by_cases h2 : 65536 < m
      · exact ⟨65536, by simp [h1, h2]⟩
      · exact ⟨m.toNat, by simp only [h1, h2, if_false]; omega⟩
  have hnm : max (0 : Int) (min m 65536) = (n : Int) := by
    split at hn
    · omega
    · split at hn <;> omega
  go_enter Try.func8, Try.ntmps8
  go_wp2_with fail
  refine Calls.mono hAw ?_
  rintro e w1 ⟨rfl, hb1⟩
  have hN1 := bnew_i w1 m hn
  clear hAw
  go_wp2_with fail
  refine Calls.mono hN1 ?_
  rintro e w2 ⟨b1, c1, rfl, hX1, -, hc1, hb2⟩
  have hN2 := bnew_s w2 m hn
  clear hN1
  go_wp2_with fail
  refine Calls.mono hN2 ?_
  rintro e w3 ⟨b2, c2, rfl, hX2, -, hc2, hb3⟩
  have hB3 : Below w.heap.size w w3 := (hb1.trans (hb2.mono hb1.size)).trans (hb3.mono (Nat.le_trans hb1.size hb2.size))
  have hQ : Bst w.heap.size w3 b1 c1 b2 c2 n [] [] (.slice none 0 0) [] := ⟨Nat.le_trans hb1.size hc1, Nat.le_trans (Nat.le_trans hb1.size hb2.size) hc2, by have := hX1.lt.2; omega, hB3.size, ⟨[], [], hX1.below hb3, hX2, rfl, rfl, fun p hp => absurd hp List.not_mem_nil⟩, .inl ⟨rfl, rfl⟩⟩
  clear hN2 hX1 hX2 hc1 hc2 hb1 hb2 hb3 hn
  have he1 := eql_bi
  have he2 := eql_bs
  simp only [pt]
  go_wp2_with fail
  clear he1 he2
  go_loopw [7, 34] (fun v i wz => ∃ (k : Nat) (l : List Int), k ≤ len ∧ i = .int .i64 (k : Int) ∧ l.length ≤ k ∧ Bst w.heap.size wz b1 c1 b2 c2 n (l.map (Value.int .i64)) (l.map tv) v l ∧ Below w.heap.size w wz) (fun _ i _ => len - (intOf i).toNat)
  case atStart => exact ⟨0, [], Nat.zero_le _, rfl, Nat.le_refl _, hQ, hB3⟩
  case round =>
    clear hQ hB3
    rename World => wz
    obtain ⟨k, l, hk, rfl, hlk, hQ, hB⟩ := hrel
    obtain ⟨a, cp, rfl⟩ := hQ.iq.shape
    by_cases hkl : k < len
    · obtain ⟨b0, off, rfl, hbl, hc⟩ : ∃ b0 off, ao = some ⟨b0, off, none⟩ ∧ b0 < w.heap.size ∧ ∀ i, i < len → w.cell? ⟨b0, off + i * 2, none⟩ = some (.int .i64 (N i)) ∧ w.cell? ⟨b0, off + i * 2 + 1, none⟩ = some (.bool (S i)) ∧ (Lit.int .i64 (N i)).wf = true := by
        rcases hE with h | ⟨b0, off, h1, -, h2, h3⟩
        · omega
        · exact ⟨b0, off, h1, h2, h3⟩
      have hcx : ∀ W, Below w.heap.size w W → W.cell? ⟨b0, off + k * 2, none⟩ = some (.int .i64 (N k)) := fun W hW => by
        rw [World.cell?_of_block (w := w) (hW.block b0 hbl)]
        exact (hc k hkl).1
      have hcs : ∀ W, Below w.heap.size w W → W.cell? ⟨b0, off + k * 2 + 1, none⟩ = some (.bool (S k)) := fun W hW => by
        rw [World.cell?_of_block (w := w) (hW.block b0 hbl)]
        exact (hc k hkl).2.1
      have hix := fun W : World => index_box W (b := b0) (off := off) (k := k) (m := len) (c := cap) hkl
      have hf0 := field_b0
      have hf1 := field_b1
      have hcz := hcs wz hB
      cases hSk : S k with
      | true =>
        rw [hSk] at hcz
        cases l with
        | nil =>
          have hT := hQ.nonei
          have hT2 := hQ.nones
          obtain ⟨v', hcut, hQ'⟩ := hQ.cut
          obtain ⟨a', cp', rfl⟩ := hQ'.iq.shape
          replace hcut : ∀ W : World, (Instr.slice 64 (.slice a 0 cp) (some (.int .i64 0)) none none).run Try.prog W = .ok (.slice a' 0 cp') W := hcut
          go_wp2_with fail
          refine Calls.mono hT ?_
          rintro e wq ⟨rfl, hw⟩
          obtain rfl := hw.symm
          clear hT hw
          go_wp2_with fail
          refine Calls.mono hT2 ?_
          rintro e wq ⟨rfl, hw⟩
          obtain rfl := hw.symm
          clear hT2 hw hcz hcx hcs hix hf0 hf1 hQ
          have hQ := hQ'
          have hBq := hB
          clear hQ' hB
          have hLi := hQ.leni
          have hLs := hQ.lens
          go_wp2_with (refine wpList_val (v := .slice a' 0 cp') rfl (exec_slice rfl rfl rfl (hcut _)) ?_)
          refine Calls.mono hLi ?_
          rintro e wq ⟨rfl, hw⟩
          obtain rfl := hw.symm
          clear hLi hw hcut
          go_wp2_with fail
          refine Calls.mono hLs ?_
          rintro e wq ⟨rfl, hw⟩
          obtain rfl := hw.symm
          clear hLs hw
          have HALL : Hid (Bst w.heap.size wz b1 c1 b2 c2 n [] [] (.slice a' 0 cp') [] ∧ Below w.heap.size w wz) := ⟨hQ, hBq⟩
          clear hQ hBq
          go_wp2
          go_roundw
          case rel => exact ⟨k + 1, [], by omega, by go_num, Nat.zero_le _, HALL.out⟩
          case measure => simp [intOf]; omega
        | cons x l =>
          obtain ⟨L, hL⟩ : ∃ L, (x :: l).length = L := ⟨_, rfl⟩
          have hLl : L = l.length + 1 := by rw [← hL]; rfl
          have hL0 : 0 < L := by omega
          have HL : Hid ((x :: l).length = L ∧ L = l.length + 1) := ⟨hL, hLl⟩
          have hdL : decide ((0 : Int) < (L : Int)) = true := decide_eq_true (by omega)
          have hT := Bst.takei (x := x) (lr := l.map (Value.int .i64)) hQ
          rw [hL]
          clear hL hLl
          go_wp2_with fail
          refine Calls.mono hT ?_
          rintro e w4 ⟨rfl, hQ4, hb4⟩
          have hT2 := Bst.takes (x := txt (bits .and .i64 x 63)) (lr := l.map tv) hQ4
          have hB4 := hB.trans hb4
          clear hT hQ hB hb4 hcz
          go_wp2_with fail
          refine Calls.mono hT2 ?_
          rintro e w5 ⟨rfl, hQ5, hb5⟩
          have hBq := hB4.trans hb5
          clear hT2 hQ4 hB4 hb5 hcx hcs hix hf0 hf1
          obtain ⟨g, o, cp2, hv, hc0⟩ := hQ5.iq.head
          injection hv with h1 h2 h3
          subst h1
          obtain ⟨v', hcut, hQ6⟩ := hQ5.cut
          obtain ⟨a', cp', hv'⟩ := hQ6.iq.shape
          subst hv'
          obtain ⟨M, hM⟩ : ∃ M : Nat, bits .and .i64 x 63 = (M : Int) := ⟨(bits .and .i64 x 63).toNat, by have := (and63 x).1; omega⟩
          have hcut1 : ∀ W : World, (Instr.slice 64 (.slice (some ⟨g, o, none⟩) L cp) (some (.int .i64 1)) none none).run Try.prog W = .ok (.slice a' l.length cp') W := fun W => by
            have := hcut W
            rw [HL.out.1, show ((min 1 L : Nat) : Int) = 1 by omega] at this
            exact this
          have hsz : (txt (M : Int)).size = M := by rw [txt_size]; omega
          have hmin : min (1 : Int) (L : Int) = 1 := by omega
          have hi0 := fun W : World => index_i0 W (g := g) (off := o) (cp := cp) hL0
          rw [hM]
          have HQ6 : Hid (Bst w.heap.size w5 b1 c1 b2 c2 n (l.map (Value.int .i64)) (l.map tv) (.slice a' l.length cp') l) := hQ6
          clear hQ5 hcut hQ6 h2 h3
          have hLi := HQ6.out.leni
          rw [List.length_map] at hLi
          go_wp2_with (refine wpList_val (v := .slice a' l.length cp') rfl (exec_slice rfl rfl rfl (hcut1 _)) ?_)
          refine Calls.mono hLi ?_
          rintro e wq ⟨rfl, hw⟩
          obtain rfl := hw.symm
          clear hLi hw hcut1 hc0 hi0 hsz hmin hM
          have hLs := HQ6.out.lens
          rw [List.length_map] at hLs
          go_wp2_with fail
          refine Calls.mono hLs ?_
          rintro e wq ⟨rfl, hw⟩
          obtain rfl := hw.symm
          clear hLs hw
          have HBq : Hid (Below w.heap.size w w5) := hBq
          clear hBq
          go_wp2
          go_roundw
          case rel => exact ⟨k + 1, l, by omega, by go_num, by have := HL.out; simp only [List.length_cons] at hlk; omega, HQ6.out, HBq.out⟩
          case measure => simp [intOf]; omega
      | false =>
        rw [hSk] at hcz
        obtain ⟨M, hM⟩ : ∃ M : Nat, bits .and .i64 (N k) 63 = (M : Int) := ⟨(bits .and .i64 (N k) 63).toNat, by have := (and63 (N k)).1; omega⟩
        have hM63 : M ≤ 63 := by have := (and63 (N k)).2; omega
        have htv : tv (N k) = .string (txt (M : Int)) := by unfold tv; rw [hM]
        obtain ⟨L, hL⟩ : ∃ L, l.length = L := ⟨_, rfl⟩
        rw [hL]
        rw [hL] at hlk
        have hcz2 := hcx wz hB
        by_cases hlt : L < n
        · have hdl : decide ((L : Int) < (n : Int)) = true := decide_eq_true (by omega)
          have hT := hQ.puti (N k) (by rw [List.length_map, hL]; exact hlt)
          go_wp2_with fail
          refine Calls.mono hT ?_
          rintro e w4 ⟨rfl, hQ4, hb4⟩
          have hB4 := hB.trans hb4
          have hcz4 := hcx w4 hB4
          have hmk := run_make0 w4 M hM63
          have hms := heap_alloc_new w4 (.cells (Array.replicate M (.int .u8 0)) 5)
          have hmb : Below w4.heap.size w4 (w4.alloc (.cells (Array.replicate M (.int .u8 0)) 5)) := (Below.refl _ w4).alloc (Nat.le_refl _) _
          generalize w4.alloc (.cells (Array.replicate M (.int .u8 0)) 5) = w5 at *
          have hcv := run_conv0 w5 w4.heap.size M hms
          have hQ5 := hQ4.below hmb
          have hB5 := hB4.trans (hmb.mono hB4.size)
          obtain ⟨gm, hgm⟩ : ∃ gm, w4.heap.size = gm := ⟨_, rfl⟩
          rw [hgm] at hmk hcv
          have hT2 := hQ5.puts (txt (M : Int)) (by rw [List.length_map, hL]; exact hlt)
          clear hT hQ hB hb4 hcz hcz2 hQ4 hB4 hmb hms hgm
          go_wp2_with (first
            | (refine wpList_valW (v := .slice (some ⟨gm, 0, none⟩) M M) (w' := w5) rfl (exec_make rfl rfl rfl hmk) ?_)
            | (refine wpList_val (v := .string (txt (M : Int))) rfl (y_conv (t := 73) (t' := 9) (x := .tmp 121) (v := .slice (some ⟨gm, 0, none⟩) M M) rfl rfl hcv) ?_))
          refine Calls.mono hT2 ?_
          rintro e w6 ⟨rfl, hQ6, hb6⟩
          have hB6 := hB5.trans hb6
          have hcz6 := hcx w6 hB6
          obtain ⟨v', w7, hap, hQ7, hb7⟩ := hQ6.push (by rw [hL]; omega) (N k) 64
          obtain ⟨a', cp', hv'⟩ := hQ7.iq.shape
          subst hv'
          have hlen2 : (l ++ [N k]).length = L + 1 := by rw [List.length_append, hL]; rfl
          rw [hL] at hap
          rw [hlen2] at hQ7 hap
          have HQ7 : Hid (Bst w.heap.size w7 b1 c1 b2 c2 n ((l ++ [N k]).map (Value.int .i64)) ((l ++ [N k]).map tv) (.slice a' (L + 1) cp') (l ++ [N k])) := by
            show Bst _ _ _ _ _ _ _ _ _ _ _
            rw [List.map_append, List.map_append]
            show Bst _ _ _ _ _ _ _ (l.map (Value.int .i64) ++ [.int .i64 (N k)]) (l.map tv ++ [tv (N k)]) _ _
            rw [htv]
            exact hQ7
          have HB7 : Hid (Below w.heap.size w w7) := hB6.trans hb7
          obtain ⟨g6, hg6⟩ : ∃ g6, w6.heap.size = g6 := ⟨_, rfl⟩
          rw [hg6] at hap
          have hLi := HQ7.out.leni
          have hLs := HQ7.out.lens
          rw [List.length_map, hlen2] at hLi hLs
          clear hT2 hQ5 hB5 hb6 hmk hcv hcz4 hQ6 hQ7 hb7 hB6
          go_wp2_with (first
            | (refine wpList_apv (x := .tmp 128) (y := .tmp 134) (t1 := 64) (t2 := 64) (v := .slice a L cp) (q := .slice (some ⟨g6, 0, none⟩) 1 1) (z := .slice a' (L + 1) cp') (w' := w7) rfl rfl rfl rfl hap ?_))
          refine Calls.mono hLi ?_
          rintro e wq ⟨rfl, hw⟩
          obtain rfl := hw.symm
          clear hLi hw hap hcz6 hcx hcs hix hf0 hf1
          go_wp2_with fail
          refine Calls.mono hLs ?_
          rintro e wq ⟨rfl, hw⟩
          obtain rfl := hw.symm
          clear hLs hw
          go_wp2
          go_roundw
          case rel => exact ⟨k + 1, l ++ [N k], by omega, by go_num, by omega, HQ7.out, HB7.out⟩
          case measure => simp [intOf]; omega
        · have hdl : decide ((L : Int) < (n : Int)) = false := decide_eq_false (by omega)
          have hT := hQ.fulli (N k) (by rw [List.length_map, hL]; omega)
          go_wp2_with fail
          refine Calls.mono hT ?_
          rintro e w4 ⟨rfl, hQ4, hb4⟩
          have hB4 := hB.trans hb4
          have hcz4 := hcx w4 hB4
          have hmk := run_make0 w4 M hM63
          have hms := heap_alloc_new w4 (.cells (Array.replicate M (.int .u8 0)) 5)
          have hmb : Below w4.heap.size w4 (w4.alloc (.cells (Array.replicate M (.int .u8 0)) 5)) := (Below.refl _ w4).alloc (Nat.le_refl _) _
          generalize w4.alloc (.cells (Array.replicate M (.int .u8 0)) 5) = w5 at *
          have hcv := run_conv0 w5 w4.heap.size M hms
          have hQ5 := hQ4.below hmb
          have hB5 := hB4.trans (hmb.mono hB4.size)
          obtain ⟨gm, hgm⟩ : ∃ gm, w4.heap.size = gm := ⟨_, rfl⟩
          rw [hgm] at hmk hcv
          have hT2 := hQ5.fulls (txt (M : Int)) (by rw [List.length_map, hL]; omega)
          clear hT hQ hB hb4 hcz hcz2 hQ4 hB4 hmb hms hgm
          go_wp2_with (first
            | (refine wpList_valW (v := .slice (some ⟨gm, 0, none⟩) M M) (w' := w5) rfl (exec_make rfl rfl rfl hmk) ?_)
            | (refine wpList_val (v := .string (txt (M : Int))) rfl (y_conv (t := 73) (t' := 9) (x := .tmp 121) (v := .slice (some ⟨gm, 0, none⟩) M M) rfl rfl hcv) ?_))
          refine Calls.mono hT2 ?_
          rintro e w6 ⟨rfl, hQ6, hb6⟩
          have HQ7 : Hid (Bst w.heap.size w6 b1 c1 b2 c2 n (l.map (Value.int .i64)) (l.map tv) (.slice a L cp) l) := by
            rw [hL] at hQ6
            exact hQ6
          have HB7 : Hid (Below w.heap.size w w6) := hB5.trans hb6
          have hLi := HQ7.out.leni
          have hLs := HQ7.out.lens
          rw [List.length_map, hL] at hLi hLs
          clear hT2 hQ5 hB5 hb6 hmk hcv hcz4 hQ6 hcx hcs hix hf0 hf1
          go_wp2_with fail
          refine Calls.mono hLi ?_
          rintro e wq ⟨rfl, hw⟩
          obtain rfl := hw.symm
          clear hLi hw
          go_wp2_with fail
          refine Calls.mono hLs ?_
          rintro e wq ⟨rfl, hw⟩
          obtain rfl := hw.symm
          clear hLs hw
          go_wp2
          go_roundw
          case rel => exact ⟨k + 1, l, by omega, by go_num, by omega, HQ7.out, HB7.out⟩
          case measure => simp [intOf]; omega
    · obtain rfl : k = len := by omega
      have hLi := hQ.leni
      rw [List.length_map] at hLi
      go_wp2_with fail
      refine Calls.mono hLi ?_
      rintro e wq ⟨rfl, hw⟩
      obtain rfl := hw.symm
      clear hLi hw
      have HB : Hid (Below w.heap.size w wz) := hB
      clear hQ hB
      go_wp2
      go_ret
      exact ⟨rfl, HB.out⟩
theorem lboxes_walk (m : Int) (ao : Option Addr) (len cap : Nat) (N : Nat → Int) (S : Nat → Bool) (w : World) (hE : IsBoxs w ao len N S) : Calls Try.prog 8 #[.int .i64 m, .slice ao len cap] w fun e w' => e = .returned (.bool true) ∧ Below w.heap.size w w' := by
  by_cases hl : 1000 < len
  · exact lboxes_far m ao len cap w hl
  · exact lboxes_go m ao len cap N S w hE hl
end Go.Proofs.Yteanpepmncgagaa
