/-
  What readSnapshot and readEvent come to.
-/
import Derived.Test.YthdhnilfkpbmpaaLlg
import Derived.Test.YthdhnilfkpbmpaaDcs
namespace Go.Proofs.Ythdhnilfkpbmpaa
set_option maxRecDepth 100000
open Go.RowKit

set_option linter.unusedVariables false
theorem slice_end (G n cap f : Nat) (h1 : f ≤ n) (h2 : f = cap) (w : World) : (Instr.sliceAt 54 (.slice (some ⟨G, 0, none⟩) n cap) (some (.int .i64 (f : Int))) none none).run Try.prog w = .ok (.slice (some ⟨G, 0, none⟩) (n - f) (cap - f)) w := by
  have he : Try.prog.elem 54 = 5 := by kernel_rfl
  have hu : Try.prog.underlying 54 = some (.slice (Try.prog.elem 54)) := by rw [he]; exact Try.underlying54
  obtain ⟨i0, hi, _, hz1, _⟩ := info_parts info5
  rw [run_sliceAt_slice _ _ _ _ _ _ hu, run_slice_l _ _ _ _ _ hu .i64 f (by omega) (by omega), he]
  simp [sizeOf, typeInfo, hi, sliced, hz1, Result.andThen, h2]
/-- All but the first byte. -/
theorem slice_one {w : World} (G n cap : Nat) (l : List UInt8) (hn : 1 ≤ n) (hB : Bytes w (some ⟨G, 0, none⟩) n cap l) :
    ∃ o, (∀ W : World, (Instr.sliceAt 54 (.slice (some ⟨G, 0, none⟩) n cap) (some (.int .i64 1)) none none).run Try.prog W = .ok (.slice (some ⟨G, o, none⟩) (n - 1) (cap - 1)) W) ∧ Bytes w (some ⟨G, o, none⟩) (n - 1) (cap - 1) l.tail := by
  have hroom := hB.room
  have hl := hB.len
  have htl : l.tail.length = n - 1 := by rw [List.length_tail, hl]
  by_cases h1 : cap = 1
  · have hn1 : n = 1 := by omega
    subst h1 hn1
    have ht : l.tail = [] := List.eq_nil_of_length_eq_zero htl
    refine ⟨0, fun W => ?_, ?_⟩
    · exact slice_end G 1 1 1 (by omega) rfl W
    · rw [ht]
      exact ⟨rfl, Nat.le_refl _, (fun h => by cases h), fun ad _ j u hu => by simp [bs] at hu⟩
  · refine ⟨1, fun W => slice_from G n cap 1 hn (by omega) W, htl, by omega, (fun h => by cases h), fun ad ha j u hu => ?_⟩
    obtain rfl := Option.some.inj ha
    have h2 : (bs l)[j + 1]? = some u := by
      cases l with
      | nil => simp at hl; omega
      | cons x t => simpa [bs] using hu
    have := hB.cells _ rfl (j + 1) u h2
    rw [Addr.add_lit] at this ⊢
    rw [Nat.zero_add] at this
    rw [Nat.add_comm 1 j]
    exact this
section
variable {o : Oper} {a : Act} {w w' : World} {K : Act → World → Prop} {Q : Exit → Act → World → Prop} {x y : Operand} {ty : TypeId} {ad : Addr} {v v' : Value}
theorem wp_load1 (ho : o.op = .load ty x) (hx : a.eval x = .pointer (some ad)) (hr : (loadVar ty ad).run Try.prog w = .ok v w) (h : K (a.put o.dst v) w) : o.wp Try.prog a w K Q := by
  unfold Oper.wp execOp
  simp only [ho, hx, Instr.loadAt, Instr.sureAddr, Sem.run_bind, Sem.run_pure, Result.andThen_ok, hr]
  exact h
theorem exec_load (ho : o.op = .load ty x) (hx : a.eval x = .pointer (some ad)) (hr : (loadVar ty ad).run Try.prog w = .ok v w) : (execOp a.eval o).run Try.prog w = .ok (.value v) w := by
  unfold execOp
  simp only [ho, hx, Instr.loadAt, Instr.sureAddr, Sem.run_bind, Sem.run_pure, Result.andThen_ok, hr]
theorem wp_store1 (ho : o.op = .store ty x y) (hx : a.eval x = .pointer (some ad)) (hy : a.eval y = v) (hr : (storeVar ty ad v).run Try.prog w = .ok () w') (h : K (a.put o.dst undef) w') : o.wp Try.prog a w K Q := by
  unfold Oper.wp execOp
  simp only [ho, hx, hy, Instr.storeAt, Instr.sureAddr, Sem.run_bind, Sem.run_pure, Result.andThen_ok, hr]
  exact h
theorem wp_buildS {n : Nat} {z : Value} (ho : o.op = .buildSlice ty n #[(0, x)]) (hx : a.eval x = z) (hr : (Instr.buildSlice ty n #[(0, z)]).run Try.prog w = .ok v w') (h : K (a.put o.dst v) w') : o.wp Try.prog a w K Q := by
  unfold Oper.wp execOp
  simp only [ho, List.map_toArray, List.map_cons, List.map_nil, hx, Sem.run_bind, Sem.run_pure, Result.andThen_ok, hr]
  exact h
theorem wp_app1 (ho : o.op = .call { callee := .builtin .append, args := #[x, y], argTypes := #[37, 37] }) (hx : a.eval x = v) (hy : a.eval y = v') {z : Value} (hr : (Builtin.append_ #[37, 37] o.type #[v, v']).run Try.prog w = .ok z w') (h : K (a.put o.dst z) w') : o.wp Try.prog a w K Q := by
  unfold Oper.wp execOp
  simp only [ho, resolve, invoke, builtin, Sem.run_bind, Sem.run_pure, Result.andThen_ok, List.map_toArray, List.map_cons, List.map_nil, hx, hy, hr]
  exact h
theorem load_cell_evs (h : w.cell? ad = some v) : (loadVar 37 ad).run Try.prog w = .ok v w := by
  have h3 : Try.prog.underlying 37 = some (.slice 30) := Try.underlying37
  simp [loadVar, isAgg, run_underlying h3, Sem.run_bind, h]
theorem store_cell_evs {g i n c : Nat} {ao : Option Addr} (h : w.cell? ⟨g, i, none⟩ = some v) (hf : w.frozen? ⟨g, i, none⟩ = false) : (storeVar 37 ⟨g, i, none⟩ (.slice ao n c)).run Try.prog w = .ok () (w.setCell ⟨g, i, none⟩ (.slice ao n c)) := by
  have hs : (Try.prog.info? 37).map (·.size) = some 1 := by kernel_rfl
  cases hi : Try.prog.info? 37 with
  | none => rw [hi] at hs; cases hs
  | some i0 =>
    have h1 : i0.size = 1 := by rw [hi] at hs; simpa using hs
    have hst : (store ((⟨g, i, none⟩ : Addr).add 0) (.slice ao n c)).run Try.prog w = .ok () (w.setCell ⟨g, i, none⟩ (.slice ao n c)) := by
      rw [Addr.add_lit, Nat.add_zero, run_store _ _ _ _ _ (by rfl)]
      simp [h, hf]
    simp [storeVar, sizeOf, typeInfo, hi, h1, Value.cells, storeCells, hst]
theorem load_whole {g : Nat} {u : Ev} (h : LiesE w g u) (hl : u.deps.length = 16) : (loadVar 30 ⟨g, 0, none⟩).run Try.prog w = .ok (.agg (evc u)) w :=
  run_loadVar_mid (P := Try.prog) w g 0 30 (evl u) _ (fun j x hx => by rw [Nat.zero_add, cell_of_row w g j _ _ _ h, evc_get]; exact hx) Try.underlying30 rfl (size26 u hl)
end
/-- An event behind the others. -/
theorem push_facts {W : World} {base g k ge : Nat} {p : Option Addr} {v : Value} {b : Bool} {s : List UInt8} {E : List Ev} {u : Ev} (h : Lg W base g p v b s E k) (hbase : base ≤ W.heap.size) (hE : E.length < 65536) (hU : LiesE W ge u) (hq : v.ownBlock ≠ some ge) (hg : Good u) :
    ∃ v' w', (Builtin.append_ #[37, 37] 37 #[v, .slice (some ⟨W.heap.size, 0, none⟩) 1 1]).run Try.prog (W.drew.alloc (.cells (evc u) 30)) = .ok v' w' ∧
      W.drew.cell? ⟨g, 3, none⟩ = some v ∧ LiesE (W.drew.alloc (.cells (evc u) 30)) ge u ∧ LiesE w' ge u ∧ LiesE (w'.setCell ⟨g, 3, none⟩ v') ge u ∧ (W.drew.alloc (.cells (evc u) 30)).cell? ⟨g, 3, none⟩ = some v ∧ w'.cell? ⟨g, 3, none⟩ = some v ∧ w'.frozen? ⟨g, 3, none⟩ = false ∧
      Lg (w'.setCell ⟨g, 3, none⟩ v') base g p v' b s (E ++ [u]) k ∧ Step g v v' W (w'.setCell ⟨g, 3, none⟩ v') ∧ (∃ a c, v' = .slice a (E.length + 1) c) := by
  have hB1 : Below W.heap.size W (W.drew.alloc (.cells (evc u) 30)) := (Below.refl _ W).drew.alloc (Nat.le_refl _) _
  have h1 := h.below hB1 (Nat.le_refl _)
  have hN : LiesE (W.drew.alloc (.cells (evc u) 30)) W.heap.size u := liesE_new W.drew u
  have hS := evs_single _ _ _ hg.wide hN
  obtain ⟨v', w', hr, h2, h3, h4⟩ := run_appE (w := W.drew.alloc (.cells (evc u) 30)) 37 base v E h1.row _ 1 1 [u] hS (by omega) (Nat.le_trans hbase hB1.size)
  have hgl : g < (W.drew.alloc (.cells (evc u) 30)).heap.size := h1.lt
  have hblk : w'.heap[g]? = some (.cells #[.pointer p, .string (sb s), .bool b, v, .int .i64 (k : Int)] 59 (0, 0)) := by
    rw [h3.block g hgl (fun e => h1.notown e.symm)]; exact h1.blk
  have hne : v'.ownBlock ≠ some g := fun e => by
    rcases h4 g e with h5 | h5
    · exact h1.notown h5
    · omega
  have hne2 : v.ownBlock ≠ some ge → LiesE w' ge u := fun hq => by
    rw [LiesE, h3.block ge (Nat.lt_of_lt_of_le hU.lt hB1.size) (fun e => hq e.symm), hB1.block ge hU.lt]; exact hU
  have s2 := hne2 hq
  refine ⟨v', w', hr, h.c3, hU.below hB1 hU.lt, s2, ?_, h1.c3, cell_of_row w' g 3 _ _ _ hblk, frozen_of_row w' g 3 _ _ hblk, ⟨?_, row_set h2 hne _ _, h.low, ?_, ?_, ?_⟩, ?_, ?_⟩
  · rw [LiesE, Below.heap_setCell w' _ _ ge (blk_ne hU h.blk (by decide))]; exact s2
  · rw [heap_setCell_same w' g 3 _ _ _ hblk]; rfl
  · intro e he
    rcases List.mem_append.1 he with he | he
    · exact h.wide e he
    · rw [List.mem_singleton.1 he]; exact hg.wide
  · rw [List.length_append]; simp only [List.length_cons, List.length_nil]; omega
  · have := h.fast
    rw [List.length_append]; omega
  · refine ⟨h3.os.trans hB1.os, h3.tape.trans hB1.tape, h3.output.trans hB1.output, by rw [setCell_size]; exact Nat.le_trans hB1.size h3.size, fun j hj hjg hjv => ?_, fun j hj => ?_⟩
    · rw [Below.heap_setCell w' _ _ j hjg, h3.block j (Nat.lt_of_lt_of_le hj hB1.size) (fun e => hjv e.symm), hB1.block j hj]
    · rcases h4 j hj with h5 | h5
      · exact .inl h5
      · exact .inr (Nat.le_trans hB1.size h5)
  · have := Row.evs h2 (fun e he => by
      rcases List.mem_append.1 he with he | he
      · exact h.wide e he
      · rw [List.mem_singleton.1 he]; exact hg.wide)
    obtain ⟨a, c, h5, -⟩ := this
    exact ⟨a, c, by rw [h5, List.length_append]; rfl⟩
theorem first_cell {w : World} {G n cap : Nat} {l : List UInt8} (hn : 1 ≤ n) (hB : Bytes w (some ⟨G, 0, none⟩) n cap l) : w.cell? ⟨G, 0, none⟩ = some (.int .u8 ((l.getD 0 0).toNat : Int)) := by
  have hl := hB.len
  cases l with
  | nil => simp at hl; omega
  | cons x t =>
    have := hB.cells _ rfl 0 _ (by simp [bs]; rfl)
    rw [Addr.add_lit] at this
    exact this
theorem head_of {l : List UInt8} (hn : 1 ≤ l.length) (x : UInt8) : l.head? = some x ↔ (l.getD 0 0) = x := by
  cases l with
  | nil => simp at hn
  | cons y t => simp

section
variable {w : World} {base g k G cap : Nat} {p : Option Addr} {v : Value} {b : Bool} {s : List UInt8} {E : List Ev} {l : List UInt8}
set_option maxHeartbeats 1000000 in
theorem rsnap_no (hB : Bytes w (some ⟨G, 0, none⟩) l.length cap l) (hc : cap ≤ maxLen) (hl : l.head? ≠ some 1) :
    Calls Try.prog 40 #[.pointer (some ⟨g, 0, none⟩), .slice (some ⟨G, 0, none⟩) l.length cap] w fun e w' => e = .returned (.bool false) ∧ w' = w := by
  have hroom := hB.room
  unfold maxLen at hc
  by_cases h0 : l.length = 0
  · rw [h0]
    clear hB hl
    go_enter Try.func40, Try.ntmps40
    go_wp2
    go_ret
    exact ⟨rfl, rfl⟩
  · have h1 := first_cell (by omega) hB
    have hx : ¬ ((l.getD 0 0).toNat : Int) = 1 := fun e => hl ((head_of (by omega) 1).2 (UInt8.toNat_inj.1 (by show _ = 1; omega)))
    clear hB hl
    generalize ((l.getD 0 0).toNat : Int) = x at *
    generalize l.length = n at *
    have hn0 : ¬ (n : Int) = 0 := by omega
    have hx1 : (x != 1) = true := by simpa using hx
    have hx2 : (x == 1) = false := by simpa using hx
    go_enter Try.func40, Try.ntmps40
    go_wp2
    go_ret
    exact ⟨rfl, rfl⟩
set_option maxHeartbeats 1000000 in
theorem rsnap_yes (h : Lg w base g p v b s E k) (hB : Bytes w (some ⟨G, 0, none⟩) l.length cap l) (hc : cap ≤ maxLen) (hl : l.head? = some 1) :
    Calls Try.prog 40 #[.pointer (some ⟨g, 0, none⟩), .slice (some ⟨G, 0, none⟩) l.length cap] w fun e w' => e = .returned (.bool true) ∧ Lg w' base g p v true l.tail E k ∧ Step g v v w w' := by
  have hroom := hB.room
  unfold maxLen at hc
  have h0 : 1 ≤ l.length := by
    cases l with
    | nil => cases hl
    | cons x t => simp
  have h1 := first_cell h0 hB
  rw [(head_of h0 1).1 hl] at h1
  obtain ⟨o, hsl, hT⟩ := slice_one G l.length cap l h0 hB
  have hcv := conv_any (t := sb l.tail) hT
  have c1 := h.c1
  have c2 := h.c2
  have f1 := h.fz 1
  have f2 := h.fz 2
  have H : Hid _ := (h.set1 l.tail).set2 true
  have HS : Hid (Step g v v w _) := (Step.set g 1 v w (.string (sb l.tail))).trans (Step.set g 2 v _ (.bool true))
  clear h hB hT hl
  generalize sb l.tail = t at *
  generalize l.length = n at *
  have hn0 : ¬ (n : Int) = 0 := by omega
  go_enter Try.func40, Try.ntmps40
  go_wp2
  go_ret
  exact ⟨rfl, H.out, HS.out⟩

set_option maxHeartbeats 1000000 in
theorem revent_kind (hB : Bytes w (some ⟨G, 0, none⟩) l.length cap l) (hc : cap ≤ maxLen) (hl : l.head? ≠ some 0) :
    Calls Try.prog 39 #[.pointer (some ⟨g, 0, none⟩), .slice (some ⟨G, 0, none⟩) l.length cap] w fun e w' => e = .returned (.bool false) ∧ w' = w := by
  have hroom := hB.room
  unfold maxLen at hc
  by_cases h0 : l.length = 0
  · rw [h0]
    clear hB hl
    go_enter Try.func39, Try.ntmps39
    go_wp2
    go_ret
    exact ⟨rfl, rfl⟩
  · have h1 := first_cell (by omega) hB
    have hx : ¬ ((l.getD 0 0).toNat : Int) = 0 := fun e => hl ((head_of (by omega) 0).2 (UInt8.toNat_inj.1 (by show _ = 0; omega)))
    clear hB hl
    generalize ((l.getD 0 0).toNat : Int) = x at *
    generalize l.length = n at *
    have hn0 : ¬ (n : Int) = 0 := by omega
    have hx1 : (x != 0) = true := by simpa using hx
    have hx2 : (x == 0) = false := by simpa using hx
    go_enter Try.func39, Try.ntmps39
    go_wp2
    go_ret
    exact ⟨rfl, rfl⟩
set_option maxHeartbeats 1000000 in
theorem revent_no (hB : Bytes w (some ⟨G, 0, none⟩) l.length cap l) (hc : cap ≤ maxLen) (hG : G < w.heap.size) (hl : l.head? = some 0) (hd : dcE okev l.tail ≠ 0) :
    Calls Try.prog 39 #[.pointer (some ⟨g, 0, none⟩), .slice (some ⟨G, 0, none⟩) l.length cap] w fun e w' => e = .returned (.bool false) ∧ Below w.heap.size w w' := by
  have hroom := hB.room
  have h0 : 1 ≤ l.length := by
    cases l with
    | nil => cases hl
    | cons x t => simp
  have h1 := first_cell h0 hB
  rw [(head_of h0 0).1 hl] at h1
  obtain ⟨o, hsl, hT⟩ := slice_one G l.length cap l h0 hB
  have htl : l.tail.length = l.length - 1 := List.length_tail
  have HD : Hid _ := decode_any (some ⟨G, o, none⟩) (cap - 1) l.tail w (by rw [htl]; exact hT) (by omega) (fun ad ha => by obtain rfl := Option.some.inj ha; exact hG)
  rw [htl] at HD
  have hdl := dcV_len l.tail
  unfold maxLen at hc
  clear hB hT hl
  generalize dcE okev l.tail = f at *
  generalize dcV l.tail = u at *
  generalize l.length = n at *
  have hn0 : ¬ (n : Int) = 0 := by omega
  have hf : (f != 0) = true := by simpa using hd
  have hf2 : (f == 0) = false := by simpa using hd
  go_enter Try.func39, Try.ntmps39
  go_wp2_with fail
  refine Calls.mono HD.out ?_
  rintro e w2 ⟨rfl, hb⟩
  have hn := liesE_new w2 zv
  have HB : Hid (Below w.heap.size w ((w2.alloc (.cells (evc zv) 30)).setRow w2.heap.size (evc u))) := below_setRow (hb.alloc hb.size _) hb.size _
  rw [zv_cells] at hn HB
  clear h1 hsl HD hb
  go_wp2_with (refine store_ev (e := u) rfl rfl rfl rfl hn hdl rfl ?_)
  go_ret
  exact ⟨rfl, HB.out⟩
set_option maxHeartbeats 2000000 in
theorem revent_yes (h : Lg w base g p v b s E k) (hbase : base ≤ w.heap.size) (hE : E.length < 65536) (hB : Bytes w (some ⟨G, 0, none⟩) l.length cap l) (hc : cap ≤ maxLen) (hG : G < w.heap.size) (hl : l.head? = some 0) (hd : dcE okev l.tail = 0) (hg : Good (dcV l.tail)) :
    Calls Try.prog 39 #[.pointer (some ⟨g, 0, none⟩), .slice (some ⟨G, 0, none⟩) l.length cap] w fun e w' => e = .returned (.bool true) ∧ ∃ v', Lg w' base g p v' b s (E ++ [dcV l.tail]) k ∧ Step g v v' w w' := by
  have hroom := hB.room
  have h0 : 1 ≤ l.length := by
    cases l with
    | nil => cases hl
    | cons x t => simp
  have h1 := first_cell h0 hB
  rw [(head_of h0 0).1 hl] at h1
  obtain ⟨o, hsl, hT⟩ := slice_one G l.length cap l h0 hB
  have htl : l.tail.length = l.length - 1 := List.length_tail
  have HD : Hid _ := decode_any (some ⟨G, o, none⟩) (cap - 1) l.tail w (by rw [htl]; exact hT) (by omega) (fun ad ha => by obtain rfl := Option.some.inj ha; exact hG)
  rw [htl, hd] at HD
  unfold maxLen at hc
  clear hB hT hl hd
  generalize dcV l.tail = u at *
  have hdl := hg.1
  generalize l.length = n at *
  have hn0 : ¬ (n : Int) = 0 := by omega
  go_enter Try.func39, Try.ntmps39
  go_wp2_with fail
  refine Calls.mono HD.out ?_
  rintro e w2 ⟨rfl, hb⟩
  have hn := liesE_new w2 zv
  have hU := hn.row u
  have HB : Hid (Below w.heap.size w ((w2.alloc (.cells (evc zv) 30)).setRow w2.heap.size (evc u))) := below_setRow (hb.alloc hb.size _) hb.size _
  have hlt : w.heap.size ≤ w2.heap.size := hb.size
  rw [zv_cells] at hn HB hU
  clear h1 hsl HD hb
  go_upto_region 6 with (refine store_ev (e := u) rfl rfl rfl rfl hn hdl rfl ?_)
  have hw2 : w2.heap.size < ((w2.alloc (.cells (evc zv) 30)).setRow w2.heap.size (evc u)).heap.size := by rw [zv_cells]; exact hU.lt
  rw [zv_cells] at hw2
  clear hn
  generalize ((w2.alloc (.cells #[.int .i64 0, .int .i64 0, .int .i64 0, .int .i64 0, .int .i64 0, .int .i64 0, .int .i64 0, .int .i64 0, .int .i64 0, .int .i64 0, .int .i64 0, .int .i64 0, .int .i64 0, .int .i64 0, .int .i64 0, .int .i64 0, .int .i64 0, .int .i64 0, .int .i64 0, .int .i64 0, .string ⟨#[]⟩, .string ⟨#[]⟩, .string ⟨#[]⟩, .int .i64 0, .int .i64 0, .int .i64 0] 30)).setRow w2.heap.size (evc u)) = W at *
  have hL := h.below HB.out (Nat.le_refl _)
  have hq : v.ownBlock ≠ some w2.heap.size := fun e => by have := (h.own _ e).2.1; omega
  obtain ⟨v', w', hr, c0, s1, s2, s3, c1, c3, cf, HL, HS, a, c, hv⟩ := push_facts hL (Nat.le_trans hbase HB.out.size) hE hU hq hg
  have hbs := fun W : World => run_build1 W u hdl
  have s0 : LiesE W.drew w2.heap.size u := hU
  have H1 : Hid _ := HL
  have H2 : Hid _ := HS
  have Hb : Hid _ := Step.quiet g v HB.out
  clear HL HS hL HB h hg
  subst hv
  refine wp_region_noPanic ?_
  refine wp_region_held_drew (S := fun W' : World => LiesE W' w2.heap.size u) (by kernel_rfl) s0 (fun hHeld => ?_)
  refine wpAnyH_take (i := 0) (oi := { dst := some 24, op := _, type := _, pos := _, after := _, guard := _ }) (v := ?_) rfl (by kernel_rfl) (by kernel_rfl) (by kernel_rfl) (fun _ _ _ h => h) (Or.inl ⟨by rfl, ?_⟩) (by assumption) ?_
  rotate_left
  · intro w hSw
    go_simp <;> with_reducible rfl
  simp only [Act.put, List.setIfInBounds_toArray, List.set_cons_zero, List.set_cons_succ]
  refine wpAnyH_take (i := 1) (oi := { dst := some 25, op := _, type := _, pos := _, after := _, guard := _ }) (v := ?_) rfl (by kernel_rfl) (by kernel_rfl) (by kernel_rfl) (fun _ _ _ h => h) (Or.inl ⟨by rfl, ?_⟩) (by assumption) ?_
  rotate_left
  · intro w hSw
    go_simp <;> with_reducible rfl
  simp only [Act.put, List.setIfInBounds_toArray, List.set_cons_zero, List.set_cons_succ]
  refine wpAnyH_take (i := 2) (oi := { dst := some 26, op := _, type := _, pos := _, after := _, guard := _ }) (v := ?_) rfl (by kernel_rfl) (by kernel_rfl) (by kernel_rfl) (fun _ _ _ h => h) (Or.inl ⟨by rfl, ?_⟩) (by assumption) ?_
  rotate_left
  · intro w hSw
    go_simp <;> with_reducible rfl
  simp only [Act.put, List.setIfInBounds_toArray, List.set_cons_zero, List.set_cons_succ]
  refine wpAnyH_take (i := 3) (oi := { dst := some 27, op := _, type := _, pos := _, after := _, guard := _ }) (v := ?_) rfl (by kernel_rfl) (by kernel_rfl) (by kernel_rfl) (fun _ _ _ h => h) (Or.inl ⟨by rfl, ?_⟩) (by assumption) ?_
  rotate_left
  · intro w hSw
    go_simp <;> with_reducible rfl
  simp only [Act.put, List.setIfInBounds_toArray, List.set_cons_zero, List.set_cons_succ]
  refine wpAnyH_take (i := 5) (oi := { dst := some 29, op := _, type := _, pos := _, after := _, guard := _ }) (v := .agg (evc u)) rfl (by kernel_rfl) (by kernel_rfl) (by kernel_rfl) (fun _ _ _ h => h) (Or.inl ⟨by rfl, ?_⟩) (by assumption) ?_
  · intro w9 hSw
    exact exec_load (ad := ⟨w2.heap.size, 0, none⟩) rfl rfl (load_whole hSw hdl)
  simp only [Act.put, List.setIfInBounds_toArray, List.set_cons_zero, List.set_cons_succ]
  refine wpAnyH_ready (rs := [4, 6]) (by kernel_rfl) (by simp) ?_
  refine AllReadyH.cons (o := { dst := some 28, op := _, type := _, pos := _, after := _, guard := _ }) rfl (fun K hK => ?_) ?_
  · rw [if_pos (by rfl)]
    refine wp_load1 rfl rfl (load_cell_evs (by assumption)) ?_
    refine hK.out _ _ s0 (fun _ => ?_)
    simp only [Act.put, List.setIfInBounds_toArray, List.set_cons_zero, List.set_cons_succ]
    clear hK K
    refine wpAnyH_ready (rs := [6]) (by kernel_rfl) (by simp) ?_
    refine AllReadyH.cons (o := { dst := some 30, op := _, type := _, pos := _, after := _, guard := _ }) rfl (fun K hK => ?_) AllReadyH.nil
    rw [if_pos (by rfl)]
    refine wp_buildS rfl rfl (hbs _) ?_
    refine hK.out _ _ s1 (fun _ => ?_)
    simp only [Act.put, List.setIfInBounds_toArray, List.set_cons_zero, List.set_cons_succ]
    clear hK K
    refine wpAnyH_ready (rs := [7]) (by kernel_rfl) (by simp) ?_
    refine AllReadyH.cons (o := { dst := some 31, op := _, type := _, pos := _, after := _, guard := _ }) rfl (fun K hK => ?_) AllReadyH.nil
    rw [if_pos (by rfl)]
    refine wp_app1 rfl rfl rfl hr ?_
    refine hK.out _ _ s2 (fun _ => ?_)
    simp only [Act.put, List.setIfInBounds_toArray, List.set_cons_zero, List.set_cons_succ]
    clear hK K
    refine wpAnyH_take (i := 8) (oi := { dst := some 32, op := _, type := _, pos := _, after := _, guard := _ }) (v := ?_) rfl (by kernel_rfl) (by kernel_rfl) (by kernel_rfl) (fun _ _ _ h => h) (Or.inl ⟨by rfl, ?_⟩) (by assumption) ?_
    rotate_left
    · intro w hSw
      go_simp <;> with_reducible rfl
    simp only [Act.put, List.setIfInBounds_toArray, List.set_cons_zero, List.set_cons_succ]
    refine wpAnyH_take (i := 9) (oi := { dst := some 33, op := _, type := _, pos := _, after := _, guard := _ }) (v := ?_) rfl (by kernel_rfl) (by kernel_rfl) (by kernel_rfl) (fun _ _ _ h => h) (Or.inl ⟨by rfl, ?_⟩) (by assumption) ?_
    rotate_left
    · intro w hSw
      go_simp <;> with_reducible rfl
    simp only [Act.put, List.setIfInBounds_toArray, List.set_cons_zero, List.set_cons_succ]
    refine wpAnyH_ready (rs := [10]) (by kernel_rfl) (by simp) ?_
    refine AllReadyH.cons (o := { dst := none, op := _, type := _, pos := _, after := _, guard := _ }) rfl (fun K hK => ?_) AllReadyH.nil
    rw [if_pos (by rfl)]
    refine wp_store1 rfl rfl rfl (store_cell_evs c3 cf) ?_
    refine hK.out _ _ s3 (fun _ => ?_)
    clear hK K
    refine wpAnyH_done (by kernel_rfl) ?_ _
    refine NoPanic.normal ?_
    go_wp2
    go_ret
    exact ⟨rfl, _, H1.out, Hb.out.trans H2.out⟩
  refine AllReadyH.cons (o := { dst := some 30, op := _, type := _, pos := _, after := _, guard := _ }) rfl (fun K hK => ?_) AllReadyH.nil
  rw [if_pos (by rfl)]
  refine wp_buildS rfl rfl (hbs _) ?_
  refine hK.out _ _ s1 (fun _ => ?_)
  simp only [Act.put, List.setIfInBounds_toArray, List.set_cons_zero, List.set_cons_succ]
  clear hK K
  refine wpAnyH_ready (rs := [4]) (by kernel_rfl) (by simp) ?_
  refine AllReadyH.cons (o := { dst := some 28, op := _, type := _, pos := _, after := _, guard := _ }) rfl (fun K hK => ?_) AllReadyH.nil
  rw [if_pos (by rfl)]
  refine wp_load1 rfl rfl (load_cell_evs (by assumption)) ?_
  refine hK.out _ _ s1 (fun _ => ?_)
  simp only [Act.put, List.setIfInBounds_toArray, List.set_cons_zero, List.set_cons_succ]
  clear hK K
  refine wpAnyH_ready (rs := [7]) (by kernel_rfl) (by simp) ?_
  refine AllReadyH.cons (o := { dst := some 31, op := _, type := _, pos := _, after := _, guard := _ }) rfl (fun K hK => ?_) AllReadyH.nil
  rw [if_pos (by rfl)]
  refine wp_app1 rfl rfl rfl hr ?_
  refine hK.out _ _ s2 (fun _ => ?_)
  simp only [Act.put, List.setIfInBounds_toArray, List.set_cons_zero, List.set_cons_succ]
  clear hK K
  refine wpAnyH_take (i := 8) (oi := { dst := some 32, op := _, type := _, pos := _, after := _, guard := _ }) (v := ?_) rfl (by kernel_rfl) (by kernel_rfl) (by kernel_rfl) (fun _ _ _ h => h) (Or.inl ⟨by rfl, ?_⟩) (by assumption) ?_
  rotate_left
  · intro w hSw
    go_simp <;> with_reducible rfl
  simp only [Act.put, List.setIfInBounds_toArray, List.set_cons_zero, List.set_cons_succ]
  refine wpAnyH_take (i := 9) (oi := { dst := some 33, op := _, type := _, pos := _, after := _, guard := _ }) (v := ?_) rfl (by kernel_rfl) (by kernel_rfl) (by kernel_rfl) (fun _ _ _ h => h) (Or.inl ⟨by rfl, ?_⟩) (by assumption) ?_
  rotate_left
  · intro w hSw
    go_simp <;> with_reducible rfl
  simp only [Act.put, List.setIfInBounds_toArray, List.set_cons_zero, List.set_cons_succ]
  refine wpAnyH_ready (rs := [10]) (by kernel_rfl) (by simp) ?_
  refine AllReadyH.cons (o := { dst := none, op := _, type := _, pos := _, after := _, guard := _ }) rfl (fun K hK => ?_) AllReadyH.nil
  rw [if_pos (by rfl)]
  refine wp_store1 rfl rfl rfl (store_cell_evs c3 cf) ?_
  refine hK.out _ _ s3 (fun _ => ?_)
  clear hK K
  refine wpAnyH_done (by kernel_rfl) ?_ _
  refine NoPanic.normal ?_
  go_wp2
  go_ret
  exact ⟨rfl, _, H1.out, Hb.out.trans H2.out⟩
end
end Go.Proofs.Ythdhnilfkpbmpaa
