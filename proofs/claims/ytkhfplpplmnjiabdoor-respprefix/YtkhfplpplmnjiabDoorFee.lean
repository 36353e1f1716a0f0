/-
  A parser in memory; what Feed comes to.
-/
import Derived.Test.YtkhfplpplmnjiabDoorAll
import Derived.Test.YtkhfplpplmnjiabDoorTal
namespace Go.Proofs.YtkhfplpplmnjiabDoor
set_option maxRecDepth 100000
open Go.RowKit Go.Sort

/-- A parser lies in a block: what is left, and its fault. -/
def Pz (w : World) (g : Nat) (s : ByteArray) (F : Nat) : Prop := w.heap[g]? = some (.cells #[.string s, .int .i64 (F : Int)] 40 (0, 0))
theorem Pz.lt {w : World} {g F : Nat} {s : ByteArray} (h : Pz w g s F) : g < w.heap.size := by
  rw [Pz] at h
  exact (Array.getElem?_eq_some_iff.1 h).1
theorem Pz.same {w w' : World} {g F : Nat} {s : ByteArray} (h : Pz w g s F) (hb : w'.heap[g]? = w.heap[g]?) : Pz w' g s F := by rw [Pz, hb]; exact h
theorem Pz.below {w w' : World} {g F : Nat} {s : ByteArray} (h : Pz w g s F) (hb : Below w.heap.size w w') : Pz w' g s F := h.same (hb.block g h.lt)
theorem Pz.cell0 {w : World} {g F : Nat} {s : ByteArray} (h : Pz w g s F) : w.cell? ⟨g, 0, none⟩ = some (.string s) := by rw [cell_of_row w g 0 _ _ _ h]; rfl
theorem Pz.cell1 {w : World} {g F : Nat} {s : ByteArray} (h : Pz w g s F) : w.cell? ⟨g, 1, none⟩ = some (.int .i64 (F : Int)) := by rw [cell_of_row w g 1 _ _ _ h]; rfl
theorem Pz.fz {w : World} {g F : Nat} {s : ByteArray} (h : Pz w g s F) (j : Nat) : w.frozen? ⟨g, j, none⟩ = false := frozen_of_row w g j _ _ h
theorem Pz.set0 {w : World} {g F : Nat} {s : ByteArray} (h : Pz w g s F) (t : ByteArray) : Pz (w.setCell ⟨g, 0, none⟩ (.string t)) g t F := by
  rw [Pz, heap_setCell_same w g 0 _ _ _ h]; rfl
theorem Pz.set1 {w : World} {g F : Nat} {s : ByteArray} (h : Pz w g s F) (E : Nat) : Pz (w.setCell ⟨g, 1, none⟩ (.int .i64 (E : Int))) g s E := by
  rw [Pz, heap_setCell_same w g 1 _ _ _ h]; rfl
theorem pz_new (w : World) : Pz (w.alloc (.cells #[.string ByteArray.empty, .int .i64 0] 40)) w.heap.size ByteArray.empty 0 := heap_alloc_new w _

def fdL (s : List UInt8) (F : Nat) (b : List UInt8) : List (List (List UInt8)) := if F ≠ 0 then [] else (Rs.parse (s ++ b)).1
def fdF (s : List UInt8) (F : Nat) (b : List UInt8) : Nat := if F ≠ 0 then F else if (Rs.parse (s ++ b)).2.2 = 2 then 0 else (Rs.parse (s ++ b)).2.2
def fdS (s : List UInt8) (F : Nat) (b : List UInt8) : List UInt8 := if F ≠ 0 then s else if (Rs.parse (s ++ b)).2.2 = 2 then (s ++ b).drop (Rs.parse (s ++ b)).2.1 else []

theorem grown_of_below {w w' : World} (hb : Below w.heap.size w w') (r : Option Nat) : w.grownBy w' r := ⟨hb.os, hb.tape, hb.output, hb.size, fun k hk _ => hb.block k hk⟩
theorem grown_trans {a b c : World} {row : Option Nat} (h : a.grownBy b row) (k : b.grownBy c row) : a.grownBy c row :=
  ⟨k.os.trans h.os, k.tape.trans h.tape, k.output.trans h.output, Nat.le_trans h.size k.size, fun i hi hr => (k.block i (Nat.lt_of_lt_of_le hi h.size) hr).trans (h.block i hi hr)⟩
theorem wpList_appR {P : Program} {w w' : World} {ops : Array Oper} {rest : List Oper} {o : Oper} {a : Act} {Q : Exit → Act → World → Prop} {s x : Operand} {t t' : TypeId} {p q v : Value} (hg : o.guard = none) (ho : o.op = .call { callee := .builtin .append, args := #[s, x], argTypes := #[t, t'] }) (hs : a.eval s = p) (hx : a.eval x = q)
    (hr : (Builtin.append_ #[t, t'] o.type #[p, q]).run P w = .ok v w') (hK : wpList P ops Q rest (a.put o.dst v) w') : wpList P ops Q (o :: rest) a w :=
  wpList_plain hg fun K hK' => by
    unfold Oper.wp execOp
    simp only [ho, resolve, invoke, builtin, Sem.run_bind, Sem.run_pure, Result.andThen_ok, List.map_toArray, List.map_cons, List.map_nil, hs, hx, hr]
    exact hK' _ _ hK

def dropB (ao : Option Addr) (c k : Nat) : Option Addr := if c = k then ao else ao.map (·.add (k * 1))
theorem slice_fromB (w : World) {ao : Option Addr} {m c k : Nat} (hk : k ≤ m) : (Instr.slice 25 (.slice ao m c) (some (.int .i64 (k : Int))) none none).run Tryd.prog w = .ok (.slice (dropB ao c k) (m - k) (c - k)) w := by
  have h2 : (k : Int) ≤ (m : Int) := by omega
  have hs : (sizeOf 5).run Tryd.prog w = .ok 1 w := Tryd.sizeOf5 w
  have ht : Tryd.prog.underlying 25 = some (.slice 5) := Tryd.underlying25
  have he : Tryd.prog.elem 25 = 5 := by kernel_rfl
  rw [run_slice_l w 25 ao m c (by rw [he]; exact ht) .i64 (k : Int) (by omega) h2, he, hs, Result.andThen_ok]
  unfold sliced dropB
  simp
theorem Bytes.dropB {w : World} {ao : Option Addr} {m c : Nat} {l : List UInt8} (h : Bytes w ao m c l) (k : Nat) (hk : k ≤ m) : Bytes w (dropB ao c k) (m - k) (c - k) (l.drop k) := by
  have hr := h.room
  unfold Go.Proofs.YtkhfplpplmnjiabDoor.dropB
  by_cases hc : c = k
  · have hmk : m = k := by omega
    have hl : l.drop k = [] := List.drop_eq_nil_of_le (by rw [h.len]; omega)
    rw [if_pos hc, hl]
    exact ⟨by simp; omega, by omega, fun _ => ⟨by omega, by omega⟩, fun ad _ j u hu => by simp [bs] at hu⟩
  · rw [if_neg hc, Nat.mul_one]
    exact h.drop k hk
theorem conv_text {w : World} {ao : Option Addr} {n c : Nat} {l : List UInt8} (h : Bytes w ao n c l) : (convert 25 9 (.slice ao n c)).run Tryd.prog w = .ok (.string (tx l)) w := by
  cases ao with
  | some ad => exact conv_at h
  | none =>
    obtain ⟨rfl, rfl⟩ := h.none rfl
    have hl : l = [] := List.eq_nil_of_length_eq_zero h.len
    subst hl
    rw [run_convert_bytes_string w 25 9 5 none 0 0 Tryd.underlying25 Tryd.underlying5 Tryd.underlying9]
    simp [Conv.bytesToString]
    rfl

theorem feed_nil (ao : Option Addr) (m c : Nat) (w : World) : Calls Tryd.prog 7 #[.pointer none, .slice ao m c] w fun e w' => e = .returned (.tuple #[.slice none 0 0, .int .i64 0]) ∧ w' = w := by
  go_enter Tryd.func7, Tryd.ntmps7
  go_wp2
  go_ret2
  exact ⟨rfl, rfl⟩

set_option maxHeartbeats 2000000 in
theorem feed_bad (g F : Nat) (s : List UInt8) (ao : Option Addr) (m c : Nat) (l : List UInt8) (w : World) (hP : Pz w g (tx s) F) (hF : F ≠ 0) :
    Calls Tryd.prog 7 #[.pointer (some ⟨g, 0, none⟩), .slice ao m c] w fun e w' => ∃ v, e = .returned (.tuple #[v, .int .i64 (fdF s F l : Int)]) ∧ Cmds w' w.heap.size v (cm (fdL s F l)) ∧ Pz w' g (tx (fdS s F l)) (fdF s F l) ∧ w.grownBy w' (some g) := by
  have hc1 := hP.cell1
  have hF0 := ne_zero hF
  have hl : fdL s F l = [] := if_pos hF
  have hf : fdF s F l = F := if_pos hF
  have hs : fdS s F l = s := if_pos hF
  rw [hl, hf, hs]
  clear hl hf hs
  go_enter Tryd.func7, Tryd.ntmps7
  go_wp2_with fail
  go_quiet (fail)
  go_wp2
  go_ret2
  exact ⟨_, rfl, Cmds.nil _ _, hP.below (drawn w nq), grown_of_below (drawn w nq) _⟩

set_option maxHeartbeats 2000000 in
theorem feed_good (g : Nat) (s : List UInt8) (ao : Option Addr) (m c : Nat) (l : List UInt8) (w : World) (hP : Pz w g (tx s) 0) (hb : Bytes w ao m c l) (hm : s.length + m ≤ 1048576) :
    Calls Tryd.prog 7 #[.pointer (some ⟨g, 0, none⟩), .slice ao m c] w fun e w' => ∃ v, e = .returned (.tuple #[v, .int .i64 (fdF s 0 l : Int)]) ∧ Cmds w' w.heap.size v (cm (fdL s 0 l)) ∧ Pz w' g (tx (fdS s 0 l)) (fdF s 0 l) ∧ w.grownBy w' (some g) := by
  have hlen := hb.len
  have hc0 := hP.cell0
  have hc1 := hP.cell1
  have hts : (tx s).size = s.length := tx_size s
  obtain ⟨cap, w1, hcv, hT, hcap, hb1, -⟩ := conv_tail (tx s) w (by rw [hts]; unfold maxLen; omega)
  rw [tx_list] at hT
  rw [hts] at hcv
  have hbx := hb.below hb1 (Nat.le_refl _)
  obtain ⟨ao', c', w2, happ, hB2, hc', hb2⟩ := app_tail hT hcap hbx 25 w.heap.size (Nat.le_refl _) (by unfold maxLen; omega) (by omega)
  have hb12 : Below w.heap.size w w2 := hb1.trans hb2
  have HP2 := hP.below hb12
  obtain ⟨N, hN⟩ : ∃ N, N = s.length + m := ⟨_, rfl⟩
  obtain ⟨M, hM⟩ : ∃ M, M = s.length := ⟨_, rfl⟩
  rw [← hN] at happ hB2
  rw [← hM] at happ hcv
  have C := takeall_any ao' N c' (s ++ l) w2 hB2 (by omega) hc'
  obtain ⟨hpa, -, -⟩ := Rs.parse_len (s ++ l)
  have hbad := Rs.parse_bad (s ++ l)
  have hl : fdL s 0 l = (Rs.parse (s ++ l)).1 := if_neg (fun h => h rfl)
  have hf : fdF s 0 l = if (Rs.parse (s ++ l)).2.2 = 2 then 0 else (Rs.parse (s ++ l)).2.2 := if_neg (fun h => h rfl)
  have hs : fdS s 0 l = if (Rs.parse (s ++ l)).2.2 = 2 then (s ++ l).drop (Rs.parse (s ++ l)).2.1 else [] := if_neg (fun h => h rfl)
  rw [List.length_append, hlen, ← hN] at hpa
  rw [hl, hf, hs]
  clear hl hf hs
  generalize (Rs.parse (s ++ l)).1 = L at *
  generalize (Rs.parse (s ++ l)).2.1 = A at *
  generalize (Rs.parse (s ++ l)).2.2 = E at *
  have C : Hid _ := C
  have HB2 : Hid _ := hB2
  have Happ : Hid _ := happ
  clear hT hbx hb hP hM hN hm hlen hts happ hB2
  by_cases hE : E = 2
  · subst hE
    rw [if_pos rfl, if_pos rfl]
    go_enter Tryd.func7, Tryd.ntmps7
    go_wp2_with (first | (at_builtin; refine wpList_appR rfl rfl rfl rfl Happ.out ?_))
    refine Calls.mono C.out ?_
    rintro e w3 ⟨v, rfl, hcm, hb3⟩
    have HP3 := HP2.below hb3
    have HB3 := HB2.out.below hb3 (Nat.le_refl _)
    have hsl := slice_fromB w3 (ao := ao') (m := N) (c := c') (k := A) hpa
    have hcv2 := conv_text (HB3.dropB A hpa)
    have hf0 := HP3.fz 0
    have hcl0 := HP3.cell0
    have HPn := HP3.set0 (tx ((s ++ l).drop A))
    have hgr := grown_set w3 g 0 (.string (tx ((s ++ l).drop A)))
    have hgw : w.grownBy w3 (some g) := grown_of_below (hb12.trans (hb3.mono hb12.size)) _
    have hcm' : Cmds (w3.setCell ⟨g, 0, none⟩ (.string (tx ((s ++ l).drop A)))) w.heap.size v (cm L) := by
      obtain ⟨xs, x1, x2⟩ := hcm
      have hgl : g < w2.heap.size := HP2.lt
      have kp : ∀ {t u n ys}, w3.ownsRow w2.heap.size t 1 u n ys → (w3.setCell ⟨g, 0, none⟩ (.string (tx ((s ++ l).drop A)))).ownsRow w.heap.size t 1 u n ys := fun h => by
        refine own_rebase (World.ownsRow.kept h hgr ?_) hb12.size
        rcases h.2 with ⟨rfl, -⟩ | ⟨k, cp, cr, rfl, hk, -⟩
        · exact .inl rfl
        · refine .inr ?_
          simp only [Value.ownBlock, ne_eq, Option.some.injEq]
          omega
      exact ⟨xs, kp x1, fun i S hi => by
        obtain ⟨y, y1, y2⟩ := x2 i S hi
        exact ⟨y, y1, kp y2⟩⟩
    have hcm' : Hid _ := hcm'
    have HPn : Hid _ := HPn
    have hgrn : Hid _ := grown_trans hgw hgr
    clear hgr hgw hcm HB3 HP2 hcv hc0 hc1
    generalize dropB ao' c' A = bo at *
    obtain ⟨vo, vn, vc, rfl⟩ : ∃ vo vn vc, v = .slice vo vn vc := by
      obtain ⟨a1, a2, a3, -⟩ := Cmds.val hcm'.out
      exact ⟨_, _, _, a3⟩
    go_wp2
    go_ret2
    exact ⟨_, rfl, hcm'.out, HPn.out, hgrn.out⟩
  · rw [if_neg hE, if_neg hE]
    have hE' : ((E : Int) == 2) = false := by rw [beq_eq_false_iff_ne]; omega
    have hE4 : E ≤ 4 := by omega
    go_enter Tryd.func7, Tryd.ntmps7
    go_wp2_with (first | (at_builtin; refine wpList_appR rfl rfl rfl rfl Happ.out ?_))
    refine Calls.mono C.out ?_
    rintro e w3 ⟨v, rfl, hcm, hb3⟩
    have HP3 := HP2.below hb3
    have hf0 := HP3.fz 0
    have hcl0 := HP3.cell0
    have hf1 := HP3.fz 1
    have hcl1 := HP3.cell1
    have HPn := (HP3.set0 (tx [])).set1 E
    have hgr := grown_trans (grown_set w3 g 0 (.string (tx []))) (grown_set (w3.setCell ⟨g, 0, none⟩ (.string (tx []))) g 1 (.int .i64 (E : Int)))
    have hgw : w.grownBy w3 (some g) := grown_of_below (hb12.trans (hb3.mono hb12.size)) _
    have hcm' : Cmds ((w3.setCell ⟨g, 0, none⟩ (.string (tx []))).setCell ⟨g, 1, none⟩ (.int .i64 (E : Int))) w.heap.size v (cm L) := by
      obtain ⟨xs, x1, x2⟩ := hcm
      have hgl : g < w2.heap.size := HP2.lt
      have kp : ∀ {t u n ys}, w3.ownsRow w2.heap.size t 1 u n ys → ((w3.setCell ⟨g, 0, none⟩ (.string (tx []))).setCell ⟨g, 1, none⟩ (.int .i64 (E : Int))).ownsRow w.heap.size t 1 u n ys := fun h => by
        refine own_rebase (World.ownsRow.kept h hgr ?_) hb12.size
        rcases h.2 with ⟨rfl, -⟩ | ⟨k, cp, cr, rfl, hk, -⟩
        · exact .inl rfl
        · refine .inr ?_
          simp only [Value.ownBlock, ne_eq, Option.some.injEq]
          omega
      exact ⟨xs, kp x1, fun i S hi => by
        obtain ⟨y, y1, y2⟩ := x2 i S hi
        exact ⟨y, y1, kp y2⟩⟩
    have hcm' : Hid _ := hcm'
    have HPn : Hid _ := HPn
    have hgrn : Hid _ := grown_trans hgw hgr
    clear hgr hgw hcm HP2 hcv hc0 hc1
    obtain ⟨vo, vn, vc, rfl⟩ : ∃ vo vn vc, v = .slice vo vn vc := by
      obtain ⟨a1, a2, a3, -⟩ := Cmds.val hcm'.out
      exact ⟨_, _, _, a3⟩
    go_wp2
    go_ret2
    exact ⟨_, rfl, hcm'.out, HPn.out, hgrn.out⟩
end Go.Proofs.YtkhfplpplmnjiabDoor
