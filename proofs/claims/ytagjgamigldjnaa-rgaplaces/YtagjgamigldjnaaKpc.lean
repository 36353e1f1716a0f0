/-
  RgaPlaces: what is pushed behind the anchor of a place stands at that place.
-/
import Derived.Test.YtagjgamigldjnaaKxe
import Derived.Test.YtagjgamigldjnaaKod
import Derived.Lib.MinMax
namespace Go.Proofs.Ytagjgamigldjnaa
set_option maxRecDepth 100000
open Go.RowKit

theorem field_e1 (w : World) (b i : Nat) : (Instr.fieldAt 41 (.pointer (some ⟨b, i, none⟩)) 1).run Try.prog w = .ok (.pointer (some ⟨b, i + 2, none⟩)) w := by go_simp
theorem field_e2p (w : World) (b i : Nat) : (Instr.fieldAt 41 (.pointer (some ⟨b, i, none⟩)) 2).run Try.prog w = .ok (.pointer (some ⟨b, i + 3, none⟩)) w := by go_simp
theorem field_d0 (w : World) (b i : Nat) : (Instr.fieldAt 26 (.pointer (some ⟨b, i, none⟩)) 0).run Try.prog w = .ok (.pointer (some ⟨b, i + 0, none⟩)) w := by go_simp
theorem field_d1 (w : World) (b i : Nat) : (Instr.fieldAt 26 (.pointer (some ⟨b, i, none⟩)) 1).run Try.prog w = .ok (.pointer (some ⟨b, i + 1, none⟩)) w := by go_simp
theorem geq_bK (W : World) (m n : Int) {t : Bool} (h : decide (n ≤ m) = t) : (binOp .geq 3 (.int .i64 m) (.int .i64 n)).run Try.prog W = .ok (.bool t) W := by
  subst h
  simp [go_sem]
theorem add_wrapK (W : World) (x : Int) : (binOp .add 3 (.int .i64 x) (.int .i64 1)).run Try.prog W = .ok (.int .i64 (IntKind.i64.wrap (x + 1))) W := by
  simp [go_sem]
section
variable {o : Oper} {a : Act} {w : World} {x y : Operand} {ts : Array TypeId} {m n : Int}
theorem exec_maxK (ho : o.op = .call { callee := .builtin .max, args := #[x, y], argTypes := ts }) (hx : a.eval x = .int .i64 m) (hy : a.eval y = .int .i64 n) : (execOp a.eval o).run Try.prog w = .ok (.value (.int .i64 (max m n))) w := by
  unfold execOp
  simp only [ho, resolve, invoke, builtin, Sem.run_bind, Sem.run_pure, Result.andThen_ok, List.map_toArray, List.map_cons, List.map_nil, hx, hy, Go.Lib.run_max_ints]
theorem exec_minK (ho : o.op = .call { callee := .builtin .min, args := #[x, y], argTypes := ts }) (hx : a.eval x = .int .i64 m) (hy : a.eval y = .int .i64 n) : (execOp a.eval o).run Try.prog w = .ok (.value (.int .i64 (min m n))) w := by
  unfold execOp
  simp only [ho, resolve, invoke, builtin, Sem.run_bind, Sem.run_pure, Result.andThen_ok, List.map_toArray, List.map_cons, List.map_nil, hx, hy, Go.Lib.run_min_ints]
end
theorem store_iK {w : World} {g j : Nat} {v0 : Value} {x : Int} (hc : w.cell? ⟨g, j, none⟩ = some v0) (hf : w.frozen? ⟨g, j, none⟩ = false) : (Instr.storeAt 3 (.pointer (some ⟨g, j, none⟩)) (.int .i64 x)).run Try.prog w = .ok () (w.setCell ⟨g, j, none⟩ (.int .i64 x)) := by
  have ha := Try.isAgg3 w
  go_simp
theorem cell_other {w : World} {ad p : Addr} {v y : Value} (h : p.block ≠ ad.block) (hc : w.cell? p = some y) : (w.setCell ad v).cell? p = some y :=
  (World.cell?_of_block (w := w) (heap_setCell_other w ad p.block v h)).trans hc
theorem evs_lt {w : World} {b off m c i : Nat} {E : List Ev} (h : Evs w (some ⟨b, off, none⟩) m c E) (hi : i < m) : b < w.heap.size := by
  obtain ⟨b', off', u, hao, -, -, -, hb⟩ := h.at hi
  have : b = b' := by simpa using congrArg (Option.map Addr.block) hao
  rw [this]
  exact hb
theorem range_dep {w : World} {b k z : Nat} {e : Ev} (h : w.rangeAt b k (evl e)) (hl : e.deps.length = 16) (hz : z < 16) : w.cell? ⟨b, k + 3 + z, none⟩ = some (.int .i64 (e.deps.getD z 0)) := by
  have := h (3 + z) (.int .i64 (e.deps.getD z 0)) (evl_mid hl z hz)
  rwa [← Nat.add_assoc] at this
theorem time_up {t x : Int} (ht : 0 ≤ t) (hx : x < 1152921504606846975) : x < max t (IntKind.i64.wrap (x + 1)) := by
  by_cases h : x < 0
  · omega
  · have : IntKind.i64.wrap (x + 1) = x + 1 := by simp [IntKind.wrap, IntKind.signed, IntKind.bits]; omega
    omega
theorem anch_is {I : List Ev} {k : Nat} (h : k ≤ I.length) : ∃ rr rn : Int, anchE I (k : Int) = ((rr, rn), 0) ∧ ((k = 0 ∧ rr = 0 ∧ rn = 0) ∨ ∃ j p, k = j + 1 ∧ I[j]? = some p ∧ rr = p.r ∧ rn = p.n) := by
  cases k with
  | zero => exact ⟨0, 0, if_pos rfl, .inl ⟨rfl, rfl, rfl⟩⟩
  | succ j =>
    have hj : j < I.length := by omega
    refine ⟨I[j].r, I[j].n, ?_, .inr ⟨j, I[j], rfl, List.getElem?_eq_getElem hj, rfl, rfl⟩⟩
    unfold anchE
    rw [if_neg (by omega), if_neg (by omega), Int.toNat_natCast, Nat.add_sub_cancel, List.getD_eq_getElem?_getD, List.getElem?_eq_getElem hj]
    rfl
theorem not_covers {e : Ev} {r n t rr rn : Int} {key value : List UInt8} {z : Nat} (hz : z = (max 0 (min r 15)).toNat) (h : e.deps.getD z 0 < n) : coversE e (pushv r n t key value rr rn) = false := by
  unfold coversE hasv okdot pushv
  rw [Bool.and_eq_false_iff]
  by_cases h1 : 0 ≤ r ∧ r < 16
  · right
    rw [decide_eq_false_iff_not]
    have : z = r.toNat := by omega
    subst this
    show ¬ n ≤ e.deps.getD r.toNat 0
    omega
  · left
    rw [decide_eq_false_iff_not]
    show ¬ (0 ≤ r ∧ r < 16 ∧ 1 ≤ n ∧ n ≤ 1048576)
    omega
theorem of_places {E : List Ev} {m : Nat} {Q : Ev → Prop} (h : ∀ j y, j < m → E[j]? = some y → Q y) {e : Ev} (he : e ∈ E) (hm : E.length ≤ m) : Q e := by
  obtain ⟨j, hj⟩ := List.getElem?_of_mem he
  exact h j e (by have := (List.getElem?_eq_some_iff.1 hj).1; omega) hj
theorem places_pure {key value : List UInt8} {E : List Ev} {k : Nat} {r n t rr rn : Int} (hu : Unlike E) (h1 : ∀ e ∈ E, e.t < t) (h2 : ∀ e ∈ E, ¬ (e.r = r ∧ e.n = n)) (h3 : ∀ e ∈ E, ¬ (e.rr = r ∧ e.rn = n)) (h4 : ∀ e ∈ E, coversE e (pushv r n t key value rr rn) = false)
    (h5 : (k = 0 ∧ noRef (pushv r n t key value rr rn) = true) ∨ ¬ (rr = 0 ∧ rn = 0)) (hP : (k = 0 ∧ rr = 0 ∧ rn = 0) ∨ ∃ j p, k = j + 1 ∧ (itemsE key E)[j]? = some p ∧ rr = p.r ∧ rn = p.n) :
    itemsE key (E ++ [pushv r n t key value rr rn]) = ((itemsE key E).take k ++ [pushv r n t key value rr rn]) ++ (itemsE key E).drop k := by
  have hux : Unlike (E ++ [pushv r n t key value rr rn]) := by
    unfold Unlike
    rw [List.pairwise_append]
    refine ⟨hu, List.pairwise_singleton _ _, fun a ha b hb hd => ?_⟩
    rw [List.mem_singleton.1 hb] at hd
    exact h2 a ha hd
  rw [items_push (key := key) (k := k) ⟨rfl, rfl⟩ hux (fun e he => by
    have := h1 e he
    unfold laterE
    rw [if_pos (show (pushv r n t key value rr rn).t ≠ e.t from fun h => by have : t = e.t := h; omega)]
    exact decide_eq_true this) h3 h4 ?_, List.append_assoc]
  · rfl
  · rcases hP with ⟨hk, hr1, hr2⟩ | ⟨j, p, hk, hp, hr1, hr2⟩
    · rcases h5 with h5 | h5
      · exact .inl h5
      · exact absurd ⟨hr1, hr2⟩ h5
    · rcases h5 with h5 | h5
      · omega
      · exact .inr ⟨j, p, hk, hp, hr1, hr2, by unfold noRef; exact decide_eq_false h5⟩
set_option maxHeartbeats 16000000 in
theorem kplaces_walk (ao : Option Addr) (m c : Nat) (E : List Ev) (key : List UInt8) (hkey : key.length ≤ 9223372036854775807) (cut : Int) (hcut : (Lit.int .u64 cut).wf = true) (r n : Int) (value : List UInt8) (hval : value.length ≤ 9223372036854775807) (wo : World) (hEo : Evs wo ao m c E) :
    Calls Try.prog 7 #[.slice ao m c, .string (sb key), .int .u64 cut, .agg (dotc r n), .string (sb value)] wo fun e w' => e = .returned (.bool true) ∧ Below wo.heap.size wo w' := by
  have hcut' : Hid ((Lit.int .u64 cut).wf = true) := hcut
  have hkey' : Hid (key.length ≤ 9223372036854775807) := hkey
  have hval' : Hid (value.length ≤ 9223372036854775807) := hval
  have hwo : Below wo.heap.size wo (wo.alloc (.cells (dotc r n) 26)) := (Below.refl _ _).alloc (Nat.le_refl _) _
  have hE := hEo.below hwo (Nat.le_refl _)
  have HWO : Hid (Below wo.heap.size wo (wo.alloc (.cells (dotc r n) 26))) := hwo
  have hdl : LiesD (wo.alloc (.cells (dotc r n) 26)) wo.heap.size r n := heap_alloc_new wo _
  obtain ⟨gd, hgd⟩ : ∃ g : Nat, g = wo.heap.size := ⟨_, rfl⟩
  have HDL : Hid (LiesD (wo.alloc (.cells (dotc r n) 26)) gd r n) := by show LiesD _ _ _ _; rw [hgd]; exact hdl
  clear hcut hkey hval hwo hdl hEo
  go_enter Try.func7, Try.ntmps7
  go_upto_region 1 with (fail)
  rw [← hgd]
  change Code.wp _ _ _ _ (wo.alloc (.cells (dotc r n) 26))
  generalize wo.alloc (.cells (dotc r n) 26) = w at hE HWO HDL ⊢
  clear hgd
  have HE : Aside (Evs w ao m c E) := hE
  have hwide : Hid (∀ e ∈ E, Wide e) := hE.wide
  have hlen := hE.len
  clear hE
  go_wp2_with fail
  refine (awake_any w).mono ?_
  rintro e w1 ⟨rfl, hb1⟩
  have hE1 := HE.out.below hb1 (Nat.le_refl _)
  have HB1 : Hid (Below w.heap.size w w1) := hb1
  clear hb1 HE
  go_wp2_with fail
  refine (few_any ao m c E w1 hE1).mono ?_
  rintro e w2 ⟨t, rfl, hfew, hw2⟩
  obtain rfl := hw2.symm
  clear hw2
  cases t with
  | false =>
    go_wp2_with fail
    refine (awake_any w1).mono ?_
    rintro e w3 ⟨rfl, hb3⟩
    have HB3 : Hid (Below w.heap.size w w3) := HB1.out.trans (hb3.mono HB1.out.size)
    clear hb3
    go_wp2
    go_ret
    exact ⟨rfl, HWO.out.trans (HB3.out.mono HWO.out.size)⟩
  | true =>
    have hm : m ≤ 60 := hfew rfl
    clear hfew
    go_wp2_with fail
    refine (unlike_any ao m c E w1 hE1 (by omega)).mono ?_
    rintro e w2 ⟨t, rfl, hun, hb2⟩
    have HE1 : Aside (Evs w2 ao m c E) := hE1.below hb2 (Nat.le_refl _)
    have HB2 : Hid (Below w.heap.size w w2) := HB1.out.trans (hb2.mono HB1.out.size)
    clear hb2 hE1 HB1
    cases t with
    | false =>
      go_wp2_with fail
      refine (awake_any w2).mono ?_
      rintro e w3 ⟨rfl, hb3⟩
      have HB3 : Hid (Below w.heap.size w w3) := HB2.out.trans (hb3.mono HB2.out.size)
      clear hb3
      go_wp2
      go_ret
      exact ⟨rfl, HWO.out.trans (HB3.out.mono HWO.out.size)⟩
    | true =>
      have HU : Hid (Unlike E) := hun rfl
      clear hun
      go_wp2_with fail
      refine (items_any ao m c E key w2 HE1.out (by omega)).mono ?_
      rintro e w3 ⟨v3, rfl, hR3, hb3⟩
      have HWI : Hid (∀ e ∈ itemsE key E, Wide e) := fun e he => hwide.out e (mem_items.1 he).1.1
      obtain ⟨a3, c3, hv3, hE3⟩ := hR3.evs HWI.out
      subst hv3
      have HS3 : Aside (Evs w3 ao m c E ∧ Evs w3 a3 (itemsE key E).length c3 (itemsE key E) ∧ Below w.heap.size w w3 ∧ LiesD w3 gd r n) := ⟨HE1.out.below hb3 (Nat.le_refl _), hE3, HB2.out.trans (hb3.mono HB2.out.size), HDL.out.below (HB2.out.trans (hb3.mono HB2.out.size)) HDL.out.lt⟩
      have hil := items_len key E
      obtain ⟨k, hk, hkq⟩ := cut_mod cut (itemsE key E).length hcut'.out
      obtain ⟨rr, rn, HA9, HAK9⟩ := anch_is (I := itemsE key E) hkq
      have HPU : Hid (∀ t, (∀ e ∈ E, e.t < t) → (∀ e ∈ E, ¬ (e.r = r ∧ e.n = n)) → (∀ e ∈ E, ¬ (e.rr = r ∧ e.rn = n)) → (∀ e ∈ E, coversE e (pushv r n t key value rr rn) = false) → ((k = 0 ∧ noRef (pushv r n t key value rr rn) = true) ∨ ¬ (rr = 0 ∧ rn = 0)) → itemsE key (E ++ [pushv r n t key value rr rn]) = ((itemsE key E).take k ++ [pushv r n t key value rr rn]) ++ (itemsE key E).drop k) := fun t h1 h2 h3 h4 h5 => places_pure HU.out h1 h2 h3 h4 h5 HAK9
      have HK0 : Hid (k = 0 → rr = 0 ∧ rn = 0) := fun h => by
        rcases HAK9 with h1 | ⟨j, p, h1, -⟩
        · exact h1.2
        · omega
      have hcon := fun W hE' => anchor_any ao m c E key (k : Int) W hE' (show m ≤ 1000 by omega)
      rw [HA9] at hcon
      dsimp only at hcon
      have HCO : Aside (∀ W, Evs W ao m c E → Calls Try.prog 11 #[.slice ao m c, .string (sb key), .int .i64 (k : Int)] W fun e w' => e = .returned (.tuple #[.agg (dotc rr rn), .int .i64 0]) ∧ Below W.heap.size W w') := hcon
      clear hR3 hb3 hE3 HE1 HB2 HA9 HAK9 hcut' HDL hcon
      generalize hI : itemsE key E = I at *
      clear hI
      generalize hq9 : I.length = q at *
      have hq1 : ¬ (q : Int) + 1 = 0 := by omega
      have hq1b : ((q : Int) + 1 == 0) = false := beq_false_of_ne hq1
      go_wp2_with fail
      refine (HCO.out w3 HS3.out.1).mono ?_
      rintro e w4 ⟨rfl, hb4⟩
      have hZ : LiesD (w4.alloc (.cells (dotc 0 0) 26)) w4.heap.size 0 0 := heap_alloc_new w4 _
      have hR : LiesD ((w4.alloc (.cells (dotc 0 0) 26)).setRow w4.heap.size (dotc rr rn)) w4.heap.size rr rn := hZ.row _ _
      have hb5 : Below w4.heap.size w4 ((w4.alloc (.cells (dotc 0 0) 26)).setRow w4.heap.size (dotc rr rn)) := below_setRow ((Below.refl _ _).alloc (Nat.le_refl _) _) (Nat.le_refl _) _
      have hb35 : Below w3.heap.size w3 ((w4.alloc (.cells (dotc 0 0) 26)).setRow w4.heap.size (dotc rr rn)) := hb4.trans (hb5.mono hb4.size)
      have HS5 : Aside (Evs ((w4.alloc (.cells (dotc 0 0) 26)).setRow w4.heap.size (dotc rr rn)) ao m c E ∧ Evs ((w4.alloc (.cells (dotc 0 0) 26)).setRow w4.heap.size (dotc rr rn)) a3 q c3 I ∧ Below w.heap.size w ((w4.alloc (.cells (dotc 0 0) 26)).setRow w4.heap.size (dotc rr rn)) ∧ LiesD ((w4.alloc (.cells (dotc 0 0) 26)).setRow w4.heap.size (dotc rr rn)) gd r n) := ⟨HS3.out.1.below hb35 (Nat.le_refl _), HS3.out.2.1.below hb35 (Nat.le_refl _), HS3.out.2.2.1.trans (hb35.mono HS3.out.2.2.1.size), HS3.out.2.2.2.below hb35 HS3.out.2.2.2.lt⟩
      clear hb4 hb5 hb35 HS3 HCO hq1 hq1b hk
      go_upto_region 6 with (refine store_dot (x := .tmp 13) (y := .tmp 48) (g := w4.heap.size) (r := rr) (n := rn) (r' := 0) (n' := 0) rfl ?ho ?hx ?hy ?hg ?_; (case ho => exact rfl); (case hx => exact rfl); (case hy => exact rfl); (case hg => exact hZ))
      change Code.wp _ _ _ _ ((w4.alloc (.cells (dotc 0 0) 26)).setRow w4.heap.size (dotc rr rn))
      generalize (w4.alloc (.cells (dotc 0 0) 26)).setRow w4.heap.size (dotc rr rn) = W5 at hR HS5 ⊢
      clear hZ
      generalize w4.heap.size = gr at hR ⊢
      have HR : Hid (LiesD W5 gr rr rn) := hR
      have HD : Hid (LiesD W5 gd r n) := HS5.out.2.2.2
      have d0 : W5.cell? ⟨gd, 0, none⟩ = some (.int .i64 r) := LiesD.range HD.out 0 (.int .i64 r) rfl
      have d1 : W5.cell? ⟨gd, 1, none⟩ = some (.int .i64 n) := LiesD.range HD.out 1 (.int .i64 n) rfl
      have f0 : W5.cell? ⟨gr, 0, none⟩ = some (.int .i64 rr) := LiesD.range HR.out 0 (.int .i64 rr) rfl
      have f1 : W5.cell? ⟨gr, 1, none⟩ = some (.int .i64 rn) := LiesD.range HR.out 1 (.int .i64 rn) rfl
      have hZ : LiesE (W5.alloc (.cells (evc zv) 41)) W5.heap.size zv := liesE_new _ _
      have H0 : Aside ((0 : Int) ≤ 0 ∧ LiesE ((W5.alloc (.cells (evc zv) 41)).setRow W5.heap.size (evc (pushv r n 0 key value rr rn))) W5.heap.size (pushv r n 0 key value rr rn) ∧ Below W5.heap.size W5 ((W5.alloc (.cells (evc zv) 41)).setRow W5.heap.size (evc (pushv r n 0 key value rr rn))) ∧ ∀ j y, j < 0 → E[j]? = some y → y.t < 0 ∧ ¬ (y.r = r ∧ y.n = n)) := ⟨Int.le_refl _, hZ.row _, below_setRow ((Below.refl _ _).alloc (Nat.le_refl _) _) (Nat.le_refl _) _, fun j y hj => by omega⟩
      clear hR
      go_wp2_with (first | refine wpl_exK rfl (exec_b4 (x := .const (.int .i64 9)) (y := .tmp 51) (z := .tmp 52) (u := .tmp 53) (ty := 39) (i := 0) (j := 1) (k := 3) (l := 5) (p := .int .i64 9) (q := .string (sb key)) (r := .string (sb value)) (s := .agg (dotc rr rn)) (v := .agg (opc (pushv r n 0 key value rr rn))) rfl rfl rfl rfl rfl (build_pop r n key value rr rn _)) ?_ | refine wpl_exK rfl (exec_b2 (x := .tmp 50) (y := .tmp 54) (ty := 41) (i := 0) (j := 3) (p := .agg (dotc r n)) (q := .agg (opc (pushv r n 0 key value rr rn))) (v := .agg (evc (pushv r n 0 key value rr rn))) rfl rfl rfl (build_pev r n key value rr rn _)) ?_ | (refine store_ev (x := .tmp 15) (y := .tmp 55) (g := W5.heap.size) (e := pushv r n 0 key value rr rn) (e' := zv) rfl ?ho ?hx ?hy ?hg rfl rfl ?_; (case ho => exact rfl); (case hx => exact rfl); (case hy => exact rfl); (case hg => exact hZ)))
      change Code.wp _ _ _ _ ((W5.alloc (.cells (evc zv) 41)).setRow W5.heap.size (evc (pushv r n 0 key value rr rn)))
      generalize (W5.alloc (.cells (evc zv) 41)).setRow W5.heap.size (evc (pushv r n 0 key value rr rn)) = W6 at H0 ⊢
      clear hZ d0 d1 f0 f1
      go_loopg [58] m (fun kx s58 wr => ∃ i : Nat, ∃ t : Int, s58 = .int .i64 i ∧ i ≤ m ∧ m - i ≤ kx ∧ Aside (0 ≤ t ∧ LiesE wr W5.heap.size (pushv r n t key value rr rn) ∧ Below W5.heap.size W5 wr ∧ ∀ j y, j < i → E[j]? = some y → y.t < t ∧ ¬ (y.r = r ∧ y.n = n)))
      case atStart => exact ⟨0, 0, rfl, Nat.zero_le _, by omega, H0⟩
      case round =>
        clear H0
        obtain ⟨i, t, rfl, him, hkx, HS⟩ := hrel
        by_cases hlt : i < m
        · have hltz : (i : Int) < (m : Int) := by omega
          obtain ⟨b, off, u, rfl, hui, hu, hru, hbl⟩ := (HS5.out.1.below HS.out.2.2.1 (Nat.le_refl _)).at hlt
          have hu16 := hu.1
          have hct : wr.cell? ⟨b, off + i * 26 + 2, none⟩ = some (.int .i64 u.t) := hru 2 (.int .i64 u.t) rfl
          have hbW : b < W5.heap.size := evs_lt HS5.out.1 hlt
          by_cases h1 : 1152921504606846975 ≤ u.t
          · have hq1 : Hid (decide ((1152921504606846975 : Int) ≤ u.t) = true) := decide_eq_true h1
            go_upto_region 10 with (fail)
            refine region_vals [61, 62, 63, 64, 65, 66, 67, 68, 69, 70, 71, 72, 73, 74, 75] [.slice (some ⟨b, off, none⟩) m c, .int .i64 (i : Int), .pointer (some ⟨b, off + i * 26, none⟩), .pointer (some ⟨b, off + i * 26 + 2, none⟩), .int .i64 u.t, .bool true, .bool true, undef, undef, undef, undef, undef, undef, undef, .bool true] _ (by kernel_rfl) (by kernel_rfl) (by rfl) (by decide) (by kernel_rfl) (by simp only [lay, Act.put, List.setIfInBounds_toArray, List.set_cons_zero, List.set_cons_succ, List.getD_cons_zero, List.getD_cons_succ, Nat.reduceAdd]; rfl) ⟨?_, ?_, ?_, ?_, ?_, ?_, ?_, ?_, ?_, ?_, ?_, ?_, ?_, ?_, ?_, trivial⟩ ?_
            · exact .inl ⟨rfl, fun W hb => yields_move rfl rfl⟩
            · exact .inl ⟨rfl, fun W hb => yields_move rfl rfl⟩
            · exact .inl ⟨rfl, fun W hb => yields_indexAddr rfl rfl rfl (index_ev W hlt)⟩
            · exact .inl ⟨rfl, fun W hb => yields_field rfl rfl (field_e1 W _ _)⟩
            · exact .inl ⟨rfl, fun W hb => yields_load rfl rfl (load_i ((hb.cell hbl).trans hct))⟩
            · exact .inl ⟨rfl, fun W hb => yields_bin rfl rfl rfl (eqGuard_ik W) (geq_bK W _ _ hq1.out)⟩
            · exact .inl ⟨rfl, fun W hb => yields_move rfl rfl⟩
            · exact .inr ⟨rfl, rfl⟩
            · exact .inr ⟨rfl, rfl⟩
            · exact .inr ⟨rfl, rfl⟩
            · exact .inr ⟨rfl, rfl⟩
            · exact .inr ⟨rfl, rfl⟩
            · exact .inr ⟨rfl, rfl⟩
            · exact .inr ⟨rfl, rfl⟩
            · exact .inl ⟨rfl, fun W hb => yields_pick rfl rfl rfl⟩
            intro W2 hb2
            have HB9 : Hid (Below w.heap.size w W2) := HS5.out.2.2.1.trans ((HS.out.2.2.1.trans (hb2.mono HS.out.2.2.1.size)).mono HS5.out.2.2.1.size)
            clear hb2 HS hct hru hq1
            go_wp2
            go_ret
            exact ⟨rfl, HWO.out.trans (HB9.out.mono HWO.out.size)⟩
          · have hq1 : Hid (decide ((1152921504606846975 : Int) ≤ u.t) = false) := decide_eq_false h1
            by_cases h2 : u.r = r ∧ u.n = n
            · have hq2 : Hid (decide (u.r = r ∧ u.n = n) = true) := decide_eq_true h2
              clear h2
              go_upto_region 10 with (fail)
              refine region_vals [61, 62, 63, 64, 65, 66, 67, 68, 69, 70, 71, 72, 73, 74, 75] [.slice (some ⟨b, off, none⟩) m c, .int .i64 (i : Int), .pointer (some ⟨b, off + i * 26, none⟩), .pointer (some ⟨b, off + i * 26 + 2, none⟩), .int .i64 u.t, .bool false, .bool false, .slice (some ⟨b, off, none⟩) m c, .int .i64 (i : Int), .pointer (some ⟨b, off + i * 26, none⟩), .pointer (some ⟨b, off + i * 26 + 0, none⟩), .agg (dotc u.r u.n), .agg (dotc r n), .bool true, .bool true] _ (by kernel_rfl) (by kernel_rfl) (by rfl) (by decide) (by kernel_rfl) (by simp only [lay, Act.put, List.setIfInBounds_toArray, List.set_cons_zero, List.set_cons_succ, List.getD_cons_zero, List.getD_cons_succ, Nat.reduceAdd]; rfl) ⟨?_, ?_, ?_, ?_, ?_, ?_, ?_, ?_, ?_, ?_, ?_, ?_, ?_, ?_, ?_, trivial⟩ ?_
              · exact .inl ⟨rfl, fun W hb => yields_move rfl rfl⟩
              · exact .inl ⟨rfl, fun W hb => yields_move rfl rfl⟩
              · exact .inl ⟨rfl, fun W hb => yields_indexAddr rfl rfl rfl (index_ev W hlt)⟩
              · exact .inl ⟨rfl, fun W hb => yields_field rfl rfl (field_e1 W _ _)⟩
              · exact .inl ⟨rfl, fun W hb => yields_load rfl rfl (load_i ((hb.cell hbl).trans hct))⟩
              · exact .inl ⟨rfl, fun W hb => yields_bin rfl rfl rfl (eqGuard_ik W) (geq_bK W _ _ hq1.out)⟩
              · exact .inl ⟨rfl, fun W hb => yields_move rfl rfl⟩
              · exact .inl ⟨rfl, fun W hb => yields_move rfl rfl⟩
              · exact .inl ⟨rfl, fun W hb => yields_move rfl rfl⟩
              · exact .inl ⟨rfl, fun W hb => yields_indexAddr rfl rfl rfl (index_ev W hlt)⟩
              · exact .inl ⟨rfl, fun W hb => yields_field rfl rfl (field_e0 W _ _)⟩
              · exact .inl ⟨rfl, fun W hb => yields_load rfl rfl (load_dt (range_below hru hb hbl))⟩
              · exact .inl ⟨rfl, fun W hb => yields_load rfl rfl (load_dtr (LiesD.range (HD.out.below (HS.out.2.2.1.trans (hb.mono HS.out.2.2.1.size)) HD.out.lt)))⟩
              · exact .inl ⟨rfl, fun W hb => yields_bin rfl rfl rfl (eqGuard_dt W _ _ _ _) (eql_dt W hq2.out)⟩
              · exact .inl ⟨rfl, fun W hb => yields_pick rfl rfl rfl⟩
              intro W2 hb2
              have HB9 : Hid (Below w.heap.size w W2) := HS5.out.2.2.1.trans ((HS.out.2.2.1.trans (hb2.mono HS.out.2.2.1.size)).mono HS5.out.2.2.1.size)
              clear hb2 HS hct hru hq1 hq2
              go_wp2
              go_ret
              exact ⟨rfl, HWO.out.trans (HB9.out.mono HWO.out.size)⟩
            · have hq2 : Hid (decide (u.r = r ∧ u.n = n) = false) := decide_eq_false h2
              have HALL : Hid (∀ j y, j < i + 1 → E[j]? = some y → y.t < max t (IntKind.i64.wrap (u.t + 1)) ∧ ¬ (y.r = r ∧ y.n = n)) := fun j y hj hy => by
                rcases Nat.lt_succ_iff_lt_or_eq.1 hj with h9 | h9
                · have := HS.out.2.2.2 j y h9 hy
                  exact ⟨by omega, this.2⟩
                · subst h9
                  rw [hui] at hy
                  obtain rfl := Option.some.inj hy
                  exact ⟨time_up HS.out.1 (by omega), h2⟩
              clear h2
              go_upto_region 10 with (fail)
              refine region_vals [61, 62, 63, 64, 65, 66, 67, 68, 69, 70, 71, 72, 73, 74, 75] [.slice (some ⟨b, off, none⟩) m c, .int .i64 (i : Int), .pointer (some ⟨b, off + i * 26, none⟩), .pointer (some ⟨b, off + i * 26 + 2, none⟩), .int .i64 u.t, .bool false, .bool false, .slice (some ⟨b, off, none⟩) m c, .int .i64 (i : Int), .pointer (some ⟨b, off + i * 26, none⟩), .pointer (some ⟨b, off + i * 26 + 0, none⟩), .agg (dotc u.r u.n), .agg (dotc r n), .bool false, .bool false] _ (by kernel_rfl) (by kernel_rfl) (by rfl) (by decide) (by kernel_rfl) (by simp only [lay, Act.put, List.setIfInBounds_toArray, List.set_cons_zero, List.set_cons_succ, List.getD_cons_zero, List.getD_cons_succ, Nat.reduceAdd]; rfl) ⟨?_, ?_, ?_, ?_, ?_, ?_, ?_, ?_, ?_, ?_, ?_, ?_, ?_, ?_, ?_, trivial⟩ ?_
              · exact .inl ⟨rfl, fun W hb => yields_move rfl rfl⟩
              · exact .inl ⟨rfl, fun W hb => yields_move rfl rfl⟩
              · exact .inl ⟨rfl, fun W hb => yields_indexAddr rfl rfl rfl (index_ev W hlt)⟩
              · exact .inl ⟨rfl, fun W hb => yields_field rfl rfl (field_e1 W _ _)⟩
              · exact .inl ⟨rfl, fun W hb => yields_load rfl rfl (load_i ((hb.cell hbl).trans hct))⟩
              · exact .inl ⟨rfl, fun W hb => yields_bin rfl rfl rfl (eqGuard_ik W) (geq_bK W _ _ hq1.out)⟩
              · exact .inl ⟨rfl, fun W hb => yields_move rfl rfl⟩
              · exact .inl ⟨rfl, fun W hb => yields_move rfl rfl⟩
              · exact .inl ⟨rfl, fun W hb => yields_move rfl rfl⟩
              · exact .inl ⟨rfl, fun W hb => yields_indexAddr rfl rfl rfl (index_ev W hlt)⟩
              · exact .inl ⟨rfl, fun W hb => yields_field rfl rfl (field_e0 W _ _)⟩
              · exact .inl ⟨rfl, fun W hb => yields_load rfl rfl (load_dt (range_below hru hb hbl))⟩
              · exact .inl ⟨rfl, fun W hb => yields_load rfl rfl (load_dtr (LiesD.range (HD.out.below (HS.out.2.2.1.trans (hb.mono HS.out.2.2.1.size)) HD.out.lt)))⟩
              · exact .inl ⟨rfl, fun W hb => yields_bin rfl rfl rfl (eqGuard_dt W _ _ _ _) (eql_dt W hq2.out)⟩
              · exact .inl ⟨rfl, fun W hb => yields_pick rfl rfl rfl⟩
              intro W2 hb2
              have hbw2 : Below W5.heap.size W5 W2 := HS.out.2.2.1.trans (hb2.mono HS.out.2.2.1.size)
              have hx2 : LiesE W2 W5.heap.size (pushv r n t key value rr rn) := HS.out.2.1.below hb2 HS.out.2.1.lt
              have hct2 : W2.cell? ⟨b, off + i * 26 + 2, none⟩ = some (.int .i64 u.t) := (hb2.cell hbl).trans hct
              have hcx : W2.drew.cell? ⟨W5.heap.size, 2, none⟩ = some (.int .i64 t) := hx2.c2
              have hst := store_iK (w := W2.drew) (x := max t (IntKind.i64.wrap (u.t + 1))) hcx hx2.frozen
              have hct3 : (W2.drew.setCell ⟨W5.heap.size, 2, none⟩ (.int .i64 (max t (IntKind.i64.wrap (u.t + 1))))).cell? ⟨b, off + i * 26 + 2, none⟩ = some (.int .i64 u.t) := cell_other (by simp; omega) hct2
              have HS4 : Aside (0 ≤ max t (IntKind.i64.wrap (u.t + 1)) ∧ LiesE (W2.drew.setCell ⟨W5.heap.size, 2, none⟩ (.int .i64 (max t (IntKind.i64.wrap (u.t + 1))))) W5.heap.size (pushv r n (max t (IntKind.i64.wrap (u.t + 1))) key value rr rn) ∧ Below W5.heap.size W5 (W2.drew.setCell ⟨W5.heap.size, 2, none⟩ (.int .i64 (max t (IntKind.i64.wrap (u.t + 1))))) ∧ ∀ j y, j < i + 1 → E[j]? = some y → y.t < max t (IntKind.i64.wrap (u.t + 1)) ∧ ¬ (y.r = r ∧ y.n = n)) := ⟨by have := HS.out.1; omega, LiesE.setT (w := W2.drew) hx2 _, hbw2.drew.setCell (Nat.le_refl _) _, HALL.out⟩
              clear hb2 HS hq1 hq2 hbw2 hru hct
              go_upto_region 12 with (fail)
              refine wp_region_noPanic ?_
              refine wp_region_held_drew (S := fun W' : World => W'.cell? ⟨b, off + i * 26 + 2, none⟩ = some (.int .i64 u.t)) (by kernel_rfl) hct2 (fun hHeld => ?_)
              refine wpAnyH_take (i := 0) (oi := { dst := some 76, op := _, type := _, pos := _, after := _, guard := _ }) (v := .pointer (some ⟨W5.heap.size, 2, none⟩)) rfl (by kernel_rfl) (by kernel_rfl) (by kernel_rfl) (fun _ _ _ h => h) (Or.inl ⟨by rfl, ?_⟩) (by assumption) ?_
              · intro w9 hSw
                exact exec_fieldg rfl rfl (field_e1 w9 W5.heap.size 0)
              simp only [Act.put, List.setIfInBounds_toArray, List.set_cons_zero, List.set_cons_succ]
              refine wpAnyH_take (i := 2) (oi := { dst := some 78, op := _, type := _, pos := _, after := _, guard := _ }) (v := .slice (some ⟨b, off, none⟩) m c) rfl (by kernel_rfl) (by kernel_rfl) (by kernel_rfl) (fun _ _ _ h => h) (Or.inl ⟨by rfl, ?_⟩) (by assumption) ?_
              · intro w9 hSw
                exact exec_move rfl rfl
              simp only [Act.put, List.setIfInBounds_toArray, List.set_cons_zero, List.set_cons_succ]
              refine wpAnyH_take (i := 3) (oi := { dst := some 79, op := _, type := _, pos := _, after := _, guard := _ }) (v := .int .i64 (i : Int)) rfl (by kernel_rfl) (by kernel_rfl) (by kernel_rfl) (fun _ _ _ h => h) (Or.inl ⟨by rfl, ?_⟩) (by assumption) ?_
              · intro w9 hSw
                exact exec_move rfl rfl
              simp only [Act.put, List.setIfInBounds_toArray, List.set_cons_zero, List.set_cons_succ]
              refine wpAnyH_take (i := 4) (oi := { dst := some 80, op := _, type := _, pos := _, after := _, guard := _ }) (v := .pointer (some ⟨b, off + i * 26, none⟩)) rfl (by kernel_rfl) (by kernel_rfl) (by kernel_rfl) (fun _ _ _ h => h) (Or.inl ⟨by rfl, ?_⟩) (by assumption) ?_
              · intro w9 hSw
                exact exec_index rfl rfl rfl (index_ev w9 hlt)
              simp only [Act.put, List.setIfInBounds_toArray, List.set_cons_zero, List.set_cons_succ]
              refine wpAnyH_take (i := 5) (oi := { dst := some 81, op := _, type := _, pos := _, after := _, guard := _ }) (v := .pointer (some ⟨b, off + i * 26 + 2, none⟩)) rfl (by kernel_rfl) (by kernel_rfl) (by kernel_rfl) (fun _ _ _ h => h) (Or.inl ⟨by rfl, ?_⟩) (by assumption) ?_
              · intro w9 hSw
                exact exec_fieldg rfl rfl (field_e1 w9 _ _)
              simp only [Act.put, List.setIfInBounds_toArray, List.set_cons_zero, List.set_cons_succ]
              refine wpAnyH_take (i := 6) (oi := { dst := some 82, op := _, type := _, pos := _, after := _, guard := _ }) (v := .int .i64 u.t) rfl (by kernel_rfl) (by kernel_rfl) (by kernel_rfl) (fun _ _ _ h => h) (Or.inl ⟨by rfl, ?_⟩) (by assumption) ?_
              · intro w9 hSw
                exact exec_load (ad := ⟨b, off + i * 26 + 2, none⟩) rfl rfl (load_i hSw)
              simp only [Act.put, List.setIfInBounds_toArray, List.set_cons_zero, List.set_cons_succ]
              refine wpAnyH_take (i := 7) (oi := { dst := some 83, op := _, type := _, pos := _, after := _, guard := _ }) (v := .int .i64 (IntKind.i64.wrap (u.t + 1))) rfl (by kernel_rfl) (by kernel_rfl) (by kernel_rfl) (fun _ _ _ h => h) (Or.inl ⟨by rfl, ?_⟩) (by assumption) ?_
              · intro w9 hSw
                exact exec_bin rfl rfl rfl (eqGuard_ik _) (add_wrapK w9 u.t)
              simp only [Act.put, List.setIfInBounds_toArray, List.set_cons_zero, List.set_cons_succ]
              clear hHeld
              refine wpAnyH_ready (rs := [1]) (by kernel_rfl) (by simp) ?_
              refine AllReadyH.cons (o := { dst := some 77, op := _, type := _, pos := _, after := _, guard := _ }) rfl (fun K hK => ?_) AllReadyH.nil
              rw [if_pos (by rfl)]
              refine wp_exK (exec_load (ad := ⟨W5.heap.size, 2, none⟩) rfl rfl (load_i hcx)) ?_
              refine hK.out _ _ hct2 (fun hHeld => ?_)
              clear hK K
              simp only [Act.put, List.setIfInBounds_toArray, List.set_cons_zero, List.set_cons_succ]
              refine wpAnyH_take (i := 8) (oi := { dst := some 84, op := _, type := _, pos := _, after := _, guard := _ }) (v := .int .i64 (max t (IntKind.i64.wrap (u.t + 1)))) rfl (by kernel_rfl) (by kernel_rfl) (by kernel_rfl) (fun _ _ _ h => h) (Or.inl ⟨by rfl, ?_⟩) (by assumption) ?_
              · intro w9 hSw
                exact exec_maxK rfl rfl rfl
              simp only [Act.put, List.setIfInBounds_toArray, List.set_cons_zero, List.set_cons_succ]
              refine wpAnyH_take (i := 9) (oi := { dst := some 85, op := _, type := _, pos := _, after := _, guard := _ }) (v := .pointer (some ⟨W5.heap.size, 2, none⟩)) rfl (by kernel_rfl) (by kernel_rfl) (by kernel_rfl) (fun _ _ _ h => h) (Or.inl ⟨by rfl, ?_⟩) (by assumption) ?_
              · intro w9 hSw
                exact exec_fieldg rfl rfl (field_e1 w9 W5.heap.size 0)
              simp only [Act.put, List.setIfInBounds_toArray, List.set_cons_zero, List.set_cons_succ]
              clear hHeld
              refine wpAnyH_ready (rs := [10]) (by kernel_rfl) (by simp) ?_
              refine AllReadyH.cons (o := { dst := none, op := _, type := _, pos := _, after := _, guard := _ }) rfl (fun K hK => ?_) AllReadyH.nil
              rw [if_pos (by rfl)]
              refine wp_storeK rfl rfl rfl hst ?_
              refine hK.out _ _ hct3 (fun hHeld => ?_)
              clear hK K
              simp only [Act.put]
              refine wpAnyH_done (by kernel_rfl) ?_ _
              refine NoPanic.normal ?_
              clear hHeld
              generalize max t (IntKind.i64.wrap (u.t + 1)) = t2 at *
              generalize W2.drew.setCell ⟨W5.heap.size, 2, none⟩ (.int .i64 t2) = W7 at HS4 ⊢
              clear hst hcx hct2 hct3 hx2
              go_wp2
              go_roundg (m - (i + 1))
              case measure => omega
              case rel => exact ⟨i + 1, t2, by go_num, by omega, Nat.le_refl _, HS4⟩
        · obtain rfl : m = i := by omega
          have hltz : ¬ (m : Int) < (m : Int) := by omega
          obtain ⟨W7, hW7⟩ : ∃ y : World, y = wr := ⟨_, rfl⟩
          subst hW7
          obtain ⟨gx, hgx9⟩ : ∃ g : Nat, g = W5.heap.size := ⟨_, rfl⟩
          have HT : Hid ((∀ e ∈ E, e.t < t) ∧ ∀ e ∈ E, ¬ (e.r = r ∧ e.n = n)) := by
            refine ⟨fun e he => ?_, fun e he => ?_⟩ <;>
            · obtain ⟨j, hj⟩ := List.getElem?_of_mem he
              have := HS.out.2.2.2 j e (by have := (List.getElem?_eq_some_iff.1 hj).1; omega) hj
              first | exact this.1 | exact this.2
          have HS7 : Aside (Evs W7 ao m c E ∧ Evs W7 a3 q c3 I ∧ Below w.heap.size w W7 ∧ LiesE W7 gx (pushv r n t key value rr rn)) := ⟨HS5.out.1.below HS.out.2.2.1 (Nat.le_refl _), HS5.out.2.1.below HS.out.2.2.1 (Nat.le_refl _), HS5.out.2.2.1.trans (HS.out.2.2.1.mono HS5.out.2.2.1.size), by rw [hgx9]; exact HS.out.2.1⟩
          have HD2 : Hid (LiesD W7 gd r n) := HD.out.below HS.out.2.2.1 HD.out.lt
          have HR2 : Hid (LiesD W7 gr rr rn) := HR.out.below HS.out.2.2.1 HR.out.lt
          have f0 : W7.cell? ⟨gr, 0, none⟩ = some (.int .i64 rr) := LiesD.range HR2.out 0 (.int .i64 rr) rfl
          have f1 : W7.cell? ⟨gr, 1, none⟩ = some (.int .i64 rn) := LiesD.range HR2.out 1 (.int .i64 rn) rfl
          rw [← hgx9]
          clear HS HS5 HD HR hkx hgx9
          have hel := fun W : World => eql_dt W (r := rr) (n := rn) (r' := 0) (n' := 0) rfl
          by_cases hz0 : (0 < k) ∧ (rr = 0 ∧ rn = 0)
          · have hkz : (0 : Int) < (k : Int) := by omega
            have hel2 : ∀ W : World, (binOp .eql 26 (.agg #[.int .i64 rr, .int .i64 rn]) (.agg #[.int .i64 0, .int .i64 0])).run Try.prog W = .ok (.bool true) W := fun W => eql_dt W (decide_eq_true hz0.2)
            have HB9 : Hid (Below w.heap.size w W7) := HS7.out.2.2.1
            clear HS7 HD2 HR2 hz0 hel
            go_wp2
            go_ret
            exact ⟨rfl, HWO.out.trans (HB9.out.mono HWO.out.size)⟩
          · have H5 : Hid ((k = 0 ∧ noRef (pushv r n t key value rr rn) = true) ∨ ¬ (rr = 0 ∧ rn = 0)) := by
              by_cases hk0 : k = 0
              · exact .inl ⟨hk0, by unfold noRef pushv; exact decide_eq_true (HK0.out hk0)⟩
              · exact .inr fun h => hz0 ⟨by omega, h⟩
            have H2 : Aside (Below W7.heap.size W7 W7 ∧ ∀ j y, j < 0 → E[j]? = some y → ¬ (y.rr = r ∧ y.rn = n) ∧ y.deps.getD (max 0 (min r 15)).toNat 0 < n) := ⟨Below.refl _ _, fun j y hj => by omega⟩
            obtain ⟨z, hz9⟩ : ∃ z : Nat, z = (max 0 (min r 15)).toNat := ⟨_, rfl⟩
            have hz : Hid (max 0 (min r 15) = (z : Int)) := by show _ = _; omega
            have hz16 : z < 16 := by omega
            rw [← hz9] at H2
            have hkf : (k = 0) ∨ ((0 : Int) < (k : Int) ∧ ∀ W : World, (binOp .eql 26 (.agg #[.int .i64 rr, .int .i64 rn]) (.agg #[.int .i64 0, .int .i64 0])).run Try.prog W = .ok (.bool false) W) := by
              by_cases hk0 : k = 0
              · exact .inl hk0
              · exact .inr ⟨by omega, fun W => eql_dt W (decide_eq_false fun h => hz0 ⟨by omega, h⟩)⟩
            clear hz0 hel
            have HZ9 : Hid (z = (max 0 (min r 15)).toNat) := hz9
            clear hz9
            rcases hkf with hk0 | ⟨hkz, hel2⟩
            · have hkz : ¬ (0 : Int) < (k : Int) := by omega
              clear hk0
              go_wp2
              go_loopg [102] m (fun kx s102 wr => ∃ i : Nat, s102 = .int .i64 i ∧ i ≤ m ∧ m - i ≤ kx ∧ Aside (Below W7.heap.size W7 wr ∧ ∀ j y, j < i → E[j]? = some y → ¬ (y.rr = r ∧ y.rn = n) ∧ y.deps.getD z 0 < n))
              case atStart => exact ⟨0, rfl, Nat.zero_le _, by omega, H2⟩
              case round =>
                clear H2
                obtain ⟨i, rfl, him, hkx, HS⟩ := hrel
                by_cases hlt : i < m
                · have hltz : (i : Int) < (m : Int) := by omega
                  obtain ⟨b, off, u, rfl, hui, hu, hru, hbl⟩ := (HS7.out.1.below HS.out.1 (Nat.le_refl _)).at hlt
                  have hu16 := hu.1
                  by_cases h1 : u.rr = r ∧ u.rn = n
                  · have hq1 : Hid (decide (u.rr = r ∧ u.rn = n) = true) := decide_eq_true h1
                    clear h1
                    go_upto_region 19 with (fail)
                    refine region_vals [105, 106, 107, 108, 109, 110, 111, 112, 113, 114, 115, 116, 117, 118, 119, 120, 121, 122, 123, 124, 125, 126, 127] [.slice (some ⟨b, off, none⟩) m c, .int .i64 (i : Int), .pointer (some ⟨b, off + i * 26, none⟩), .pointer (some ⟨b, off + i * 26 + 19, none⟩), .pointer (some ⟨b, off + i * 26 + 19 + 5, none⟩), .agg (dotc u.rr u.rn), .agg (dotc r n), .bool true, .bool true, undef, undef, undef, undef, undef, undef, undef, undef, undef, undef, undef, undef, undef, .bool true] _ (by kernel_rfl) (by kernel_rfl) (by rfl) (by decide) (by kernel_rfl) (by simp only [lay, Act.put, List.setIfInBounds_toArray, List.set_cons_zero, List.set_cons_succ, List.getD_cons_zero, List.getD_cons_succ, Nat.reduceAdd]; rfl) ⟨?_, ?_, ?_, ?_, ?_, ?_, ?_, ?_, ?_, ?_, ?_, ?_, ?_, ?_, ?_, ?_, ?_, ?_, ?_, ?_, ?_, ?_, ?_, trivial⟩ ?_
                    · exact .inl ⟨rfl, fun W hb => yields_move rfl rfl⟩
                    · exact .inl ⟨rfl, fun W hb => yields_move rfl rfl⟩
                    · exact .inl ⟨rfl, fun W hb => yields_indexAddr rfl rfl rfl (index_ev W hlt)⟩
                    · exact .inl ⟨rfl, fun W hb => yields_field rfl rfl (field_e3i W _ _)⟩
                    · exact .inl ⟨rfl, fun W hb => yields_field rfl rfl (field_p5 W _ _)⟩
                    · exact .inl ⟨rfl, fun W hb => yields_load rfl rfl (load_dtr (range_ref (range_below hru hb hbl) hu16))⟩
                    · exact .inl ⟨rfl, fun W hb => yields_load rfl rfl (load_dtr (LiesD.range (HD2.out.below (HS.out.1.trans (hb.mono HS.out.1.size)) HD2.out.lt)))⟩
                    · exact .inl ⟨rfl, fun W hb => yields_bin rfl rfl rfl (eqGuard_dt W _ _ _ _) (eql_dt W hq1.out)⟩
                    · exact .inl ⟨rfl, fun W hb => yields_move rfl rfl⟩
                    · exact .inr ⟨rfl, rfl⟩
                    · exact .inr ⟨rfl, rfl⟩
                    · exact .inr ⟨rfl, rfl⟩
                    · exact .inr ⟨rfl, rfl⟩
                    · exact .inr ⟨rfl, rfl⟩
                    · exact .inr ⟨rfl, rfl⟩
                    · exact .inr ⟨rfl, rfl⟩
                    · exact .inr ⟨rfl, rfl⟩
                    · exact .inr ⟨rfl, rfl⟩
                    · exact .inr ⟨rfl, rfl⟩
                    · exact .inr ⟨rfl, rfl⟩
                    · exact .inr ⟨rfl, rfl⟩
                    · exact .inr ⟨rfl, rfl⟩
                    · exact .inl ⟨rfl, fun W hb => yields_pick rfl rfl rfl⟩
                    intro W2 hb2
                    have HB9 : Hid (Below w.heap.size w W2) := HS7.out.2.2.1.trans ((HS.out.1.trans (hb2.mono HS.out.1.size)).mono HS7.out.2.2.1.size)
                    clear hb2 HS hru hq1
                    go_wp2
                    go_ret
                    exact ⟨rfl, HWO.out.trans (HB9.out.mono HWO.out.size)⟩
                  · have hq1 : Hid (decide (u.rr = r ∧ u.rn = n) = false) := decide_eq_false h1
                    by_cases h2 : n ≤ u.deps.getD z 0
                    · have hq2 : Hid (decide (n ≤ u.deps.getD z 0) = true) := decide_eq_true h2
                      go_upto_region 19 with (fail)
                      refine region_vals [105, 106, 107, 108, 109, 110, 111, 112, 113, 114, 115, 116, 117, 118, 119, 120, 121, 122, 123, 124, 125, 126, 127] [.slice (some ⟨b, off, none⟩) m c, .int .i64 (i : Int), .pointer (some ⟨b, off + i * 26, none⟩), .pointer (some ⟨b, off + i * 26 + 19, none⟩), .pointer (some ⟨b, off + i * 26 + 19 + 5, none⟩), .agg (dotc u.rr u.rn), .agg (dotc r n), .bool false, .bool false, .slice (some ⟨b, off, none⟩) m c, .int .i64 (i : Int), .pointer (some ⟨gd, 0 + 0, none⟩), .int .i64 r, .int .i64 (min r 15), .int .i64 (z : Int), .pointer (some ⟨b, off + i * 26, none⟩), .pointer (some ⟨b, off + i * 26 + 3, none⟩), .pointer (some ⟨b, off + i * 26 + 3 + z, none⟩), .int .i64 (u.deps.getD z 0), .pointer (some ⟨gd, 0 + 1, none⟩), .int .i64 n, .bool true, .bool true] _ (by kernel_rfl) (by kernel_rfl) (by rfl) (by decide) (by kernel_rfl) (by simp only [lay, Act.put, List.setIfInBounds_toArray, List.set_cons_zero, List.set_cons_succ, List.getD_cons_zero, List.getD_cons_succ, Nat.reduceAdd]; rfl) ⟨?_, ?_, ?_, ?_, ?_, ?_, ?_, ?_, ?_, ?_, ?_, ?_, ?_, ?_, ?_, ?_, ?_, ?_, ?_, ?_, ?_, ?_, ?_, trivial⟩ ?_
                      · exact .inl ⟨rfl, fun W hb => yields_move rfl rfl⟩
                      · exact .inl ⟨rfl, fun W hb => yields_move rfl rfl⟩
                      · exact .inl ⟨rfl, fun W hb => yields_indexAddr rfl rfl rfl (index_ev W hlt)⟩
                      · exact .inl ⟨rfl, fun W hb => yields_field rfl rfl (field_e3i W _ _)⟩
                      · exact .inl ⟨rfl, fun W hb => yields_field rfl rfl (field_p5 W _ _)⟩
                      · exact .inl ⟨rfl, fun W hb => yields_load rfl rfl (load_dtr (range_ref (range_below hru hb hbl) hu16))⟩
                      · exact .inl ⟨rfl, fun W hb => yields_load rfl rfl (load_dtr (LiesD.range (HD2.out.below (HS.out.1.trans (hb.mono HS.out.1.size)) HD2.out.lt)))⟩
                      · exact .inl ⟨rfl, fun W hb => yields_bin rfl rfl rfl (eqGuard_dt W _ _ _ _) (eql_dt W hq1.out)⟩
                      · exact .inl ⟨rfl, fun W hb => yields_move rfl rfl⟩
                      · exact .inl ⟨rfl, fun W hb => yields_move rfl rfl⟩
                      · exact .inl ⟨rfl, fun W hb => yields_move rfl rfl⟩
                      · exact .inl ⟨rfl, fun W hb => yields_field rfl rfl (field_d0 W _ _)⟩
                      · exact .inl ⟨rfl, fun W hb => yields_load rfl rfl (load_i (LiesD.range (HD2.out.below (HS.out.1.trans (hb.mono HS.out.1.size)) HD2.out.lt) 0 (.int .i64 r) rfl))⟩
                      · exact .inl ⟨rfl, fun W hb => yields_ex (exec_minK rfl rfl rfl)⟩
                      · exact .inl ⟨rfl, fun W hb => yields_ex (by rw [← hz.out]; exact exec_maxK rfl rfl rfl)⟩
                      · exact .inl ⟨rfl, fun W hb => yields_indexAddr rfl rfl rfl (index_ev W hlt)⟩
                      · exact .inl ⟨rfl, fun W hb => yields_field rfl rfl (field_e2p W _ _)⟩
                      · exact .inl ⟨rfl, fun W hb => yields_indexAddr rfl rfl rfl (run_indexAt_dep W _ _ _ hz16)⟩
                      · exact .inl ⟨rfl, fun W hb => yields_load rfl rfl (load_i (range_dep (range_below hru hb hbl) hu16 hz16))⟩
                      · exact .inl ⟨rfl, fun W hb => yields_field rfl rfl (field_d1 W _ _)⟩
                      · exact .inl ⟨rfl, fun W hb => yields_load rfl rfl (load_i (LiesD.range (HD2.out.below (HS.out.1.trans (hb.mono HS.out.1.size)) HD2.out.lt) 1 (.int .i64 n) rfl))⟩
                      · exact .inl ⟨rfl, fun W hb => yields_bin rfl rfl rfl (eqGuard_ik W) (geq_bK W _ _ hq2.out)⟩
                      · exact .inl ⟨rfl, fun W hb => yields_pick rfl rfl rfl⟩
                      intro W2 hb2
                      have HB9 : Hid (Below w.heap.size w W2) := HS7.out.2.2.1.trans ((HS.out.1.trans (hb2.mono HS.out.1.size)).mono HS7.out.2.2.1.size)
                      clear hb2 HS hru hq1 hq2
                      go_wp2
                      go_ret
                      exact ⟨rfl, HWO.out.trans (HB9.out.mono HWO.out.size)⟩
                    · have hq2 : Hid (decide (n ≤ u.deps.getD z 0) = false) := decide_eq_false h2
                      go_upto_region 19 with (fail)
                      refine region_vals [105, 106, 107, 108, 109, 110, 111, 112, 113, 114, 115, 116, 117, 118, 119, 120, 121, 122, 123, 124, 125, 126, 127] [.slice (some ⟨b, off, none⟩) m c, .int .i64 (i : Int), .pointer (some ⟨b, off + i * 26, none⟩), .pointer (some ⟨b, off + i * 26 + 19, none⟩), .pointer (some ⟨b, off + i * 26 + 19 + 5, none⟩), .agg (dotc u.rr u.rn), .agg (dotc r n), .bool false, .bool false, .slice (some ⟨b, off, none⟩) m c, .int .i64 (i : Int), .pointer (some ⟨gd, 0 + 0, none⟩), .int .i64 r, .int .i64 (min r 15), .int .i64 (z : Int), .pointer (some ⟨b, off + i * 26, none⟩), .pointer (some ⟨b, off + i * 26 + 3, none⟩), .pointer (some ⟨b, off + i * 26 + 3 + z, none⟩), .int .i64 (u.deps.getD z 0), .pointer (some ⟨gd, 0 + 1, none⟩), .int .i64 n, .bool false, .bool false] _ (by kernel_rfl) (by kernel_rfl) (by rfl) (by decide) (by kernel_rfl) (by simp only [lay, Act.put, List.setIfInBounds_toArray, List.set_cons_zero, List.set_cons_succ, List.getD_cons_zero, List.getD_cons_succ, Nat.reduceAdd]; rfl) ⟨?_, ?_, ?_, ?_, ?_, ?_, ?_, ?_, ?_, ?_, ?_, ?_, ?_, ?_, ?_, ?_, ?_, ?_, ?_, ?_, ?_, ?_, ?_, trivial⟩ ?_
                      · exact .inl ⟨rfl, fun W hb => yields_move rfl rfl⟩
                      · exact .inl ⟨rfl, fun W hb => yields_move rfl rfl⟩
                      · exact .inl ⟨rfl, fun W hb => yields_indexAddr rfl rfl rfl (index_ev W hlt)⟩
                      · exact .inl ⟨rfl, fun W hb => yields_field rfl rfl (field_e3i W _ _)⟩
                      · exact .inl ⟨rfl, fun W hb => yields_field rfl rfl (field_p5 W _ _)⟩
                      · exact .inl ⟨rfl, fun W hb => yields_load rfl rfl (load_dtr (range_ref (range_below hru hb hbl) hu16))⟩
                      · exact .inl ⟨rfl, fun W hb => yields_load rfl rfl (load_dtr (LiesD.range (HD2.out.below (HS.out.1.trans (hb.mono HS.out.1.size)) HD2.out.lt)))⟩
                      · exact .inl ⟨rfl, fun W hb => yields_bin rfl rfl rfl (eqGuard_dt W _ _ _ _) (eql_dt W hq1.out)⟩
                      · exact .inl ⟨rfl, fun W hb => yields_move rfl rfl⟩
                      · exact .inl ⟨rfl, fun W hb => yields_move rfl rfl⟩
                      · exact .inl ⟨rfl, fun W hb => yields_move rfl rfl⟩
                      · exact .inl ⟨rfl, fun W hb => yields_field rfl rfl (field_d0 W _ _)⟩
                      · exact .inl ⟨rfl, fun W hb => yields_load rfl rfl (load_i (LiesD.range (HD2.out.below (HS.out.1.trans (hb.mono HS.out.1.size)) HD2.out.lt) 0 (.int .i64 r) rfl))⟩
                      · exact .inl ⟨rfl, fun W hb => yields_ex (exec_minK rfl rfl rfl)⟩
                      · exact .inl ⟨rfl, fun W hb => yields_ex (by rw [← hz.out]; exact exec_maxK rfl rfl rfl)⟩
                      · exact .inl ⟨rfl, fun W hb => yields_indexAddr rfl rfl rfl (index_ev W hlt)⟩
                      · exact .inl ⟨rfl, fun W hb => yields_field rfl rfl (field_e2p W _ _)⟩
                      · exact .inl ⟨rfl, fun W hb => yields_indexAddr rfl rfl rfl (run_indexAt_dep W _ _ _ hz16)⟩
                      · exact .inl ⟨rfl, fun W hb => yields_load rfl rfl (load_i (range_dep (range_below hru hb hbl) hu16 hz16))⟩
                      · exact .inl ⟨rfl, fun W hb => yields_field rfl rfl (field_d1 W _ _)⟩
                      · exact .inl ⟨rfl, fun W hb => yields_load rfl rfl (load_i (LiesD.range (HD2.out.below (HS.out.1.trans (hb.mono HS.out.1.size)) HD2.out.lt) 1 (.int .i64 n) rfl))⟩
                      · exact .inl ⟨rfl, fun W hb => yields_bin rfl rfl rfl (eqGuard_ik W) (geq_bK W _ _ hq2.out)⟩
                      · exact .inl ⟨rfl, fun W hb => yields_pick rfl rfl rfl⟩
                      intro W2 hb2
                      have HS4 : Aside (Below W7.heap.size W7 W2 ∧ ∀ j y, j < i + 1 → E[j]? = some y → ¬ (y.rr = r ∧ y.rn = n) ∧ y.deps.getD z 0 < n) := ⟨HS.out.1.trans (hb2.mono HS.out.1.size), fun j y hj hy => by
                        rcases Nat.lt_succ_iff_lt_or_eq.1 hj with h9 | h9
                        · exact HS.out.2 j y h9 hy
                        · subst h9
                          rw [hui] at hy
                          obtain rfl := Option.some.inj hy
                          exact ⟨h1, by omega⟩⟩
                      clear hb2 HS hru hq1 hq2 h1 h2
                      go_wp2
                      go_roundg (m - (i + 1))
                      case measure => omega
                      case rel => exact ⟨i + 1, by go_num, by omega, Nat.le_refl _, HS4⟩
                · obtain rfl : m = i := by omega
                  have hltz : ¬ (m : Int) < (m : Int) := by omega
                  obtain ⟨W8, hW8⟩ : ∃ y : World, y = wr := ⟨_, rfl⟩
                  subst hW8
                  have HLI : Hid (itemsE key (E ++ [(pushv r n t key value rr rn)]) = ((I.take k ++ [(pushv r n t key value rr rn)]) ++ I.drop k)) := HPU.out t HT.out.1 HT.out.2 (fun e he => (of_places HS.out.2 he (by omega)).1) (fun e he => not_covers HZ9.out (of_places HS.out.2 he (by omega)).2) H5.out
                  have hE8 := HS7.out.1.below HS.out.1 (Nat.le_refl _)
                  have hX := HS7.out.2.2.2.below HS.out.1 HS7.out.2.2.2.lt
                  have hgx : gx < W8.heap.size := hX.lt
                  have X16 : (pushv r n t key value rr rn).deps.length = 16 := rfl
                  have hXw : Wide (pushv r n t key value rr rn) := push_wide hkey'.out hval'.out
                  have HWX : Hid (∀ e ∈ E ++ [(pushv r n t key value rr rn)], Wide e) := fun e he => (List.mem_append.1 he).elim (hwide.out e) (fun h => by rw [List.mem_singleton.1 h]; exact hXw)
                  have HWL : Hid (∀ e ∈ ((I.take k ++ [(pushv r n t key value rr rn)]) ++ I.drop k), Wide e) := fun e he => (List.mem_append.1 he).elim (fun h => (List.mem_append.1 h).elim (fun h => HWI.out e (List.mem_of_mem_take h)) (fun h => by rw [List.mem_singleton.1 h]; exact hXw)) (fun h => HWI.out e (List.mem_of_mem_drop h))
                  have HI8 : Hid (Evs W8 a3 q c3 I) := HS7.out.2.1.below HS.out.1 (Nat.le_refl _)
                  have HB8 : Hid (Below w.heap.size w W8) := HS7.out.2.2.1.trans (HS.out.1.mono HS7.out.2.2.1.size)
                  clear HS HS7 HT HPU HD2 HR2 hkx
                  go_upto_region 22 with (fail)
                  go_cut [18] from 129 (fun s18 wx => Aside (Row wx W8.heap.size s18 ((I.take k ++ [(pushv r n t key value rr rn)]) ++ I.drop k) ∧ Below W8.heap.size W8 wx))
                  case first =>
                    refine wp_region_noPanic ?_
                    refine wp_region_held_drew (S := fun W' : World => LiesE W' gx (pushv r n t key value rr rn)) (by kernel_rfl) (hX.below (Below.refl _ _).drew hgx) (fun hHeld => ?_)
                    refine wpAnyH_take (i := 1) (oi := { dst := some 130, op := _, type := _, pos := _, after := _, guard := _ }) (v := .slice ao m c) rfl (by kernel_rfl) (by kernel_rfl) (by kernel_rfl) (fun _ _ _ h => h) (Or.inl ⟨by rfl, ?_⟩) (by assumption) ?_
                    · intro w9 hSw
                      exact exec_move rfl rfl
                    simp only [Act.put, List.setIfInBounds_toArray, List.set_cons_zero, List.set_cons_succ]
                    refine wpAnyH_take (i := 3) (oi := { dst := some 132, op := _, type := _, pos := _, after := _, guard := _ }) (v := .agg (evc (pushv r n t key value rr rn))) rfl (by kernel_rfl) (by kernel_rfl) (by kernel_rfl) (fun _ _ _ h => h) (Or.inl ⟨by rfl, ?_⟩) (by assumption) ?_
                    · intro w9 hSw
                      exact exec_load (ad := ⟨gx, 0, none⟩) rfl rfl (load_ev_run hSw X16)
                    simp only [Act.put, List.setIfInBounds_toArray, List.set_cons_zero, List.set_cons_succ]
                    refine wpAnyH_take (i := 6) (oi := { dst := some 135, op := _, type := _, pos := _, after := _, guard := _ }) (v := .string (sb key)) rfl (by kernel_rfl) (by kernel_rfl) (by kernel_rfl) (fun _ _ _ h => h) (Or.inl ⟨by rfl, ?_⟩) (by assumption) ?_
                    · intro w9 hSw
                      exact exec_move rfl rfl
                    simp only [Act.put, List.setIfInBounds_toArray, List.set_cons_zero, List.set_cons_succ]
                    clear hHeld
                    have hbd : Below W8.heap.size W8 W8.drew := (Below.refl _ _).drew
                    generalize W8.drew = W0 at hbd ⊢
                    refine wpAnyH_ready (rs := [0, 4]) (by kernel_rfl) (by simp) ?_
                    refine AllReadyH.cons (o := { dst := some 129, op := _, type := _, pos := _, after := _, guard := _ }) rfl (fun K hK => ?_) ?_
                    · rw [if_pos (by rfl)]
                      have hb1 : Below W8.heap.size W8 (W0.alloc (.cells #[] 41)) := hbd.alloc hbd.size _
                      have hrow1 := row_empty W0 W8.heap.size hbd.size
                      refine wp_build0 rfl (run_build0 W0) ?_
                      refine hK.out _ _ (hX.below hb1 hgx) (fun hHeld => ?_)
                      clear hK K
                      simp only [Act.put, List.setIfInBounds_toArray, List.set_cons_zero, List.set_cons_succ]
                      clear hHeld
                      refine wpAnyH_ready (rs := [2, 4]) (by kernel_rfl) (by simp) ?_
                      refine AllReadyH.cons (o := { dst := some 131, op := _, type := _, pos := _, after := _, guard := _ }) rfl (fun K hK => ?_) ?_
                      · rw [if_pos (by rfl)]
                        refine wp_appE _ _ rfl W8.heap.size (.slice (some ⟨W0.heap.size, 0, none⟩) 0 0) [] rfl hrow1 _ _ _ E rfl (hE8.below hb1 (Nat.le_refl _)) (by simp; omega) hb1.size ?_
                        intro v2 w2 hR2 hg2 hw2
                        have hb2 : Below W8.heap.size W8 w2 := hb1.grown hg2 hb1.size hrow1.own
                        refine hK.out _ _ (hX.below hb2 hgx) (fun hHeld => ?_)
                        clear hK K
                        simp only [Act.put, List.setIfInBounds_toArray, List.set_cons_zero, List.set_cons_succ]
                        clear hHeld
                        rw [List.nil_append] at hR2
                        refine wpAnyH_ready (rs := [4]) (by kernel_rfl) (by simp) ?_
                        refine AllReadyH.cons (o := { dst := some 133, op := _, type := _, pos := _, after := _, guard := _ }) rfl (fun K hK => ?_) AllReadyH.nil
                        rw [if_pos (by rfl)]
                        have hb3 : Below W8.heap.size W8 (w2.alloc (.cells (evc (pushv r n t key value rr rn)) 41)) := hb2.alloc hb2.size _
                        have ho3 : LiesE (w2.alloc (.cells (evc (pushv r n t key value rr rn)) 41)) w2.heap.size (pushv r n t key value rr rn) := liesE_new w2 (pushv r n t key value rr rn)
                        refine wp_buildK rfl rfl (run_build1 w2 (pushv r n t key value rr rn) X16) ?_
                        refine hK.out _ _ (hX.below hb3 hgx) (fun hHeld => ?_)
                        clear hK K
                        simp only [Act.put, List.setIfInBounds_toArray, List.set_cons_zero, List.set_cons_succ]
                        clear hHeld
                        have hrow3 := hR2.below ((Below.refl _ w2).alloc (Nat.le_refl _) (.cells (evc (pushv r n t key value rr rn)) 41)) (Nat.le_refl _)
                        refine wpAnyH_ready (rs := [5]) (by kernel_rfl) (by simp) ?_
                        refine AllReadyH.cons (o := { dst := some 134, op := _, type := _, pos := _, after := _, guard := _ }) rfl (fun K hK => ?_) AllReadyH.nil
                        rw [if_pos (by rfl)]
                        refine wp_appE _ _ rfl W8.heap.size v2 E rfl hrow3 _ _ _ [(pushv r n t key value rr rn)] rfl (evs_single _ _ (pushv r n t key value rr rn) hXw ho3) (by omega) hb3.size ?_
                        intro v4 w4 hR4 hg4 hw4
                        have hb4 : Below W8.heap.size W8 w4 := hb3.grown hg4 hb3.size hrow3.own
                        refine hK.out _ _ (hX.below hb4 hgx) (fun hHeld => ?_)
                        clear hK K
                        simp only [Act.put, List.setIfInBounds_toArray, List.set_cons_zero, List.set_cons_succ]
                        clear hHeld
                        obtain ⟨a6, c6, hv6, hE6⟩ := hR4.evs HWX.out
                        subst hv6
                        refine wpAnyH_ready (rs := [7]) (by kernel_rfl) (by simp) ?_
                        refine AllReadyH.cons (o := { dst := some 136, op := _, type := _, pos := _, after := _, guard := _ }) rfl (fun K hK => ?_) AllReadyH.nil
                        rw [if_pos (by rfl)]
                        refine wp_callL (xs := [.tmp 134, .tmp 135]) (vs := [.slice a6 (E ++ [(pushv r n t key value rr rn)]).length c6, .string (sb key)]) rfl rfl (enters_items _ _) (items_any _ _ _ (E ++ [(pushv r n t key value rr rn)]) key w4 hE6 (by simp only [List.length_append, List.length_singleton]; omega)) ?_
                        rintro e w70 ⟨v70, rfl, hR70, hb70⟩
                        refine ⟨_, rfl, ?_⟩
                        have hb80 : Below W8.heap.size W8 w70 := hb4.trans (hb70.mono hb4.size)
                        refine hK.out _ _ (hX.below hb80 hgx) (fun hHeld => ?_)
                        clear hK K
                        simp only [Act.put, List.setIfInBounds_toArray, List.set_cons_zero, List.set_cons_succ]
                        have HF : Aside (Row w70 W8.heap.size v70 ((I.take k ++ [(pushv r n t key value rr rn)]) ++ I.drop k) ∧ Below W8.heap.size W8 w70) := ⟨by rw [HLI.out] at hR70; exact hR70.lower hb4.size, hb80⟩
                        refine wpAnyH_take (i := 8) (oi := { dst := some 18, op := _, type := _, pos := _, after := _, guard := _ }) (v := v70) rfl (by kernel_rfl) (by kernel_rfl) (by kernel_rfl) (fun _ _ _ h => h) (Or.inl ⟨by rfl, ?_⟩) (by assumption) ?_
                        · intro w9 hSw
                          exact exec_assign rfl rfl
                        simp only [Act.put, List.setIfInBounds_toArray, List.set_cons_zero, List.set_cons_succ]
                        refine wpAnyH_done (by kernel_rfl) ?_ _
                        refine NoPanic.normal ?_
                        clear hHeld
                        go_wp2
                        go_meet
                        case rel => exact HF
                      · refine AllReadyH.cons (o := { dst := some 133, op := _, type := _, pos := _, after := _, guard := _ }) rfl (fun K hK => ?_) AllReadyH.nil
                        rw [if_pos (by rfl)]
                        have hb5 : Below W8.heap.size W8 ((W0.alloc (.cells #[] 41)).alloc (.cells (evc (pushv r n t key value rr rn)) 41)) := hb1.alloc hb1.size _
                        have ho5 : LiesE ((W0.alloc (.cells #[] 41)).alloc (.cells (evc (pushv r n t key value rr rn)) 41)) (W0.alloc (.cells #[] 41)).heap.size (pushv r n t key value rr rn) := liesE_new (W0.alloc (.cells #[] 41)) (pushv r n t key value rr rn)
                        refine wp_buildK rfl rfl (run_build1 (W0.alloc (.cells #[] 41)) (pushv r n t key value rr rn) X16) ?_
                        refine hK.out _ _ (hX.below hb5 hgx) (fun hHeld => ?_)
                        clear hK K
                        simp only [Act.put, List.setIfInBounds_toArray, List.set_cons_zero, List.set_cons_succ]
                        clear hHeld
                        have hrow5 := hrow1.below ((Below.refl _ (W0.alloc (.cells #[] 41))).alloc (Nat.le_refl _) (.cells (evc (pushv r n t key value rr rn)) 41)) (Nat.le_refl _)
                        refine wpAnyH_ready (rs := [2]) (by kernel_rfl) (by simp) ?_
                        refine AllReadyH.cons (o := { dst := some 131, op := _, type := _, pos := _, after := _, guard := _ }) rfl (fun K hK => ?_) AllReadyH.nil
                        rw [if_pos (by rfl)]
                        refine wp_appE _ _ rfl W8.heap.size (.slice (some ⟨W0.heap.size, 0, none⟩) 0 0) [] rfl hrow5 _ _ _ E rfl (hE8.below hb5 (Nat.le_refl _)) (by simp; omega) hb5.size ?_
                        intro v6 w6 hR6 hg6 hw6
                        have hb6 : Below W8.heap.size W8 w6 := hb5.grown hg6 hb5.size hrow5.own
                        refine hK.out _ _ (hX.below hb6 hgx) (fun hHeld => ?_)
                        clear hK K
                        simp only [Act.put, List.setIfInBounds_toArray, List.set_cons_zero, List.set_cons_succ]
                        clear hHeld
                        rw [List.nil_append] at hR6
                        have ho6 := ho5.keptK (hg6.block _ ho5.lt (fun e => by have e2 := Option.some.inj e; simp at e2))
                        refine wpAnyH_ready (rs := [5]) (by kernel_rfl) (by simp) ?_
                        refine AllReadyH.cons (o := { dst := some 134, op := _, type := _, pos := _, after := _, guard := _ }) rfl (fun K hK => ?_) AllReadyH.nil
                        rw [if_pos (by rfl)]
                        refine wp_appE _ _ rfl W8.heap.size v6 E rfl hR6 _ _ _ [(pushv r n t key value rr rn)] rfl (evs_single _ _ (pushv r n t key value rr rn) hXw ho6) (by omega) hb6.size ?_
                        intro v7 w7 hR7 hg7 hw7
                        have hb7 : Below W8.heap.size W8 w7 := hb6.grown hg7 hb6.size hR6.own
                        refine hK.out _ _ (hX.below hb7 hgx) (fun hHeld => ?_)
                        clear hK K
                        simp only [Act.put, List.setIfInBounds_toArray, List.set_cons_zero, List.set_cons_succ]
                        clear hHeld
                        obtain ⟨a6, c6, hv6, hE6⟩ := hR7.evs HWX.out
                        subst hv6
                        refine wpAnyH_ready (rs := [7]) (by kernel_rfl) (by simp) ?_
                        refine AllReadyH.cons (o := { dst := some 136, op := _, type := _, pos := _, after := _, guard := _ }) rfl (fun K hK => ?_) AllReadyH.nil
                        rw [if_pos (by rfl)]
                        refine wp_callL (xs := [.tmp 134, .tmp 135]) (vs := [.slice a6 (E ++ [(pushv r n t key value rr rn)]).length c6, .string (sb key)]) rfl rfl (enters_items _ _) (items_any _ _ _ (E ++ [(pushv r n t key value rr rn)]) key w7 hE6 (by simp only [List.length_append, List.length_singleton]; omega)) ?_
                        rintro e w70 ⟨v70, rfl, hR70, hb70⟩
                        refine ⟨_, rfl, ?_⟩
                        have hb80 : Below W8.heap.size W8 w70 := hb7.trans (hb70.mono hb7.size)
                        refine hK.out _ _ (hX.below hb80 hgx) (fun hHeld => ?_)
                        clear hK K
                        simp only [Act.put, List.setIfInBounds_toArray, List.set_cons_zero, List.set_cons_succ]
                        have HF : Aside (Row w70 W8.heap.size v70 ((I.take k ++ [(pushv r n t key value rr rn)]) ++ I.drop k) ∧ Below W8.heap.size W8 w70) := ⟨by rw [HLI.out] at hR70; exact hR70.lower hb7.size, hb80⟩
                        refine wpAnyH_take (i := 8) (oi := { dst := some 18, op := _, type := _, pos := _, after := _, guard := _ }) (v := v70) rfl (by kernel_rfl) (by kernel_rfl) (by kernel_rfl) (fun _ _ _ h => h) (Or.inl ⟨by rfl, ?_⟩) (by assumption) ?_
                        · intro w9 hSw
                          exact exec_assign rfl rfl
                        simp only [Act.put, List.setIfInBounds_toArray, List.set_cons_zero, List.set_cons_succ]
                        refine wpAnyH_done (by kernel_rfl) ?_ _
                        refine NoPanic.normal ?_
                        clear hHeld
                        go_wp2
                        go_meet
                        case rel => exact HF
                    · refine AllReadyH.cons (o := { dst := some 133, op := _, type := _, pos := _, after := _, guard := _ }) rfl (fun K hK => ?_) AllReadyH.nil
                      rw [if_pos (by rfl)]
                      have hb8 : Below W8.heap.size W8 (W0.alloc (.cells (evc (pushv r n t key value rr rn)) 41)) := hbd.alloc hbd.size _
                      have ho8 : LiesE (W0.alloc (.cells (evc (pushv r n t key value rr rn)) 41)) W0.heap.size (pushv r n t key value rr rn) := liesE_new W0 (pushv r n t key value rr rn)
                      refine wp_buildK rfl rfl (run_build1 W0 (pushv r n t key value rr rn) X16) ?_
                      refine hK.out _ _ (hX.below hb8 hgx) (fun hHeld => ?_)
                      clear hK K
                      simp only [Act.put, List.setIfInBounds_toArray, List.set_cons_zero, List.set_cons_succ]
                      clear hHeld
                      refine wpAnyH_ready (rs := [0]) (by kernel_rfl) (by simp) ?_
                      refine AllReadyH.cons (o := { dst := some 129, op := _, type := _, pos := _, after := _, guard := _ }) rfl (fun K hK => ?_) AllReadyH.nil
                      rw [if_pos (by rfl)]
                      have hb9 : Below W8.heap.size W8 ((W0.alloc (.cells (evc (pushv r n t key value rr rn)) 41)).alloc (.cells #[] 41)) := hb8.alloc hb8.size _
                      have hrow9 := row_empty (W0.alloc (.cells (evc (pushv r n t key value rr rn)) 41)) W8.heap.size hb8.size
                      refine wp_build0 rfl (run_build0 (W0.alloc (.cells (evc (pushv r n t key value rr rn)) 41))) ?_
                      refine hK.out _ _ (hX.below hb9 hgx) (fun hHeld => ?_)
                      clear hK K
                      simp only [Act.put, List.setIfInBounds_toArray, List.set_cons_zero, List.set_cons_succ]
                      clear hHeld
                      have ho9 := ho8.alloc (.cells #[] 41)
                      refine wpAnyH_ready (rs := [2]) (by kernel_rfl) (by simp) ?_
                      refine AllReadyH.cons (o := { dst := some 131, op := _, type := _, pos := _, after := _, guard := _ }) rfl (fun K hK => ?_) AllReadyH.nil
                      rw [if_pos (by rfl)]
                      refine wp_appE _ _ rfl W8.heap.size (.slice (some ⟨(W0.alloc (.cells (evc (pushv r n t key value rr rn)) 41)).heap.size, 0, none⟩) 0 0) [] rfl hrow9 _ _ _ E rfl (hE8.below hb9 (Nat.le_refl _)) (by simp; omega) hb9.size ?_
                      intro v10 w10 hR10 hg10 hw10
                      have hb10 : Below W8.heap.size W8 w10 := hb9.grown hg10 hb9.size hrow9.own
                      refine hK.out _ _ (hX.below hb10 hgx) (fun hHeld => ?_)
                      clear hK K
                      simp only [Act.put, List.setIfInBounds_toArray, List.set_cons_zero, List.set_cons_succ]
                      clear hHeld
                      rw [List.nil_append] at hR10
                      have ho10 := ho9.keptK (hg10.block _ ho9.lt (fun e => by have e2 := Option.some.inj e; simp at e2))
                      refine wpAnyH_ready (rs := [5]) (by kernel_rfl) (by simp) ?_
                      refine AllReadyH.cons (o := { dst := some 134, op := _, type := _, pos := _, after := _, guard := _ }) rfl (fun K hK => ?_) AllReadyH.nil
                      rw [if_pos (by rfl)]
                      refine wp_appE _ _ rfl W8.heap.size v10 E rfl hR10 _ _ _ [(pushv r n t key value rr rn)] rfl (evs_single _ _ (pushv r n t key value rr rn) hXw ho10) (by omega) hb10.size ?_
                      intro v11 w11 hR11 hg11 hw11
                      have hb11 : Below W8.heap.size W8 w11 := hb10.grown hg11 hb10.size hR10.own
                      refine hK.out _ _ (hX.below hb11 hgx) (fun hHeld => ?_)
                      clear hK K
                      simp only [Act.put, List.setIfInBounds_toArray, List.set_cons_zero, List.set_cons_succ]
                      clear hHeld
                      obtain ⟨a6, c6, hv6, hE6⟩ := hR11.evs HWX.out
                      subst hv6
                      refine wpAnyH_ready (rs := [7]) (by kernel_rfl) (by simp) ?_
                      refine AllReadyH.cons (o := { dst := some 136, op := _, type := _, pos := _, after := _, guard := _ }) rfl (fun K hK => ?_) AllReadyH.nil
                      rw [if_pos (by rfl)]
                      refine wp_callL (xs := [.tmp 134, .tmp 135]) (vs := [.slice a6 (E ++ [(pushv r n t key value rr rn)]).length c6, .string (sb key)]) rfl rfl (enters_items _ _) (items_any _ _ _ (E ++ [(pushv r n t key value rr rn)]) key w11 hE6 (by simp only [List.length_append, List.length_singleton]; omega)) ?_
                      rintro e w70 ⟨v70, rfl, hR70, hb70⟩
                      refine ⟨_, rfl, ?_⟩
                      have hb80 : Below W8.heap.size W8 w70 := hb11.trans (hb70.mono hb11.size)
                      refine hK.out _ _ (hX.below hb80 hgx) (fun hHeld => ?_)
                      clear hK K
                      simp only [Act.put, List.setIfInBounds_toArray, List.set_cons_zero, List.set_cons_succ]
                      have HF : Aside (Row w70 W8.heap.size v70 ((I.take k ++ [(pushv r n t key value rr rn)]) ++ I.drop k) ∧ Below W8.heap.size W8 w70) := ⟨by rw [HLI.out] at hR70; exact hR70.lower hb11.size, hb80⟩
                      refine wpAnyH_take (i := 8) (oi := { dst := some 18, op := _, type := _, pos := _, after := _, guard := _ }) (v := v70) rfl (by kernel_rfl) (by kernel_rfl) (by kernel_rfl) (fun _ _ _ h => h) (Or.inl ⟨by rfl, ?_⟩) (by assumption) ?_
                      · intro w9 hSw
                        exact exec_assign rfl rfl
                      simp only [Act.put, List.setIfInBounds_toArray, List.set_cons_zero, List.set_cons_succ]
                      refine wpAnyH_done (by kernel_rfl) ?_ _
                      refine NoPanic.normal ?_
                      clear hHeld
                      go_wp2
                      go_meet
                      case rel => exact HF
                  case rest =>
                  rename World => W9
                  obtain ⟨aL, cL, hvL, hEL⟩ := hcut.out.1.evs HWL.out
                  obtain ⟨ln, hln⟩ : ∃ x, ((I.take k ++ [(pushv r n t key value rr rn)]) ++ I.drop k).length = x := ⟨_, rfl⟩
                  rw [hln] at hvL hEL
                  subst hvL
                  have hI9 := HI8.out.below hcut.out.2 (Nat.le_refl _)
                  have hX9 := hX.below hcut.out.2 hgx
                  have hgx9 : gx < W9.heap.size := hX9.lt
                  have HB9 : Hid (Below w.heap.size w W9) := HB8.out.trans (hcut.out.2.mono HB8.out.size)
                  have hkc : k ≤ c3 := by have := hI9.room; omega
                  have hsf := fun W : World => slice_from W (ao := a3) (m := q) (c := c3) (k := k) (by omega)
                  obtain ⟨ak, hak⟩ : ∃ ak, dropA a3 c3 k = ak := ⟨_, rfl⟩
                  rw [hak] at hsf
                  have HAK : Hid (dropA a3 c3 k = ak) := hak
                  have hLl : ln ≤ 1000 := by rw [← hln, List.length_append, List.length_append, List.length_take, List.length_drop, List.length_singleton]; omega
                  have HLN : Hid (((I.take k ++ [(pushv r n t key value rr rn)]) ++ I.drop k).length = ln) := hln
                  clear hln
                  clear hcut hX hE8 hak HWX HLI HI8 HB8
                  go_upto_region 23 with (fail)
                  go_cut [19] from 137 (fun s19 wx => Aside (Row wx W9.heap.size s19 ((I.take k ++ [(pushv r n t key value rr rn)]) ++ I.drop k) ∧ Below W9.heap.size W9 wx))
                  case first =>
                    refine wp_region_noPanic ?_
                    refine wp_region_held_drew (S := fun W' : World => LiesE W' gx (pushv r n t key value rr rn)) (by kernel_rfl) (hX9.below (Below.refl _ _).drew hgx9) (fun hHeld => ?_)
                    refine wpAnyH_take (i := 1) (oi := { dst := some 138, op := _, type := _, pos := _, after := _, guard := _ }) (v := .slice a3 q c3) rfl (by kernel_rfl) (by kernel_rfl) (by kernel_rfl) (fun _ _ _ h => h) (Or.inl ⟨by rfl, ?_⟩) (by assumption) ?_
                    · intro w9 hSw
                      exact exec_move rfl rfl
                    simp only [Act.put, List.setIfInBounds_toArray, List.set_cons_zero, List.set_cons_succ]
                    refine wpAnyH_take (i := 2) (oi := { dst := some 139, op := _, type := _, pos := _, after := _, guard := _ }) (v := .int .i64 (k : Int)) rfl (by kernel_rfl) (by kernel_rfl) (by kernel_rfl) (fun _ _ _ h => h) (Or.inl ⟨by rfl, ?_⟩) (by assumption) ?_
                    · intro w9 hSw
                      exact exec_move rfl rfl
                    simp only [Act.put, List.setIfInBounds_toArray, List.set_cons_zero, List.set_cons_succ]
                    refine wpAnyH_take (i := 3) (oi := { dst := some 140, op := _, type := _, pos := _, after := _, guard := _ }) (v := .slice a3 k c3) rfl (by kernel_rfl) (by kernel_rfl) (by kernel_rfl) (fun _ _ _ h => h) (Or.inl ⟨by rfl, ?_⟩) (by assumption) ?_
                    · intro w9 hSw
                      exact exec_slice rfl rfl rfl (slice_at w9 hkc)
                    simp only [Act.put, List.setIfInBounds_toArray, List.set_cons_zero, List.set_cons_succ]
                    refine wpAnyH_take (i := 5) (oi := { dst := some 142, op := _, type := _, pos := _, after := _, guard := _ }) (v := .agg (evc (pushv r n t key value rr rn))) rfl (by kernel_rfl) (by kernel_rfl) (by kernel_rfl) (fun _ _ _ h => h) (Or.inl ⟨by rfl, ?_⟩) (by assumption) ?_
                    · intro w9 hSw
                      exact exec_load (ad := ⟨gx, 0, none⟩) rfl rfl (load_ev_run hSw X16)
                    simp only [Act.put, List.setIfInBounds_toArray, List.set_cons_zero, List.set_cons_succ]
                    refine wpAnyH_take (i := 8) (oi := { dst := some 145, op := _, type := _, pos := _, after := _, guard := _ }) (v := .slice a3 q c3) rfl (by kernel_rfl) (by kernel_rfl) (by kernel_rfl) (fun _ _ _ h => h) (Or.inl ⟨by rfl, ?_⟩) (by assumption) ?_
                    · intro w9 hSw
                      exact exec_move rfl rfl
                    simp only [Act.put, List.setIfInBounds_toArray, List.set_cons_zero, List.set_cons_succ]
                    refine wpAnyH_take (i := 9) (oi := { dst := some 146, op := _, type := _, pos := _, after := _, guard := _ }) (v := .int .i64 (k : Int)) rfl (by kernel_rfl) (by kernel_rfl) (by kernel_rfl) (fun _ _ _ h => h) (Or.inl ⟨by rfl, ?_⟩) (by assumption) ?_
                    · intro w9 hSw
                      exact exec_move rfl rfl
                    simp only [Act.put, List.setIfInBounds_toArray, List.set_cons_zero, List.set_cons_succ]
                    refine wpAnyH_take (i := 10) (oi := { dst := some 147, op := _, type := _, pos := _, after := _, guard := _ }) (v := .slice ak (q - k) (c3 - k)) rfl (by kernel_rfl) (by kernel_rfl) (by kernel_rfl) (fun _ _ _ h => h) (Or.inl ⟨by rfl, ?_⟩) (by assumption) ?_
                    · intro w9 hSw
                      exact exec_slicef rfl rfl rfl (hsf w9)
                    simp only [Act.put, List.setIfInBounds_toArray, List.set_cons_zero, List.set_cons_succ]
                    clear hHeld
                    have hbd : Below W9.heap.size W9 W9.drew := (Below.refl _ _).drew
                    generalize W9.drew = W0 at hbd ⊢
                    refine wpAnyH_ready (rs := [0, 6]) (by kernel_rfl) (by simp) ?_
                    refine AllReadyH.cons (o := { dst := some 137, op := _, type := _, pos := _, after := _, guard := _ }) rfl (fun K hK => ?_) ?_
                    · rw [if_pos (by rfl)]
                      have hb1 : Below W9.heap.size W9 (W0.alloc (.cells #[] 41)) := hbd.alloc hbd.size _
                      have hrow1 := row_empty W0 W9.heap.size hbd.size
                      refine wp_build0 rfl (run_build0 W0) ?_
                      refine hK.out _ _ (hX9.below hb1 hgx9) (fun hHeld => ?_)
                      clear hK K
                      simp only [Act.put, List.setIfInBounds_toArray, List.set_cons_zero, List.set_cons_succ]
                      clear hHeld
                      refine wpAnyH_ready (rs := [4, 6]) (by kernel_rfl) (by simp) ?_
                      refine AllReadyH.cons (o := { dst := some 141, op := _, type := _, pos := _, after := _, guard := _ }) rfl (fun K hK => ?_) ?_
                      · rw [if_pos (by rfl)]
                        refine wp_appE _ _ rfl W9.heap.size (.slice (some ⟨W0.heap.size, 0, none⟩) 0 0) [] rfl hrow1 _ _ _ (I.take k) rfl (Evs.take (hI9.below hb1 (Nat.le_refl _)) hkq) (by simp; omega) hb1.size ?_
                        intro v2 w2 hR2 hg2 hw2
                        have hb2 : Below W9.heap.size W9 w2 := hb1.grown hg2 hb1.size hrow1.own
                        refine hK.out _ _ (hX9.below hb2 hgx9) (fun hHeld => ?_)
                        clear hK K
                        simp only [Act.put, List.setIfInBounds_toArray, List.set_cons_zero, List.set_cons_succ]
                        clear hHeld
                        rw [List.nil_append] at hR2
                        refine wpAnyH_ready (rs := [6]) (by kernel_rfl) (by simp) ?_
                        refine AllReadyH.cons (o := { dst := some 143, op := _, type := _, pos := _, after := _, guard := _ }) rfl (fun K hK => ?_) AllReadyH.nil
                        rw [if_pos (by rfl)]
                        have hb3 : Below W9.heap.size W9 (w2.alloc (.cells (evc (pushv r n t key value rr rn)) 41)) := hb2.alloc hb2.size _
                        have ho3 : LiesE (w2.alloc (.cells (evc (pushv r n t key value rr rn)) 41)) w2.heap.size (pushv r n t key value rr rn) := liesE_new w2 (pushv r n t key value rr rn)
                        refine wp_buildK rfl rfl (run_build1 w2 (pushv r n t key value rr rn) X16) ?_
                        refine hK.out _ _ (hX9.below hb3 hgx9) (fun hHeld => ?_)
                        clear hK K
                        simp only [Act.put, List.setIfInBounds_toArray, List.set_cons_zero, List.set_cons_succ]
                        clear hHeld
                        have hrow3 := hR2.below ((Below.refl _ w2).alloc (Nat.le_refl _) (.cells (evc (pushv r n t key value rr rn)) 41)) (Nat.le_refl _)
                        refine wpAnyH_ready (rs := [7]) (by kernel_rfl) (by simp) ?_
                        refine AllReadyH.cons (o := { dst := some 144, op := _, type := _, pos := _, after := _, guard := _ }) rfl (fun K hK => ?_) AllReadyH.nil
                        rw [if_pos (by rfl)]
                        refine wp_appE _ _ rfl W9.heap.size v2 (I.take k) rfl hrow3 _ _ _ [(pushv r n t key value rr rn)] rfl (evs_single _ _ (pushv r n t key value rr rn) hXw ho3) (by have := List.length_take_le k I; omega) hb3.size ?_
                        intro v4 w4 hR4 hg4 hw4
                        have hb4 : Below W9.heap.size W9 w4 := hb3.grown hg4 hb3.size hrow3.own
                        refine hK.out _ _ (hX9.below hb4 hgx9) (fun hHeld => ?_)
                        clear hK K
                        simp only [Act.put, List.setIfInBounds_toArray, List.set_cons_zero, List.set_cons_succ]
                        clear hHeld
                        refine wpAnyH_ready (rs := [11]) (by kernel_rfl) (by simp) ?_
                        refine AllReadyH.cons (o := { dst := some 148, op := _, type := _, pos := _, after := _, guard := _ }) rfl (fun K hK => ?_) AllReadyH.nil
                        rw [if_pos (by rfl)]
                        refine wp_appE _ _ rfl W9.heap.size v4 ((I.take k) ++ [(pushv r n t key value rr rn)]) rfl hR4 _ _ _ (I.drop k) rfl (HAK.out ▸ (hI9.below hb4 (Nat.le_refl _)).drop hkq) (by rw [List.length_append]; have := List.length_take_le k I; simp only [List.length_singleton]; omega) hb4.size ?_
                        intro v5 w5 hR5 hg5 hw5
                        have hb5 : Below W9.heap.size W9 w5 := hb4.grown hg5 hb4.size hR4.own
                        refine hK.out _ _ (hX9.below hb5 hgx9) (fun hHeld => ?_)
                        clear hK K
                        simp only [Act.put, List.setIfInBounds_toArray, List.set_cons_zero, List.set_cons_succ]
                        clear hHeld
                        have HF : Aside (Row w5 W9.heap.size v5 ((I.take k ++ [(pushv r n t key value rr rn)]) ++ I.drop k) ∧ Below W9.heap.size W9 w5) := ⟨hR5, hb5⟩
                        have hSx : LiesE w5 gx (pushv r n t key value rr rn) := hX9.below hb5 hgx9
                        refine wpAnyH_take (i := 12) (oi := { dst := some 19, op := _, type := _, pos := _, after := _, guard := _ }) (v := v5) rfl (by kernel_rfl) (by kernel_rfl) (by kernel_rfl) (fun _ _ _ h => h) (Or.inl ⟨by rfl, ?_⟩) (by assumption) ?_
                        · intro w9 hSw
                          exact exec_assign rfl rfl
                        simp only [Act.put, List.setIfInBounds_toArray, List.set_cons_zero, List.set_cons_succ]
                        refine wpAnyH_done (by kernel_rfl) ?_ _
                        refine NoPanic.normal ?_
                        go_wp2
                        go_meet
                        case rel => exact HF
                      · refine AllReadyH.cons (o := { dst := some 143, op := _, type := _, pos := _, after := _, guard := _ }) rfl (fun K hK => ?_) AllReadyH.nil
                        rw [if_pos (by rfl)]
                        have hb6 : Below W9.heap.size W9 ((W0.alloc (.cells #[] 41)).alloc (.cells (evc (pushv r n t key value rr rn)) 41)) := hb1.alloc hb1.size _
                        have ho6 : LiesE ((W0.alloc (.cells #[] 41)).alloc (.cells (evc (pushv r n t key value rr rn)) 41)) (W0.alloc (.cells #[] 41)).heap.size (pushv r n t key value rr rn) := liesE_new (W0.alloc (.cells #[] 41)) (pushv r n t key value rr rn)
                        refine wp_buildK rfl rfl (run_build1 (W0.alloc (.cells #[] 41)) (pushv r n t key value rr rn) X16) ?_
                        refine hK.out _ _ (hX9.below hb6 hgx9) (fun hHeld => ?_)
                        clear hK K
                        simp only [Act.put, List.setIfInBounds_toArray, List.set_cons_zero, List.set_cons_succ]
                        clear hHeld
                        have hrow6 := hrow1.below ((Below.refl _ (W0.alloc (.cells #[] 41))).alloc (Nat.le_refl _) (.cells (evc (pushv r n t key value rr rn)) 41)) (Nat.le_refl _)
                        refine wpAnyH_ready (rs := [4]) (by kernel_rfl) (by simp) ?_
                        refine AllReadyH.cons (o := { dst := some 141, op := _, type := _, pos := _, after := _, guard := _ }) rfl (fun K hK => ?_) AllReadyH.nil
                        rw [if_pos (by rfl)]
                        refine wp_appE _ _ rfl W9.heap.size (.slice (some ⟨W0.heap.size, 0, none⟩) 0 0) [] rfl hrow6 _ _ _ (I.take k) rfl (Evs.take (hI9.below hb6 (Nat.le_refl _)) hkq) (by simp; omega) hb6.size ?_
                        intro v7 w7 hR7 hg7 hw7
                        have hb7 : Below W9.heap.size W9 w7 := hb6.grown hg7 hb6.size hrow6.own
                        refine hK.out _ _ (hX9.below hb7 hgx9) (fun hHeld => ?_)
                        clear hK K
                        simp only [Act.put, List.setIfInBounds_toArray, List.set_cons_zero, List.set_cons_succ]
                        clear hHeld
                        rw [List.nil_append] at hR7
                        have ho7 := ho6.keptK (hg7.block _ ho6.lt (fun e => by have e2 := Option.some.inj e; simp at e2))
                        refine wpAnyH_ready (rs := [7]) (by kernel_rfl) (by simp) ?_
                        refine AllReadyH.cons (o := { dst := some 144, op := _, type := _, pos := _, after := _, guard := _ }) rfl (fun K hK => ?_) AllReadyH.nil
                        rw [if_pos (by rfl)]
                        refine wp_appE _ _ rfl W9.heap.size v7 (I.take k) rfl hR7 _ _ _ [(pushv r n t key value rr rn)] rfl (evs_single _ _ (pushv r n t key value rr rn) hXw ho7) (by have := List.length_take_le k I; omega) hb7.size ?_
                        intro v8 w8 hR8 hg8 hw8
                        have hb8 : Below W9.heap.size W9 w8 := hb7.grown hg8 hb7.size hR7.own
                        refine hK.out _ _ (hX9.below hb8 hgx9) (fun hHeld => ?_)
                        clear hK K
                        simp only [Act.put, List.setIfInBounds_toArray, List.set_cons_zero, List.set_cons_succ]
                        clear hHeld
                        refine wpAnyH_ready (rs := [11]) (by kernel_rfl) (by simp) ?_
                        refine AllReadyH.cons (o := { dst := some 148, op := _, type := _, pos := _, after := _, guard := _ }) rfl (fun K hK => ?_) AllReadyH.nil
                        rw [if_pos (by rfl)]
                        refine wp_appE _ _ rfl W9.heap.size v8 ((I.take k) ++ [(pushv r n t key value rr rn)]) rfl hR8 _ _ _ (I.drop k) rfl (HAK.out ▸ (hI9.below hb8 (Nat.le_refl _)).drop hkq) (by rw [List.length_append]; have := List.length_take_le k I; simp only [List.length_singleton]; omega) hb8.size ?_
                        intro v9 w9 hR9 hg9 hw9
                        have hb9 : Below W9.heap.size W9 w9 := hb8.grown hg9 hb8.size hR8.own
                        refine hK.out _ _ (hX9.below hb9 hgx9) (fun hHeld => ?_)
                        clear hK K
                        simp only [Act.put, List.setIfInBounds_toArray, List.set_cons_zero, List.set_cons_succ]
                        clear hHeld
                        have HF : Aside (Row w9 W9.heap.size v9 ((I.take k ++ [(pushv r n t key value rr rn)]) ++ I.drop k) ∧ Below W9.heap.size W9 w9) := ⟨hR9, hb9⟩
                        have hSx : LiesE w9 gx (pushv r n t key value rr rn) := hX9.below hb9 hgx9
                        refine wpAnyH_take (i := 12) (oi := { dst := some 19, op := _, type := _, pos := _, after := _, guard := _ }) (v := v9) rfl (by kernel_rfl) (by kernel_rfl) (by kernel_rfl) (fun _ _ _ h => h) (Or.inl ⟨by rfl, ?_⟩) (by assumption) ?_
                        · intro w9 hSw
                          exact exec_assign rfl rfl
                        simp only [Act.put, List.setIfInBounds_toArray, List.set_cons_zero, List.set_cons_succ]
                        refine wpAnyH_done (by kernel_rfl) ?_ _
                        refine NoPanic.normal ?_
                        go_wp2
                        go_meet
                        case rel => exact HF
                    · refine AllReadyH.cons (o := { dst := some 143, op := _, type := _, pos := _, after := _, guard := _ }) rfl (fun K hK => ?_) AllReadyH.nil
                      rw [if_pos (by rfl)]
                      have hb10 : Below W9.heap.size W9 (W0.alloc (.cells (evc (pushv r n t key value rr rn)) 41)) := hbd.alloc hbd.size _
                      have ho10 : LiesE (W0.alloc (.cells (evc (pushv r n t key value rr rn)) 41)) W0.heap.size (pushv r n t key value rr rn) := liesE_new W0 (pushv r n t key value rr rn)
                      refine wp_buildK rfl rfl (run_build1 W0 (pushv r n t key value rr rn) X16) ?_
                      refine hK.out _ _ (hX9.below hb10 hgx9) (fun hHeld => ?_)
                      clear hK K
                      simp only [Act.put, List.setIfInBounds_toArray, List.set_cons_zero, List.set_cons_succ]
                      clear hHeld
                      refine wpAnyH_ready (rs := [0]) (by kernel_rfl) (by simp) ?_
                      refine AllReadyH.cons (o := { dst := some 137, op := _, type := _, pos := _, after := _, guard := _ }) rfl (fun K hK => ?_) AllReadyH.nil
                      rw [if_pos (by rfl)]
                      have hb11 : Below W9.heap.size W9 ((W0.alloc (.cells (evc (pushv r n t key value rr rn)) 41)).alloc (.cells #[] 41)) := hb10.alloc hb10.size _
                      have hrow11 := row_empty (W0.alloc (.cells (evc (pushv r n t key value rr rn)) 41)) W9.heap.size hb10.size
                      refine wp_build0 rfl (run_build0 (W0.alloc (.cells (evc (pushv r n t key value rr rn)) 41))) ?_
                      refine hK.out _ _ (hX9.below hb11 hgx9) (fun hHeld => ?_)
                      clear hK K
                      simp only [Act.put, List.setIfInBounds_toArray, List.set_cons_zero, List.set_cons_succ]
                      clear hHeld
                      have ho11 := ho10.alloc (.cells #[] 41)
                      refine wpAnyH_ready (rs := [4]) (by kernel_rfl) (by simp) ?_
                      refine AllReadyH.cons (o := { dst := some 141, op := _, type := _, pos := _, after := _, guard := _ }) rfl (fun K hK => ?_) AllReadyH.nil
                      rw [if_pos (by rfl)]
                      refine wp_appE _ _ rfl W9.heap.size (.slice (some ⟨(W0.alloc (.cells (evc (pushv r n t key value rr rn)) 41)).heap.size, 0, none⟩) 0 0) [] rfl hrow11 _ _ _ (I.take k) rfl (Evs.take (hI9.below hb11 (Nat.le_refl _)) hkq) (by simp; omega) hb11.size ?_
                      intro v12 w12 hR12 hg12 hw12
                      have hb12 : Below W9.heap.size W9 w12 := hb11.grown hg12 hb11.size hrow11.own
                      refine hK.out _ _ (hX9.below hb12 hgx9) (fun hHeld => ?_)
                      clear hK K
                      simp only [Act.put, List.setIfInBounds_toArray, List.set_cons_zero, List.set_cons_succ]
                      clear hHeld
                      rw [List.nil_append] at hR12
                      have ho12 := ho11.keptK (hg12.block _ ho11.lt (fun e => by have e2 := Option.some.inj e; simp at e2))
                      refine wpAnyH_ready (rs := [7]) (by kernel_rfl) (by simp) ?_
                      refine AllReadyH.cons (o := { dst := some 144, op := _, type := _, pos := _, after := _, guard := _ }) rfl (fun K hK => ?_) AllReadyH.nil
                      rw [if_pos (by rfl)]
                      refine wp_appE _ _ rfl W9.heap.size v12 (I.take k) rfl hR12 _ _ _ [(pushv r n t key value rr rn)] rfl (evs_single _ _ (pushv r n t key value rr rn) hXw ho12) (by have := List.length_take_le k I; omega) hb12.size ?_
                      intro v13 w13 hR13 hg13 hw13
                      have hb13 : Below W9.heap.size W9 w13 := hb12.grown hg13 hb12.size hR12.own
                      refine hK.out _ _ (hX9.below hb13 hgx9) (fun hHeld => ?_)
                      clear hK K
                      simp only [Act.put, List.setIfInBounds_toArray, List.set_cons_zero, List.set_cons_succ]
                      clear hHeld
                      refine wpAnyH_ready (rs := [11]) (by kernel_rfl) (by simp) ?_
                      refine AllReadyH.cons (o := { dst := some 148, op := _, type := _, pos := _, after := _, guard := _ }) rfl (fun K hK => ?_) AllReadyH.nil
                      rw [if_pos (by rfl)]
                      refine wp_appE _ _ rfl W9.heap.size v13 ((I.take k) ++ [(pushv r n t key value rr rn)]) rfl hR13 _ _ _ (I.drop k) rfl (HAK.out ▸ (hI9.below hb13 (Nat.le_refl _)).drop hkq) (by rw [List.length_append]; have := List.length_take_le k I; simp only [List.length_singleton]; omega) hb13.size ?_
                      intro v14 w14 hR14 hg14 hw14
                      have hb14 : Below W9.heap.size W9 w14 := hb13.grown hg14 hb13.size hR13.own
                      refine hK.out _ _ (hX9.below hb14 hgx9) (fun hHeld => ?_)
                      clear hK K
                      simp only [Act.put, List.setIfInBounds_toArray, List.set_cons_zero, List.set_cons_succ]
                      clear hHeld
                      have HF : Aside (Row w14 W9.heap.size v14 ((I.take k ++ [(pushv r n t key value rr rn)]) ++ I.drop k) ∧ Below W9.heap.size W9 w14) := ⟨hR14, hb14⟩
                      have hSx : LiesE w14 gx (pushv r n t key value rr rn) := hX9.below hb14 hgx9
                      refine wpAnyH_take (i := 12) (oi := { dst := some 19, op := _, type := _, pos := _, after := _, guard := _ }) (v := v14) rfl (by kernel_rfl) (by kernel_rfl) (by kernel_rfl) (fun _ _ _ h => h) (Or.inl ⟨by rfl, ?_⟩) (by assumption) ?_
                      · intro w9 hSw
                        exact exec_assign rfl rfl
                      simp only [Act.put, List.setIfInBounds_toArray, List.set_cons_zero, List.set_cons_succ]
                      refine wpAnyH_done (by kernel_rfl) ?_ _
                      refine NoPanic.normal ?_
                      go_wp2
                      go_meet
                      case rel => exact HF
                  case rest =>
                  rename World => W10
                  obtain ⟨aM, cM, hvM, hEM⟩ := hcut.out.1.evs HWL.out
                  rw [HLN.out] at hvM hEM
                  subst hvM
                  have HF : Aside (Evs W10 aL ln cL ((I.take k ++ [(pushv r n t key value rr rn)]) ++ I.drop k) ∧ Evs W10 aM ln cM ((I.take k ++ [(pushv r n t key value rr rn)]) ++ I.drop k) ∧ Below w.heap.size w W10) := ⟨hEL.below hcut.out.2 (Nat.le_refl _), hEM, HB9.out.trans (hcut.out.2.mono HB9.out.size)⟩
                  clear hcut hEL hEM hI9 hX9 hsf HB9
                  generalize ((I.take k ++ [(pushv r n t key value rr rn)]) ++ I.drop k) = L at *
                  go_wp2_with fail
                  refine (same_yes aL aM _ cL cM L W10 HF.out.1 HF.out.2.1 (by omega)).mono ?_
                  rintro e w11 ⟨rfl, hb11⟩
                  have HB9 : Hid (Below w.heap.size w w11) := HF.out.2.2.trans (hb11.mono HF.out.2.2.size)
                  clear hb11 HF
                  go_wp2
                  go_ret
                  exact ⟨rfl, HWO.out.trans (HB9.out.mono HWO.out.size)⟩
            · go_wp2
              go_loopg [102] m (fun kx s102 wr => ∃ i : Nat, s102 = .int .i64 i ∧ i ≤ m ∧ m - i ≤ kx ∧ Aside (Below W7.heap.size W7 wr ∧ ∀ j y, j < i → E[j]? = some y → ¬ (y.rr = r ∧ y.rn = n) ∧ y.deps.getD z 0 < n))
              case atStart => exact ⟨0, rfl, Nat.zero_le _, by omega, H2⟩
              case round =>
                clear H2
                obtain ⟨i, rfl, him, hkx, HS⟩ := hrel
                by_cases hlt : i < m
                · have hltz : (i : Int) < (m : Int) := by omega
                  obtain ⟨b, off, u, rfl, hui, hu, hru, hbl⟩ := (HS7.out.1.below HS.out.1 (Nat.le_refl _)).at hlt
                  have hu16 := hu.1
                  by_cases h1 : u.rr = r ∧ u.rn = n
                  · have hq1 : Hid (decide (u.rr = r ∧ u.rn = n) = true) := decide_eq_true h1
                    clear h1
                    go_upto_region 19 with (fail)
                    refine region_vals [105, 106, 107, 108, 109, 110, 111, 112, 113, 114, 115, 116, 117, 118, 119, 120, 121, 122, 123, 124, 125, 126, 127] [.slice (some ⟨b, off, none⟩) m c, .int .i64 (i : Int), .pointer (some ⟨b, off + i * 26, none⟩), .pointer (some ⟨b, off + i * 26 + 19, none⟩), .pointer (some ⟨b, off + i * 26 + 19 + 5, none⟩), .agg (dotc u.rr u.rn), .agg (dotc r n), .bool true, .bool true, undef, undef, undef, undef, undef, undef, undef, undef, undef, undef, undef, undef, undef, .bool true] _ (by kernel_rfl) (by kernel_rfl) (by rfl) (by decide) (by kernel_rfl) (by simp only [lay, Act.put, List.setIfInBounds_toArray, List.set_cons_zero, List.set_cons_succ, List.getD_cons_zero, List.getD_cons_succ, Nat.reduceAdd]; rfl) ⟨?_, ?_, ?_, ?_, ?_, ?_, ?_, ?_, ?_, ?_, ?_, ?_, ?_, ?_, ?_, ?_, ?_, ?_, ?_, ?_, ?_, ?_, ?_, trivial⟩ ?_
                    · exact .inl ⟨rfl, fun W hb => yields_move rfl rfl⟩
                    · exact .inl ⟨rfl, fun W hb => yields_move rfl rfl⟩
                    · exact .inl ⟨rfl, fun W hb => yields_indexAddr rfl rfl rfl (index_ev W hlt)⟩
                    · exact .inl ⟨rfl, fun W hb => yields_field rfl rfl (field_e3i W _ _)⟩
                    · exact .inl ⟨rfl, fun W hb => yields_field rfl rfl (field_p5 W _ _)⟩
                    · exact .inl ⟨rfl, fun W hb => yields_load rfl rfl (load_dtr (range_ref (range_below hru hb hbl) hu16))⟩
                    · exact .inl ⟨rfl, fun W hb => yields_load rfl rfl (load_dtr (LiesD.range (HD2.out.below (HS.out.1.trans (hb.mono HS.out.1.size)) HD2.out.lt)))⟩
                    · exact .inl ⟨rfl, fun W hb => yields_bin rfl rfl rfl (eqGuard_dt W _ _ _ _) (eql_dt W hq1.out)⟩
                    · exact .inl ⟨rfl, fun W hb => yields_move rfl rfl⟩
                    · exact .inr ⟨rfl, rfl⟩
                    · exact .inr ⟨rfl, rfl⟩
                    · exact .inr ⟨rfl, rfl⟩
                    · exact .inr ⟨rfl, rfl⟩
                    · exact .inr ⟨rfl, rfl⟩
                    · exact .inr ⟨rfl, rfl⟩
                    · exact .inr ⟨rfl, rfl⟩
                    · exact .inr ⟨rfl, rfl⟩
                    · exact .inr ⟨rfl, rfl⟩
                    · exact .inr ⟨rfl, rfl⟩
                    · exact .inr ⟨rfl, rfl⟩
                    · exact .inr ⟨rfl, rfl⟩
                    · exact .inr ⟨rfl, rfl⟩
                    · exact .inl ⟨rfl, fun W hb => yields_pick rfl rfl rfl⟩
                    intro W2 hb2
                    have HB9 : Hid (Below w.heap.size w W2) := HS7.out.2.2.1.trans ((HS.out.1.trans (hb2.mono HS.out.1.size)).mono HS7.out.2.2.1.size)
                    clear hb2 HS hru hq1
                    go_wp2
                    go_ret
                    exact ⟨rfl, HWO.out.trans (HB9.out.mono HWO.out.size)⟩
                  · have hq1 : Hid (decide (u.rr = r ∧ u.rn = n) = false) := decide_eq_false h1
                    by_cases h2 : n ≤ u.deps.getD z 0
                    · have hq2 : Hid (decide (n ≤ u.deps.getD z 0) = true) := decide_eq_true h2
                      go_upto_region 19 with (fail)
                      refine region_vals [105, 106, 107, 108, 109, 110, 111, 112, 113, 114, 115, 116, 117, 118, 119, 120, 121, 122, 123, 124, 125, 126, 127] [.slice (some ⟨b, off, none⟩) m c, .int .i64 (i : Int), .pointer (some ⟨b, off + i * 26, none⟩), .pointer (some ⟨b, off + i * 26 + 19, none⟩), .pointer (some ⟨b, off + i * 26 + 19 + 5, none⟩), .agg (dotc u.rr u.rn), .agg (dotc r n), .bool false, .bool false, .slice (some ⟨b, off, none⟩) m c, .int .i64 (i : Int), .pointer (some ⟨gd, 0 + 0, none⟩), .int .i64 r, .int .i64 (min r 15), .int .i64 (z : Int), .pointer (some ⟨b, off + i * 26, none⟩), .pointer (some ⟨b, off + i * 26 + 3, none⟩), .pointer (some ⟨b, off + i * 26 + 3 + z, none⟩), .int .i64 (u.deps.getD z 0), .pointer (some ⟨gd, 0 + 1, none⟩), .int .i64 n, .bool true, .bool true] _ (by kernel_rfl) (by kernel_rfl) (by rfl) (by decide) (by kernel_rfl) (by simp only [lay, Act.put, List.setIfInBounds_toArray, List.set_cons_zero, List.set_cons_succ, List.getD_cons_zero, List.getD_cons_succ, Nat.reduceAdd]; rfl) ⟨?_, ?_, ?_, ?_, ?_, ?_, ?_, ?_, ?_, ?_, ?_, ?_, ?_, ?_, ?_, ?_, ?_, ?_, ?_, ?_, ?_, ?_, ?_, trivial⟩ ?_
                      · exact .inl ⟨rfl, fun W hb => yields_move rfl rfl⟩
                      · exact .inl ⟨rfl, fun W hb => yields_move rfl rfl⟩
                      · exact .inl ⟨rfl, fun W hb => yields_indexAddr rfl rfl rfl (index_ev W hlt)⟩
                      · exact .inl ⟨rfl, fun W hb => yields_field rfl rfl (field_e3i W _ _)⟩
                      · exact .inl ⟨rfl, fun W hb => yields_field rfl rfl (field_p5 W _ _)⟩
                      · exact .inl ⟨rfl, fun W hb => yields_load rfl rfl (load_dtr (range_ref (range_below hru hb hbl) hu16))⟩
                      · exact .inl ⟨rfl, fun W hb => yields_load rfl rfl (load_dtr (LiesD.range (HD2.out.below (HS.out.1.trans (hb.mono HS.out.1.size)) HD2.out.lt)))⟩
                      · exact .inl ⟨rfl, fun W hb => yields_bin rfl rfl rfl (eqGuard_dt W _ _ _ _) (eql_dt W hq1.out)⟩
                      · exact .inl ⟨rfl, fun W hb => yields_move rfl rfl⟩
                      · exact .inl ⟨rfl, fun W hb => yields_move rfl rfl⟩
                      · exact .inl ⟨rfl, fun W hb => yields_move rfl rfl⟩
                      · exact .inl ⟨rfl, fun W hb => yields_field rfl rfl (field_d0 W _ _)⟩
                      · exact .inl ⟨rfl, fun W hb => yields_load rfl rfl (load_i (LiesD.range (HD2.out.below (HS.out.1.trans (hb.mono HS.out.1.size)) HD2.out.lt) 0 (.int .i64 r) rfl))⟩
                      · exact .inl ⟨rfl, fun W hb => yields_ex (exec_minK rfl rfl rfl)⟩
                      · exact .inl ⟨rfl, fun W hb => yields_ex (by rw [← hz.out]; exact exec_maxK rfl rfl rfl)⟩
                      · exact .inl ⟨rfl, fun W hb => yields_indexAddr rfl rfl rfl (index_ev W hlt)⟩
                      · exact .inl ⟨rfl, fun W hb => yields_field rfl rfl (field_e2p W _ _)⟩
                      · exact .inl ⟨rfl, fun W hb => yields_indexAddr rfl rfl rfl (run_indexAt_dep W _ _ _ hz16)⟩
                      · exact .inl ⟨rfl, fun W hb => yields_load rfl rfl (load_i (range_dep (range_below hru hb hbl) hu16 hz16))⟩
                      · exact .inl ⟨rfl, fun W hb => yields_field rfl rfl (field_d1 W _ _)⟩
                      · exact .inl ⟨rfl, fun W hb => yields_load rfl rfl (load_i (LiesD.range (HD2.out.below (HS.out.1.trans (hb.mono HS.out.1.size)) HD2.out.lt) 1 (.int .i64 n) rfl))⟩
                      · exact .inl ⟨rfl, fun W hb => yields_bin rfl rfl rfl (eqGuard_ik W) (geq_bK W _ _ hq2.out)⟩
                      · exact .inl ⟨rfl, fun W hb => yields_pick rfl rfl rfl⟩
                      intro W2 hb2
                      have HB9 : Hid (Below w.heap.size w W2) := HS7.out.2.2.1.trans ((HS.out.1.trans (hb2.mono HS.out.1.size)).mono HS7.out.2.2.1.size)
                      clear hb2 HS hru hq1 hq2
                      go_wp2
                      go_ret
                      exact ⟨rfl, HWO.out.trans (HB9.out.mono HWO.out.size)⟩
                    · have hq2 : Hid (decide (n ≤ u.deps.getD z 0) = false) := decide_eq_false h2
                      go_upto_region 19 with (fail)
                      refine region_vals [105, 106, 107, 108, 109, 110, 111, 112, 113, 114, 115, 116, 117, 118, 119, 120, 121, 122, 123, 124, 125, 126, 127] [.slice (some ⟨b, off, none⟩) m c, .int .i64 (i : Int), .pointer (some ⟨b, off + i * 26, none⟩), .pointer (some ⟨b, off + i * 26 + 19, none⟩), .pointer (some ⟨b, off + i * 26 + 19 + 5, none⟩), .agg (dotc u.rr u.rn), .agg (dotc r n), .bool false, .bool false, .slice (some ⟨b, off, none⟩) m c, .int .i64 (i : Int), .pointer (some ⟨gd, 0 + 0, none⟩), .int .i64 r, .int .i64 (min r 15), .int .i64 (z : Int), .pointer (some ⟨b, off + i * 26, none⟩), .pointer (some ⟨b, off + i * 26 + 3, none⟩), .pointer (some ⟨b, off + i * 26 + 3 + z, none⟩), .int .i64 (u.deps.getD z 0), .pointer (some ⟨gd, 0 + 1, none⟩), .int .i64 n, .bool false, .bool false] _ (by kernel_rfl) (by kernel_rfl) (by rfl) (by decide) (by kernel_rfl) (by simp only [lay, Act.put, List.setIfInBounds_toArray, List.set_cons_zero, List.set_cons_succ, List.getD_cons_zero, List.getD_cons_succ, Nat.reduceAdd]; rfl) ⟨?_, ?_, ?_, ?_, ?_, ?_, ?_, ?_, ?_, ?_, ?_, ?_, ?_, ?_, ?_, ?_, ?_, ?_, ?_, ?_, ?_, ?_, ?_, trivial⟩ ?_
                      · exact .inl ⟨rfl, fun W hb => yields_move rfl rfl⟩
                      · exact .inl ⟨rfl, fun W hb => yields_move rfl rfl⟩
                      · exact .inl ⟨rfl, fun W hb => yields_indexAddr rfl rfl rfl (index_ev W hlt)⟩
                      · exact .inl ⟨rfl, fun W hb => yields_field rfl rfl (field_e3i W _ _)⟩
                      · exact .inl ⟨rfl, fun W hb => yields_field rfl rfl (field_p5 W _ _)⟩
                      · exact .inl ⟨rfl, fun W hb => yields_load rfl rfl (load_dtr (range_ref (range_below hru hb hbl) hu16))⟩
                      · exact .inl ⟨rfl, fun W hb => yields_load rfl rfl (load_dtr (LiesD.range (HD2.out.below (HS.out.1.trans (hb.mono HS.out.1.size)) HD2.out.lt)))⟩
                      · exact .inl ⟨rfl, fun W hb => yields_bin rfl rfl rfl (eqGuard_dt W _ _ _ _) (eql_dt W hq1.out)⟩
                      · exact .inl ⟨rfl, fun W hb => yields_move rfl rfl⟩
                      · exact .inl ⟨rfl, fun W hb => yields_move rfl rfl⟩
                      · exact .inl ⟨rfl, fun W hb => yields_move rfl rfl⟩
                      · exact .inl ⟨rfl, fun W hb => yields_field rfl rfl (field_d0 W _ _)⟩
                      · exact .inl ⟨rfl, fun W hb => yields_load rfl rfl (load_i (LiesD.range (HD2.out.below (HS.out.1.trans (hb.mono HS.out.1.size)) HD2.out.lt) 0 (.int .i64 r) rfl))⟩
                      · exact .inl ⟨rfl, fun W hb => yields_ex (exec_minK rfl rfl rfl)⟩
                      · exact .inl ⟨rfl, fun W hb => yields_ex (by rw [← hz.out]; exact exec_maxK rfl rfl rfl)⟩
                      · exact .inl ⟨rfl, fun W hb => yields_indexAddr rfl rfl rfl (index_ev W hlt)⟩
                      · exact .inl ⟨rfl, fun W hb => yields_field rfl rfl (field_e2p W _ _)⟩
                      · exact .inl ⟨rfl, fun W hb => yields_indexAddr rfl rfl rfl (run_indexAt_dep W _ _ _ hz16)⟩
                      · exact .inl ⟨rfl, fun W hb => yields_load rfl rfl (load_i (range_dep (range_below hru hb hbl) hu16 hz16))⟩
                      · exact .inl ⟨rfl, fun W hb => yields_field rfl rfl (field_d1 W _ _)⟩
                      · exact .inl ⟨rfl, fun W hb => yields_load rfl rfl (load_i (LiesD.range (HD2.out.below (HS.out.1.trans (hb.mono HS.out.1.size)) HD2.out.lt) 1 (.int .i64 n) rfl))⟩
                      · exact .inl ⟨rfl, fun W hb => yields_bin rfl rfl rfl (eqGuard_ik W) (geq_bK W _ _ hq2.out)⟩
                      · exact .inl ⟨rfl, fun W hb => yields_pick rfl rfl rfl⟩
                      intro W2 hb2
                      have HS4 : Aside (Below W7.heap.size W7 W2 ∧ ∀ j y, j < i + 1 → E[j]? = some y → ¬ (y.rr = r ∧ y.rn = n) ∧ y.deps.getD z 0 < n) := ⟨HS.out.1.trans (hb2.mono HS.out.1.size), fun j y hj hy => by
                        rcases Nat.lt_succ_iff_lt_or_eq.1 hj with h9 | h9
                        · exact HS.out.2 j y h9 hy
                        · subst h9
                          rw [hui] at hy
                          obtain rfl := Option.some.inj hy
                          exact ⟨h1, by omega⟩⟩
                      clear hb2 HS hru hq1 hq2 h1 h2
                      go_wp2
                      go_roundg (m - (i + 1))
                      case measure => omega
                      case rel => exact ⟨i + 1, by go_num, by omega, Nat.le_refl _, HS4⟩
                · obtain rfl : m = i := by omega
                  have hltz : ¬ (m : Int) < (m : Int) := by omega
                  obtain ⟨W8, hW8⟩ : ∃ y : World, y = wr := ⟨_, rfl⟩
                  subst hW8
                  have HLI : Hid (itemsE key (E ++ [(pushv r n t key value rr rn)]) = ((I.take k ++ [(pushv r n t key value rr rn)]) ++ I.drop k)) := HPU.out t HT.out.1 HT.out.2 (fun e he => (of_places HS.out.2 he (by omega)).1) (fun e he => not_covers HZ9.out (of_places HS.out.2 he (by omega)).2) H5.out
                  have hE8 := HS7.out.1.below HS.out.1 (Nat.le_refl _)
                  have hX := HS7.out.2.2.2.below HS.out.1 HS7.out.2.2.2.lt
                  have hgx : gx < W8.heap.size := hX.lt
                  have X16 : (pushv r n t key value rr rn).deps.length = 16 := rfl
                  have hXw : Wide (pushv r n t key value rr rn) := push_wide hkey'.out hval'.out
                  have HWX : Hid (∀ e ∈ E ++ [(pushv r n t key value rr rn)], Wide e) := fun e he => (List.mem_append.1 he).elim (hwide.out e) (fun h => by rw [List.mem_singleton.1 h]; exact hXw)
                  have HWL : Hid (∀ e ∈ ((I.take k ++ [(pushv r n t key value rr rn)]) ++ I.drop k), Wide e) := fun e he => (List.mem_append.1 he).elim (fun h => (List.mem_append.1 h).elim (fun h => HWI.out e (List.mem_of_mem_take h)) (fun h => by rw [List.mem_singleton.1 h]; exact hXw)) (fun h => HWI.out e (List.mem_of_mem_drop h))
                  have HI8 : Hid (Evs W8 a3 q c3 I) := HS7.out.2.1.below HS.out.1 (Nat.le_refl _)
                  have HB8 : Hid (Below w.heap.size w W8) := HS7.out.2.2.1.trans (HS.out.1.mono HS7.out.2.2.1.size)
                  clear HS HS7 HT HPU HD2 HR2 hkx
                  go_upto_region 22 with (fail)
                  go_cut [18] from 129 (fun s18 wx => Aside (Row wx W8.heap.size s18 ((I.take k ++ [(pushv r n t key value rr rn)]) ++ I.drop k) ∧ Below W8.heap.size W8 wx))
                  case first =>
                    refine wp_region_noPanic ?_
                    refine wp_region_held_drew (S := fun W' : World => LiesE W' gx (pushv r n t key value rr rn)) (by kernel_rfl) (hX.below (Below.refl _ _).drew hgx) (fun hHeld => ?_)
                    refine wpAnyH_take (i := 1) (oi := { dst := some 130, op := _, type := _, pos := _, after := _, guard := _ }) (v := .slice ao m c) rfl (by kernel_rfl) (by kernel_rfl) (by kernel_rfl) (fun _ _ _ h => h) (Or.inl ⟨by rfl, ?_⟩) (by assumption) ?_
                    · intro w9 hSw
                      exact exec_move rfl rfl
                    simp only [Act.put, List.setIfInBounds_toArray, List.set_cons_zero, List.set_cons_succ]
                    refine wpAnyH_take (i := 3) (oi := { dst := some 132, op := _, type := _, pos := _, after := _, guard := _ }) (v := .agg (evc (pushv r n t key value rr rn))) rfl (by kernel_rfl) (by kernel_rfl) (by kernel_rfl) (fun _ _ _ h => h) (Or.inl ⟨by rfl, ?_⟩) (by assumption) ?_
                    · intro w9 hSw
                      exact exec_load (ad := ⟨gx, 0, none⟩) rfl rfl (load_ev_run hSw X16)
                    simp only [Act.put, List.setIfInBounds_toArray, List.set_cons_zero, List.set_cons_succ]
                    refine wpAnyH_take (i := 6) (oi := { dst := some 135, op := _, type := _, pos := _, after := _, guard := _ }) (v := .string (sb key)) rfl (by kernel_rfl) (by kernel_rfl) (by kernel_rfl) (fun _ _ _ h => h) (Or.inl ⟨by rfl, ?_⟩) (by assumption) ?_
                    · intro w9 hSw
                      exact exec_move rfl rfl
                    simp only [Act.put, List.setIfInBounds_toArray, List.set_cons_zero, List.set_cons_succ]
                    clear hHeld
                    have hbd : Below W8.heap.size W8 W8.drew := (Below.refl _ _).drew
                    generalize W8.drew = W0 at hbd ⊢
                    refine wpAnyH_ready (rs := [0, 4]) (by kernel_rfl) (by simp) ?_
                    refine AllReadyH.cons (o := { dst := some 129, op := _, type := _, pos := _, after := _, guard := _ }) rfl (fun K hK => ?_) ?_
                    · rw [if_pos (by rfl)]
                      have hb1 : Below W8.heap.size W8 (W0.alloc (.cells #[] 41)) := hbd.alloc hbd.size _
                      have hrow1 := row_empty W0 W8.heap.size hbd.size
                      refine wp_build0 rfl (run_build0 W0) ?_
                      refine hK.out _ _ (hX.below hb1 hgx) (fun hHeld => ?_)
                      clear hK K
                      simp only [Act.put, List.setIfInBounds_toArray, List.set_cons_zero, List.set_cons_succ]
                      clear hHeld
                      refine wpAnyH_ready (rs := [2, 4]) (by kernel_rfl) (by simp) ?_
                      refine AllReadyH.cons (o := { dst := some 131, op := _, type := _, pos := _, after := _, guard := _ }) rfl (fun K hK => ?_) ?_
                      · rw [if_pos (by rfl)]
                        refine wp_appE _ _ rfl W8.heap.size (.slice (some ⟨W0.heap.size, 0, none⟩) 0 0) [] rfl hrow1 _ _ _ E rfl (hE8.below hb1 (Nat.le_refl _)) (by simp; omega) hb1.size ?_
                        intro v2 w2 hR2 hg2 hw2
                        have hb2 : Below W8.heap.size W8 w2 := hb1.grown hg2 hb1.size hrow1.own
                        refine hK.out _ _ (hX.below hb2 hgx) (fun hHeld => ?_)
                        clear hK K
                        simp only [Act.put, List.setIfInBounds_toArray, List.set_cons_zero, List.set_cons_succ]
                        clear hHeld
                        rw [List.nil_append] at hR2
                        refine wpAnyH_ready (rs := [4]) (by kernel_rfl) (by simp) ?_
                        refine AllReadyH.cons (o := { dst := some 133, op := _, type := _, pos := _, after := _, guard := _ }) rfl (fun K hK => ?_) AllReadyH.nil
                        rw [if_pos (by rfl)]
                        have hb3 : Below W8.heap.size W8 (w2.alloc (.cells (evc (pushv r n t key value rr rn)) 41)) := hb2.alloc hb2.size _
                        have ho3 : LiesE (w2.alloc (.cells (evc (pushv r n t key value rr rn)) 41)) w2.heap.size (pushv r n t key value rr rn) := liesE_new w2 (pushv r n t key value rr rn)
                        refine wp_buildK rfl rfl (run_build1 w2 (pushv r n t key value rr rn) X16) ?_
                        refine hK.out _ _ (hX.below hb3 hgx) (fun hHeld => ?_)
                        clear hK K
                        simp only [Act.put, List.setIfInBounds_toArray, List.set_cons_zero, List.set_cons_succ]
                        clear hHeld
                        have hrow3 := hR2.below ((Below.refl _ w2).alloc (Nat.le_refl _) (.cells (evc (pushv r n t key value rr rn)) 41)) (Nat.le_refl _)
                        refine wpAnyH_ready (rs := [5]) (by kernel_rfl) (by simp) ?_
                        refine AllReadyH.cons (o := { dst := some 134, op := _, type := _, pos := _, after := _, guard := _ }) rfl (fun K hK => ?_) AllReadyH.nil
                        rw [if_pos (by rfl)]
                        refine wp_appE _ _ rfl W8.heap.size v2 E rfl hrow3 _ _ _ [(pushv r n t key value rr rn)] rfl (evs_single _ _ (pushv r n t key value rr rn) hXw ho3) (by omega) hb3.size ?_
                        intro v4 w4 hR4 hg4 hw4
                        have hb4 : Below W8.heap.size W8 w4 := hb3.grown hg4 hb3.size hrow3.own
                        refine hK.out _ _ (hX.below hb4 hgx) (fun hHeld => ?_)
                        clear hK K
                        simp only [Act.put, List.setIfInBounds_toArray, List.set_cons_zero, List.set_cons_succ]
                        clear hHeld
                        obtain ⟨a6, c6, hv6, hE6⟩ := hR4.evs HWX.out
                        subst hv6
                        refine wpAnyH_ready (rs := [7]) (by kernel_rfl) (by simp) ?_
                        refine AllReadyH.cons (o := { dst := some 136, op := _, type := _, pos := _, after := _, guard := _ }) rfl (fun K hK => ?_) AllReadyH.nil
                        rw [if_pos (by rfl)]
                        refine wp_callL (xs := [.tmp 134, .tmp 135]) (vs := [.slice a6 (E ++ [(pushv r n t key value rr rn)]).length c6, .string (sb key)]) rfl rfl (enters_items _ _) (items_any _ _ _ (E ++ [(pushv r n t key value rr rn)]) key w4 hE6 (by simp only [List.length_append, List.length_singleton]; omega)) ?_
                        rintro e w70 ⟨v70, rfl, hR70, hb70⟩
                        refine ⟨_, rfl, ?_⟩
                        have hb80 : Below W8.heap.size W8 w70 := hb4.trans (hb70.mono hb4.size)
                        refine hK.out _ _ (hX.below hb80 hgx) (fun hHeld => ?_)
                        clear hK K
                        simp only [Act.put, List.setIfInBounds_toArray, List.set_cons_zero, List.set_cons_succ]
                        have HF : Aside (Row w70 W8.heap.size v70 ((I.take k ++ [(pushv r n t key value rr rn)]) ++ I.drop k) ∧ Below W8.heap.size W8 w70) := ⟨by rw [HLI.out] at hR70; exact hR70.lower hb4.size, hb80⟩
                        refine wpAnyH_take (i := 8) (oi := { dst := some 18, op := _, type := _, pos := _, after := _, guard := _ }) (v := v70) rfl (by kernel_rfl) (by kernel_rfl) (by kernel_rfl) (fun _ _ _ h => h) (Or.inl ⟨by rfl, ?_⟩) (by assumption) ?_
                        · intro w9 hSw
                          exact exec_assign rfl rfl
                        simp only [Act.put, List.setIfInBounds_toArray, List.set_cons_zero, List.set_cons_succ]
                        refine wpAnyH_done (by kernel_rfl) ?_ _
                        refine NoPanic.normal ?_
                        clear hHeld
                        go_wp2
                        go_meet
                        case rel => exact HF
                      · refine AllReadyH.cons (o := { dst := some 133, op := _, type := _, pos := _, after := _, guard := _ }) rfl (fun K hK => ?_) AllReadyH.nil
                        rw [if_pos (by rfl)]
                        have hb5 : Below W8.heap.size W8 ((W0.alloc (.cells #[] 41)).alloc (.cells (evc (pushv r n t key value rr rn)) 41)) := hb1.alloc hb1.size _
                        have ho5 : LiesE ((W0.alloc (.cells #[] 41)).alloc (.cells (evc (pushv r n t key value rr rn)) 41)) (W0.alloc (.cells #[] 41)).heap.size (pushv r n t key value rr rn) := liesE_new (W0.alloc (.cells #[] 41)) (pushv r n t key value rr rn)
                        refine wp_buildK rfl rfl (run_build1 (W0.alloc (.cells #[] 41)) (pushv r n t key value rr rn) X16) ?_
                        refine hK.out _ _ (hX.below hb5 hgx) (fun hHeld => ?_)
                        clear hK K
                        simp only [Act.put, List.setIfInBounds_toArray, List.set_cons_zero, List.set_cons_succ]
                        clear hHeld
                        have hrow5 := hrow1.below ((Below.refl _ (W0.alloc (.cells #[] 41))).alloc (Nat.le_refl _) (.cells (evc (pushv r n t key value rr rn)) 41)) (Nat.le_refl _)
                        refine wpAnyH_ready (rs := [2]) (by kernel_rfl) (by simp) ?_
                        refine AllReadyH.cons (o := { dst := some 131, op := _, type := _, pos := _, after := _, guard := _ }) rfl (fun K hK => ?_) AllReadyH.nil
                        rw [if_pos (by rfl)]
                        refine wp_appE _ _ rfl W8.heap.size (.slice (some ⟨W0.heap.size, 0, none⟩) 0 0) [] rfl hrow5 _ _ _ E rfl (hE8.below hb5 (Nat.le_refl _)) (by simp; omega) hb5.size ?_
                        intro v6 w6 hR6 hg6 hw6
                        have hb6 : Below W8.heap.size W8 w6 := hb5.grown hg6 hb5.size hrow5.own
                        refine hK.out _ _ (hX.below hb6 hgx) (fun hHeld => ?_)
                        clear hK K
                        simp only [Act.put, List.setIfInBounds_toArray, List.set_cons_zero, List.set_cons_succ]
                        clear hHeld
                        rw [List.nil_append] at hR6
                        have ho6 := ho5.keptK (hg6.block _ ho5.lt (fun e => by have e2 := Option.some.inj e; simp at e2))
                        refine wpAnyH_ready (rs := [5]) (by kernel_rfl) (by simp) ?_
                        refine AllReadyH.cons (o := { dst := some 134, op := _, type := _, pos := _, after := _, guard := _ }) rfl (fun K hK => ?_) AllReadyH.nil
                        rw [if_pos (by rfl)]
                        refine wp_appE _ _ rfl W8.heap.size v6 E rfl hR6 _ _ _ [(pushv r n t key value rr rn)] rfl (evs_single _ _ (pushv r n t key value rr rn) hXw ho6) (by omega) hb6.size ?_
                        intro v7 w7 hR7 hg7 hw7
                        have hb7 : Below W8.heap.size W8 w7 := hb6.grown hg7 hb6.size hR6.own
                        refine hK.out _ _ (hX.below hb7 hgx) (fun hHeld => ?_)
                        clear hK K
                        simp only [Act.put, List.setIfInBounds_toArray, List.set_cons_zero, List.set_cons_succ]
                        clear hHeld
                        obtain ⟨a6, c6, hv6, hE6⟩ := hR7.evs HWX.out
                        subst hv6
                        refine wpAnyH_ready (rs := [7]) (by kernel_rfl) (by simp) ?_
                        refine AllReadyH.cons (o := { dst := some 136, op := _, type := _, pos := _, after := _, guard := _ }) rfl (fun K hK => ?_) AllReadyH.nil
                        rw [if_pos (by rfl)]
                        refine wp_callL (xs := [.tmp 134, .tmp 135]) (vs := [.slice a6 (E ++ [(pushv r n t key value rr rn)]).length c6, .string (sb key)]) rfl rfl (enters_items _ _) (items_any _ _ _ (E ++ [(pushv r n t key value rr rn)]) key w7 hE6 (by simp only [List.length_append, List.length_singleton]; omega)) ?_
                        rintro e w70 ⟨v70, rfl, hR70, hb70⟩
                        refine ⟨_, rfl, ?_⟩
                        have hb80 : Below W8.heap.size W8 w70 := hb7.trans (hb70.mono hb7.size)
                        refine hK.out _ _ (hX.below hb80 hgx) (fun hHeld => ?_)
                        clear hK K
                        simp only [Act.put, List.setIfInBounds_toArray, List.set_cons_zero, List.set_cons_succ]
                        have HF : Aside (Row w70 W8.heap.size v70 ((I.take k ++ [(pushv r n t key value rr rn)]) ++ I.drop k) ∧ Below W8.heap.size W8 w70) := ⟨by rw [HLI.out] at hR70; exact hR70.lower hb7.size, hb80⟩
                        refine wpAnyH_take (i := 8) (oi := { dst := some 18, op := _, type := _, pos := _, after := _, guard := _ }) (v := v70) rfl (by kernel_rfl) (by kernel_rfl) (by kernel_rfl) (fun _ _ _ h => h) (Or.inl ⟨by rfl, ?_⟩) (by assumption) ?_
                        · intro w9 hSw
                          exact exec_assign rfl rfl
                        simp only [Act.put, List.setIfInBounds_toArray, List.set_cons_zero, List.set_cons_succ]
                        refine wpAnyH_done (by kernel_rfl) ?_ _
                        refine NoPanic.normal ?_
                        clear hHeld
                        go_wp2
                        go_meet
                        case rel => exact HF
                    · refine AllReadyH.cons (o := { dst := some 133, op := _, type := _, pos := _, after := _, guard := _ }) rfl (fun K hK => ?_) AllReadyH.nil
                      rw [if_pos (by rfl)]
                      have hb8 : Below W8.heap.size W8 (W0.alloc (.cells (evc (pushv r n t key value rr rn)) 41)) := hbd.alloc hbd.size _
                      have ho8 : LiesE (W0.alloc (.cells (evc (pushv r n t key value rr rn)) 41)) W0.heap.size (pushv r n t key value rr rn) := liesE_new W0 (pushv r n t key value rr rn)
                      refine wp_buildK rfl rfl (run_build1 W0 (pushv r n t key value rr rn) X16) ?_
                      refine hK.out _ _ (hX.below hb8 hgx) (fun hHeld => ?_)
                      clear hK K
                      simp only [Act.put, List.setIfInBounds_toArray, List.set_cons_zero, List.set_cons_succ]
                      clear hHeld
                      refine wpAnyH_ready (rs := [0]) (by kernel_rfl) (by simp) ?_
                      refine AllReadyH.cons (o := { dst := some 129, op := _, type := _, pos := _, after := _, guard := _ }) rfl (fun K hK => ?_) AllReadyH.nil
                      rw [if_pos (by rfl)]
                      have hb9 : Below W8.heap.size W8 ((W0.alloc (.cells (evc (pushv r n t key value rr rn)) 41)).alloc (.cells #[] 41)) := hb8.alloc hb8.size _
                      have hrow9 := row_empty (W0.alloc (.cells (evc (pushv r n t key value rr rn)) 41)) W8.heap.size hb8.size
                      refine wp_build0 rfl (run_build0 (W0.alloc (.cells (evc (pushv r n t key value rr rn)) 41))) ?_
                      refine hK.out _ _ (hX.below hb9 hgx) (fun hHeld => ?_)
                      clear hK K
                      simp only [Act.put, List.setIfInBounds_toArray, List.set_cons_zero, List.set_cons_succ]
                      clear hHeld
                      have ho9 := ho8.alloc (.cells #[] 41)
                      refine wpAnyH_ready (rs := [2]) (by kernel_rfl) (by simp) ?_
                      refine AllReadyH.cons (o := { dst := some 131, op := _, type := _, pos := _, after := _, guard := _ }) rfl (fun K hK => ?_) AllReadyH.nil
                      rw [if_pos (by rfl)]
                      refine wp_appE _ _ rfl W8.heap.size (.slice (some ⟨(W0.alloc (.cells (evc (pushv r n t key value rr rn)) 41)).heap.size, 0, none⟩) 0 0) [] rfl hrow9 _ _ _ E rfl (hE8.below hb9 (Nat.le_refl _)) (by simp; omega) hb9.size ?_
                      intro v10 w10 hR10 hg10 hw10
                      have hb10 : Below W8.heap.size W8 w10 := hb9.grown hg10 hb9.size hrow9.own
                      refine hK.out _ _ (hX.below hb10 hgx) (fun hHeld => ?_)
                      clear hK K
                      simp only [Act.put, List.setIfInBounds_toArray, List.set_cons_zero, List.set_cons_succ]
                      clear hHeld
                      rw [List.nil_append] at hR10
                      have ho10 := ho9.keptK (hg10.block _ ho9.lt (fun e => by have e2 := Option.some.inj e; simp at e2))
                      refine wpAnyH_ready (rs := [5]) (by kernel_rfl) (by simp) ?_
                      refine AllReadyH.cons (o := { dst := some 134, op := _, type := _, pos := _, after := _, guard := _ }) rfl (fun K hK => ?_) AllReadyH.nil
                      rw [if_pos (by rfl)]
                      refine wp_appE _ _ rfl W8.heap.size v10 E rfl hR10 _ _ _ [(pushv r n t key value rr rn)] rfl (evs_single _ _ (pushv r n t key value rr rn) hXw ho10) (by omega) hb10.size ?_
                      intro v11 w11 hR11 hg11 hw11
                      have hb11 : Below W8.heap.size W8 w11 := hb10.grown hg11 hb10.size hR10.own
                      refine hK.out _ _ (hX.below hb11 hgx) (fun hHeld => ?_)
                      clear hK K
                      simp only [Act.put, List.setIfInBounds_toArray, List.set_cons_zero, List.set_cons_succ]
                      clear hHeld
                      obtain ⟨a6, c6, hv6, hE6⟩ := hR11.evs HWX.out
                      subst hv6
                      refine wpAnyH_ready (rs := [7]) (by kernel_rfl) (by simp) ?_
                      refine AllReadyH.cons (o := { dst := some 136, op := _, type := _, pos := _, after := _, guard := _ }) rfl (fun K hK => ?_) AllReadyH.nil
                      rw [if_pos (by rfl)]
                      refine wp_callL (xs := [.tmp 134, .tmp 135]) (vs := [.slice a6 (E ++ [(pushv r n t key value rr rn)]).length c6, .string (sb key)]) rfl rfl (enters_items _ _) (items_any _ _ _ (E ++ [(pushv r n t key value rr rn)]) key w11 hE6 (by simp only [List.length_append, List.length_singleton]; omega)) ?_
                      rintro e w70 ⟨v70, rfl, hR70, hb70⟩
                      refine ⟨_, rfl, ?_⟩
                      have hb80 : Below W8.heap.size W8 w70 := hb11.trans (hb70.mono hb11.size)
                      refine hK.out _ _ (hX.below hb80 hgx) (fun hHeld => ?_)
                      clear hK K
                      simp only [Act.put, List.setIfInBounds_toArray, List.set_cons_zero, List.set_cons_succ]
                      have HF : Aside (Row w70 W8.heap.size v70 ((I.take k ++ [(pushv r n t key value rr rn)]) ++ I.drop k) ∧ Below W8.heap.size W8 w70) := ⟨by rw [HLI.out] at hR70; exact hR70.lower hb11.size, hb80⟩
                      refine wpAnyH_take (i := 8) (oi := { dst := some 18, op := _, type := _, pos := _, after := _, guard := _ }) (v := v70) rfl (by kernel_rfl) (by kernel_rfl) (by kernel_rfl) (fun _ _ _ h => h) (Or.inl ⟨by rfl, ?_⟩) (by assumption) ?_
                      · intro w9 hSw
                        exact exec_assign rfl rfl
                      simp only [Act.put, List.setIfInBounds_toArray, List.set_cons_zero, List.set_cons_succ]
                      refine wpAnyH_done (by kernel_rfl) ?_ _
                      refine NoPanic.normal ?_
                      clear hHeld
                      go_wp2
                      go_meet
                      case rel => exact HF
                  case rest =>
                  rename World => W9
                  obtain ⟨aL, cL, hvL, hEL⟩ := hcut.out.1.evs HWL.out
                  obtain ⟨ln, hln⟩ : ∃ x, ((I.take k ++ [(pushv r n t key value rr rn)]) ++ I.drop k).length = x := ⟨_, rfl⟩
                  rw [hln] at hvL hEL
                  subst hvL
                  have hI9 := HI8.out.below hcut.out.2 (Nat.le_refl _)
                  have hX9 := hX.below hcut.out.2 hgx
                  have hgx9 : gx < W9.heap.size := hX9.lt
                  have HB9 : Hid (Below w.heap.size w W9) := HB8.out.trans (hcut.out.2.mono HB8.out.size)
                  have hkc : k ≤ c3 := by have := hI9.room; omega
                  have hsf := fun W : World => slice_from W (ao := a3) (m := q) (c := c3) (k := k) (by omega)
                  obtain ⟨ak, hak⟩ : ∃ ak, dropA a3 c3 k = ak := ⟨_, rfl⟩
                  rw [hak] at hsf
                  have HAK : Hid (dropA a3 c3 k = ak) := hak
                  have hLl : ln ≤ 1000 := by rw [← hln, List.length_append, List.length_append, List.length_take, List.length_drop, List.length_singleton]; omega
                  have HLN : Hid (((I.take k ++ [(pushv r n t key value rr rn)]) ++ I.drop k).length = ln) := hln
                  clear hln
                  clear hcut hX hE8 hak HWX HLI HI8 HB8
                  go_upto_region 23 with (fail)
                  go_cut [19] from 137 (fun s19 wx => Aside (Row wx W9.heap.size s19 ((I.take k ++ [(pushv r n t key value rr rn)]) ++ I.drop k) ∧ Below W9.heap.size W9 wx))
                  case first =>
                    refine wp_region_noPanic ?_
                    refine wp_region_held_drew (S := fun W' : World => LiesE W' gx (pushv r n t key value rr rn)) (by kernel_rfl) (hX9.below (Below.refl _ _).drew hgx9) (fun hHeld => ?_)
                    refine wpAnyH_take (i := 1) (oi := { dst := some 138, op := _, type := _, pos := _, after := _, guard := _ }) (v := .slice a3 q c3) rfl (by kernel_rfl) (by kernel_rfl) (by kernel_rfl) (fun _ _ _ h => h) (Or.inl ⟨by rfl, ?_⟩) (by assumption) ?_
                    · intro w9 hSw
                      exact exec_move rfl rfl
                    simp only [Act.put, List.setIfInBounds_toArray, List.set_cons_zero, List.set_cons_succ]
                    refine wpAnyH_take (i := 2) (oi := { dst := some 139, op := _, type := _, pos := _, after := _, guard := _ }) (v := .int .i64 (k : Int)) rfl (by kernel_rfl) (by kernel_rfl) (by kernel_rfl) (fun _ _ _ h => h) (Or.inl ⟨by rfl, ?_⟩) (by assumption) ?_
                    · intro w9 hSw
                      exact exec_move rfl rfl
                    simp only [Act.put, List.setIfInBounds_toArray, List.set_cons_zero, List.set_cons_succ]
                    refine wpAnyH_take (i := 3) (oi := { dst := some 140, op := _, type := _, pos := _, after := _, guard := _ }) (v := .slice a3 k c3) rfl (by kernel_rfl) (by kernel_rfl) (by kernel_rfl) (fun _ _ _ h => h) (Or.inl ⟨by rfl, ?_⟩) (by assumption) ?_
                    · intro w9 hSw
                      exact exec_slice rfl rfl rfl (slice_at w9 hkc)
                    simp only [Act.put, List.setIfInBounds_toArray, List.set_cons_zero, List.set_cons_succ]
                    refine wpAnyH_take (i := 5) (oi := { dst := some 142, op := _, type := _, pos := _, after := _, guard := _ }) (v := .agg (evc (pushv r n t key value rr rn))) rfl (by kernel_rfl) (by kernel_rfl) (by kernel_rfl) (fun _ _ _ h => h) (Or.inl ⟨by rfl, ?_⟩) (by assumption) ?_
                    · intro w9 hSw
                      exact exec_load (ad := ⟨gx, 0, none⟩) rfl rfl (load_ev_run hSw X16)
                    simp only [Act.put, List.setIfInBounds_toArray, List.set_cons_zero, List.set_cons_succ]
                    refine wpAnyH_take (i := 8) (oi := { dst := some 145, op := _, type := _, pos := _, after := _, guard := _ }) (v := .slice a3 q c3) rfl (by kernel_rfl) (by kernel_rfl) (by kernel_rfl) (fun _ _ _ h => h) (Or.inl ⟨by rfl, ?_⟩) (by assumption) ?_
                    · intro w9 hSw
                      exact exec_move rfl rfl
                    simp only [Act.put, List.setIfInBounds_toArray, List.set_cons_zero, List.set_cons_succ]
                    refine wpAnyH_take (i := 9) (oi := { dst := some 146, op := _, type := _, pos := _, after := _, guard := _ }) (v := .int .i64 (k : Int)) rfl (by kernel_rfl) (by kernel_rfl) (by kernel_rfl) (fun _ _ _ h => h) (Or.inl ⟨by rfl, ?_⟩) (by assumption) ?_
                    · intro w9 hSw
                      exact exec_move rfl rfl
                    simp only [Act.put, List.setIfInBounds_toArray, List.set_cons_zero, List.set_cons_succ]
                    refine wpAnyH_take (i := 10) (oi := { dst := some 147, op := _, type := _, pos := _, after := _, guard := _ }) (v := .slice ak (q - k) (c3 - k)) rfl (by kernel_rfl) (by kernel_rfl) (by kernel_rfl) (fun _ _ _ h => h) (Or.inl ⟨by rfl, ?_⟩) (by assumption) ?_
                    · intro w9 hSw
                      exact exec_slicef rfl rfl rfl (hsf w9)
                    simp only [Act.put, List.setIfInBounds_toArray, List.set_cons_zero, List.set_cons_succ]
                    clear hHeld
                    have hbd : Below W9.heap.size W9 W9.drew := (Below.refl _ _).drew
                    generalize W9.drew = W0 at hbd ⊢
                    refine wpAnyH_ready (rs := [0, 6]) (by kernel_rfl) (by simp) ?_
                    refine AllReadyH.cons (o := { dst := some 137, op := _, type := _, pos := _, after := _, guard := _ }) rfl (fun K hK => ?_) ?_
                    · rw [if_pos (by rfl)]
                      have hb1 : Below W9.heap.size W9 (W0.alloc (.cells #[] 41)) := hbd.alloc hbd.size _
                      have hrow1 := row_empty W0 W9.heap.size hbd.size
                      refine wp_build0 rfl (run_build0 W0) ?_
                      refine hK.out _ _ (hX9.below hb1 hgx9) (fun hHeld => ?_)
                      clear hK K
                      simp only [Act.put, List.setIfInBounds_toArray, List.set_cons_zero, List.set_cons_succ]
                      clear hHeld
                      refine wpAnyH_ready (rs := [4, 6]) (by kernel_rfl) (by simp) ?_
                      refine AllReadyH.cons (o := { dst := some 141, op := _, type := _, pos := _, after := _, guard := _ }) rfl (fun K hK => ?_) ?_
                      · rw [if_pos (by rfl)]
                        refine wp_appE _ _ rfl W9.heap.size (.slice (some ⟨W0.heap.size, 0, none⟩) 0 0) [] rfl hrow1 _ _ _ (I.take k) rfl (Evs.take (hI9.below hb1 (Nat.le_refl _)) hkq) (by simp; omega) hb1.size ?_
                        intro v2 w2 hR2 hg2 hw2
                        have hb2 : Below W9.heap.size W9 w2 := hb1.grown hg2 hb1.size hrow1.own
                        refine hK.out _ _ (hX9.below hb2 hgx9) (fun hHeld => ?_)
                        clear hK K
                        simp only [Act.put, List.setIfInBounds_toArray, List.set_cons_zero, List.set_cons_succ]
                        clear hHeld
                        rw [List.nil_append] at hR2
                        refine wpAnyH_ready (rs := [6]) (by kernel_rfl) (by simp) ?_
                        refine AllReadyH.cons (o := { dst := some 143, op := _, type := _, pos := _, after := _, guard := _ }) rfl (fun K hK => ?_) AllReadyH.nil
                        rw [if_pos (by rfl)]
                        have hb3 : Below W9.heap.size W9 (w2.alloc (.cells (evc (pushv r n t key value rr rn)) 41)) := hb2.alloc hb2.size _
                        have ho3 : LiesE (w2.alloc (.cells (evc (pushv r n t key value rr rn)) 41)) w2.heap.size (pushv r n t key value rr rn) := liesE_new w2 (pushv r n t key value rr rn)
                        refine wp_buildK rfl rfl (run_build1 w2 (pushv r n t key value rr rn) X16) ?_
                        refine hK.out _ _ (hX9.below hb3 hgx9) (fun hHeld => ?_)
                        clear hK K
                        simp only [Act.put, List.setIfInBounds_toArray, List.set_cons_zero, List.set_cons_succ]
                        clear hHeld
                        have hrow3 := hR2.below ((Below.refl _ w2).alloc (Nat.le_refl _) (.cells (evc (pushv r n t key value rr rn)) 41)) (Nat.le_refl _)
                        refine wpAnyH_ready (rs := [7]) (by kernel_rfl) (by simp) ?_
                        refine AllReadyH.cons (o := { dst := some 144, op := _, type := _, pos := _, after := _, guard := _ }) rfl (fun K hK => ?_) AllReadyH.nil
                        rw [if_pos (by rfl)]
                        refine wp_appE _ _ rfl W9.heap.size v2 (I.take k) rfl hrow3 _ _ _ [(pushv r n t key value rr rn)] rfl (evs_single _ _ (pushv r n t key value rr rn) hXw ho3) (by have := List.length_take_le k I; omega) hb3.size ?_
                        intro v4 w4 hR4 hg4 hw4
                        have hb4 : Below W9.heap.size W9 w4 := hb3.grown hg4 hb3.size hrow3.own
                        refine hK.out _ _ (hX9.below hb4 hgx9) (fun hHeld => ?_)
                        clear hK K
                        simp only [Act.put, List.setIfInBounds_toArray, List.set_cons_zero, List.set_cons_succ]
                        clear hHeld
                        refine wpAnyH_ready (rs := [11]) (by kernel_rfl) (by simp) ?_
                        refine AllReadyH.cons (o := { dst := some 148, op := _, type := _, pos := _, after := _, guard := _ }) rfl (fun K hK => ?_) AllReadyH.nil
                        rw [if_pos (by rfl)]
                        refine wp_appE _ _ rfl W9.heap.size v4 ((I.take k) ++ [(pushv r n t key value rr rn)]) rfl hR4 _ _ _ (I.drop k) rfl (HAK.out ▸ (hI9.below hb4 (Nat.le_refl _)).drop hkq) (by rw [List.length_append]; have := List.length_take_le k I; simp only [List.length_singleton]; omega) hb4.size ?_
                        intro v5 w5 hR5 hg5 hw5
                        have hb5 : Below W9.heap.size W9 w5 := hb4.grown hg5 hb4.size hR4.own
                        refine hK.out _ _ (hX9.below hb5 hgx9) (fun hHeld => ?_)
                        clear hK K
                        simp only [Act.put, List.setIfInBounds_toArray, List.set_cons_zero, List.set_cons_succ]
                        clear hHeld
                        have HF : Aside (Row w5 W9.heap.size v5 ((I.take k ++ [(pushv r n t key value rr rn)]) ++ I.drop k) ∧ Below W9.heap.size W9 w5) := ⟨hR5, hb5⟩
                        have hSx : LiesE w5 gx (pushv r n t key value rr rn) := hX9.below hb5 hgx9
                        refine wpAnyH_take (i := 12) (oi := { dst := some 19, op := _, type := _, pos := _, after := _, guard := _ }) (v := v5) rfl (by kernel_rfl) (by kernel_rfl) (by kernel_rfl) (fun _ _ _ h => h) (Or.inl ⟨by rfl, ?_⟩) (by assumption) ?_
                        · intro w9 hSw
                          exact exec_assign rfl rfl
                        simp only [Act.put, List.setIfInBounds_toArray, List.set_cons_zero, List.set_cons_succ]
                        refine wpAnyH_done (by kernel_rfl) ?_ _
                        refine NoPanic.normal ?_
                        go_wp2
                        go_meet
                        case rel => exact HF
                      · refine AllReadyH.cons (o := { dst := some 143, op := _, type := _, pos := _, after := _, guard := _ }) rfl (fun K hK => ?_) AllReadyH.nil
                        rw [if_pos (by rfl)]
                        have hb6 : Below W9.heap.size W9 ((W0.alloc (.cells #[] 41)).alloc (.cells (evc (pushv r n t key value rr rn)) 41)) := hb1.alloc hb1.size _
                        have ho6 : LiesE ((W0.alloc (.cells #[] 41)).alloc (.cells (evc (pushv r n t key value rr rn)) 41)) (W0.alloc (.cells #[] 41)).heap.size (pushv r n t key value rr rn) := liesE_new (W0.alloc (.cells #[] 41)) (pushv r n t key value rr rn)
                        refine wp_buildK rfl rfl (run_build1 (W0.alloc (.cells #[] 41)) (pushv r n t key value rr rn) X16) ?_
                        refine hK.out _ _ (hX9.below hb6 hgx9) (fun hHeld => ?_)
                        clear hK K
                        simp only [Act.put, List.setIfInBounds_toArray, List.set_cons_zero, List.set_cons_succ]
                        clear hHeld
                        have hrow6 := hrow1.below ((Below.refl _ (W0.alloc (.cells #[] 41))).alloc (Nat.le_refl _) (.cells (evc (pushv r n t key value rr rn)) 41)) (Nat.le_refl _)
                        refine wpAnyH_ready (rs := [4]) (by kernel_rfl) (by simp) ?_
                        refine AllReadyH.cons (o := { dst := some 141, op := _, type := _, pos := _, after := _, guard := _ }) rfl (fun K hK => ?_) AllReadyH.nil
                        rw [if_pos (by rfl)]
                        refine wp_appE _ _ rfl W9.heap.size (.slice (some ⟨W0.heap.size, 0, none⟩) 0 0) [] rfl hrow6 _ _ _ (I.take k) rfl (Evs.take (hI9.below hb6 (Nat.le_refl _)) hkq) (by simp; omega) hb6.size ?_
                        intro v7 w7 hR7 hg7 hw7
                        have hb7 : Below W9.heap.size W9 w7 := hb6.grown hg7 hb6.size hrow6.own
                        refine hK.out _ _ (hX9.below hb7 hgx9) (fun hHeld => ?_)
                        clear hK K
                        simp only [Act.put, List.setIfInBounds_toArray, List.set_cons_zero, List.set_cons_succ]
                        clear hHeld
                        rw [List.nil_append] at hR7
                        have ho7 := ho6.keptK (hg7.block _ ho6.lt (fun e => by have e2 := Option.some.inj e; simp at e2))
                        refine wpAnyH_ready (rs := [7]) (by kernel_rfl) (by simp) ?_
                        refine AllReadyH.cons (o := { dst := some 144, op := _, type := _, pos := _, after := _, guard := _ }) rfl (fun K hK => ?_) AllReadyH.nil
                        rw [if_pos (by rfl)]
                        refine wp_appE _ _ rfl W9.heap.size v7 (I.take k) rfl hR7 _ _ _ [(pushv r n t key value rr rn)] rfl (evs_single _ _ (pushv r n t key value rr rn) hXw ho7) (by have := List.length_take_le k I; omega) hb7.size ?_
                        intro v8 w8 hR8 hg8 hw8
                        have hb8 : Below W9.heap.size W9 w8 := hb7.grown hg8 hb7.size hR7.own
                        refine hK.out _ _ (hX9.below hb8 hgx9) (fun hHeld => ?_)
                        clear hK K
                        simp only [Act.put, List.setIfInBounds_toArray, List.set_cons_zero, List.set_cons_succ]
                        clear hHeld
                        refine wpAnyH_ready (rs := [11]) (by kernel_rfl) (by simp) ?_
                        refine AllReadyH.cons (o := { dst := some 148, op := _, type := _, pos := _, after := _, guard := _ }) rfl (fun K hK => ?_) AllReadyH.nil
                        rw [if_pos (by rfl)]
                        refine wp_appE _ _ rfl W9.heap.size v8 ((I.take k) ++ [(pushv r n t key value rr rn)]) rfl hR8 _ _ _ (I.drop k) rfl (HAK.out ▸ (hI9.below hb8 (Nat.le_refl _)).drop hkq) (by rw [List.length_append]; have := List.length_take_le k I; simp only [List.length_singleton]; omega) hb8.size ?_
                        intro v9 w9 hR9 hg9 hw9
                        have hb9 : Below W9.heap.size W9 w9 := hb8.grown hg9 hb8.size hR8.own
                        refine hK.out _ _ (hX9.below hb9 hgx9) (fun hHeld => ?_)
                        clear hK K
                        simp only [Act.put, List.setIfInBounds_toArray, List.set_cons_zero, List.set_cons_succ]
                        clear hHeld
                        have HF : Aside (Row w9 W9.heap.size v9 ((I.take k ++ [(pushv r n t key value rr rn)]) ++ I.drop k) ∧ Below W9.heap.size W9 w9) := ⟨hR9, hb9⟩
                        have hSx : LiesE w9 gx (pushv r n t key value rr rn) := hX9.below hb9 hgx9
                        refine wpAnyH_take (i := 12) (oi := { dst := some 19, op := _, type := _, pos := _, after := _, guard := _ }) (v := v9) rfl (by kernel_rfl) (by kernel_rfl) (by kernel_rfl) (fun _ _ _ h => h) (Or.inl ⟨by rfl, ?_⟩) (by assumption) ?_
                        · intro w9 hSw
                          exact exec_assign rfl rfl
                        simp only [Act.put, List.setIfInBounds_toArray, List.set_cons_zero, List.set_cons_succ]
                        refine wpAnyH_done (by kernel_rfl) ?_ _
                        refine NoPanic.normal ?_
                        go_wp2
                        go_meet
                        case rel => exact HF
                    · refine AllReadyH.cons (o := { dst := some 143, op := _, type := _, pos := _, after := _, guard := _ }) rfl (fun K hK => ?_) AllReadyH.nil
                      rw [if_pos (by rfl)]
                      have hb10 : Below W9.heap.size W9 (W0.alloc (.cells (evc (pushv r n t key value rr rn)) 41)) := hbd.alloc hbd.size _
                      have ho10 : LiesE (W0.alloc (.cells (evc (pushv r n t key value rr rn)) 41)) W0.heap.size (pushv r n t key value rr rn) := liesE_new W0 (pushv r n t key value rr rn)
                      refine wp_buildK rfl rfl (run_build1 W0 (pushv r n t key value rr rn) X16) ?_
                      refine hK.out _ _ (hX9.below hb10 hgx9) (fun hHeld => ?_)
                      clear hK K
                      simp only [Act.put, List.setIfInBounds_toArray, List.set_cons_zero, List.set_cons_succ]
                      clear hHeld
                      refine wpAnyH_ready (rs := [0]) (by kernel_rfl) (by simp) ?_
                      refine AllReadyH.cons (o := { dst := some 137, op := _, type := _, pos := _, after := _, guard := _ }) rfl (fun K hK => ?_) AllReadyH.nil
                      rw [if_pos (by rfl)]
                      have hb11 : Below W9.heap.size W9 ((W0.alloc (.cells (evc (pushv r n t key value rr rn)) 41)).alloc (.cells #[] 41)) := hb10.alloc hb10.size _
                      have hrow11 := row_empty (W0.alloc (.cells (evc (pushv r n t key value rr rn)) 41)) W9.heap.size hb10.size
                      refine wp_build0 rfl (run_build0 (W0.alloc (.cells (evc (pushv r n t key value rr rn)) 41))) ?_
                      refine hK.out _ _ (hX9.below hb11 hgx9) (fun hHeld => ?_)
                      clear hK K
                      simp only [Act.put, List.setIfInBounds_toArray, List.set_cons_zero, List.set_cons_succ]
                      clear hHeld
                      have ho11 := ho10.alloc (.cells #[] 41)
                      refine wpAnyH_ready (rs := [4]) (by kernel_rfl) (by simp) ?_
                      refine AllReadyH.cons (o := { dst := some 141, op := _, type := _, pos := _, after := _, guard := _ }) rfl (fun K hK => ?_) AllReadyH.nil
                      rw [if_pos (by rfl)]
                      refine wp_appE _ _ rfl W9.heap.size (.slice (some ⟨(W0.alloc (.cells (evc (pushv r n t key value rr rn)) 41)).heap.size, 0, none⟩) 0 0) [] rfl hrow11 _ _ _ (I.take k) rfl (Evs.take (hI9.below hb11 (Nat.le_refl _)) hkq) (by simp; omega) hb11.size ?_
                      intro v12 w12 hR12 hg12 hw12
                      have hb12 : Below W9.heap.size W9 w12 := hb11.grown hg12 hb11.size hrow11.own
                      refine hK.out _ _ (hX9.below hb12 hgx9) (fun hHeld => ?_)
                      clear hK K
                      simp only [Act.put, List.setIfInBounds_toArray, List.set_cons_zero, List.set_cons_succ]
                      clear hHeld
                      rw [List.nil_append] at hR12
                      have ho12 := ho11.keptK (hg12.block _ ho11.lt (fun e => by have e2 := Option.some.inj e; simp at e2))
                      refine wpAnyH_ready (rs := [7]) (by kernel_rfl) (by simp) ?_
                      refine AllReadyH.cons (o := { dst := some 144, op := _, type := _, pos := _, after := _, guard := _ }) rfl (fun K hK => ?_) AllReadyH.nil
                      rw [if_pos (by rfl)]
                      refine wp_appE _ _ rfl W9.heap.size v12 (I.take k) rfl hR12 _ _ _ [(pushv r n t key value rr rn)] rfl (evs_single _ _ (pushv r n t key value rr rn) hXw ho12) (by have := List.length_take_le k I; omega) hb12.size ?_
                      intro v13 w13 hR13 hg13 hw13
                      have hb13 : Below W9.heap.size W9 w13 := hb12.grown hg13 hb12.size hR12.own
                      refine hK.out _ _ (hX9.below hb13 hgx9) (fun hHeld => ?_)
                      clear hK K
                      simp only [Act.put, List.setIfInBounds_toArray, List.set_cons_zero, List.set_cons_succ]
                      clear hHeld
                      refine wpAnyH_ready (rs := [11]) (by kernel_rfl) (by simp) ?_
                      refine AllReadyH.cons (o := { dst := some 148, op := _, type := _, pos := _, after := _, guard := _ }) rfl (fun K hK => ?_) AllReadyH.nil
                      rw [if_pos (by rfl)]
                      refine wp_appE _ _ rfl W9.heap.size v13 ((I.take k) ++ [(pushv r n t key value rr rn)]) rfl hR13 _ _ _ (I.drop k) rfl (HAK.out ▸ (hI9.below hb13 (Nat.le_refl _)).drop hkq) (by rw [List.length_append]; have := List.length_take_le k I; simp only [List.length_singleton]; omega) hb13.size ?_
                      intro v14 w14 hR14 hg14 hw14
                      have hb14 : Below W9.heap.size W9 w14 := hb13.grown hg14 hb13.size hR13.own
                      refine hK.out _ _ (hX9.below hb14 hgx9) (fun hHeld => ?_)
                      clear hK K
                      simp only [Act.put, List.setIfInBounds_toArray, List.set_cons_zero, List.set_cons_succ]
                      clear hHeld
                      have HF : Aside (Row w14 W9.heap.size v14 ((I.take k ++ [(pushv r n t key value rr rn)]) ++ I.drop k) ∧ Below W9.heap.size W9 w14) := ⟨hR14, hb14⟩
                      have hSx : LiesE w14 gx (pushv r n t key value rr rn) := hX9.below hb14 hgx9
                      refine wpAnyH_take (i := 12) (oi := { dst := some 19, op := _, type := _, pos := _, after := _, guard := _ }) (v := v14) rfl (by kernel_rfl) (by kernel_rfl) (by kernel_rfl) (fun _ _ _ h => h) (Or.inl ⟨by rfl, ?_⟩) (by assumption) ?_
                      · intro w9 hSw
                        exact exec_assign rfl rfl
                      simp only [Act.put, List.setIfInBounds_toArray, List.set_cons_zero, List.set_cons_succ]
                      refine wpAnyH_done (by kernel_rfl) ?_ _
                      refine NoPanic.normal ?_
                      go_wp2
                      go_meet
                      case rel => exact HF
                  case rest =>
                  rename World => W10
                  obtain ⟨aM, cM, hvM, hEM⟩ := hcut.out.1.evs HWL.out
                  rw [HLN.out] at hvM hEM
                  subst hvM
                  have HF : Aside (Evs W10 aL ln cL ((I.take k ++ [(pushv r n t key value rr rn)]) ++ I.drop k) ∧ Evs W10 aM ln cM ((I.take k ++ [(pushv r n t key value rr rn)]) ++ I.drop k) ∧ Below w.heap.size w W10) := ⟨hEL.below hcut.out.2 (Nat.le_refl _), hEM, HB9.out.trans (hcut.out.2.mono HB9.out.size)⟩
                  clear hcut hEL hEM hI9 hX9 hsf HB9
                  generalize ((I.take k ++ [(pushv r n t key value rr rn)]) ++ I.drop k) = L at *
                  go_wp2_with fail
                  refine (same_yes aL aM _ cL cM L W10 HF.out.1 HF.out.2.1 (by omega)).mono ?_
                  rintro e w11 ⟨rfl, hb11⟩
                  have HB9 : Hid (Below w.heap.size w w11) := HF.out.2.2.trans (hb11.mono HF.out.2.2.size)
                  clear hb11 HF
                  go_wp2
                  go_ret
                  exact ⟨rfl, HWO.out.trans (HB9.out.mono HWO.out.size)⟩
end Go.Proofs.Ytagjgamigldjnaa
