/-
  What All comes to: the live events in the stable order of their times.
-/
import Derived.Test.YtagjgamigldjnaaLse
import Derived.Test.YtagjgamigldjnaaSsf
namespace Go.Proofs.Ytagjgamigldjnaa
set_option maxRecDepth 100000
open Go.RowKit

theorem Row.own {w : World} {base : Nat} {v : Value} {E : List Ev} (h : Row w base v E) : ∀ k, v.ownBlock = some k → base ≤ k := by
  intro k hk
  rcases h.2 with ⟨rfl, -⟩ | ⟨g, cap, cur, rfl, hbg, -⟩
  · cases hk
  · simp only [Value.ownBlock, Option.some.injEq] at hk
    omega
theorem build_ev1 {ops : Array Oper} {rest : List Oper} {o : Oper} {a : Act} {w : World} {Q : Exit → Act → World → Prop} {x : Operand} {u : Ev} (hw : Region.wanted o (yielded ops a.tmps) = true) (ho : o.op = .buildSlice 22 1 #[(0, x)]) (hx : a.eval x = .agg (evc u)) (hu : u.deps.length = 16)
    (h : wpList Try.prog ops Q rest (a.put o.dst (.slice (some ⟨w.heap.size, 0, none⟩) 1 1)) (w.alloc (.cells (evc u) 41))) : wpList Try.prog ops Q (o :: rest) a w :=
  wpList_step fun K hK => by
    rw [if_pos hw]
    have hr := run_build1 w u hu
    unfold Oper.wp execOp
    simp only [ho, List.map_toArray, List.map_cons, List.map_nil, hx, Sem.run_bind, Sem.run_pure, Result.andThen_ok, hr]
    exact hK _ _ h
def liveTo (E : List Ev) (i : Nat) : List Ev := (E.take i).filter (isLive E)
theorem liveTo_zero (E : List Ev) : liveTo E 0 = [] := rfl
theorem liveTo_succ {E : List Ev} {i : Nat} {u : Ev} (h : E[i]? = some u) : liveTo E (i + 1) = if isLive E u then liveTo E i ++ [u] else liveTo E i := by
  unfold liveTo
  rw [take_snoc h, List.filter_append, List.filter_cons, List.filter_nil]
  split <;> simp
theorem liveTo_all {E : List Ev} {m : Nat} (h : E.length ≤ m) : liveTo E m = liveE E := by
  unfold liveTo liveE
  rw [List.take_of_length_le h]
theorem liveTo_len (E : List Ev) (i : Nat) : (liveTo E i).length ≤ i := by
  unfold liveTo
  have := List.length_filter_le (isLive E) (E.take i)
  have := List.length_take_le i E
  omega
theorem liveTo_mem {E : List Ev} {i : Nat} {e : Ev} (h : e ∈ liveTo E i) : e ∈ E := List.mem_of_mem_take (List.mem_filter.1 h).1
theorem live_is {E : List Ev} {u : Ev} (h : addsE u.kind = true) : isLive E u = !(hasv (seenF E (wholeE u.key)) u.r u.n || hasv (seenF E (aimAtE u)) u.r u.n) := by
  unfold isLive
  rw [ended_is E u h, h, Bool.true_and]

set_option maxHeartbeats 4000000 in
theorem all_any (ao : Option Addr) (m c : Nat) (E : List Ev) (w : World) (hE : Evs w ao m c E) (hm : m ≤ 1000) :
    Calls Try.prog 33 #[.slice ao m c] w fun e w' => ∃ v, e = .returned v ∧ Row w' w.heap.size v (allE E) ∧ Below w.heap.size w w' := by
  have hlen := hE.len
  have hwide : Hid (∀ e ∈ E, Wide e) := hE.wide
  go_enter Try.func33, Try.ntmps33
  go_wp2_with fail
  refine (seenby_any ao m c E w hE (by omega)).mono ?_
  rintro e w1 ⟨rfl, hMap, hb1⟩
  have HE : Aside (Evs w1 ao m c E) := hE.below hb1 (Nat.le_refl _)
  have HM : Aside (Mpa w1 w.heap.size (seenF E)) := hMap
  have HB1 : Hid (Below w.heap.size w w1) := hb1
  have hs1 : w.heap.size < w1.heap.size := hMap.lt
  clear hE hb1 hMap
  have H0 : Aside (Row w1 w1.heap.size (.slice none 0 0) (liveTo E 0) ∧ Below w1.heap.size w1 w1) := ⟨row_nil _ _, Below.refl _ _⟩
  go_wp2
  go_loopg [4, 11] m (fun kx s4 s11 wr => ∃ i : Nat, s11 = .int .i64 i ∧ i ≤ m ∧ m - i ≤ kx ∧ Aside (Row wr w1.heap.size s4 (liveTo E i) ∧ Below w1.heap.size w1 wr))
  case atStart => exact ⟨0, rfl, Nat.zero_le _, by omega, H0⟩
  case round =>
    clear H0
    obtain ⟨i, rfl, him, hkx, HS⟩ := hrel
    by_cases hlt : i < m
    · have hltz : (i : Int) < (m : Int) := by omega
      obtain ⟨b, off, u, rfl, hui, hu, hr, hbl⟩ := (HE.out.below HS.out.2 (Nat.le_refl _)).at hlt
      have hu16 := hu.1
      have hix := fun W : World => index_ev W (b := b) (off := off) (k := i) (m := m) (c := c) hlt
      have hsz : w1.heap.size ≤ wr.heap.size := HS.out.2.size
      have hz := liesE_new wr zv
      have hE1 : LiesE ((wr.alloc (.cells (evc zv) 41)).setRow wr.heap.size (evc u)) wr.heap.size u := hz.row u
      have hB1 : Below wr.heap.size wr ((wr.alloc (.cells (evc zv) 41)).setRow wr.heap.size (evc u)) := below_setRow ((Below.refl _ _).alloc (Nat.le_refl _) _) (Nat.le_refl _) _
      have HS1 : Aside (Row ((wr.alloc (.cells (evc zv) 41)).setRow wr.heap.size (evc u)) w1.heap.size u4 (liveTo E i) ∧ Below w1.heap.size w1 ((wr.alloc (.cells (evc zv) 41)).setRow wr.heap.size (evc u)) ∧ LiesE ((wr.alloc (.cells (evc zv) 41)).setRow wr.heap.size (evc u)) wr.heap.size u) :=
        ⟨HS.out.1.below hB1 (Nat.le_refl _), HS.out.2.trans (hB1.mono hsz), hE1⟩
      clear hB1
      go_upto_region 6 with (first | refine load_ev_mid rfl rfl rfl hr hu16 ?_ | refine store_ev rfl rfl rfl rfl hz hu16 rfl ?_)
      change Code.wp _ _ _ _ ((wr.alloc (.cells (evc zv) 41)).setRow wr.heap.size (evc u))
      clear hE1 hz hr hix HS hbl
      generalize (wr.alloc (.cells (evc zv) 41)).setRow wr.heap.size (evc u) = W at HS1 ⊢
      generalize wr.heap.size = D at *
      have hE1 := HS1.out.2.2
      have c19 := hE1.c19 hu16
      have HSN : Hid (liveTo E (i + 1) = if isLive E u then liveTo E i ++ [u] else liveTo E i) := liveTo_succ hui
      go_wp2_with fail
      refine (adds_any u.kind W).mono ?_
      rintro e wx ⟨rfl, hwx⟩
      obtain rfl := hwx.symm
      clear hwx c19
      rcases Bool.eq_false_or_eq_true (addsE u.kind) with ha | ha
      · have hlive : Hid (isLive E u = !(hasv (seenF E (wholeE u.key)) u.r u.n || hasv (seenF E (aimAtE u)) u.r u.n)) := live_is ha
        rw [ha]
        go_wp2_with (refine load_ev rfl rfl rfl hE1 hu16 ?_)
        refine (ended_any u hu16 w.heap.size (seenF E) W (HM.out.below HS1.out.2.1 hs1)).mono ?_
        rintro e w3 ⟨rfl, hb3⟩
        have HS3 : Aside (Row w3 w1.heap.size u4 (liveTo E i) ∧ Below w1.heap.size w1 w3 ∧ LiesE w3 D u) := ⟨HS1.out.1.below hb3 (Nat.le_refl _), HS1.out.2.1.trans (hb3.mono HS1.out.2.1.size), hE1.below hb3 hE1.lt⟩
        clear hb3 hE1 HS1
        generalize (hasv (seenF E (wholeE u.key)) u.r u.n || hasv (seenF E (aimAtE u)) u.r u.n) = t at *
        cases t with
        | true =>
          have HS4 : Aside (Row w3 w1.heap.size u4 (liveTo E (i + 1)) ∧ Below w1.heap.size w1 w3) := ⟨by rw [HSN.out, hlive.out]; exact HS3.out.1, HS3.out.2.1⟩
          clear HS3 HSN hlive
          go_wp2
          go_roundg (m - (i + 1))
          case measure => omega
          case rel => exact ⟨i + 1, by go_num, by omega, Nat.le_refl _, HS4⟩
        | false =>
          have hE3 := HS3.out.2.2
          have hRow : Row (w3.alloc (.cells (evc u) 41)) w1.heap.size u4 (liveTo E i) := HS3.out.1.below ((Below.refl _ _).alloc (Nat.le_refl _) _) (Nat.le_refl _)
          have hF : Evs (w3.alloc (.cells (evc u) 41)) (some ⟨w3.heap.size, 0, none⟩) 1 1 [u] := evs_single _ _ u hu (liesE_new w3 u)
          have hll := liveTo_len E i
          have hle : w1.heap.size ≤ (w3.alloc (.cells (evc u) 41)).heap.size := by have := HS3.out.2.1.size; simp; omega
          have HB3 : Hid (Below w1.heap.size w1 (w3.alloc (.cells (evc u) 41))) := HS3.out.2.1.alloc HS3.out.2.1.size _
          clear HS3
          go_wp2_with (first | refine load_ev rfl rfl rfl hE3 hu16 ?_ | refine build_ev1 rfl rfl rfl hu16 ?_ | refine wpList_appE rfl _ _ rfl w1.heap.size _ (liveTo E i) rfl hRow _ 1 1 [u] rfl hF (by omega) hle ?_)
          intro v4 w4 hR4 hg4 ho4
          have HS4 : Aside (Row w4 w1.heap.size v4 (liveTo E (i + 1)) ∧ Below w1.heap.size w1 w4) := ⟨by rw [HSN.out, hlive.out]; exact hR4, HB3.out.grown hg4 hle hRow.own⟩
          clear hR4 hg4 ho4 hRow hF hE3 HB3 HSN hlive hll hle
          go_wp2
          go_roundg (m - (i + 1))
          case measure => omega
          case rel => exact ⟨i + 1, by go_num, by omega, Nat.le_refl _, HS4⟩
      · have HS4 : Aside (Row W w1.heap.size u4 (liveTo E (i + 1)) ∧ Below w1.heap.size w1 W) := ⟨by rw [HSN.out, isLive, ha]; exact HS1.out.1, HS1.out.2.1⟩
        clear HS1 HSN hE1
        rw [ha]
        go_wp2
        go_roundg (m - (i + 1))
        case measure => omega
        case rel => exact ⟨i + 1, by go_num, by omega, Nat.le_refl _, HS4⟩
    · obtain rfl : i = m := by omega
      have HR : Aside (Row wr w1.heap.size u4 (liveE E) ∧ Below w1.heap.size w1 wr) := by
        have := HS.out
        rw [liveTo_all (by omega)] at this
        exact this
      clear HS
      go_wp2_with fail
      refine (sortst_any u4 (liveE E) w1.heap.size wr HR.out.1 (fun e he => hwide.out e (List.mem_filter.1 he).1) (by have : (liveE E).length ≤ E.length := List.length_filter_le _ _; omega)).mono ?_
      rintro e w5 ⟨rfl, hR5, hg5⟩
      have H5 : Hid (Row w5 w.heap.size u4 (allE E) ∧ Below w.heap.size w w5) := by
        have hb5 : Below w1.heap.size w1 w5 := HR.out.2.grown hg5 HR.out.2.size HR.out.1.own
        exact ⟨hR5.lower (by omega), HB1.out.trans (hb5.mono (by omega))⟩
      clear hR5 hg5 HR
      go_wp2
      go_ret
      exact ⟨_, rfl, H5.out⟩
end Go.Proofs.Ytagjgamigldjnaa
