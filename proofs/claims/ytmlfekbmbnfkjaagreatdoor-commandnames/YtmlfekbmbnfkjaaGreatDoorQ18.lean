/-
  What All comes to: the live events in the stable order of their times.
-/
import Derived.Test.YtmlfekbmbnfkjaaGreatDoorQ13
import Derived.Test.YtmlfekbmbnfkjaaGreatDoorQ17
import Derived.Deep.CutRange
import Derived.Test.YtmlfekbmbnfkjaaGreatDoorQ11
import Derived.Test.YtmlfekbmbnfkjaaGreatDoorQ12
import Derived.Test.YtmlfekbmbnfkjaaGreatDoorQ09
namespace Go.Proofs.YtmlfekbmbnfkjaaGreatDoor
set_option maxRecDepth 100000
set_option maxRecDepth 100000
open Go.RowKit

theorem Row.own {w : World} {base : Nat} {v : Value} {E : List Ev} (h : Row w base v E) : ∀ k, v.ownBlock = some k → base ≤ k := by
  intro k hk
  rcases h.2 with ⟨rfl, -⟩ | ⟨g, cap, cur, rfl, hbg, -⟩
  · cases hk
  · simp only [Value.ownBlock, Option.some.injEq] at hk
    omega
theorem build_ev1 {ops : Array Oper} {rest : List Oper} {o : Oper} {a : Act} {w : World} {Q : Exit → Act → World → Prop} {x : Operand} {u : Ev} (hw : Region.wanted o (yielded ops a.tmps) = true) (ho : o.op = .buildSlice 40 1 #[(0, x)]) (hx : a.eval x = .agg (evc u)) (hu : u.deps.length = 16)
    (h : wpList Tryz.prog ops Q rest (a.put o.dst (.slice (some ⟨w.heap.size, 0, none⟩) 1 1)) (w.alloc (.cells (evc u) 62))) : wpList Tryz.prog ops Q (o :: rest) a w :=
  wpList_step fun K hK => by
    rw [if_pos hw]
    have hr := run_build1 w u hu
    unfold Oper.wp execOp
    simp only [ho, List.map_toArray, List.map_cons, List.map_nil, hx, Sem.run_bind, Sem.run_pure, Result.andThen_ok, hr]
    exact hK _ _ h
def liveTo (E : List Ev) (i : Nat) : List Ev := (E.take i).filter (isLive E)
theorem liveTo_zero (E : List Ev) : liveTo E 0 = [] := rfl
theorem liveTo_succ {E : List Ev} {i : Nat} {u : Ev} (h : E[i]? = some u) : liveTo E (i + 1) = if isLive E u then liveTo E i ++ [u] else liveTo E i := by
  unfold liveTo
  rw [take_snoc h, List.filter_append, List.filter_cons, List.filter_nil]
  split <;> simp
theorem liveTo_all {E : List Ev} {m : Nat} (h : E.length ≤ m) : liveTo E m = liveE E := by
  unfold liveTo liveE
  rw [List.take_of_length_le h]
theorem liveTo_len (E : List Ev) (i : Nat) : (liveTo E i).length ≤ i := by
  unfold liveTo
  have := List.length_filter_le (isLive E) (E.take i)
  have := List.length_take_le i E
  omega
theorem liveTo_mem {E : List Ev} {i : Nat} {e : Ev} (h : e ∈ liveTo E i) : e ∈ E := List.mem_of_mem_take (List.mem_filter.1 h).1
theorem live_is {E : List Ev} {u : Ev} (h : addsE u.kind = true) : isLive E u = !(hasv (seenF E (wholeE u.key)) u.r u.n || hasv (seenF E (aimAtE u)) u.r u.n) := by
  unfold isLive
  rw [ended_is E u h, h, Bool.true_and]

set_option maxHeartbeats 4000000 in
theorem all_any (ao : Option Addr) (m c : Nat) (E : List Ev) (w : World) (hE : Evs w ao m c E) (hm : m ≤ 1000) :
    Calls Tryz.prog 174 #[.slice ao m c] w fun e w' => ∃ v, e = .returned v ∧ Row w' w.heap.size v (allE E) ∧ Below w.heap.size w w' := by
  have hlen := hE.len
  have hwide : Hid (∀ e ∈ E, Wide e) := hE.wide
  go_enter Tryz.func174, Tryz.ntmps174
  go_wp2_with fail
  refine (seenby_any ao m c E w hE (by omega)).mono ?_
  rintro e w1 ⟨rfl, hMap, hb1⟩
  have HE : Aside (Evs w1 ao m c E) := hE.below hb1 (Nat.le_refl _)
  have HM : Aside (Mpa w1 w.heap.size (seenF E)) := hMap
  have HB1 : Hid (Below w.heap.size w w1) := hb1
  have hs1 : w.heap.size < w1.heap.size := hMap.lt
  clear hE hb1 hMap
  have H0 : Aside (Row w1 w1.heap.size (.slice none 0 0) (liveTo E 0) ∧ Below w1.heap.size w1 w1) := ⟨row_nil _ _, Below.refl _ _⟩
  go_wp2
  go_loopg [4, 11] m (fun kx s4 s11 wr => ∃ i : Nat, s11 = .int .i64 i ∧ i ≤ m ∧ m - i ≤ kx ∧ Aside (Row wr w1.heap.size s4 (liveTo E i) ∧ Below w1.heap.size w1 wr))
  case atStart => exact ⟨0, rfl, Nat.zero_le _, by omega, H0⟩
  case round =>
    clear H0
    obtain ⟨i, rfl, him, hkx, HS⟩ := hrel
    by_cases hlt : i < m
    · have hltz : (i : Int) < (m : Int) := by omega
      obtain ⟨b, off, u, rfl, hui, hu, hr, hbl⟩ := (HE.out.below HS.out.2 (Nat.le_refl _)).at hlt
      have hu16 := hu.1
      have hix := fun W : World => index_ev W (b := b) (off := off) (k := i) (m := m) (c := c) hlt
      have hsz : w1.heap.size ≤ wr.heap.size := HS.out.2.size
      have hz := liesE_new wr zv
      have hE1 : LiesE ((wr.alloc (.cells (evc zv) 62)).setRow wr.heap.size (evc u)) wr.heap.size u := hz.row u
      have hB1 : Below wr.heap.size wr ((wr.alloc (.cells (evc zv) 62)).setRow wr.heap.size (evc u)) := below_setRow ((Below.refl _ _).alloc (Nat.le_refl _) _) (Nat.le_refl _) _
      have HS1 : Aside (Row ((wr.alloc (.cells (evc zv) 62)).setRow wr.heap.size (evc u)) w1.heap.size u4 (liveTo E i) ∧ Below w1.heap.size w1 ((wr.alloc (.cells (evc zv) 62)).setRow wr.heap.size (evc u)) ∧ LiesE ((wr.alloc (.cells (evc zv) 62)).setRow wr.heap.size (evc u)) wr.heap.size u) :=
        ⟨HS.out.1.below hB1 (Nat.le_refl _), HS.out.2.trans (hB1.mono hsz), hE1⟩
      clear hB1
      go_upto_region 6 with (first | refine load_ev_mid rfl rfl rfl hr hu16 ?_ | refine store_ev rfl rfl rfl rfl hz hu16 rfl ?_)
      change Code.wp _ _ _ _ ((wr.alloc (.cells (evc zv) 62)).setRow wr.heap.size (evc u))
      clear hE1 hz hr hix HS hbl
      generalize (wr.alloc (.cells (evc zv) 62)).setRow wr.heap.size (evc u) = W at HS1 ⊢
      generalize wr.heap.size = D at *
      have hE1 := HS1.out.2.2
      have c19 := hE1.c19 hu16
      have HSN : Hid (liveTo E (i + 1) = if isLive E u then liveTo E i ++ [u] else liveTo E i) := liveTo_succ hui
      go_wp2_with fail
      refine (adds_any u.kind W).mono ?_
      rintro e wx ⟨rfl, hwx⟩
      obtain rfl := hwx.symm
      clear hwx c19
      rcases Bool.eq_false_or_eq_true (addsE u.kind) with ha | ha
      · have hlive : Hid (isLive E u = !(hasv (seenF E (wholeE u.key)) u.r u.n || hasv (seenF E (aimAtE u)) u.r u.n)) := live_is ha
        rw [ha]
        go_wp2_with (refine load_ev rfl rfl rfl hE1 hu16 ?_)
        refine (ended_any u hu16 w.heap.size (seenF E) W (HM.out.below HS1.out.2.1 hs1)).mono ?_
        rintro e w3 ⟨rfl, hb3⟩
        have HS3 : Aside (Row w3 w1.heap.size u4 (liveTo E i) ∧ Below w1.heap.size w1 w3 ∧ LiesE w3 D u) := ⟨HS1.out.1.below hb3 (Nat.le_refl _), HS1.out.2.1.trans (hb3.mono HS1.out.2.1.size), hE1.below hb3 hE1.lt⟩
        clear hb3 hE1 HS1
        generalize (hasv (seenF E (wholeE u.key)) u.r u.n || hasv (seenF E (aimAtE u)) u.r u.n) = t at *
        cases t with
        | true =>
          have HS4 : Aside (Row w3 w1.heap.size u4 (liveTo E (i + 1)) ∧ Below w1.heap.size w1 w3) := ⟨by rw [HSN.out, hlive.out]; exact HS3.out.1, HS3.out.2.1⟩
          clear HS3 HSN hlive
          go_wp2
          go_roundg (m - (i + 1))
          case measure => omega
          case rel => exact ⟨i + 1, by go_num, by omega, Nat.le_refl _, HS4⟩
        | false =>
          have hE3 := HS3.out.2.2
          have hRow : Row (w3.alloc (.cells (evc u) 62)) w1.heap.size u4 (liveTo E i) := HS3.out.1.below ((Below.refl _ _).alloc (Nat.le_refl _) _) (Nat.le_refl _)
          have hF : Evs (w3.alloc (.cells (evc u) 62)) (some ⟨w3.heap.size, 0, none⟩) 1 1 [u] := evs_single _ _ u hu (liesE_new w3 u)
          have hll := liveTo_len E i
          have hle : w1.heap.size ≤ (w3.alloc (.cells (evc u) 62)).heap.size := by have := HS3.out.2.1.size; simp; omega
          have HB3 : Hid (Below w1.heap.size w1 (w3.alloc (.cells (evc u) 62))) := HS3.out.2.1.alloc HS3.out.2.1.size _
          clear HS3
          go_wp2_with (first | refine load_ev rfl rfl rfl hE3 hu16 ?_ | refine build_ev1 rfl rfl rfl hu16 ?_ | refine wpList_appE rfl _ _ rfl w1.heap.size _ (liveTo E i) rfl hRow _ 1 1 [u] rfl hF (by omega) hle ?_)
          intro v4 w4 hR4 hg4 ho4
          have HS4 : Aside (Row w4 w1.heap.size v4 (liveTo E (i + 1)) ∧ Below w1.heap.size w1 w4) := ⟨by rw [HSN.out, hlive.out]; exact hR4, HB3.out.grown hg4 hle hRow.own⟩
          clear hR4 hg4 ho4 hRow hF hE3 HB3 HSN hlive hll hle
          go_wp2
          go_roundg (m - (i + 1))
          case measure => omega
          case rel => exact ⟨i + 1, by go_num, by omega, Nat.le_refl _, HS4⟩
      · have HS4 : Aside (Row W w1.heap.size u4 (liveTo E (i + 1)) ∧ Below w1.heap.size w1 W) := ⟨by rw [HSN.out, isLive, ha]; exact HS1.out.1, HS1.out.2.1⟩
        clear HS1 HSN hE1
        rw [ha]
        go_wp2
        go_roundg (m - (i + 1))
        case measure => omega
        case rel => exact ⟨i + 1, by go_num, by omega, Nat.le_refl _, HS4⟩
    · obtain rfl : i = m := by omega
      have HR : Aside (Row wr w1.heap.size u4 (liveE E) ∧ Below w1.heap.size w1 wr) := by
        have := HS.out
        rw [liveTo_all (by omega)] at this
        exact this
      clear HS
      go_wp2_with fail
      refine (sortst_any u4 (liveE E) w1.heap.size wr HR.out.1 (fun e he => hwide.out e (List.mem_filter.1 he).1) (by have : (liveE E).length ≤ E.length := List.length_filter_le _ _; omega)).mono ?_
      rintro e w5 ⟨rfl, hR5, hg5⟩
      have H5 : Hid (Row w5 w.heap.size u4 (allE E) ∧ Below w.heap.size w w5) := by
        have hb5 : Below w1.heap.size w1 w5 := HR.out.2.grown hg5 HR.out.2.size HR.out.1.own
        exact ⟨hR5.lower (by omega), HB1.out.trans (hb5.mono (by omega))⟩
      clear hR5 hg5 HR
      go_wp2
      go_ret
      exact ⟨_, rfl, H5.out⟩
end Go.Proofs.YtmlfekbmbnfkjaaGreatDoor

/-
  What typeOf, latestType, ofKey and Type come to.
-/
namespace Go.Proofs.YtmlfekbmbnfkjaaGreatDoor
set_option maxRecDepth 100000
set_option maxRecDepth 100000
open Go.RowKit

set_option maxHeartbeats 400000 in
theorem typeof_any (k : Int) (w : World) : Calls Tryz.prog 218 #[.int .i64 k] w fun e w' => e = .returned (.int .i64 (typE k)) ∧ w' = w := by
  unfold typE
  go_enter Tryz.func218, Tryz.ntmps218
  go_wp2
  all_goals
    go_ret
    refine ⟨?_, rfl⟩
    simp_all
theorem range_at {w : World} {b k : Nat} {e : Ev} (h : w.rangeAt b k (evl e)) (hl : e.deps.length = 16) (j : Nat) : w.cell? ⟨b, k + (19 + j), none⟩ = (opl e)[j]? ∨ (opl e)[j]? = none := by
  cases hj : (opl e)[j]? with
  | none => exact .inr rfl
  | some v => exact .inl (h (19 + j) v (by rw [evl_hi hl]; exact hj))
theorem range_kind {w : World} {b k : Nat} {e : Ev} (h : w.rangeAt b k (evl e)) (hl : e.deps.length = 16) : w.cell? ⟨b, k + 19, none⟩ = some (.int .i64 e.kind) := (range_at h hl 0).resolve_right (by simp [opl])
theorem range_key {w : World} {b k : Nat} {e : Ev} (h : w.rangeAt b k (evl e)) (hl : e.deps.length = 16) : w.cell? ⟨b, k + 20, none⟩ = some (.string (sb e.key)) := (range_at h hl 1).resolve_right (by simp [opl])
theorem range_field {w : World} {b k : Nat} {e : Ev} (h : w.rangeAt b k (evl e)) (hl : e.deps.length = 16) : w.cell? ⟨b, k + 21, none⟩ = some (.string (sb e.field)) := (range_at h hl 2).resolve_right (by simp [opl])
theorem last_at {S : List Ev} {k : Nat} {u : Ev} (hl : S.length = k + 1) (h : S[k]? = some u) : lastE S = typE u.kind := by
  unfold lastE
  rw [List.getLast?_eq_getElem?, hl, Nat.add_sub_cancel, h]
set_option maxHeartbeats 400000 in
theorem latest_any (ao : Option Addr) (m c : Nat) (S : List Ev) (w : World) (hE : Evs w ao m c S) (hm : m ≤ 1000) :
    Calls Tryz.prog 173 #[.slice ao m c] w fun e w' => e = .returned (.int .i64 (lastE S)) ∧ w' = w := by
  have hlen := hE.len
  cases m with
  | zero =>
    have hS : S = [] := List.eq_nil_of_length_eq_zero hlen
    subst hS
    clear hE
    go_enter Tryz.func173, Tryz.ntmps173
    go_wp2
    go_ret
    exact ⟨rfl, rfl⟩
  | succ k =>
    obtain ⟨b, off, u, rfl, hu, hw, hr, hb⟩ := hE.at (Nat.lt_succ_self k)
    have HL : Hid (lastE S = typE u.kind) := last_at hlen hu
    have ck := range_kind hr hw.1
    have hix := fun W : World => index_ev W (b := b) (off := off) (k := k) (m := k + 1) (c := c) (Nat.lt_succ_self k)
    have hne : ¬ ((k + 1 : Nat) : Int) = 0 := by omega
    clear hE hr
    go_enter Tryz.func173, Tryz.ntmps173
    go_wp2_with fail
    refine (typeof_any u.kind w).mono ?_
    rintro e w' ⟨rfl, rfl⟩
    clear ck
    go_wp2
    go_ret
    exact ⟨by rw [HL.out]; rfl, rfl⟩

def keyTo (key : List UInt8) (E : List Ev) (i : Nat) : List Ev := ofKeyE key (E.take i)
theorem keyTo_succ {key : List UInt8} {E : List Ev} {i : Nat} {u : Ev} (h : E[i]? = some u) : keyTo key E (i + 1) = if u.key = key then keyTo key E i ++ [u] else keyTo key E i := by
  unfold keyTo ofKeyE
  rw [take_snoc h, List.filter_append, List.filter_cons, List.filter_nil]
  by_cases hk : u.key = key <;> simp [hk]
theorem keyTo_len (key : List UInt8) (E : List Ev) (i : Nat) : (keyTo key E i).length ≤ i := by
  unfold keyTo ofKeyE
  have := List.length_filter_le (fun e => decide (e.key = key)) (E.take i)
  have := List.length_take_le i E
  omega
theorem sb_beq (a b : List UInt8) : ((sb a).toList == (sb b).toList) = decide (a = b) := by
  rw [ByteArray.toList_eq, ByteArray.toList_eq, data_sb, data_sb, Bool.eq_iff_iff]
  simp
set_option maxHeartbeats 4000000 in
theorem ofkey_any (ao : Option Addr) (m c : Nat) (E : List Ev) (key : List UInt8) (w : World) (hE : Evs w ao m c E) (hm : m ≤ 1000) :
    Calls Tryz.prog 175 #[.slice ao m c, .string (sb key)] w fun e w' => ∃ v, e = .returned v ∧ Row w' w.heap.size v (ofKeyE key E) ∧ Below w.heap.size w w' := by
  have hlen := hE.len
  have HE : Aside (Evs w ao m c E) := hE
  have H0 : Aside (Row w w.heap.size (.slice none 0 0) (keyTo key E 0) ∧ Below w.heap.size w w) := ⟨row_nil _ _, Below.refl _ _⟩
  clear hE
  go_enter Tryz.func175, Tryz.ntmps175
  go_wp2
  go_loopg [5, 10] m (fun kx s5 s10 wr => ∃ i : Nat, s10 = .int .i64 i ∧ i ≤ m ∧ m - i ≤ kx ∧ Aside (Row wr w.heap.size s5 (keyTo key E i) ∧ Below w.heap.size w wr))
  case atStart => exact ⟨0, rfl, Nat.zero_le _, by omega, H0⟩
  case round =>
    clear H0
    obtain ⟨i, rfl, him, hkx, HS⟩ := hrel
    by_cases hlt : i < m
    · have hltz : (i : Int) < (m : Int) := by omega
      obtain ⟨b, off, u, rfl, hui, hu, hr, hbl⟩ := (HE.out.below HS.out.2 (Nat.le_refl _)).at hlt
      have hu16 := hu.1
      have hix := fun W : World => index_ev W (b := b) (off := off) (k := i) (m := m) (c := c) hlt
      have hsz : w.heap.size ≤ wr.heap.size := HS.out.2.size
      have hz := liesE_new wr zv
      have hE1 : LiesE ((wr.alloc (.cells (evc zv) 62)).setRow wr.heap.size (evc u)) wr.heap.size u := hz.row u
      have hB1 : Below wr.heap.size wr ((wr.alloc (.cells (evc zv) 62)).setRow wr.heap.size (evc u)) := below_setRow ((Below.refl _ _).alloc (Nat.le_refl _) _) (Nat.le_refl _) _
      have HS1 : Aside (Row ((wr.alloc (.cells (evc zv) 62)).setRow wr.heap.size (evc u)) w.heap.size u5 (keyTo key E i) ∧ Below w.heap.size w ((wr.alloc (.cells (evc zv) 62)).setRow wr.heap.size (evc u)) ∧ LiesE ((wr.alloc (.cells (evc zv) 62)).setRow wr.heap.size (evc u)) wr.heap.size u) :=
        ⟨HS.out.1.below hB1 (Nat.le_refl _), HS.out.2.trans (hB1.mono hsz), hE1⟩
      clear hB1
      go_upto_region 5 with (first | refine load_ev_mid rfl rfl rfl hr hu16 ?_ | refine store_ev rfl rfl rfl rfl hz hu16 rfl ?_)
      change Code.wp _ _ _ _ ((wr.alloc (.cells (evc zv) 62)).setRow wr.heap.size (evc u))
      clear hE1 hz hr hix HS hbl
      generalize (wr.alloc (.cells (evc zv) 62)).setRow wr.heap.size (evc u) = W at HS1 ⊢
      generalize wr.heap.size = D at *
      have hE1 := HS1.out.2.2
      have c20 := hE1.c20 hu16
      have hkb := sb_beq u.key key
      by_cases hk : u.key = key
      · have HSN : Hid (keyTo key E (i + 1) = keyTo key E i ++ [u]) := by show _ = _; rw [keyTo_succ hui, if_pos hk]
        have hRow : Row (W.alloc (.cells (evc u) 62)) w.heap.size u5 (keyTo key E i) := HS1.out.1.below ((Below.refl _ _).alloc (Nat.le_refl _) _) (Nat.le_refl _)
        have hF : Evs (W.alloc (.cells (evc u) 62)) (some ⟨W.heap.size, 0, none⟩) 1 1 [u] := evs_single _ _ u hu (liesE_new W u)
        have hll := keyTo_len key E i
        have hle : w.heap.size ≤ (W.alloc (.cells (evc u) 62)).heap.size := by have := HS1.out.2.1.size; simp; omega
        have HB3 : Hid (Below w.heap.size w (W.alloc (.cells (evc u) 62))) := HS1.out.2.1.alloc HS1.out.2.1.size _
        rw [decide_eq_true hk] at hkb
        clear HS1 hk
        go_wp2_with (first | refine load_ev rfl rfl rfl hE1 hu16 ?_ | refine build_ev1 rfl rfl rfl hu16 ?_ | refine wpList_appE rfl _ _ rfl w.heap.size _ (keyTo key E i) rfl hRow _ 1 1 [u] rfl hF (by omega) hle ?_)
        intro v4 w4 hR4 hg4 ho4
        have HS4 : Aside (Row w4 w.heap.size v4 (keyTo key E (i + 1)) ∧ Below w.heap.size w w4) := ⟨by rw [HSN.out]; exact hR4, HB3.out.grown hg4 hle hRow.own⟩
        clear hR4 hg4 ho4 hRow hF hE1 HB3 HSN hll hle hkb c20
        go_wp2
        go_roundg (m - (i + 1))
        case measure => omega
        case rel => exact ⟨i + 1, by go_num, by omega, Nat.le_refl _, HS4⟩
      · have HS4 : Aside (Row W w.heap.size u5 (keyTo key E (i + 1)) ∧ Below w.heap.size w W) := ⟨by rw [keyTo_succ hui, if_neg hk]; exact HS1.out.1, HS1.out.2.1⟩
        rw [decide_eq_false hk] at hkb
        clear HS1 hk
        go_wp2
        go_roundg (m - (i + 1))
        case measure => omega
        case rel => exact ⟨i + 1, by go_num, by omega, Nat.le_refl _, HS4⟩
    · obtain rfl : i = m := by omega
      have HR : Hid (Row wr w.heap.size u5 (ofKeyE key E) ∧ Below w.heap.size w wr) := by
        have := HS.out
        rw [keyTo, List.take_of_length_le (by omega)] at this
        exact this
      clear HS
      go_wp2
      go_ret
      exact ⟨_, rfl, HR.out⟩
theorem evs_wide {w : World} {ao : Option Addr} {m c : Nat} {E : List Ev} (h : Evs w ao m c E) {F : List Ev} (hF : ∀ e ∈ F, e ∈ E) : ∀ e ∈ F, Wide e := fun e he => h.wide e (hF e he)
theorem mem_ofKey {key : List UInt8} {l : List Ev} {e : Ev} (h : e ∈ ofKeyE key l) : e ∈ l := (List.mem_filter.1 h).1
theorem mem_all {l : List Ev} {e : Ev} (h : e ∈ allE l) : e ∈ l := (all_mem.1 h).1
theorem ofKey_len (key : List UInt8) (l : List Ev) : (ofKeyE key l).length ≤ l.length := List.length_filter_le _ _
set_option maxHeartbeats 400000 in
theorem type_any (ao : Option Addr) (m c : Nat) (E : List Ev) (key : List UInt8) (w : World) (hE : Evs w ao m c E) (hm : m ≤ 1000) :
    Calls Tryz.prog 125 #[.slice ao m c, .string (sb key)] w fun e w' => e = .returned (.int .i64 (typeE E key)) ∧ Below w.heap.size w w' := by
  have hlen := hE.len
  have hw : Hid (∀ e ∈ E, Wide e) := hE.wide
  go_enter Tryz.func125, Tryz.ntmps125
  go_wp2_with fail
  refine (ofkey_any ao m c E key w hE hm).mono ?_
  rintro e w1 ⟨v1, rfl, hR1, hb1⟩
  obtain ⟨a1, c1, hv1, hE1⟩ := hR1.evs (fun e he => hw.out e (mem_ofKey he))
  subst hv1
  have hl1 := ofKey_len key E
  have HB1 : Hid (Below w.heap.size w w1) := hb1
  clear hE hb1 hR1
  go_wp2_with fail
  refine (all_any a1 _ c1 _ w1 hE1 (by omega)).mono ?_
  rintro e w2 ⟨v2, rfl, hR2, hb2⟩
  obtain ⟨a2, c2, hv2, hE2⟩ := hR2.evs (fun e he => hw.out e (mem_ofKey (mem_all he)))
  subst hv2
  have hl2 := all_length (ofKeyE key E)
  have HB2 : Hid (Below w.heap.size w w2) := HB1.out.trans (hb2.mono HB1.out.size)
  clear hE1 hb2 hR2 HB1
  go_wp2_with fail
  refine (latest_any a2 _ c2 _ w2 hE2 (by omega)).mono ?_
  rintro e w3 ⟨rfl, hw3⟩
  obtain rfl := hw3.symm
  have HT : Hid (lastE (allE (ofKeyE key E)) = typeE E key) := by show _ = _; rw [all_key]; rfl
  clear hE2 hw3
  go_wp2
  go_ret
  exact ⟨by rw [HT.out]; rfl, HB2.out⟩
end Go.Proofs.YtmlfekbmbnfkjaaGreatDoor

/-
  What few comes to (layer 16's, in the place of layer 10's).
-/
namespace Go.Proofs.YtmlfekbmbnfkjaaGreatDoor
set_option maxRecDepth 100000
set_option maxRecDepth 100000
open Go.RowKit

end Go.Proofs.YtmlfekbmbnfkjaaGreatDoor

/-
  Small laws for the statements' own walks.
-/
namespace Go.Proofs.YtmlfekbmbnfkjaaGreatDoor
set_option maxRecDepth 100000
set_option maxRecDepth 100000
open Go.RowKit

theorem Evs.take {w : World} {ao : Option Addr} {m c : Nat} {E : List Ev} (h : Evs w ao m c E) {i : Nat} (hi : i ≤ m) : Evs w ao i c (E.take i) := by
  have hl := h.len
  have hr := h.room
  refine ⟨by rw [List.length_take]; omega, by omega, h.top, fun e => ⟨by have := (h.zero e).1; omega, (h.zero e).2⟩, fun ad ha j u hu => ?_, fun e he => h.wide e (List.mem_of_mem_take he)⟩
  refine h.cells ad ha j u ?_
  have e1 : evs E = evs (E.take i) ++ evs (E.drop i) := by rw [← evs_append, List.take_append_drop]
  rw [e1, List.getElem?_append_left ((List.getElem?_eq_some_iff.1 hu).1)]
  exact hu
theorem slice_to (w : World) {ao : Option Addr} {m c k : Nat} (hk : k ≤ c) : (Instr.slice 40 (.slice ao m c) none (some (.int .i64 (k : Int))) none).run Tryz.prog w = .ok (.slice ao k c) w := by
  have h2 : (k : Int) ≤ (c : Int) := by omega
  have hs : (Tryz.prog.info? 62).map (·.size) = some 26 := by kernel_rfl
  cases ao with
  | none => go_simp
  | some ad => go_simp
theorem exec_slice {o : Oper} {a : Act} {w : World} {x y : Operand} {t : TypeId} {vx vy v : Value} (ho : o.op = .slice t x none (some y) none) (hx : a.eval x = vx) (hy : a.eval y = vy) (hr : (Instr.sliceAt t vx none (some vy) none).run Tryz.prog w = .ok v w) : (execOp a.eval o).run Tryz.prog w = .ok (.value v) w := by
  unfold execOp
  simp only [ho, hx, hy, Option.map_some, Option.map_none, Sem.run_bind, Sem.run_pure, hr]
  rfl
theorem slice_at (w : World) {ao : Option Addr} {m c k : Nat} (hk : k ≤ c) : (Instr.sliceAt 40 (.slice ao m c) none (some (.int .i64 (k : Int))) none).run Tryz.prog w = .ok (.slice ao k c) w := by
  have hs := slice_to w (ao := ao) (m := m) hk
  have ht : Tryz.prog.underlying 40 = some (.slice 62) := Tryz.underlying40
  simp only [Instr.sliceAt, Sem.run_bind, run_underlying ht, Result.andThen_ok]
  exact hs
theorem exec_pick {o : Oper} {a : Act} {w : World} {x y z : Operand} {b : Bool} {v v' : Value} (ho : o.op = .pick x y z) (hx : a.eval x = .bool b) (hy : a.eval y = v) (hz : a.eval z = v') : (execOp a.eval o).run Tryz.prog w = .ok (.value (if b then v else v')) w := by
  unfold execOp
  simp only [ho, hx, hy, hz]
  cases b <;> rfl
theorem exec_bin {o : Oper} {a : Act} {w : World} {x y : Operand} {op : BinOp} {t r : TypeId} {vx vy v : Value} (ho : o.op = .binOp op t x y r) (hx : a.eval x = vx) (hy : a.eval y = vy) (hg : (eqGuard op t x y vx vy).run Tryz.prog w = .ok () w) (hv : (binOp op t vx vy).run Tryz.prog w = .ok v w) : (execOp a.eval o).run Tryz.prog w = .ok (.value v) w := by
  unfold execOp; simp only [ho, hx, hy, Sem.run_bind, hg, hv, Result.andThen_ok, Sem.run_pure]
theorem enters_all (xs : Array Value) (w : World) : (callFunc 174 xs).run Tryz.prog w = .ok (.enter 174 xs) w := enters Tryz.func174 (by kernel_rfl) (by kernel_rfl) xs w
theorem range_below {w W : World} {b k : Nat} {l : List Value} (h : w.rangeAt b k l) (hb : Below w.heap.size w W) (hl : b < w.heap.size) : W.rangeAt b k l := fun j v hv => by
  rw [hb.cell (p := ⟨b, k + j, none⟩) hl]; exact h j v hv
theorem eqGuard_ev (w : World) {op : BinOp} {x y : Operand} (e f : Ev) : (eqGuard op 62 x y (.agg (evc e)) (.agg (evc f))).run Tryz.prog w = .ok () w := by
  have := plain_ev
  go_simp
theorem same_dec (e f : Ev) : sameE e f = decide (e = f) := by
  rw [Bool.eq_iff_iff, sameE_iff]; simp
theorem eql_evd (w : World) {e f : Ev} (he : e.deps.length = 16) (hf : f.deps.length = 16) : (binOp .eql 62 (.agg (evc e)) (.agg (evc f))).run Tryz.prog w = .ok (.bool (decide (e = f))) w := by
  rw [run_eql_ev w e f he hf, same_dec]
theorem cut_mod (cut : Int) (m : Nat) (h : (Lit.int .u64 cut).wf = true) : ∃ k : Nat, cut.tmod ((m : Int) + 1) = (k : Int) ∧ k ≤ m := by
  have h0 : 0 ≤ cut := by
    simp [Lit.wf, IntKind.min, IntKind.max, IntKind.signed] at h
    omega
  rw [Int.tmod_eq_emod_of_nonneg h0]
  have h1 := Int.emod_nonneg cut (show ((m : Int) + 1) ≠ 0 by omega)
  have h2 := Int.emod_lt_of_pos cut (show (0 : Int) < (m : Int) + 1 by omega)
  exact ⟨(cut % ((m : Int) + 1)).toNat, by omega, by omega⟩
end Go.Proofs.YtmlfekbmbnfkjaaGreatDoor

/-
  What the laws' unlike comes to.
-/
namespace Go.Proofs.YtmlfekbmbnfkjaaGreatDoor
set_option maxRecDepth 100000
set_option maxRecDepth 100000
open Go.RowKit

theorem field_e0 (w : World) (b i : Nat) : (Instr.fieldAt 62 (.pointer (some ⟨b, i, none⟩)) 0).run Tryz.prog w = .ok (.pointer (some ⟨b, i + 0, none⟩)) w := by go_simp
theorem load_dt {w : World} {b k : Nat} {e : Ev} (h : w.rangeAt b k (evl e)) : (loadVar 46 ⟨b, k + 0, none⟩).run Tryz.prog w = .ok (.agg (dotc e.r e.n)) w :=
  run_loadVar_mid (P := Tryz.prog) w b k 46 (dotc e.r e.n).toList _ (fun j v hv => by
    match j, hv with
    | 0, hv => exact h 0 v hv
    | 1, hv => exact h 1 v hv) Tryz.underlying46 rfl (sizeD e.r e.n)
theorem plain_dt : Tryz.prog.eqGuardType Tryz.prog.depth 46 = false := by kernel_rfl
theorem eqGuard_dt (w : World) {op : BinOp} {x y : Operand} (r n r' n' : Int) : (eqGuard op 46 x y (.agg (dotc r n)) (.agg (dotc r' n'))).run Tryz.prog w = .ok () w := run_eqGuard_agg w _ _ _ _ _ _ plain_dt
theorem eql_dt (w : World) {r n r' n' : Int} {t : Bool} (h : decide (r = r' ∧ n = n') = t) : (binOp .eql 46 (.agg (dotc r n)) (.agg (dotc r' n'))).run Tryz.prog w = .ok (.bool t) w := by
  rw [run_eql_struct, run_equalIn_dot w 9998, Result.andThen_ok, h]
theorem unlike_snoc {E : List Ev} {i : Nat} {x : Ev} (h : Unlike (E.take i)) (hx : E[i]? = some x) (hn : ∀ q y, q < i → E[q]? = some y → ¬ sameDot x y) : Unlike (E.take (i + 1)) := by
  unfold Unlike at *
  rw [take_snoc hx, List.pairwise_append]
  refine ⟨h, List.pairwise_singleton _ _, fun a ha b hb => ?_⟩
  rw [List.mem_singleton.1 hb]
  obtain ⟨q, hq⟩ := List.getElem?_of_mem ha
  have hql : q < i := by
    have := (List.getElem?_eq_some_iff.1 hq).1
    rw [List.length_take] at this
    omega
  rw [List.getElem?_take_of_lt hql] at hq
  intro hs
  exact hn q a hql hq ⟨hs.1.symm, hs.2.symm⟩
end Go.Proofs.YtmlfekbmbnfkjaaGreatDoor

/-
  Laws of earlier layers that name no function of theirs: single operations, events read and laid, a row's own block, dots compared.
-/
namespace Go.Proofs.YtmlfekbmbnfkjaaGreatDoor
set_option maxRecDepth 100000
set_option maxRecDepth 100000
open Go.RowKit
deriving instance DecidableEq for Ev

section
variable {o : Oper} {a : Act} {w w' : World} {K : Act → World → Prop} {Q : Exit → Act → World → Prop} {x y z : Operand} {v : Value} {m n : Int}
end
theorem ret_ev2 {fn : Func} {R : Ending → World → Prop} {a : Act} {w : World} {p u : Tmp} {g : Nat} {e : Ev} {v : Value} (h : fn.results = #[.cell p 62, .tmp u]) (hp : a.tmps.getD p undef = .pointer (some ⟨g, 0, none⟩))
    (hu : a.tmps.getD u undef = v) (hd : a.defers = []) (hg : LiesE w g e) (hl : e.deps.length = 16) (hR : R (.returned (.tuple #[.agg (evc e), v])) w) : bodyPost Tryz.prog fn R .ret a w := by
  refine bodyPost_ret ?_ hd hR
  rw [results_cell_tmp h, hp, hu]
  simp only [asAddr, Sem.run_pure, Result.andThen_ok, run_loadVar_row w g 62 62 _ (0, 0) _ hg Tryz.underlying62 rfl (size26 e hl)]
theorem LiesE.c22 {w : World} {g : Nat} {e : Ev} (h : LiesE w g e) (hl : e.deps.length = 16) : w.cell? ⟨g, 22, none⟩ = some (.string (sb e.value)) := h.co hl 3
theorem range_value {w : World} {b k : Nat} {e : Ev} (h : w.rangeAt b k (evl e)) (hl : e.deps.length = 16) : w.cell? ⟨b, k + 22, none⟩ = some (.string (sb e.value)) := (range_at h hl 3).resolve_right (by simp [opl])
theorem range_time {w : World} {b k : Nat} {e : Ev} (h : w.rangeAt b k (evl e)) : w.cell? ⟨b, k + 2, none⟩ = some (.int .i64 e.t) := h 2 _ rfl
end Go.Proofs.YtmlfekbmbnfkjaaGreatDoor

/-
  Structs in blocks of their own: read whole, laid whole, handed back.
-/
namespace Go.Proofs.YtmlfekbmbnfkjaaGreatDoor
set_option maxRecDepth 100000
open Go.RowKit

theorem load_cl {ops : Array Oper} {rest : List Oper} {o : Oper} {a : Act} {w : World} {Q : Exit → Act → World → Prop} {x : Operand} {g : Nat} {cs : Array Value} (hgd : o.guard = none) (ho : o.op = .load 26 x)
    (hx : a.eval x = .pointer (some ⟨g, 0, none⟩)) (hg : w.heap[g]? = some (.cells cs 26 (0, 0))) (hl : cs.size = 6)
    (h : wpList Tryz.prog ops Q rest (a.put o.dst (.agg cs)) w) : wpList Tryz.prog ops Q (o :: rest) a w :=
  wpList_load_row hgd 26 x ho g hx 26 _ (0, 0) _ hg Tryz.underlying26 rfl (by rw [hl]; kernel_rfl) h
theorem store_cl {ops : Array Oper} {rest : List Oper} {o : Oper} {a : Act} {w : World} {Q : Exit → Act → World → Prop} {x y : Operand} {g : Nat} {cs zs : Array Value} (hgd : o.guard = none) (ho : o.op = .store 26 x y)
    (hx : a.eval x = .pointer (some ⟨g, 0, none⟩)) (hy : a.eval y = .agg cs) (hg : w.heap[g]? = some (.cells zs 26 (0, 0))) (hl : cs.size = 6) (hz : zs.size = 6) (h1 : cs.all (·.oneCell') = true)
    (h : wpList Tryz.prog ops Q rest (a.put o.dst undef) (w.setRow g cs)) : wpList Tryz.prog ops Q (o :: rest) a w :=
  wpList_store_row hgd 26 x y ho g cs hx hy 26 _ hg (by rw [hl]; kernel_rfl) (by rw [hl, hz]) h1 h
theorem storeVar_cl {w : World} {g : Nat} {cs zs : Array Value} (hg : w.heap[g]? = some (.cells zs 26 (0, 0))) (hl : cs.size = 6) (hz : zs.size = 6) (h1 : cs.all (·.oneCell') = true) : (storeVar 26 ⟨g, 0, none⟩ (.agg cs)).run Tryz.prog w = .ok () (w.setRow g cs) :=
  run_storeVar_row (P := Tryz.prog) w g 26 26 zs cs hg (by rw [hl]; kernel_rfl) (by rw [hl, hz]) h1
theorem loadVar_cl {w : World} {g : Nat} {cs : Array Value} (hg : w.heap[g]? = some (.cells cs 26 (0, 0))) (hl : cs.size = 6) : (loadVar 26 ⟨g, 0, none⟩).run Tryz.prog w = .ok (.agg cs) w :=
  run_loadVar_row w g 26 26 _ (0, 0) _ hg Tryz.underlying26 rfl (by rw [hl]; kernel_rfl)
theorem ret_cl {fn : Func} {R : Ending → World → Prop} {a : Act} {w : World} {p : Tmp} {g : Nat} {cs : Array Value} (h : fn.results = #[.cell p 26]) (hp : a.tmps.getD p undef = .pointer (some ⟨g, 0, none⟩))
    (hd : a.defers = []) (hg : w.heap[g]? = some (.cells cs 26 (0, 0))) (hl : cs.size = 6) (hR : R (.returned (.agg cs)) w) : bodyPost Tryz.prog fn R .ret a w :=
  bodyPost_ret (results_cell_row h a.tmps w g 26 _ (0, 0) _ hp hg Tryz.underlying26 rfl (by rw [hl]; kernel_rfl)) hd hR
theorem ret_cl2 {fn : Func} {R : Ending → World → Prop} {a : Act} {w : World} {p u : Tmp} {g : Nat} {cs : Array Value} {v : Value} (h : fn.results = #[.cell p 26, .tmp u]) (hp : a.tmps.getD p undef = .pointer (some ⟨g, 0, none⟩))
    (hu : a.tmps.getD u undef = v) (hd : a.defers = []) (hg : w.heap[g]? = some (.cells cs 26 (0, 0))) (hl : cs.size = 6) (hR : R (.returned (.tuple #[.agg cs, v])) w) : bodyPost Tryz.prog fn R .ret a w := by
  refine bodyPost_ret ?_ hd hR
  rw [results_cell_tmp h, hp, hu]
  simp only [asAddr, Sem.run_pure, Result.andThen_ok, run_loadVar_row w g 26 26 _ (0, 0) _ hg Tryz.underlying26 rfl (by rw [hl]; kernel_rfl)]
theorem load_rcl {ops : Array Oper} {rest : List Oper} {o : Oper} {a : Act} {w : World} {Q : Exit → Act → World → Prop} {x : Operand} {g : Nat} {cs : Array Value} (hgd : o.guard = none) (ho : o.op = .load 30 x)
    (hx : a.eval x = .pointer (some ⟨g, 0, none⟩)) (hg : w.heap[g]? = some (.cells cs 30 (0, 0))) (hl : cs.size = 6)
    (h : wpList Tryz.prog ops Q rest (a.put o.dst (.agg cs)) w) : wpList Tryz.prog ops Q (o :: rest) a w :=
  wpList_load_row hgd 30 x ho g hx 30 _ (0, 0) _ hg Tryz.underlying30 rfl (by rw [hl]; kernel_rfl) h
theorem store_rcl {ops : Array Oper} {rest : List Oper} {o : Oper} {a : Act} {w : World} {Q : Exit → Act → World → Prop} {x y : Operand} {g : Nat} {cs zs : Array Value} (hgd : o.guard = none) (ho : o.op = .store 30 x y)
    (hx : a.eval x = .pointer (some ⟨g, 0, none⟩)) (hy : a.eval y = .agg cs) (hg : w.heap[g]? = some (.cells zs 30 (0, 0))) (hl : cs.size = 6) (hz : zs.size = 6) (h1 : cs.all (·.oneCell') = true)
    (h : wpList Tryz.prog ops Q rest (a.put o.dst undef) (w.setRow g cs)) : wpList Tryz.prog ops Q (o :: rest) a w :=
  wpList_store_row hgd 30 x y ho g cs hx hy 30 _ hg (by rw [hl]; kernel_rfl) (by rw [hl, hz]) h1 h
theorem storeVar_rcl {w : World} {g : Nat} {cs zs : Array Value} (hg : w.heap[g]? = some (.cells zs 30 (0, 0))) (hl : cs.size = 6) (hz : zs.size = 6) (h1 : cs.all (·.oneCell') = true) : (storeVar 30 ⟨g, 0, none⟩ (.agg cs)).run Tryz.prog w = .ok () (w.setRow g cs) :=
  run_storeVar_row (P := Tryz.prog) w g 30 30 zs cs hg (by rw [hl]; kernel_rfl) (by rw [hl, hz]) h1
theorem loadVar_rcl {w : World} {g : Nat} {cs : Array Value} (hg : w.heap[g]? = some (.cells cs 30 (0, 0))) (hl : cs.size = 6) : (loadVar 30 ⟨g, 0, none⟩).run Tryz.prog w = .ok (.agg cs) w :=
  run_loadVar_row w g 30 30 _ (0, 0) _ hg Tryz.underlying30 rfl (by rw [hl]; kernel_rfl)
theorem ret_rcl {fn : Func} {R : Ending → World → Prop} {a : Act} {w : World} {p : Tmp} {g : Nat} {cs : Array Value} (h : fn.results = #[.cell p 30]) (hp : a.tmps.getD p undef = .pointer (some ⟨g, 0, none⟩))
    (hd : a.defers = []) (hg : w.heap[g]? = some (.cells cs 30 (0, 0))) (hl : cs.size = 6) (hR : R (.returned (.agg cs)) w) : bodyPost Tryz.prog fn R .ret a w :=
  bodyPost_ret (results_cell_row h a.tmps w g 30 _ (0, 0) _ hp hg Tryz.underlying30 rfl (by rw [hl]; kernel_rfl)) hd hR
theorem ret_rcl2 {fn : Func} {R : Ending → World → Prop} {a : Act} {w : World} {p u : Tmp} {g : Nat} {cs : Array Value} {v : Value} (h : fn.results = #[.cell p 30, .tmp u]) (hp : a.tmps.getD p undef = .pointer (some ⟨g, 0, none⟩))
    (hu : a.tmps.getD u undef = v) (hd : a.defers = []) (hg : w.heap[g]? = some (.cells cs 30 (0, 0))) (hl : cs.size = 6) (hR : R (.returned (.tuple #[.agg cs, v])) w) : bodyPost Tryz.prog fn R .ret a w := by
  refine bodyPost_ret ?_ hd hR
  rw [results_cell_tmp h, hp, hu]
  simp only [asAddr, Sem.run_pure, Result.andThen_ok, run_loadVar_row w g 30 30 _ (0, 0) _ hg Tryz.underlying30 rfl (by rw [hl]; kernel_rfl)]
theorem load_rw {ops : Array Oper} {rest : List Oper} {o : Oper} {a : Act} {w : World} {Q : Exit → Act → World → Prop} {x : Operand} {g : Nat} {cs : Array Value} (hgd : o.guard = none) (ho : o.op = .load 77 x)
    (hx : a.eval x = .pointer (some ⟨g, 0, none⟩)) (hg : w.heap[g]? = some (.cells cs 77 (0, 0))) (hl : cs.size = 4)
    (h : wpList Tryz.prog ops Q rest (a.put o.dst (.agg cs)) w) : wpList Tryz.prog ops Q (o :: rest) a w :=
  wpList_load_row hgd 77 x ho g hx 77 _ (0, 0) _ hg Tryz.underlying77 rfl (by rw [hl]; kernel_rfl) h
theorem store_rw {ops : Array Oper} {rest : List Oper} {o : Oper} {a : Act} {w : World} {Q : Exit → Act → World → Prop} {x y : Operand} {g : Nat} {cs zs : Array Value} (hgd : o.guard = none) (ho : o.op = .store 77 x y)
    (hx : a.eval x = .pointer (some ⟨g, 0, none⟩)) (hy : a.eval y = .agg cs) (hg : w.heap[g]? = some (.cells zs 77 (0, 0))) (hl : cs.size = 4) (hz : zs.size = 4) (h1 : cs.all (·.oneCell') = true)
    (h : wpList Tryz.prog ops Q rest (a.put o.dst undef) (w.setRow g cs)) : wpList Tryz.prog ops Q (o :: rest) a w :=
  wpList_store_row hgd 77 x y ho g cs hx hy 77 _ hg (by rw [hl]; kernel_rfl) (by rw [hl, hz]) h1 h
theorem storeVar_rw {w : World} {g : Nat} {cs zs : Array Value} (hg : w.heap[g]? = some (.cells zs 77 (0, 0))) (hl : cs.size = 4) (hz : zs.size = 4) (h1 : cs.all (·.oneCell') = true) : (storeVar 77 ⟨g, 0, none⟩ (.agg cs)).run Tryz.prog w = .ok () (w.setRow g cs) :=
  run_storeVar_row (P := Tryz.prog) w g 77 77 zs cs hg (by rw [hl]; kernel_rfl) (by rw [hl, hz]) h1
theorem loadVar_rw {w : World} {g : Nat} {cs : Array Value} (hg : w.heap[g]? = some (.cells cs 77 (0, 0))) (hl : cs.size = 4) : (loadVar 77 ⟨g, 0, none⟩).run Tryz.prog w = .ok (.agg cs) w :=
  run_loadVar_row w g 77 77 _ (0, 0) _ hg Tryz.underlying77 rfl (by rw [hl]; kernel_rfl)
theorem ret_rw {fn : Func} {R : Ending → World → Prop} {a : Act} {w : World} {p : Tmp} {g : Nat} {cs : Array Value} (h : fn.results = #[.cell p 77]) (hp : a.tmps.getD p undef = .pointer (some ⟨g, 0, none⟩))
    (hd : a.defers = []) (hg : w.heap[g]? = some (.cells cs 77 (0, 0))) (hl : cs.size = 4) (hR : R (.returned (.agg cs)) w) : bodyPost Tryz.prog fn R .ret a w :=
  bodyPost_ret (results_cell_row h a.tmps w g 77 _ (0, 0) _ hp hg Tryz.underlying77 rfl (by rw [hl]; kernel_rfl)) hd hR
theorem ret_rw2 {fn : Func} {R : Ending → World → Prop} {a : Act} {w : World} {p u : Tmp} {g : Nat} {cs : Array Value} {v : Value} (h : fn.results = #[.cell p 77, .tmp u]) (hp : a.tmps.getD p undef = .pointer (some ⟨g, 0, none⟩))
    (hu : a.tmps.getD u undef = v) (hd : a.defers = []) (hg : w.heap[g]? = some (.cells cs 77 (0, 0))) (hl : cs.size = 4) (hR : R (.returned (.tuple #[.agg cs, v])) w) : bodyPost Tryz.prog fn R .ret a w := by
  refine bodyPost_ret ?_ hd hR
  rw [results_cell_tmp h, hp, hu]
  simp only [asAddr, Sem.run_pure, Result.andThen_ok, run_loadVar_row w g 77 77 _ (0, 0) _ hg Tryz.underlying77 rfl (by rw [hl]; kernel_rfl)]
theorem load_rep {ops : Array Oper} {rest : List Oper} {o : Oper} {a : Act} {w : World} {Q : Exit → Act → World → Prop} {x : Operand} {g : Nat} {cs : Array Value} (hgd : o.guard = none) (ho : o.op = .load 35 x)
    (hx : a.eval x = .pointer (some ⟨g, 0, none⟩)) (hg : w.heap[g]? = some (.cells cs 35 (0, 0))) (hl : cs.size = 4)
    (h : wpList Tryz.prog ops Q rest (a.put o.dst (.agg cs)) w) : wpList Tryz.prog ops Q (o :: rest) a w :=
  wpList_load_row hgd 35 x ho g hx 35 _ (0, 0) _ hg Tryz.underlying35 rfl (by rw [hl]; kernel_rfl) h
theorem store_rep {ops : Array Oper} {rest : List Oper} {o : Oper} {a : Act} {w : World} {Q : Exit → Act → World → Prop} {x y : Operand} {g : Nat} {cs zs : Array Value} (hgd : o.guard = none) (ho : o.op = .store 35 x y)
    (hx : a.eval x = .pointer (some ⟨g, 0, none⟩)) (hy : a.eval y = .agg cs) (hg : w.heap[g]? = some (.cells zs 35 (0, 0))) (hl : cs.size = 4) (hz : zs.size = 4) (h1 : cs.all (·.oneCell') = true)
    (h : wpList Tryz.prog ops Q rest (a.put o.dst undef) (w.setRow g cs)) : wpList Tryz.prog ops Q (o :: rest) a w :=
  wpList_store_row hgd 35 x y ho g cs hx hy 35 _ hg (by rw [hl]; kernel_rfl) (by rw [hl, hz]) h1 h
theorem storeVar_rep {w : World} {g : Nat} {cs zs : Array Value} (hg : w.heap[g]? = some (.cells zs 35 (0, 0))) (hl : cs.size = 4) (hz : zs.size = 4) (h1 : cs.all (·.oneCell') = true) : (storeVar 35 ⟨g, 0, none⟩ (.agg cs)).run Tryz.prog w = .ok () (w.setRow g cs) :=
  run_storeVar_row (P := Tryz.prog) w g 35 35 zs cs hg (by rw [hl]; kernel_rfl) (by rw [hl, hz]) h1
theorem loadVar_rep {w : World} {g : Nat} {cs : Array Value} (hg : w.heap[g]? = some (.cells cs 35 (0, 0))) (hl : cs.size = 4) : (loadVar 35 ⟨g, 0, none⟩).run Tryz.prog w = .ok (.agg cs) w :=
  run_loadVar_row w g 35 35 _ (0, 0) _ hg Tryz.underlying35 rfl (by rw [hl]; kernel_rfl)
theorem ret_rep {fn : Func} {R : Ending → World → Prop} {a : Act} {w : World} {p : Tmp} {g : Nat} {cs : Array Value} (h : fn.results = #[.cell p 35]) (hp : a.tmps.getD p undef = .pointer (some ⟨g, 0, none⟩))
    (hd : a.defers = []) (hg : w.heap[g]? = some (.cells cs 35 (0, 0))) (hl : cs.size = 4) (hR : R (.returned (.agg cs)) w) : bodyPost Tryz.prog fn R .ret a w :=
  bodyPost_ret (results_cell_row h a.tmps w g 35 _ (0, 0) _ hp hg Tryz.underlying35 rfl (by rw [hl]; kernel_rfl)) hd hR
theorem ret_rep2 {fn : Func} {R : Ending → World → Prop} {a : Act} {w : World} {p u : Tmp} {g : Nat} {cs : Array Value} {v : Value} (h : fn.results = #[.cell p 35, .tmp u]) (hp : a.tmps.getD p undef = .pointer (some ⟨g, 0, none⟩))
    (hu : a.tmps.getD u undef = v) (hd : a.defers = []) (hg : w.heap[g]? = some (.cells cs 35 (0, 0))) (hl : cs.size = 4) (hR : R (.returned (.tuple #[.agg cs, v])) w) : bodyPost Tryz.prog fn R .ret a w := by
  refine bodyPost_ret ?_ hd hR
  rw [results_cell_tmp h, hp, hu]
  simp only [asAddr, Sem.run_pure, Result.andThen_ok, run_loadVar_row w g 35 35 _ (0, 0) _ hg Tryz.underlying35 rfl (by rw [hl]; kernel_rfl)]
theorem load_rrep {ops : Array Oper} {rest : List Oper} {o : Oper} {a : Act} {w : World} {Q : Exit → Act → World → Prop} {x : Operand} {g : Nat} {cs : Array Value} (hgd : o.guard = none) (ho : o.op = .load 37 x)
    (hx : a.eval x = .pointer (some ⟨g, 0, none⟩)) (hg : w.heap[g]? = some (.cells cs 37 (0, 0))) (hl : cs.size = 4)
    (h : wpList Tryz.prog ops Q rest (a.put o.dst (.agg cs)) w) : wpList Tryz.prog ops Q (o :: rest) a w :=
  wpList_load_row hgd 37 x ho g hx 37 _ (0, 0) _ hg Tryz.underlying37 rfl (by rw [hl]; kernel_rfl) h
theorem store_rrep {ops : Array Oper} {rest : List Oper} {o : Oper} {a : Act} {w : World} {Q : Exit → Act → World → Prop} {x y : Operand} {g : Nat} {cs zs : Array Value} (hgd : o.guard = none) (ho : o.op = .store 37 x y)
    (hx : a.eval x = .pointer (some ⟨g, 0, none⟩)) (hy : a.eval y = .agg cs) (hg : w.heap[g]? = some (.cells zs 37 (0, 0))) (hl : cs.size = 4) (hz : zs.size = 4) (h1 : cs.all (·.oneCell') = true)
    (h : wpList Tryz.prog ops Q rest (a.put o.dst undef) (w.setRow g cs)) : wpList Tryz.prog ops Q (o :: rest) a w :=
  wpList_store_row hgd 37 x y ho g cs hx hy 37 _ hg (by rw [hl]; kernel_rfl) (by rw [hl, hz]) h1 h
theorem storeVar_rrep {w : World} {g : Nat} {cs zs : Array Value} (hg : w.heap[g]? = some (.cells zs 37 (0, 0))) (hl : cs.size = 4) (hz : zs.size = 4) (h1 : cs.all (·.oneCell') = true) : (storeVar 37 ⟨g, 0, none⟩ (.agg cs)).run Tryz.prog w = .ok () (w.setRow g cs) :=
  run_storeVar_row (P := Tryz.prog) w g 37 37 zs cs hg (by rw [hl]; kernel_rfl) (by rw [hl, hz]) h1
theorem loadVar_rrep {w : World} {g : Nat} {cs : Array Value} (hg : w.heap[g]? = some (.cells cs 37 (0, 0))) (hl : cs.size = 4) : (loadVar 37 ⟨g, 0, none⟩).run Tryz.prog w = .ok (.agg cs) w :=
  run_loadVar_row w g 37 37 _ (0, 0) _ hg Tryz.underlying37 rfl (by rw [hl]; kernel_rfl)
theorem ret_rrep {fn : Func} {R : Ending → World → Prop} {a : Act} {w : World} {p : Tmp} {g : Nat} {cs : Array Value} (h : fn.results = #[.cell p 37]) (hp : a.tmps.getD p undef = .pointer (some ⟨g, 0, none⟩))
    (hd : a.defers = []) (hg : w.heap[g]? = some (.cells cs 37 (0, 0))) (hl : cs.size = 4) (hR : R (.returned (.agg cs)) w) : bodyPost Tryz.prog fn R .ret a w :=
  bodyPost_ret (results_cell_row h a.tmps w g 37 _ (0, 0) _ hp hg Tryz.underlying37 rfl (by rw [hl]; kernel_rfl)) hd hR
theorem ret_rrep2 {fn : Func} {R : Ending → World → Prop} {a : Act} {w : World} {p u : Tmp} {g : Nat} {cs : Array Value} {v : Value} (h : fn.results = #[.cell p 37, .tmp u]) (hp : a.tmps.getD p undef = .pointer (some ⟨g, 0, none⟩))
    (hu : a.tmps.getD u undef = v) (hd : a.defers = []) (hg : w.heap[g]? = some (.cells cs 37 (0, 0))) (hl : cs.size = 4) (hR : R (.returned (.tuple #[.agg cs, v])) w) : bodyPost Tryz.prog fn R .ret a w := by
  refine bodyPost_ret ?_ hd hR
  rw [results_cell_tmp h, hp, hu]
  simp only [asAddr, Sem.run_pure, Result.andThen_ok, run_loadVar_row w g 37 37 _ (0, 0) _ hg Tryz.underlying37 rfl (by rw [hl]; kernel_rfl)]
theorem load_out {ops : Array Oper} {rest : List Oper} {o : Oper} {a : Act} {w : World} {Q : Exit → Act → World → Prop} {x : Operand} {g : Nat} {cs : Array Value} (hgd : o.guard = none) (ho : o.op = .load 92 x)
    (hx : a.eval x = .pointer (some ⟨g, 0, none⟩)) (hg : w.heap[g]? = some (.cells cs 92 (0, 0))) (hl : cs.size = 12)
    (h : wpList Tryz.prog ops Q rest (a.put o.dst (.agg cs)) w) : wpList Tryz.prog ops Q (o :: rest) a w :=
  wpList_load_row hgd 92 x ho g hx 92 _ (0, 0) _ hg Tryz.underlying92 rfl (by rw [hl]; kernel_rfl) h
theorem store_out {ops : Array Oper} {rest : List Oper} {o : Oper} {a : Act} {w : World} {Q : Exit → Act → World → Prop} {x y : Operand} {g : Nat} {cs zs : Array Value} (hgd : o.guard = none) (ho : o.op = .store 92 x y)
    (hx : a.eval x = .pointer (some ⟨g, 0, none⟩)) (hy : a.eval y = .agg cs) (hg : w.heap[g]? = some (.cells zs 92 (0, 0))) (hl : cs.size = 12) (hz : zs.size = 12) (h1 : cs.all (·.oneCell') = true)
    (h : wpList Tryz.prog ops Q rest (a.put o.dst undef) (w.setRow g cs)) : wpList Tryz.prog ops Q (o :: rest) a w :=
  wpList_store_row hgd 92 x y ho g cs hx hy 92 _ hg (by rw [hl]; kernel_rfl) (by rw [hl, hz]) h1 h
theorem storeVar_out {w : World} {g : Nat} {cs zs : Array Value} (hg : w.heap[g]? = some (.cells zs 92 (0, 0))) (hl : cs.size = 12) (hz : zs.size = 12) (h1 : cs.all (·.oneCell') = true) : (storeVar 92 ⟨g, 0, none⟩ (.agg cs)).run Tryz.prog w = .ok () (w.setRow g cs) :=
  run_storeVar_row (P := Tryz.prog) w g 92 92 zs cs hg (by rw [hl]; kernel_rfl) (by rw [hl, hz]) h1
theorem loadVar_out {w : World} {g : Nat} {cs : Array Value} (hg : w.heap[g]? = some (.cells cs 92 (0, 0))) (hl : cs.size = 12) : (loadVar 92 ⟨g, 0, none⟩).run Tryz.prog w = .ok (.agg cs) w :=
  run_loadVar_row w g 92 92 _ (0, 0) _ hg Tryz.underlying92 rfl (by rw [hl]; kernel_rfl)
theorem ret_out {fn : Func} {R : Ending → World → Prop} {a : Act} {w : World} {p : Tmp} {g : Nat} {cs : Array Value} (h : fn.results = #[.cell p 92]) (hp : a.tmps.getD p undef = .pointer (some ⟨g, 0, none⟩))
    (hd : a.defers = []) (hg : w.heap[g]? = some (.cells cs 92 (0, 0))) (hl : cs.size = 12) (hR : R (.returned (.agg cs)) w) : bodyPost Tryz.prog fn R .ret a w :=
  bodyPost_ret (results_cell_row h a.tmps w g 92 _ (0, 0) _ hp hg Tryz.underlying92 rfl (by rw [hl]; kernel_rfl)) hd hR
theorem ret_out2 {fn : Func} {R : Ending → World → Prop} {a : Act} {w : World} {p u : Tmp} {g : Nat} {cs : Array Value} {v : Value} (h : fn.results = #[.cell p 92, .tmp u]) (hp : a.tmps.getD p undef = .pointer (some ⟨g, 0, none⟩))
    (hu : a.tmps.getD u undef = v) (hd : a.defers = []) (hg : w.heap[g]? = some (.cells cs 92 (0, 0))) (hl : cs.size = 12) (hR : R (.returned (.tuple #[.agg cs, v])) w) : bodyPost Tryz.prog fn R .ret a w := by
  refine bodyPost_ret ?_ hd hR
  rw [results_cell_tmp h, hp, hu]
  simp only [asAddr, Sem.run_pure, Result.andThen_ok, run_loadVar_row w g 92 92 _ (0, 0) _ hg Tryz.underlying92 rfl (by rw [hl]; kernel_rfl)]
theorem load_opr {ops : Array Oper} {rest : List Oper} {o : Oper} {a : Act} {w : World} {Q : Exit → Act → World → Prop} {x : Operand} {g : Nat} {cs : Array Value} (hgd : o.guard = none) (ho : o.op = .load 48 x)
    (hx : a.eval x = .pointer (some ⟨g, 0, none⟩)) (hg : w.heap[g]? = some (.cells cs 48 (0, 0))) (hl : cs.size = 7)
    (h : wpList Tryz.prog ops Q rest (a.put o.dst (.agg cs)) w) : wpList Tryz.prog ops Q (o :: rest) a w :=
  wpList_load_row hgd 48 x ho g hx 48 _ (0, 0) _ hg Tryz.underlying48 rfl (by rw [hl]; kernel_rfl) h
theorem store_opr {ops : Array Oper} {rest : List Oper} {o : Oper} {a : Act} {w : World} {Q : Exit → Act → World → Prop} {x y : Operand} {g : Nat} {cs zs : Array Value} (hgd : o.guard = none) (ho : o.op = .store 48 x y)
    (hx : a.eval x = .pointer (some ⟨g, 0, none⟩)) (hy : a.eval y = .agg cs) (hg : w.heap[g]? = some (.cells zs 48 (0, 0))) (hl : cs.size = 7) (hz : zs.size = 7) (h1 : cs.all (·.oneCell') = true)
    (h : wpList Tryz.prog ops Q rest (a.put o.dst undef) (w.setRow g cs)) : wpList Tryz.prog ops Q (o :: rest) a w :=
  wpList_store_row hgd 48 x y ho g cs hx hy 48 _ hg (by rw [hl]; kernel_rfl) (by rw [hl, hz]) h1 h
theorem storeVar_opr {w : World} {g : Nat} {cs zs : Array Value} (hg : w.heap[g]? = some (.cells zs 48 (0, 0))) (hl : cs.size = 7) (hz : zs.size = 7) (h1 : cs.all (·.oneCell') = true) : (storeVar 48 ⟨g, 0, none⟩ (.agg cs)).run Tryz.prog w = .ok () (w.setRow g cs) :=
  run_storeVar_row (P := Tryz.prog) w g 48 48 zs cs hg (by rw [hl]; kernel_rfl) (by rw [hl, hz]) h1
theorem loadVar_opr {w : World} {g : Nat} {cs : Array Value} (hg : w.heap[g]? = some (.cells cs 48 (0, 0))) (hl : cs.size = 7) : (loadVar 48 ⟨g, 0, none⟩).run Tryz.prog w = .ok (.agg cs) w :=
  run_loadVar_row w g 48 48 _ (0, 0) _ hg Tryz.underlying48 rfl (by rw [hl]; kernel_rfl)
theorem ret_opr {fn : Func} {R : Ending → World → Prop} {a : Act} {w : World} {p : Tmp} {g : Nat} {cs : Array Value} (h : fn.results = #[.cell p 48]) (hp : a.tmps.getD p undef = .pointer (some ⟨g, 0, none⟩))
    (hd : a.defers = []) (hg : w.heap[g]? = some (.cells cs 48 (0, 0))) (hl : cs.size = 7) (hR : R (.returned (.agg cs)) w) : bodyPost Tryz.prog fn R .ret a w :=
  bodyPost_ret (results_cell_row h a.tmps w g 48 _ (0, 0) _ hp hg Tryz.underlying48 rfl (by rw [hl]; kernel_rfl)) hd hR
theorem ret_opr2 {fn : Func} {R : Ending → World → Prop} {a : Act} {w : World} {p u : Tmp} {g : Nat} {cs : Array Value} {v : Value} (h : fn.results = #[.cell p 48, .tmp u]) (hp : a.tmps.getD p undef = .pointer (some ⟨g, 0, none⟩))
    (hu : a.tmps.getD u undef = v) (hd : a.defers = []) (hg : w.heap[g]? = some (.cells cs 48 (0, 0))) (hl : cs.size = 7) (hR : R (.returned (.tuple #[.agg cs, v])) w) : bodyPost Tryz.prog fn R .ret a w := by
  refine bodyPost_ret ?_ hd hR
  rw [results_cell_tmp h, hp, hu]
  simp only [asAddr, Sem.run_pure, Result.andThen_ok, run_loadVar_row w g 48 48 _ (0, 0) _ hg Tryz.underlying48 rfl (by rw [hl]; kernel_rfl)]
end Go.Proofs.YtmlfekbmbnfkjaaGreatDoor

