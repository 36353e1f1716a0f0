/-
  What All comes to: the live events in the stable order of their times.
-/
import Derived.Test.YtmlfekbmbnfkjabGreatDoorQ13
import Derived.Test.YtmlfekbmbnfkjabGreatDoorQ17
import Derived.Deep.CutRange
import Derived.Test.YtmlfekbmbnfkjabGreatDoorQ11
import Derived.Test.YtmlfekbmbnfkjabGreatDoorQ12
import Derived.Test.YtmlfekbmbnfkjabGreatDoorQ09
import Derived.Test.YtmlfekbmbnfkjabGreatDoorQ07
namespace Go.Proofs.YtmlfekbmbnfkjabGreatDoor
set_option maxRecDepth 100000
set_option maxRecDepth 100000
open Go.RowKit

theorem Row.own {w : World} {base : Nat} {v : Value} {E : List Ev} (h : Row w base v E) : ∀ k, v.ownBlock = some k → base ≤ k := by
  intro k hk
  rcases h.2 with ⟨rfl, -⟩ | ⟨g, cap, cur, rfl, hbg, -⟩
  · cases hk
  · simp only [Value.ownBlock, Option.some.injEq] at hk
    omega
theorem build_ev1 {ops : Array Oper} {rest : List Oper} {o : Oper} {a : Act} {w : World} {Q : Exit → Act → World → Prop} {x : Operand} {u : Ev} (hw : Region.wanted o (yielded ops a.tmps) = true) (ho : o.op = .buildSlice 22 1 #[(0, x)]) (hx : a.eval x = .agg (evc u)) (hu : u.deps.length = 16)
    (h : wpList Tryz.prog ops Q rest (a.put o.dst (.slice (some ⟨w.heap.size, 0, none⟩) 1 1)) (w.alloc (.cells (evc u) 47))) : wpList Tryz.prog ops Q (o :: rest) a w :=
  wpList_step fun K hK => by
    rw [if_pos hw]
    have hr := run_build1 w u hu
    unfold Oper.wp execOp
    simp only [ho, List.map_toArray, List.map_cons, List.map_nil, hx, Sem.run_bind, Sem.run_pure, Result.andThen_ok, hr]
    exact hK _ _ h
def liveTo (E : List Ev) (i : Nat) : List Ev := (E.take i).filter (isLive E)
theorem liveTo_succ {E : List Ev} {i : Nat} {u : Ev} (h : E[i]? = some u) : liveTo E (i + 1) = if isLive E u then liveTo E i ++ [u] else liveTo E i := by
  unfold liveTo
  rw [take_snoc h, List.filter_append, List.filter_cons, List.filter_nil]
  split <;> simp
theorem liveTo_all {E : List Ev} {m : Nat} (h : E.length ≤ m) : liveTo E m = liveE E := by
  unfold liveTo liveE
  rw [List.take_of_length_le h]
theorem liveTo_len (E : List Ev) (i : Nat) : (liveTo E i).length ≤ i := by
  unfold liveTo
  have := List.length_filter_le (isLive E) (E.take i)
  have := List.length_take_le i E
  omega
theorem live_is {E : List Ev} {u : Ev} (h : addsE u.kind = true) : isLive E u = !(hasv (seenF E (wholeE u.key)) u.r u.n || hasv (seenF E (aimAtE u)) u.r u.n) := by
  unfold isLive
  rw [ended_is E u h, h, Bool.true_and]

set_option maxHeartbeats 4000000 in
theorem all_any (ao : Option Addr) (m c : Nat) (E : List Ev) (w : World) (hE : Evs w ao m c E) (hm : m ≤ 1000) :
    Calls Tryz.prog 89 #[.slice ao m c] w fun e w' => ∃ v, e = .returned v ∧ Row w' w.heap.size v (allE E) ∧ Below w.heap.size w w' := by
  have hlen := hE.len
  have hwide : Hid (∀ e ∈ E, Wide e) := hE.wide
  go_enter Tryz.func89, Tryz.ntmps89
  go_wp2_with fail
  refine (seenby_any ao m c E w hE (by omega)).mono ?_
  rintro e w1 ⟨rfl, hMap, hb1⟩
  have HE : Aside (Evs w1 ao m c E) := hE.below hb1 (Nat.le_refl _)
  have HM : Aside (Mpa w1 w.heap.size (seenF E)) := hMap
  have HB1 : Hid (Below w.heap.size w w1) := hb1
  have hs1 : w.heap.size < w1.heap.size := hMap.lt
  clear hE hb1 hMap
  have H0 : Aside (Row w1 w1.heap.size (.slice none 0 0) (liveTo E 0) ∧ Below w1.heap.size w1 w1) := ⟨row_nil _ _, Below.refl _ _⟩
  go_wp2
  go_loopg [4, 11] m (fun kx s4 s11 wr => ∃ i : Nat, s11 = .int .i64 i ∧ i ≤ m ∧ m - i ≤ kx ∧ Aside (Row wr w1.heap.size s4 (liveTo E i) ∧ Below w1.heap.size w1 wr))
  case atStart => exact ⟨0, rfl, Nat.zero_le _, by omega, H0⟩
  case round =>
    clear H0
    obtain ⟨i, rfl, him, hkx, HS⟩ := hrel
    by_cases hlt : i < m
    · have hltz : (i : Int) < (m : Int) := by omega
      obtain ⟨b, off, u, rfl, hui, hu, hr, hbl⟩ := (HE.out.below HS.out.2 (Nat.le_refl _)).at hlt
      have hu16 := hu.1
      have hix := fun W : World => index_ev W (b := b) (off := off) (k := i) (m := m) (c := c) hlt
      have hsz : w1.heap.size ≤ wr.heap.size := HS.out.2.size
      have hz := liesE_new wr zv
      have hE1 : LiesE ((wr.alloc (.cells (evc zv) 47)).setRow wr.heap.size (evc u)) wr.heap.size u := hz.row u
      have hB1 : Below wr.heap.size wr ((wr.alloc (.cells (evc zv) 47)).setRow wr.heap.size (evc u)) := below_setRow ((Below.refl _ _).alloc (Nat.le_refl _) _) (Nat.le_refl _) _
      have HS1 : Aside (Row ((wr.alloc (.cells (evc zv) 47)).setRow wr.heap.size (evc u)) w1.heap.size u4 (liveTo E i) ∧ Below w1.heap.size w1 ((wr.alloc (.cells (evc zv) 47)).setRow wr.heap.size (evc u)) ∧ LiesE ((wr.alloc (.cells (evc zv) 47)).setRow wr.heap.size (evc u)) wr.heap.size u) :=
        ⟨HS.out.1.below hB1 (Nat.le_refl _), HS.out.2.trans (hB1.mono hsz), hE1⟩
      clear hB1
      go_upto_region 6 with (first | refine load_ev_mid rfl rfl rfl hr hu16 ?_ | refine store_ev rfl rfl rfl rfl hz hu16 rfl ?_)
      change Code.wp _ _ _ _ ((wr.alloc (.cells (evc zv) 47)).setRow wr.heap.size (evc u))
      clear hE1 hz hr hix HS hbl
      generalize (wr.alloc (.cells (evc zv) 47)).setRow wr.heap.size (evc u) = W at HS1 ⊢
      generalize wr.heap.size = D at *
      have hE1 := HS1.out.2.2
      have c19 := hE1.c19 hu16
      have HSN : Hid (liveTo E (i + 1) = if isLive E u then liveTo E i ++ [u] else liveTo E i) := liveTo_succ hui
      go_wp2_with fail
      refine (adds_any u.kind W).mono ?_
      rintro e wx ⟨rfl, hwx⟩
      obtain rfl := hwx.symm
      clear hwx c19
      rcases Bool.eq_false_or_eq_true (addsE u.kind) with ha | ha
      · have hlive : Hid (isLive E u = !(hasv (seenF E (wholeE u.key)) u.r u.n || hasv (seenF E (aimAtE u)) u.r u.n)) := live_is ha
        rw [ha]
        go_wp2_with (refine load_ev rfl rfl rfl hE1 hu16 ?_)
        refine (ended_any u hu16 w.heap.size (seenF E) W (HM.out.below HS1.out.2.1 hs1)).mono ?_
        rintro e w3 ⟨rfl, hb3⟩
        have HS3 : Aside (Row w3 w1.heap.size u4 (liveTo E i) ∧ Below w1.heap.size w1 w3 ∧ LiesE w3 D u) := ⟨HS1.out.1.below hb3 (Nat.le_refl _), HS1.out.2.1.trans (hb3.mono HS1.out.2.1.size), hE1.below hb3 hE1.lt⟩
        clear hb3 hE1 HS1
        generalize (hasv (seenF E (wholeE u.key)) u.r u.n || hasv (seenF E (aimAtE u)) u.r u.n) = t at *
        cases t with
        | true =>
          have HS4 : Aside (Row w3 w1.heap.size u4 (liveTo E (i + 1)) ∧ Below w1.heap.size w1 w3) := ⟨by rw [HSN.out, hlive.out]; exact HS3.out.1, HS3.out.2.1⟩
          clear HS3 HSN hlive
          go_wp2
          go_roundg (m - (i + 1))
          case measure => omega
          case rel => exact ⟨i + 1, by go_num, by omega, Nat.le_refl _, HS4⟩
        | false =>
          have hE3 := HS3.out.2.2
          have hRow : Row (w3.alloc (.cells (evc u) 47)) w1.heap.size u4 (liveTo E i) := HS3.out.1.below ((Below.refl _ _).alloc (Nat.le_refl _) _) (Nat.le_refl _)
          have hF : Evs (w3.alloc (.cells (evc u) 47)) (some ⟨w3.heap.size, 0, none⟩) 1 1 [u] := evs_single _ _ u hu (liesE_new w3 u)
          have hll := liveTo_len E i
          have hle : w1.heap.size ≤ (w3.alloc (.cells (evc u) 47)).heap.size := by have := HS3.out.2.1.size; simp; omega
          have HB3 : Hid (Below w1.heap.size w1 (w3.alloc (.cells (evc u) 47))) := HS3.out.2.1.alloc HS3.out.2.1.size _
          clear HS3
          go_wp2_with (first | refine load_ev rfl rfl rfl hE3 hu16 ?_ | refine build_ev1 rfl rfl rfl hu16 ?_ | refine wpList_appE rfl _ _ rfl w1.heap.size _ (liveTo E i) rfl hRow _ 1 1 [u] rfl hF (by omega) hle ?_)
          intro v4 w4 hR4 hg4 ho4
          have HS4 : Aside (Row w4 w1.heap.size v4 (liveTo E (i + 1)) ∧ Below w1.heap.size w1 w4) := ⟨by rw [HSN.out, hlive.out]; exact hR4, HB3.out.grown hg4 hle hRow.own⟩
          clear hR4 hg4 ho4 hRow hF hE3 HB3 HSN hlive hll hle
          go_wp2
          go_roundg (m - (i + 1))
          case measure => omega
          case rel => exact ⟨i + 1, by go_num, by omega, Nat.le_refl _, HS4⟩
      · have HS4 : Aside (Row W w1.heap.size u4 (liveTo E (i + 1)) ∧ Below w1.heap.size w1 W) := ⟨by rw [HSN.out, isLive, ha]; exact HS1.out.1, HS1.out.2.1⟩
        clear HS1 HSN hE1
        rw [ha]
        go_wp2
        go_roundg (m - (i + 1))
        case measure => omega
        case rel => exact ⟨i + 1, by go_num, by omega, Nat.le_refl _, HS4⟩
    · obtain rfl : i = m := by omega
      have HR : Aside (Row wr w1.heap.size u4 (liveE E) ∧ Below w1.heap.size w1 wr) := by
        have := HS.out
        rw [liveTo_all (by omega)] at this
        exact this
      clear HS
      go_wp2_with fail
      refine (sortst_any u4 (liveE E) w1.heap.size wr HR.out.1 (fun e he => hwide.out e (List.mem_filter.1 he).1) (by have : (liveE E).length ≤ E.length := List.length_filter_le _ _; omega)).mono ?_
      rintro e w5 ⟨rfl, hR5, hg5⟩
      have H5 : Hid (Row w5 w.heap.size u4 (allE E) ∧ Below w.heap.size w w5) := by
        have hb5 : Below w1.heap.size w1 w5 := HR.out.2.grown hg5 HR.out.2.size HR.out.1.own
        exact ⟨hR5.lower (by omega), HB1.out.trans (hb5.mono (by omega))⟩
      clear hR5 hg5 HR
      go_wp2
      go_ret
      exact ⟨_, rfl, H5.out⟩
end Go.Proofs.YtmlfekbmbnfkjabGreatDoor

/-
  What typeOf, latestType, ofKey and Type come to.
-/
namespace Go.Proofs.YtmlfekbmbnfkjabGreatDoor
set_option maxRecDepth 100000
set_option maxRecDepth 100000
open Go.RowKit

set_option maxHeartbeats 400000 in
theorem typeof_any (k : Int) (w : World) : Calls Tryz.prog 129 #[.int .i64 k] w fun e w' => e = .returned (.int .i64 (typE k)) ∧ w' = w := by
  unfold typE
  go_enter Tryz.func129, Tryz.ntmps129
  go_wp2
  all_goals
    go_ret
    refine ⟨?_, rfl⟩
    simp_all
theorem range_at {w : World} {b k : Nat} {e : Ev} (h : w.rangeAt b k (evl e)) (hl : e.deps.length = 16) (j : Nat) : w.cell? ⟨b, k + (19 + j), none⟩ = (opl e)[j]? ∨ (opl e)[j]? = none := by
  cases hj : (opl e)[j]? with
  | none => exact .inr rfl
  | some v => exact .inl (h (19 + j) v (by rw [evl_hi hl]; exact hj))
theorem range_kind {w : World} {b k : Nat} {e : Ev} (h : w.rangeAt b k (evl e)) (hl : e.deps.length = 16) : w.cell? ⟨b, k + 19, none⟩ = some (.int .i64 e.kind) := (range_at h hl 0).resolve_right (by simp [opl])
theorem range_key {w : World} {b k : Nat} {e : Ev} (h : w.rangeAt b k (evl e)) (hl : e.deps.length = 16) : w.cell? ⟨b, k + 20, none⟩ = some (.string (sb e.key)) := (range_at h hl 1).resolve_right (by simp [opl])
theorem range_field {w : World} {b k : Nat} {e : Ev} (h : w.rangeAt b k (evl e)) (hl : e.deps.length = 16) : w.cell? ⟨b, k + 21, none⟩ = some (.string (sb e.field)) := (range_at h hl 2).resolve_right (by simp [opl])
theorem last_at {S : List Ev} {k : Nat} {u : Ev} (hl : S.length = k + 1) (h : S[k]? = some u) : lastE S = typE u.kind := by
  unfold lastE
  rw [List.getLast?_eq_getElem?, hl, Nat.add_sub_cancel, h]
set_option maxHeartbeats 400000 in
theorem latest_any (ao : Option Addr) (m c : Nat) (S : List Ev) (w : World) (hE : Evs w ao m c S) (hm : m ≤ 1000) :
    Calls Tryz.prog 88 #[.slice ao m c] w fun e w' => e = .returned (.int .i64 (lastE S)) ∧ w' = w := by
  have hlen := hE.len
  cases m with
  | zero =>
    have hS : S = [] := List.eq_nil_of_length_eq_zero hlen
    subst hS
    clear hE
    go_enter Tryz.func88, Tryz.ntmps88
    go_wp2
    go_ret
    exact ⟨rfl, rfl⟩
  | succ k =>
    obtain ⟨b, off, u, rfl, hu, hw, hr, hb⟩ := hE.at (Nat.lt_succ_self k)
    have HL : Hid (lastE S = typE u.kind) := last_at hlen hu
    have ck := range_kind hr hw.1
    have hix := fun W : World => index_ev W (b := b) (off := off) (k := k) (m := k + 1) (c := c) (Nat.lt_succ_self k)
    have hne : ¬ ((k + 1 : Nat) : Int) = 0 := by omega
    clear hE hr
    go_enter Tryz.func88, Tryz.ntmps88
    go_wp2_with fail
    refine (typeof_any u.kind w).mono ?_
    rintro e w' ⟨rfl, rfl⟩
    clear ck
    go_wp2
    go_ret
    exact ⟨by rw [HL.out]; rfl, rfl⟩

def keyTo (key : List UInt8) (E : List Ev) (i : Nat) : List Ev := ofKeyE key (E.take i)
theorem keyTo_succ {key : List UInt8} {E : List Ev} {i : Nat} {u : Ev} (h : E[i]? = some u) : keyTo key E (i + 1) = if u.key = key then keyTo key E i ++ [u] else keyTo key E i := by
  unfold keyTo ofKeyE
  rw [take_snoc h, List.filter_append, List.filter_cons, List.filter_nil]
  by_cases hk : u.key = key <;> simp [hk]
theorem keyTo_len (key : List UInt8) (E : List Ev) (i : Nat) : (keyTo key E i).length ≤ i := by
  unfold keyTo ofKeyE
  have := List.length_filter_le (fun e => decide (e.key = key)) (E.take i)
  have := List.length_take_le i E
  omega
theorem sb_beq (a b : List UInt8) : ((sb a).toList == (sb b).toList) = decide (a = b) := by
  rw [ByteArray.toList_eq, ByteArray.toList_eq, data_sb, data_sb, Bool.eq_iff_iff]
  simp
set_option maxHeartbeats 4000000 in
theorem ofkey_any (ao : Option Addr) (m c : Nat) (E : List Ev) (key : List UInt8) (w : World) (hE : Evs w ao m c E) (hm : m ≤ 1000) :
    Calls Tryz.prog 90 #[.slice ao m c, .string (sb key)] w fun e w' => ∃ v, e = .returned v ∧ Row w' w.heap.size v (ofKeyE key E) ∧ Below w.heap.size w w' := by
  have hlen := hE.len
  have HE : Aside (Evs w ao m c E) := hE
  have H0 : Aside (Row w w.heap.size (.slice none 0 0) (keyTo key E 0) ∧ Below w.heap.size w w) := ⟨row_nil _ _, Below.refl _ _⟩
  clear hE
  go_enter Tryz.func90, Tryz.ntmps90
  go_wp2
  go_loopg [5, 10] m (fun kx s5 s10 wr => ∃ i : Nat, s10 = .int .i64 i ∧ i ≤ m ∧ m - i ≤ kx ∧ Aside (Row wr w.heap.size s5 (keyTo key E i) ∧ Below w.heap.size w wr))
  case atStart => exact ⟨0, rfl, Nat.zero_le _, by omega, H0⟩
  case round =>
    clear H0
    obtain ⟨i, rfl, him, hkx, HS⟩ := hrel
    by_cases hlt : i < m
    · have hltz : (i : Int) < (m : Int) := by omega
      obtain ⟨b, off, u, rfl, hui, hu, hr, hbl⟩ := (HE.out.below HS.out.2 (Nat.le_refl _)).at hlt
      have hu16 := hu.1
      have hix := fun W : World => index_ev W (b := b) (off := off) (k := i) (m := m) (c := c) hlt
      have hsz : w.heap.size ≤ wr.heap.size := HS.out.2.size
      have hz := liesE_new wr zv
      have hE1 : LiesE ((wr.alloc (.cells (evc zv) 47)).setRow wr.heap.size (evc u)) wr.heap.size u := hz.row u
      have hB1 : Below wr.heap.size wr ((wr.alloc (.cells (evc zv) 47)).setRow wr.heap.size (evc u)) := below_setRow ((Below.refl _ _).alloc (Nat.le_refl _) _) (Nat.le_refl _) _
      have HS1 : Aside (Row ((wr.alloc (.cells (evc zv) 47)).setRow wr.heap.size (evc u)) w.heap.size u5 (keyTo key E i) ∧ Below w.heap.size w ((wr.alloc (.cells (evc zv) 47)).setRow wr.heap.size (evc u)) ∧ LiesE ((wr.alloc (.cells (evc zv) 47)).setRow wr.heap.size (evc u)) wr.heap.size u) :=
        ⟨HS.out.1.below hB1 (Nat.le_refl _), HS.out.2.trans (hB1.mono hsz), hE1⟩
      clear hB1
      go_upto_region 5 with (first | refine load_ev_mid rfl rfl rfl hr hu16 ?_ | refine store_ev rfl rfl rfl rfl hz hu16 rfl ?_)
      change Code.wp _ _ _ _ ((wr.alloc (.cells (evc zv) 47)).setRow wr.heap.size (evc u))
      clear hE1 hz hr hix HS hbl
      generalize (wr.alloc (.cells (evc zv) 47)).setRow wr.heap.size (evc u) = W at HS1 ⊢
      generalize wr.heap.size = D at *
      have hE1 := HS1.out.2.2
      have c20 := hE1.c20 hu16
      have hkb := sb_beq u.key key
      by_cases hk : u.key = key
      · have HSN : Hid (keyTo key E (i + 1) = keyTo key E i ++ [u]) := by show _ = _; rw [keyTo_succ hui, if_pos hk]
        have hRow : Row (W.alloc (.cells (evc u) 47)) w.heap.size u5 (keyTo key E i) := HS1.out.1.below ((Below.refl _ _).alloc (Nat.le_refl _) _) (Nat.le_refl _)
        have hF : Evs (W.alloc (.cells (evc u) 47)) (some ⟨W.heap.size, 0, none⟩) 1 1 [u] := evs_single _ _ u hu (liesE_new W u)
        have hll := keyTo_len key E i
        have hle : w.heap.size ≤ (W.alloc (.cells (evc u) 47)).heap.size := by have := HS1.out.2.1.size; simp; omega
        have HB3 : Hid (Below w.heap.size w (W.alloc (.cells (evc u) 47))) := HS1.out.2.1.alloc HS1.out.2.1.size _
        rw [decide_eq_true hk] at hkb
        clear HS1 hk
        go_wp2_with (first | refine load_ev rfl rfl rfl hE1 hu16 ?_ | refine build_ev1 rfl rfl rfl hu16 ?_ | refine wpList_appE rfl _ _ rfl w.heap.size _ (keyTo key E i) rfl hRow _ 1 1 [u] rfl hF (by omega) hle ?_)
        intro v4 w4 hR4 hg4 ho4
        have HS4 : Aside (Row w4 w.heap.size v4 (keyTo key E (i + 1)) ∧ Below w.heap.size w w4) := ⟨by rw [HSN.out]; exact hR4, HB3.out.grown hg4 hle hRow.own⟩
        clear hR4 hg4 ho4 hRow hF hE1 HB3 HSN hll hle hkb c20
        go_wp2
        go_roundg (m - (i + 1))
        case measure => omega
        case rel => exact ⟨i + 1, by go_num, by omega, Nat.le_refl _, HS4⟩
      · have HS4 : Aside (Row W w.heap.size u5 (keyTo key E (i + 1)) ∧ Below w.heap.size w W) := ⟨by rw [keyTo_succ hui, if_neg hk]; exact HS1.out.1, HS1.out.2.1⟩
        rw [decide_eq_false hk] at hkb
        clear HS1 hk
        go_wp2
        go_roundg (m - (i + 1))
        case measure => omega
        case rel => exact ⟨i + 1, by go_num, by omega, Nat.le_refl _, HS4⟩
    · obtain rfl : i = m := by omega
      have HR : Hid (Row wr w.heap.size u5 (ofKeyE key E) ∧ Below w.heap.size w wr) := by
        have := HS.out
        rw [keyTo, List.take_of_length_le (by omega)] at this
        exact this
      clear HS
      go_wp2
      go_ret
      exact ⟨_, rfl, HR.out⟩
theorem mem_ofKey {key : List UInt8} {l : List Ev} {e : Ev} (h : e ∈ ofKeyE key l) : e ∈ l := (List.mem_filter.1 h).1
theorem mem_all {l : List Ev} {e : Ev} (h : e ∈ allE l) : e ∈ l := (all_mem.1 h).1
theorem ofKey_len (key : List UInt8) (l : List Ev) : (ofKeyE key l).length ≤ l.length := List.length_filter_le _ _
set_option maxHeartbeats 400000 in
theorem type_any (ao : Option Addr) (m c : Nat) (E : List Ev) (key : List UInt8) (w : World) (hE : Evs w ao m c E) (hm : m ≤ 1000) :
    Calls Tryz.prog 44 #[.slice ao m c, .string (sb key)] w fun e w' => e = .returned (.int .i64 (typeE E key)) ∧ Below w.heap.size w w' := by
  have hlen := hE.len
  have hw : Hid (∀ e ∈ E, Wide e) := hE.wide
  go_enter Tryz.func44, Tryz.ntmps44
  go_wp2_with fail
  refine (ofkey_any ao m c E key w hE hm).mono ?_
  rintro e w1 ⟨v1, rfl, hR1, hb1⟩
  obtain ⟨a1, c1, hv1, hE1⟩ := hR1.evs (fun e he => hw.out e (mem_ofKey he))
  subst hv1
  have hl1 := ofKey_len key E
  have HB1 : Hid (Below w.heap.size w w1) := hb1
  clear hE hb1 hR1
  go_wp2_with fail
  refine (all_any a1 _ c1 _ w1 hE1 (by omega)).mono ?_
  rintro e w2 ⟨v2, rfl, hR2, hb2⟩
  obtain ⟨a2, c2, hv2, hE2⟩ := hR2.evs (fun e he => hw.out e (mem_ofKey (mem_all he)))
  subst hv2
  have hl2 := all_length (ofKeyE key E)
  have HB2 : Hid (Below w.heap.size w w2) := HB1.out.trans (hb2.mono HB1.out.size)
  clear hE1 hb2 hR2 HB1
  go_wp2_with fail
  refine (latest_any a2 _ c2 _ w2 hE2 (by omega)).mono ?_
  rintro e w3 ⟨rfl, hw3⟩
  obtain rfl := hw3.symm
  have HT : Hid (lastE (allE (ofKeyE key E)) = typeE E key) := by show _ = _; rw [all_key]; rfl
  clear hE2 hw3
  go_wp2
  go_ret
  exact ⟨by rw [HT.out]; rfl, HB2.out⟩
end Go.Proofs.YtmlfekbmbnfkjabGreatDoor

/-
  What few comes to (layer 16's, in the place of layer 10's).
-/
namespace Go.Proofs.YtmlfekbmbnfkjabGreatDoor
set_option maxRecDepth 100000
set_option maxRecDepth 100000
open Go.RowKit

end Go.Proofs.YtmlfekbmbnfkjabGreatDoor

/-
  Small laws for the statements' own walks.
-/
namespace Go.Proofs.YtmlfekbmbnfkjabGreatDoor
set_option maxRecDepth 100000
set_option maxRecDepth 100000
open Go.RowKit

theorem Evs.take {w : World} {ao : Option Addr} {m c : Nat} {E : List Ev} (h : Evs w ao m c E) {i : Nat} (hi : i ≤ m) : Evs w ao i c (E.take i) := by
  have hl := h.len
  have hr := h.room
  refine ⟨by rw [List.length_take]; omega, by omega, h.top, fun e => ⟨by have := (h.zero e).1; omega, (h.zero e).2⟩, fun ad ha j u hu => ?_, fun e he => h.wide e (List.mem_of_mem_take he)⟩
  refine h.cells ad ha j u ?_
  have e1 : evs E = evs (E.take i) ++ evs (E.drop i) := by rw [← evs_append, List.take_append_drop]
  rw [e1, List.getElem?_append_left ((List.getElem?_eq_some_iff.1 hu).1)]
  exact hu
theorem exec_pick {o : Oper} {a : Act} {w : World} {x y z : Operand} {b : Bool} {v v' : Value} (ho : o.op = .pick x y z) (hx : a.eval x = .bool b) (hy : a.eval y = v) (hz : a.eval z = v') : (execOp a.eval o).run Tryz.prog w = .ok (.value (if b then v else v')) w := by
  unfold execOp
  simp only [ho, hx, hy, hz]
  cases b <;> rfl
theorem exec_bin {o : Oper} {a : Act} {w : World} {x y : Operand} {op : BinOp} {t r : TypeId} {vx vy v : Value} (ho : o.op = .binOp op t x y r) (hx : a.eval x = vx) (hy : a.eval y = vy) (hg : (eqGuard op t x y vx vy).run Tryz.prog w = .ok () w) (hv : (binOp op t vx vy).run Tryz.prog w = .ok v w) : (execOp a.eval o).run Tryz.prog w = .ok (.value v) w := by
  unfold execOp; simp only [ho, hx, hy, Sem.run_bind, hg, hv, Result.andThen_ok, Sem.run_pure]
end Go.Proofs.YtmlfekbmbnfkjabGreatDoor

/-
  What the laws' unlike comes to.
-/
namespace Go.Proofs.YtmlfekbmbnfkjabGreatDoor
set_option maxRecDepth 100000
set_option maxRecDepth 100000
open Go.RowKit

end Go.Proofs.YtmlfekbmbnfkjabGreatDoor

/-
  Laws of earlier layers that name no function of theirs: single operations, events read and laid, a row's own block, dots compared.
-/
namespace Go.Proofs.YtmlfekbmbnfkjabGreatDoor
set_option maxRecDepth 100000
set_option maxRecDepth 100000
open Go.RowKit
deriving instance DecidableEq for Ev

section
variable {o : Oper} {a : Act} {w w' : World} {K : Act → World → Prop} {Q : Exit → Act → World → Prop} {x y z : Operand} {v : Value} {m n : Int}
end
theorem range_value {w : World} {b k : Nat} {e : Ev} (h : w.rangeAt b k (evl e)) (hl : e.deps.length = 16) : w.cell? ⟨b, k + 22, none⟩ = some (.string (sb e.value)) := (range_at h hl 3).resolve_right (by simp [opl])
end Go.Proofs.YtmlfekbmbnfkjabGreatDoor

/-
  Structs in blocks of their own: read whole, laid whole, handed back.
-/
namespace Go.Proofs.YtmlfekbmbnfkjabGreatDoor
set_option maxRecDepth 100000
open Go.RowKit

theorem storeVar_cl {w : World} {g : Nat} {cs zs : Array Value} (hg : w.heap[g]? = some (.cells zs 38 (0, 0))) (hl : cs.size = 6) (hz : zs.size = 6) (h1 : cs.all (·.oneCell') = true) : (storeVar 38 ⟨g, 0, none⟩ (.agg cs)).run Tryz.prog w = .ok () (w.setRow g cs) :=
  run_storeVar_row (P := Tryz.prog) w g 38 38 zs cs hg (by rw [hl]; kernel_rfl) (by rw [hl, hz]) h1
theorem loadVar_cl {w : World} {g : Nat} {cs : Array Value} (hg : w.heap[g]? = some (.cells cs 38 (0, 0))) (hl : cs.size = 6) : (loadVar 38 ⟨g, 0, none⟩).run Tryz.prog w = .ok (.agg cs) w :=
  run_loadVar_row w g 38 38 _ (0, 0) _ hg Tryz.underlying38 rfl (by rw [hl]; kernel_rfl)
theorem ret_cl2 {fn : Func} {R : Ending → World → Prop} {a : Act} {w : World} {p u : Tmp} {g : Nat} {cs : Array Value} {v : Value} (h : fn.results = #[.cell p 38, .tmp u]) (hp : a.tmps.getD p undef = .pointer (some ⟨g, 0, none⟩))
    (hu : a.tmps.getD u undef = v) (hd : a.defers = []) (hg : w.heap[g]? = some (.cells cs 38 (0, 0))) (hl : cs.size = 6) (hR : R (.returned (.tuple #[.agg cs, v])) w) : bodyPost Tryz.prog fn R .ret a w := by
  refine bodyPost_ret ?_ hd hR
  rw [results_cell_tmp h, hp, hu]
  simp only [asAddr, Sem.run_pure, Result.andThen_ok, run_loadVar_row w g 38 38 _ (0, 0) _ hg Tryz.underlying38 rfl (by rw [hl]; kernel_rfl)]
theorem storeVar_rw {w : World} {g : Nat} {cs zs : Array Value} (hg : w.heap[g]? = some (.cells zs 62 (0, 0))) (hl : cs.size = 4) (hz : zs.size = 4) (h1 : cs.all (·.oneCell') = true) : (storeVar 62 ⟨g, 0, none⟩ (.agg cs)).run Tryz.prog w = .ok () (w.setRow g cs) :=
  run_storeVar_row (P := Tryz.prog) w g 62 62 zs cs hg (by rw [hl]; kernel_rfl) (by rw [hl, hz]) h1
theorem loadVar_rw {w : World} {g : Nat} {cs : Array Value} (hg : w.heap[g]? = some (.cells cs 62 (0, 0))) (hl : cs.size = 4) : (loadVar 62 ⟨g, 0, none⟩).run Tryz.prog w = .ok (.agg cs) w :=
  run_loadVar_row w g 62 62 _ (0, 0) _ hg Tryz.underlying62 rfl (by rw [hl]; kernel_rfl)
theorem ret_rw2 {fn : Func} {R : Ending → World → Prop} {a : Act} {w : World} {p u : Tmp} {g : Nat} {cs : Array Value} {v : Value} (h : fn.results = #[.cell p 62, .tmp u]) (hp : a.tmps.getD p undef = .pointer (some ⟨g, 0, none⟩))
    (hu : a.tmps.getD u undef = v) (hd : a.defers = []) (hg : w.heap[g]? = some (.cells cs 62 (0, 0))) (hl : cs.size = 4) (hR : R (.returned (.tuple #[.agg cs, v])) w) : bodyPost Tryz.prog fn R .ret a w := by
  refine bodyPost_ret ?_ hd hR
  rw [results_cell_tmp h, hp, hu]
  simp only [asAddr, Sem.run_pure, Result.andThen_ok, run_loadVar_row w g 62 62 _ (0, 0) _ hg Tryz.underlying62 rfl (by rw [hl]; kernel_rfl)]
theorem storeVar_rep {w : World} {g : Nat} {cs zs : Array Value} (hg : w.heap[g]? = some (.cells zs 30 (0, 0))) (hl : cs.size = 4) (hz : zs.size = 4) (h1 : cs.all (·.oneCell') = true) : (storeVar 30 ⟨g, 0, none⟩ (.agg cs)).run Tryz.prog w = .ok () (w.setRow g cs) :=
  run_storeVar_row (P := Tryz.prog) w g 30 30 zs cs hg (by rw [hl]; kernel_rfl) (by rw [hl, hz]) h1
theorem loadVar_rep {w : World} {g : Nat} {cs : Array Value} (hg : w.heap[g]? = some (.cells cs 30 (0, 0))) (hl : cs.size = 4) : (loadVar 30 ⟨g, 0, none⟩).run Tryz.prog w = .ok (.agg cs) w :=
  run_loadVar_row w g 30 30 _ (0, 0) _ hg Tryz.underlying30 rfl (by rw [hl]; kernel_rfl)
theorem ret_rep {fn : Func} {R : Ending → World → Prop} {a : Act} {w : World} {p : Tmp} {g : Nat} {cs : Array Value} (h : fn.results = #[.cell p 30]) (hp : a.tmps.getD p undef = .pointer (some ⟨g, 0, none⟩))
    (hd : a.defers = []) (hg : w.heap[g]? = some (.cells cs 30 (0, 0))) (hl : cs.size = 4) (hR : R (.returned (.agg cs)) w) : bodyPost Tryz.prog fn R .ret a w :=
  bodyPost_ret (results_cell_row h a.tmps w g 30 _ (0, 0) _ hp hg Tryz.underlying30 rfl (by rw [hl]; kernel_rfl)) hd hR
theorem storeVar_out {w : World} {g : Nat} {cs zs : Array Value} (hg : w.heap[g]? = some (.cells zs 53 (0, 0))) (hl : cs.size = 12) (hz : zs.size = 12) (h1 : cs.all (·.oneCell') = true) : (storeVar 53 ⟨g, 0, none⟩ (.agg cs)).run Tryz.prog w = .ok () (w.setRow g cs) :=
  run_storeVar_row (P := Tryz.prog) w g 53 53 zs cs hg (by rw [hl]; kernel_rfl) (by rw [hl, hz]) h1
theorem ret_out {fn : Func} {R : Ending → World → Prop} {a : Act} {w : World} {p : Tmp} {g : Nat} {cs : Array Value} (h : fn.results = #[.cell p 53]) (hp : a.tmps.getD p undef = .pointer (some ⟨g, 0, none⟩))
    (hd : a.defers = []) (hg : w.heap[g]? = some (.cells cs 53 (0, 0))) (hl : cs.size = 12) (hR : R (.returned (.agg cs)) w) : bodyPost Tryz.prog fn R .ret a w :=
  bodyPost_ret (results_cell_row h a.tmps w g 53 _ (0, 0) _ hp hg Tryz.underlying53 rfl (by rw [hl]; kernel_rfl)) hd hR
theorem storeVar_opr {w : World} {g : Nat} {cs zs : Array Value} (hg : w.heap[g]? = some (.cells zs 34 (0, 0))) (hl : cs.size = 7) (hz : zs.size = 7) (h1 : cs.all (·.oneCell') = true) : (storeVar 34 ⟨g, 0, none⟩ (.agg cs)).run Tryz.prog w = .ok () (w.setRow g cs) :=
  run_storeVar_row (P := Tryz.prog) w g 34 34 zs cs hg (by rw [hl]; kernel_rfl) (by rw [hl, hz]) h1
theorem loadVar_opr {w : World} {g : Nat} {cs : Array Value} (hg : w.heap[g]? = some (.cells cs 34 (0, 0))) (hl : cs.size = 7) : (loadVar 34 ⟨g, 0, none⟩).run Tryz.prog w = .ok (.agg cs) w :=
  run_loadVar_row w g 34 34 _ (0, 0) _ hg Tryz.underlying34 rfl (by rw [hl]; kernel_rfl)
end Go.Proofs.YtmlfekbmbnfkjabGreatDoor

/-
  What the reference's Type and Ends come to.
-/
namespace Go.Proofs.YtmlfekbmbnfkjabGreatDoor
set_option maxRecDepth 100000
set_option maxRecDepth 100000
open Go.RowKit

theorem LiesE.rf {w : World} {g : Nat} {e : Ev} (h : LiesE w g e) (hl : e.deps.length = 16) : w.rangeAt g (19 + 5) (dotc e.rr e.rn).toList := h.ref hl
end Go.Proofs.YtmlfekbmbnfkjabGreatDoor

/-
  What Ends comes to.
-/
namespace Go.Proofs.YtmlfekbmbnfkjabGreatDoor
set_option maxRecDepth 100000
set_option maxRecDepth 100000
open Go.RowKit

theorem plain_am : Tryz.prog.eqGuardType Tryz.prog.depth 127 = false := by kernel_rfl
theorem eqGuard_am (w : World) {op : BinOp} {x y : Operand} (p q : Aim) : (eqGuard op 127 x y (.agg (amc p)) (.agg (amc q))).run Tryz.prog w = .ok () w := run_eqGuard_agg w _ _ _ _ _ _ plain_am
theorem eql_am (w : World) {x y : Aim} {t : Bool} (h : decide (x = y) = t) : (binOp .eql 127 (.agg (amc x)) (.agg (amc y))).run Tryz.prog w = .ok (.bool t) w := by
  rw [run_eql_struct, run_equalIn_aim w 9997, Result.andThen_ok, h]
theorem meets_no {b a : Ev} (h : (aimP b).2 = false) : meets b a = false := by unfold meets; rw [h]; rfl
theorem meets_one {b a : Ev} (h : (aimP b).2 = true) (h1 : decide ((aimP b).1 = wholeE a.key) = true) : meets b a = true := by unfold meets; rw [h, h1]; rfl
theorem meets_two {b a : Ev} (h : (aimP b).2 = true) (h1 : decide ((aimP b).1 = wholeE a.key) = false) : meets b a = decide ((aimP b).1 = aimAtE a) := by unfold meets; rw [h, h1]; rfl
set_option maxHeartbeats 1000000 in
theorem ends_any (b a : Ev) (hb16 : b.deps.length = 16) (ha16 : a.deps.length = 16) (w : World) : Calls Tryz.prog 56 #[.agg (evc b), .agg (evc a)] w fun e w' => e = .returned (.bool (endsE b a)) ∧ Below w.heap.size w w' := by
  obtain ⟨hb, ha, hB⟩ := boxedEE w b a
  have HB : Hid (Below w.heap.size w ((w.alloc (.cells (evc b) 47)).alloc (.cells (evc a) 47))) := hB
  clear hB
  have ca := ha.c19 ha16
  go_enter Tryz.func56, Tryz.ntmps56
  go_wp2_with fail
  refine (adds_any a.kind _).mono ?_
  rintro e w1 ⟨rfl, hw1⟩
  obtain rfl := hw1.symm
  clear hw1 ca
  rcases Bool.eq_false_or_eq_true (addsE a.kind) with hadd | hadd
  · rw [hadd]
    go_wp2_with (first | refine load_ev rfl rfl rfl hb hb16 ?_ | refine load_ev rfl rfl rfl ha ha16 ?_)
    refine (covers_any b a hb16 _).mono ?_
    rintro e w1 ⟨rfl, hb1⟩
    have hb' := hb.below hb1 hb.lt
    have ha' := ha.below hb1 ha.lt
    have HB1 : Hid (Below w.heap.size w w1) := HB.out.trans (hb1.mono HB.out.size)
    clear hb ha hb1 HB
    rcases Bool.eq_false_or_eq_true (coversE b a) with hc | hc
    · rw [hc]
      have HR : Hid (endsE b a = meets b a) := by show _ = _; rw [← ends_aim b a hadd, hc]; rfl
      have hop := hb'.op hb16
      go_wp2_with (refine load_op_at rfl rfl rfl hop ?_)
      refine (aimof_any b _).mono ?_
      rintro e w2 ⟨rfl, hb2⟩
      have ha2 := ha'.below hb2 ha'.lt
      have HB2 : Hid (Below w.heap.size w w2) := HB1.out.trans (hb2.mono HB1.out.size)
      have hM0 := liesM_new w2 zaim
      have hM1 := hM0.row (aimP b).1
      have hlt2 := ha2.lt
      have hA3 : LiesE ((w2.alloc (.cells (amc zaim) 127)).setRow w2.heap.size (amc (aimP b).1)) (w.heap.size + 1) a := (ha2.alloc _).rowOther _ (by omega)
      have HB3 : Hid (Below w.heap.size w ((w2.alloc (.cells (amc zaim) 127)).setRow w2.heap.size (amc (aimP b).1))) := below_setRow (HB2.out.alloc HB2.out.size _) (by have := HB2.out.size; omega) _
      clear hb' ha' hb2 HB1 ha2 HB2 hop hlt2
      go_upto_region 4 with (refine store_am (x := (aimP b).1) rfl rfl rfl rfl hM0 ?_)
      change Code.wp _ _ _ _ ((w2.alloc (.cells (amc zaim) 127)).setRow w2.heap.size (amc (aimP b).1))
      generalize (w2.alloc (.cells (amc zaim) 127)).setRow w2.heap.size (amc (aimP b).1) = W0 at hM1 hA3 HB3 ⊢
      clear hM0
      generalize w2.heap.size = G at *
      rcases Bool.eq_false_or_eq_true (aimP b).2 with hok | hok
      · rcases Bool.eq_false_or_eq_true (decide ((aimP b).1 = wholeE a.key)) with h1 | h1
        · have HR1 : Hid (endsE b a = _) := HR.out.trans (meets_one hok h1)
          rw [hok]
          refine region_vals [24, 25, 26, 27, 28, 29, 30, 31, 32, 33, 34, 35, 36, 37, 38, 4] [.bool true, .bool true, .agg (amc (aimP b).1), .pointer (some ⟨w.heap.size + 1, 19, none⟩), .pointer (some ⟨w.heap.size + 1, 20, none⟩), .string (sb a.key), .agg (amc (wholeE a.key)), .bool true, .bool true, undef, undef, undef, undef, .bool true, .bool true, .bool true] _ (by kernel_rfl) (by kernel_rfl) (by rfl) (by decide) (by kernel_rfl) (by simp only [lay, Act.put, List.setIfInBounds_toArray, List.set_cons_zero, List.set_cons_succ, List.getD_cons_zero, List.getD_cons_succ, Nat.reduceAdd]; rfl) ⟨?_, ?_, ?_, ?_, ?_, ?_, ?_, ?_, ?_, ?_, ?_, ?_, ?_, ?_, ?_, ?_, trivial⟩ ?_
          · exact .inl ⟨rfl, fun W hb => yields_move rfl rfl⟩
          · exact .inl ⟨rfl, fun W hb => yields_move rfl rfl⟩
          · exact .inl ⟨rfl, fun W hb => yields_load rfl rfl (load_amr (hM1.below hb hM1.lt))⟩
          · exact .inl ⟨rfl, fun W hb => yields_field rfl rfl (field_e3 W _)⟩
          · exact .inl ⟨rfl, fun W hb => yields_field rfl rfl (field_p1 W _ 19)⟩
          · exact .inl ⟨rfl, fun W hb => yields_load rfl rfl (load_str_run ((hA3.below hb hA3.lt).c20 ha16))⟩
          · exact .inl ⟨rfl, fun W hb => yields_call (vs := [.string (sb a.key)]) rfl rfl (enters_wholekey _ _) (whole_any _ W)⟩
          · exact .inl ⟨rfl, fun W hb => yields_bin rfl rfl rfl (eqGuard_am W _ _) (eql_am W h1)⟩
          · exact .inl ⟨rfl, fun W hb => yields_move rfl rfl⟩
          · exact .inr ⟨rfl, rfl⟩
          · exact .inr ⟨rfl, rfl⟩
          · exact .inr ⟨rfl, rfl⟩
          · exact .inr ⟨rfl, rfl⟩
          · exact .inl ⟨rfl, fun W hb => yields_pick (b := true) rfl rfl rfl⟩
          · exact .inl ⟨rfl, fun W hb => yields_pick (b := true) rfl rfl rfl⟩
          · exact .inl ⟨rfl, fun W hb => yields_assign rfl rfl⟩
          intro w4 hb4
          have HB4 : Hid (Below w.heap.size w w4) := HB3.out.trans (hb4.mono HB3.out.size)
          clear hb4 HB3 hM1 hA3
          go_wp2
          go_ret
          exact ⟨by rw [HR1.out]; rfl, HB4.out⟩
        · have HR2 : Hid (endsE b a = _) := HR.out.trans (meets_two hok h1)
          rw [hok]
          refine region_vals [24, 25, 26, 27, 28, 29, 30, 31, 32, 33, 34, 35, 36, 37, 38, 4] [.bool true, .bool true, .agg (amc (aimP b).1), .pointer (some ⟨w.heap.size + 1, 19, none⟩), .pointer (some ⟨w.heap.size + 1, 20, none⟩), .string (sb a.key), .agg (amc (wholeE a.key)), .bool false, .bool false, .agg (amc (aimP b).1), .agg (evc a), .agg (amc (aimAtE a)), .bool (decide ((aimP b).1 = aimAtE a)), .bool (decide ((aimP b).1 = aimAtE a)), .bool (decide ((aimP b).1 = aimAtE a)), .bool (decide ((aimP b).1 = aimAtE a))] _ (by kernel_rfl) (by kernel_rfl) (by rfl) (by decide) (by kernel_rfl) (by simp only [lay, Act.put, List.setIfInBounds_toArray, List.set_cons_zero, List.set_cons_succ, List.getD_cons_zero, List.getD_cons_succ, Nat.reduceAdd]; rfl) ⟨?_, ?_, ?_, ?_, ?_, ?_, ?_, ?_, ?_, ?_, ?_, ?_, ?_, ?_, ?_, ?_, trivial⟩ ?_
          · exact .inl ⟨rfl, fun W hb => yields_move rfl rfl⟩
          · exact .inl ⟨rfl, fun W hb => yields_move rfl rfl⟩
          · exact .inl ⟨rfl, fun W hb => yields_load rfl rfl (load_amr (hM1.below hb hM1.lt))⟩
          · exact .inl ⟨rfl, fun W hb => yields_field rfl rfl (field_e3 W _)⟩
          · exact .inl ⟨rfl, fun W hb => yields_field rfl rfl (field_p1 W _ 19)⟩
          · exact .inl ⟨rfl, fun W hb => yields_load rfl rfl (load_str_run ((hA3.below hb hA3.lt).c20 ha16))⟩
          · exact .inl ⟨rfl, fun W hb => yields_call (vs := [.string (sb a.key)]) rfl rfl (enters_wholekey _ _) (whole_any _ W)⟩
          · exact .inl ⟨rfl, fun W hb => yields_bin rfl rfl rfl (eqGuard_am W _ _) (eql_am W h1)⟩
          · exact .inl ⟨rfl, fun W hb => yields_move rfl rfl⟩
          · exact .inl ⟨rfl, fun W hb => yields_load rfl rfl (load_amr (hM1.below hb hM1.lt))⟩
          · exact .inl ⟨rfl, fun W hb => yields_load rfl rfl (load_ev_run (hA3.below hb hA3.lt) ha16)⟩
          · exact .inl ⟨rfl, fun W hb => yields_call (vs := [.agg (evc a)]) rfl rfl (enters_aimat _ _) (aimat_any _ ha16 W)⟩
          · exact .inl ⟨rfl, fun W hb => yields_bin rfl rfl rfl (eqGuard_am W _ _) (eql_am W rfl)⟩
          · exact .inl ⟨rfl, fun W hb => yields_pick (b := false) rfl rfl rfl⟩
          · exact .inl ⟨rfl, fun W hb => yields_pick (b := true) rfl rfl rfl⟩
          · exact .inl ⟨rfl, fun W hb => yields_assign rfl rfl⟩
          intro w4 hb4
          have HB4 : Hid (Below w.heap.size w w4) := HB3.out.trans (hb4.mono HB3.out.size)
          clear hb4 HB3 hM1 hA3
          go_wp2
          go_ret
          exact ⟨by rw [HR2.out]; rfl, HB4.out⟩
      · have HR3 : Hid (endsE b a = _) := HR.out.trans (meets_no hok)
        rw [hok]
        refine region_vals [24, 25, 26, 27, 28, 29, 30, 31, 32, 33, 34, 35, 36, 37, 38, 4] [.bool false, .bool false, undef, undef, undef, undef, undef, undef, undef, undef, undef, undef, undef, undef, .bool false, .bool false] _ (by kernel_rfl) (by kernel_rfl) (by rfl) (by decide) (by kernel_rfl) (by simp only [lay, Act.put, List.setIfInBounds_toArray, List.set_cons_zero, List.set_cons_succ, List.getD_cons_zero, List.getD_cons_succ, Nat.reduceAdd]; rfl) ⟨?_, ?_, ?_, ?_, ?_, ?_, ?_, ?_, ?_, ?_, ?_, ?_, ?_, ?_, ?_, ?_, trivial⟩ ?_
        · exact .inl ⟨rfl, fun W hb => yields_move rfl rfl⟩
        · exact .inl ⟨rfl, fun W hb => yields_move rfl rfl⟩
        · exact .inr ⟨rfl, rfl⟩
        · exact .inr ⟨rfl, rfl⟩
        · exact .inr ⟨rfl, rfl⟩
        · exact .inr ⟨rfl, rfl⟩
        · exact .inr ⟨rfl, rfl⟩
        · exact .inr ⟨rfl, rfl⟩
        · exact .inr ⟨rfl, rfl⟩
        · exact .inr ⟨rfl, rfl⟩
        · exact .inr ⟨rfl, rfl⟩
        · exact .inr ⟨rfl, rfl⟩
        · exact .inr ⟨rfl, rfl⟩
        · exact .inr ⟨rfl, rfl⟩
        · exact .inl ⟨rfl, fun W hb => yields_pick (b := false) rfl rfl rfl⟩
        · exact .inl ⟨rfl, fun W hb => yields_assign rfl rfl⟩
        intro w4 hb4
        have HB4 : Hid (Below w.heap.size w w4) := HB3.out.trans (hb4.mono HB3.out.size)
        clear hb4 HB3 hM1 hA3
        go_wp2
        go_ret
        exact ⟨by rw [HR3.out]; rfl, HB4.out⟩
    · have HR : Hid (endsE b a = false) := by show _ = _; unfold endsE; rw [hc]; rfl
      rw [hc]
      clear hb' ha'
      go_wp2
      go_ret
      exact ⟨by rw [HR.out]; rfl, HB1.out⟩
  · have HR : Hid (endsE b a = false) := by show _ = _; unfold endsE; rw [hadd]; simp
    rw [hadd]
    clear hb ha
    go_wp2
    go_ret
    exact ⟨by rw [HR.out]; rfl, HB.out⟩
end Go.Proofs.YtmlfekbmbnfkjabGreatDoor

/-
  Pieces of lists, and lists that are laid anew.
-/
namespace Go.Proofs.YtmlfekbmbnfkjabGreatDoor
set_option maxRecDepth 100000
set_option maxRecDepth 100000
open Go.RowKit

/-- From a place on. -/
def dropA (ao : Option Addr) (c k : Nat) : Option Addr := if c = k then ao else ao.map (·.add (k * 26))
theorem Evs.drop {w : World} {ao : Option Addr} {m c : Nat} {E : List Ev} (h : Evs w ao m c E) {k : Nat} (hk : k ≤ m) : Evs w (dropA ao c k) (m - k) (c - k) (E.drop k) := by
  have hl := h.len
  have hr := h.room
  have ht := h.top
  refine ⟨by rw [List.length_drop]; omega, by omega, by omega, fun e => ?_, fun ad ha j u hu => ?_, fun e he => h.wide e (List.mem_of_mem_drop he)⟩
  · have : ao = none := by
      unfold dropA at e
      split at e
      · exact e
      · cases ao with
        | none => rfl
        | some _ => cases e
    have := h.zero this
    omega
  · have hlen : (evs (E.take k)).length = k * 26 := by
      rw [evs_length (fun e he => h.wide e (List.mem_of_mem_take he)), List.length_take]
      congr 1
      omega
    have e1 : evs E = evs (E.take k) ++ evs (E.drop k) := by rw [← evs_append, List.take_append_drop]
    have hjl := (List.getElem?_eq_some_iff.1 hu).1
    have hu2 : (evs E)[k * 26 + j]? = some u := by
      rw [e1, List.getElem?_append_right (by omega), hlen, show k * 26 + j - k * 26 = j by omega]
      exact hu
    by_cases hck : c = k
    · have : E.drop k = [] := List.drop_eq_nil_of_le (by omega)
      rw [this] at hu
      cases hu
    · unfold dropA at ha
      rw [if_neg hck] at ha
      cases ao with
      | none => cases ha
      | some a0 =>
        have ha' : a0.add (k * 26) = ad := by simpa using ha
        rw [← ha', Go.Deep.add_add]
        exact h.cells a0 rfl _ _ hu2
end Go.Proofs.YtmlfekbmbnfkjabGreatDoor

/-
  What slices.DeleteFunc of events comes to.
-/
namespace Go.Proofs.YtmlfekbmbnfkjabGreatDoor
set_option maxRecDepth 100000
set_option maxRecDepth 100000
open Go.RowKit Go.Shelf Go.Sort

/-! A row that is stored into. -/
theorem heap_setCells_same {g : Nat} {t : TypeId} : ∀ (vs : List Value) (o : Nat) (w : World) (cur : Array Value), w.heap[g]? = some (.cells cur t (0, 0)) → (w.setCells g o vs).heap[g]? = some (.cells (setMany cur o vs) t (0, 0))
  | [], _, _, _, h => h
  | v :: vs, o, w, cur, h => heap_setCells_same vs (o + 1) (w.setCell ⟨g, o, none⟩ v) (cur.setIfInBounds o v) (heap_setCell_same w g o cur t v h)
theorem get_take {cur : Array Value} {N : Nat} {L : List Value} (h : cur.toList.take N = L) {t : Nat} (ht : t < N) : cur[t]? = L[t]? := by
  rw [← h, List.getElem?_take_of_lt ht, Array.getElem?_toList]
def bad (x : Int) (u : Ev) : Bool := typE u.kind != x
/-- On the way: what is kept lies ahead, the rest as it was. -/
structure Cmpd (x : Int) (L R : List Ev) (i j : Nat) : Prop where
  len : R.length = L.length
  front : R.take i = (L.take j).filter (fun u => !bad x u)
  back : ∀ q, j ≤ q → R[q]? = L[q]?
  le : i < j
theorem Cmpd.start {x : Int} {L : List Ev} {i : Nat} {u : Ev} (h1 : ∀ u ∈ L.take i, bad x u = false) (h2 : L[i]? = some u) (h3 : bad x u = true) : Cmpd x L L i (i + 1) := by
  refine ⟨rfl, ?_, fun _ _ => rfl, by omega⟩
  rw [take_snoc h2, List.filter_append, List.filter_cons, h3, List.filter_nil]
  simp only [Bool.not_true, Bool.false_eq_true, if_false, List.append_nil]
  exact (List.filter_eq_self.2 (fun v hv => by rw [h1 v hv]; rfl)).symm
theorem Cmpd.drop {x : Int} {L R : List Ev} {i j : Nat} {u : Ev} (h : Cmpd x L R i j) (hu : L[j]? = some u) (hb : bad x u = true) : Cmpd x L R i (j + 1) := by
  have hle := h.le
  refine ⟨h.len, ?_, fun q hq => h.back q (by omega), by omega⟩
  rw [take_snoc hu, List.filter_append, List.filter_cons, hb, List.filter_nil]
  simp only [Bool.not_true, Bool.false_eq_true, if_false, List.append_nil]
  exact h.front
theorem Cmpd.keep {x : Int} {L R : List Ev} {i j : Nat} {u : Ev} (h : Cmpd x L R i j) (hj : j < L.length) (hu : L[j]? = some u) (hb : bad x u = false) : Cmpd x L (R.set i u) (i + 1) (j + 1) := by
  have hl := h.len
  have hle := h.le
  refine ⟨by rw [List.length_set]; exact h.len, ?_, fun q hq => ?_, by omega⟩
  · have hi : (R.set i u)[i]? = some u := List.getElem?_set_self (by omega)
    rw [take_snoc hi, take_snoc hu, List.filter_append, List.filter_cons, hb, List.filter_nil, ← h.front]
    simp only [Bool.not_false, if_true]
    congr 1
    rw [List.take_set_of_le (Nat.le_refl _)]
  · rw [List.getElem?_set_ne (by omega)]
    exact h.back q (by omega)
theorem Cmpd.all {x : Int} {L R : List Ev} {i j : Nat} (h : Cmpd x L R i j) (hj : L.length ≤ j) : R.take i = L.filter (fun u => !bad x u) := by
  rw [h.front, List.take_of_length_le hj]
theorem Cmpd.wide {x : Int} {L R : List Ev} {i j : Nat} {u : Ev} (_h : Cmpd x L R i j) (hR : ∀ e ∈ R, Wide e) (hu : Wide u) : ∀ e ∈ R.set i u, Wide e := fun e he => (List.mem_or_eq_of_mem_set he).elim (hR e) (fun e1 => e1 ▸ hu)
end Go.Proofs.YtmlfekbmbnfkjabGreatDoor

/-
  What slices.DeleteFunc of events comes to, whole; what Of comes to.
-/
namespace Go.Proofs.YtmlfekbmbnfkjabGreatDoor
set_option maxRecDepth 100000
set_option maxRecDepth 100000
open Go.RowKit Go.Shelf Go.Sort

theorem below_put {B b : Nat} {a : World} (hb : B ≤ b) : ∀ (vs : List Value) (o : Nat) (w : World), Below B a w → Below B a (w.setCells b o vs)
  | [], _, _, h => h
  | v :: r, o, _, h => below_put hb r (o + 1) _ (h.setCell (p := ⟨b, o, none⟩) hb v)
end Go.Proofs.YtmlfekbmbnfkjabGreatDoor

/-
  The latest one of events, plainly.
-/
namespace Go.Proofs.YtmlfekbmbnfkjabGreatDoor
set_option maxRecDepth 100000
set_option maxRecDepth 100000

theorem lt_iff (b a : Ev) : laterE b a = true ↔ a.t < b.t ∨ (a.t = b.t ∧ (a.r < b.r ∨ (a.r = b.r ∧ a.n < b.n))) := by
  unfold laterE
  split
  · simp; omega
  · split
    · simp; omega
    · simp; omega
theorem lt_no (b a : Ev) : laterE b a = false ↔ ¬ (a.t < b.t ∨ (a.t = b.t ∧ (a.r < b.r ∨ (a.r = b.r ∧ a.n < b.n)))) := by
  rw [← lt_iff]; cases laterE b a <;> simp
theorem lt_tr {a b c : Ev} (h1 : laterE a b = true) (h2 : laterE b c = true) : laterE a c = true := by
  rw [lt_iff] at *; omega
theorem lt_self (a : Ev) : laterE a a = false := by rw [lt_no]; omega

/-- One more is seen. -/
def stepL (p : Ev → Bool) (o : Option Ev) (e : Ev) : Option Ev :=
  match p e, o with
  | false, o => o
  | true, none => some e
  | true, some a => if laterE e a then some e else some a
/-- The latest one of those that count. -/
def latL (p : Ev → Bool) (E : List Ev) : Option Ev := E.foldl (stepL p) none
theorem latL_snoc (p : Ev → Bool) (E : List Ev) (u : Ev) : latL p (E ++ [u]) = stepL p (latL p E) u := by
  unfold latL; rw [List.foldl_append]; rfl
theorem latL_take {p : Ev → Bool} {E : List Ev} {i : Nat} {u : Ev} (h : E[i]? = some u) : latL p (E.take (i + 1)) = stepL p (latL p (E.take i)) u := by
  rw [take_snoc h, latL_snoc]
theorem snoc_ind {α : Type} {P : List α → Prop} (h0 : P []) (h1 : ∀ l a, P l → P (l ++ [a])) (l : List α) : P l := by
  have : ∀ r : List α, P r.reverse := fun r => by
    induction r with
    | nil => exact h0
    | cons a r ih => rw [List.reverse_cons]; exact h1 _ _ ih
  have h := this l.reverse
  rwa [List.reverse_reverse] at h
/-- What it is: the first of those than which none is later. -/
def IsLat (p : Ev → Bool) (E : List Ev) : Option Ev → Prop
  | none => ∀ e ∈ E, p e = false
  | some a => ∃ A B, E = A ++ a :: B ∧ p a = true ∧ (∀ x ∈ A, p x = true → laterE a x = true) ∧ (∀ x ∈ B, p x = true → laterE x a = false)
theorem latL_is (p : Ev → Bool) (E : List Ev) : IsLat p E (latL p E) := by
  induction E using snoc_ind with
  | h0 => intro e he; cases he
  | h1 E u ih =>
    rw [latL_snoc]
    cases hp : p u with
    | false =>
      have e1 : stepL p (latL p E) u = latL p E := by simp [stepL, hp]
      rw [e1]
      cases ho : latL p E with
      | none =>
        rw [ho] at ih
        intro e he
        rcases List.mem_append.1 he with h | h
        · exact ih e h
        · rw [List.mem_singleton.1 h]; exact hp
      | some a =>
        rw [ho] at ih
        obtain ⟨A, B, h1, h2, h3, h4⟩ := ih
        refine ⟨A, B ++ [u], by rw [h1]; simp, h2, h3, fun x hx hpx => ?_⟩
        rcases List.mem_append.1 hx with h | h
        · exact h4 x h hpx
        · rw [List.mem_singleton.1 h, hp] at hpx; cases hpx
    | true =>
      cases ho : latL p E with
      | none =>
        have e1 : stepL p none u = some u := by simp [stepL, hp]
        rw [ho] at ih
        rw [e1]
        refine ⟨E, [], rfl, hp, fun x hx hpx => ?_, by simp⟩
        rw [ih x hx] at hpx
        cases hpx
      | some a =>
        rw [ho] at ih
        obtain ⟨A, B, h1, h2, h3, h4⟩ := ih
        cases hl : laterE u a with
        | true =>
          have e1 : stepL p (some a) u = some u := by simp [stepL, hp, hl]
          rw [e1]
          refine ⟨E, [], rfl, hp, fun x hx hpx => ?_, by simp⟩
          rw [h1] at hx
          rcases List.mem_append.1 hx with h | h
          · exact lt_tr hl (h3 x h hpx)
          · rcases List.mem_cons.1 h with rfl | h
            · exact hl
            · have := h4 x h hpx
              rw [lt_no] at this; rw [lt_iff] at *; omega
        | false =>
          have e1 : stepL p (some a) u = some a := by simp [stepL, hp, hl]
          rw [e1]
          refine ⟨A, B ++ [u], by rw [h1]; simp, h2, h3, fun x hx hpx => ?_⟩
          rcases List.mem_append.1 hx with h | h
          · exact h4 x h hpx
          · rw [List.mem_singleton.1 h]; exact hl
/-- All others are no later. -/
theorem IsLat.top {p : Ev → Bool} {E : List Ev} {a : Ev} (h : IsLat p E (some a)) : a ∈ E ∧ p a = true ∧ ∀ x ∈ E, p x = true → laterE x a = false := by
  obtain ⟨A, B, rfl, h2, h3, h4⟩ := h
  refine ⟨by simp, h2, fun x hx hpx => ?_⟩
  rcases List.mem_append.1 hx with h | h
  · have := h3 x h hpx
    rw [lt_no]; rw [lt_iff] at this; omega
  · rcases List.mem_cons.1 h with rfl | h
    · exact lt_self x
    · exact h4 x h hpx
theorem lat_mem {p : Ev → Bool} {E : List Ev} {a : Ev} (h : latL p E = some a) : a ∈ E := by
  have := latL_is p E
  rw [h] at this
  exact this.top.1
theorem lat_top {p : Ev → Bool} {E : List Ev} {a : Ev} (h : latL p E = some a) : p a = true ∧ ∀ x ∈ E, p x = true → laterE x a = false := by
  have := latL_is p E
  rw [h] at this
  exact this.top.2
theorem lat_none {p : Ev → Bool} {E : List Ev} (h : latL p E = none) : ∀ x ∈ E, p x = false := by
  have := latL_is p E
  rw [h] at this
  exact this
/-- The event that is told. -/
def orz (o : Option Ev) : Ev := o.getD zv
end Go.Proofs.YtmlfekbmbnfkjabGreatDoor

/-
  What reg's isAny, isSet, latestOf, Latest and Value come to.
-/
namespace Go.Proofs.YtmlfekbmbnfkjabGreatDoor
set_option maxRecDepth 100000
set_option maxRecDepth 100000
open Go.RowKit

end Go.Proofs.YtmlfekbmbnfkjabGreatDoor

/-
  Tallies, plain: what an event adds, what a list's events add, all together and each replica's.
-/
namespace Go.Proofs.YtmlfekbmbnfkjabGreatDoor
set_option maxRecDepth 100000
namespace T12

/-- What an event adds. -/
def oneE (e : Ev) : Int := if e.kind = 2 then max (-1099511627776) (min e.num 1099511627776) else 0
theorem oneE_not {e : Ev} (h : e.kind ≠ 2) : oneE e = 0 := by simp [oneE, h]
theorem oneE_is {e : Ev} (h : e.kind = 2) : oneE e = max (-1099511627776) (min e.num 1099511627776) := by simp [oneE, h]

/-- What a replica's add. -/
def ofE (r : Int) : List Ev → Int
  | [] => 0
  | e :: E => (if e.r = r then oneE e else 0) + ofE r E
end T12
end Go.Proofs.YtmlfekbmbnfkjabGreatDoor

/-
  What the reference's All comes to.
-/
namespace Go.Proofs.YtmlfekbmbnfkjabGreatDoor
set_option maxRecDepth 100000
set_option maxRecDepth 100000
open Go.RowKit

end Go.Proofs.YtmlfekbmbnfkjabGreatDoor

/-
  Lists of events that are alike: what Same comes to.
-/
namespace Go.Proofs.YtmlfekbmbnfkjabGreatDoor
set_option maxRecDepth 100000
set_option maxRecDepth 100000
open Go.RowKit

end Go.Proofs.YtmlfekbmbnfkjabGreatDoor

/-
  What the reference's Latest and Value come to.
-/
namespace Go.Proofs.YtmlfekbmbnfkjabGreatDoor
set_option maxRecDepth 100000
set_option maxRecDepth 100000
open Go.RowKit

end Go.Proofs.YtmlfekbmbnfkjabGreatDoor

/-
  Fields and their values, plainly.
-/
namespace Go.Proofs.YtmlfekbmbnfkjabGreatDoor
set_option maxRecDepth 100000
namespace T14
set_option maxRecDepth 100000

/-- A field and its value. -/
abbrev Pr := List UInt8 × List UInt8
end T14
end Go.Proofs.YtmlfekbmbnfkjabGreatDoor

/-
  Lists of events that are built: of none, of two.
-/
namespace Go.Proofs.YtmlfekbmbnfkjabGreatDoor
set_option maxRecDepth 100000
set_option maxRecDepth 100000
open Go.RowKit

end Go.Proofs.YtmlfekbmbnfkjabGreatDoor

/-
  Members and their scores, plainly.
-/
namespace Go.Proofs.YtmlfekbmbnfkjabGreatDoor
set_option maxRecDepth 100000
namespace T15
set_option maxRecDepth 100000

/-- It gives a member its score. -/
def zsE (u : Ev) : Bool := decide (u.kind = 7)
/-- It gives this one its score. -/
def selZ (s : List UInt8) (u : Ev) : Bool := zsE u && decide (u.field = s)
def fldZ (E : List Ev) : List (List UInt8) := (E.filter zsE).map fun e => e.field
def lastZ (E : List Ev) (s : List UInt8) : Option Ev := latL (selZ s) E
def okZ (E : List Ev) (s : List UInt8) : Bool := (lastZ E s).isSome

theorem fldZ_take {E : List Ev} {i : Nat} {u : Ev} (h : E[i]? = some u) : fldZ (E.take (i + 1)) = if zsE u then fldZ (E.take i) ++ [u.field] else fldZ (E.take i) := by
  unfold fldZ
  rw [take_snoc h, List.filter_append, List.map_append]
  by_cases hu : zsE u = true
  · simp [hu]
  · simp [hu]
theorem fldZ_mem {E : List Ev} {s : List UInt8} : s ∈ fldZ E ↔ ∃ e ∈ E, selZ s e = true := by
  unfold fldZ selZ
  simp only [List.mem_map, List.mem_filter, Bool.and_eq_true, decide_eq_true_eq]
  exact ⟨fun ⟨e, ⟨h1, h2⟩, h3⟩ => ⟨e, h1, h2, h3⟩, fun ⟨e, h1, h2, h3⟩ => ⟨e, ⟨h1, h2⟩, h3⟩⟩
theorem okZ_iff (E : List Ev) (s : List UInt8) : okZ E s = true ↔ s ∈ fldZ E := by
  unfold okZ lastZ
  rw [fldZ_mem]
  cases h : latL (selZ s) E with
  | none =>
    have hn := lat_none h
    refine ⟨fun hh => (by cases hh), fun ⟨e, he, hs⟩ => ?_⟩
    rw [hn e he] at hs
    cases hs
  | some a => exact ⟨fun _ => ⟨a, lat_mem h, (lat_top h).1⟩, fun _ => rfl⟩
theorem okZ_no {E : List Ev} {s : List UInt8} (h : okZ E s = false) : lastZ E s = none := by
  unfold okZ at h
  cases h1 : lastZ E s with
  | none => rfl
  | some a => rw [h1] at h; cases h
theorem okZ_yes {E : List Ev} {s : List UInt8} (h : okZ E s = true) : lastZ E s = some (orz (lastZ E s)) := by
  unfold okZ at h
  cases h1 : lastZ E s with
  | none => rw [h1] at h; cases h
  | some a => rfl
theorem lastZ_other {E : List Ev} {i : Nat} {u : Ev} (h : E[i]? = some u) {s : List UInt8} (hs : ¬ s = u.field) : lastZ (E.take (i + 1)) s = lastZ (E.take i) s := by
  unfold lastZ
  rw [latL_take h]
  have : selZ s u = false := by unfold selZ; rw [decide_eq_false (fun e => hs e.symm), Bool.and_false]
  unfold stepL
  rw [this]
theorem selZ_own {u : Ev} (hz : zsE u = true) : selZ u.field u = true := by unfold selZ; rw [hz]; simp
theorem lastZ_new {E : List Ev} {i : Nat} {u : Ev} (h : E[i]? = some u) (hz : zsE u = true) (ho : okZ (E.take i) u.field = false) : lastZ (E.take (i + 1)) u.field = some u := by
  have h1 := okZ_no ho
  unfold lastZ at h1 ⊢
  rw [latL_take h, h1]
  unfold stepL
  rw [selZ_own hz]
theorem lastZ_more {E : List Ev} {i : Nat} {u : Ev} (h : E[i]? = some u) (hz : zsE u = true) (ho : okZ (E.take i) u.field = true) : lastZ (E.take (i + 1)) u.field = if laterE u (orz (lastZ (E.take i) u.field)) then some u else lastZ (E.take i) u.field := by
  have h1 := okZ_yes ho
  generalize orz (lastZ (E.take i) u.field) = a at *
  unfold lastZ at h1 ⊢
  rw [latL_take h, h1]
  unfold stepL
  rw [selZ_own hz]
/-- What the map tells: it is turned, or it stays. -/
theorem tellZ_put {E : List Ev} {i : Nat} {u : Ev} (h : E[i]? = some u) (hz : zsE u = true) (ho : okZ (E.take i) u.field = false ∨ laterE u (orz (lastZ (E.take i) u.field)) = true) : (fun s => orz (lastZ (E.take (i + 1)) s)) = fun s => if s = u.field then u else orz (lastZ (E.take i) s) := by
  funext s
  by_cases hs : s = u.field
  · subst hs
    rw [if_pos rfl]
    cases hk : okZ (E.take i) u.field with
    | false => rw [lastZ_new h hz hk]; rfl
    | true =>
      rcases ho with ho | ho
      · rw [hk] at ho; cases ho
      · rw [lastZ_more h hz hk, if_pos ho]; rfl
  · rw [if_neg hs, lastZ_other h hs]
/-! A member and its score; their order. -/
abbrev Pr := List UInt8 × Int
def Bef (a b : Pr) : Prop := a.2 < b.2 ∨ (a.2 = b.2 ∧ a.1 < b.1)
instance (a b : Pr) : Decidable (Bef a b) := inferInstanceAs (Decidable (_ ∨ _))
theorem bef_irrefl (a : Pr) : ¬ Bef a a := fun h => by
  rcases h with h | h
  · omega
  · exact List.lt_irrefl _ h.2
theorem bef_trans {a b c : Pr} (h1 : Bef a b) (h2 : Bef b c) : Bef a c := by
  unfold Bef at *
  rcases h1 with h1 | ⟨h1, h1'⟩ <;> rcases h2 with h2 | ⟨h2, h2'⟩
  · exact .inl (by omega)
  · exact .inl (by omega)
  · exact .inl (by omega)
  · exact .inr ⟨by omega, List.lt_trans h1' h2'⟩
end T15
end Go.Proofs.YtmlfekbmbnfkjabGreatDoor

