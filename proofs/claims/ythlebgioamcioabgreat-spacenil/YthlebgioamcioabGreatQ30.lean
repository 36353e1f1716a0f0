/-
  What All comes to: the live events in the stable order of their times.
-/
import Derived.Test.YthlebgioamcioabGreatQ25
import Derived.Test.YthlebgioamcioabGreatQ29
import Derived.Deep.CutRange
import Derived.Test.YthlebgioamcioabGreatQ24
import Derived.Test.YthlebgioamcioabGreatQ23
import Derived.Test.YthlebgioamcioabGreatQ08
import Derived.Test.YthlebgioamcioabGreatQ10
namespace Go.Proofs.YthlebgioamcioabGreat
set_option maxRecDepth 100000
set_option maxRecDepth 100000
open Go.RowKit

theorem Row.own {w : World} {base : Nat} {v : Value} {E : List Ev} (h : Row w base v E) : ∀ k, v.ownBlock = some k → base ≤ k := by
  intro k hk
  rcases h.2 with ⟨rfl, -⟩ | ⟨g, cap, cur, rfl, hbg, -⟩
  · cases hk
  · simp only [Value.ownBlock, Option.some.injEq] at hk
    omega
theorem build_ev1 {ops : Array Oper} {rest : List Oper} {o : Oper} {a : Act} {w : World} {Q : Exit → Act → World → Prop} {x : Operand} {u : Ev} (hw : Region.wanted o (yielded ops a.tmps) = true) (ho : o.op = .buildSlice 32 1 #[(0, x)]) (hx : a.eval x = .agg (evc u)) (hu : u.deps.length = 16)
    (h : wpList Tryz.prog ops Q rest (a.put o.dst (.slice (some ⟨w.heap.size, 0, none⟩) 1 1)) (w.alloc (.cells (evc u) 29))) : wpList Tryz.prog ops Q (o :: rest) a w :=
  wpList_step fun K hK => by
    rw [if_pos hw]
    have hr := run_build1 w u hu
    unfold Oper.wp execOp
    simp only [ho, List.map_toArray, List.map_cons, List.map_nil, hx, Sem.run_bind, Sem.run_pure, Result.andThen_ok, hr]
    exact hK _ _ h
def liveTo (E : List Ev) (i : Nat) : List Ev := (E.take i).filter (isLive E)
theorem liveTo_zero (E : List Ev) : liveTo E 0 = [] := rfl
theorem liveTo_succ {E : List Ev} {i : Nat} {u : Ev} (h : E[i]? = some u) : liveTo E (i + 1) = if isLive E u then liveTo E i ++ [u] else liveTo E i := by
  unfold liveTo
  rw [take_snoc h, List.filter_append, List.filter_cons, List.filter_nil]
  split <;> simp
theorem liveTo_all {E : List Ev} {m : Nat} (h : E.length ≤ m) : liveTo E m = liveE E := by
  unfold liveTo liveE
  rw [List.take_of_length_le h]
theorem liveTo_len (E : List Ev) (i : Nat) : (liveTo E i).length ≤ i := by
  unfold liveTo
  have := List.length_filter_le (isLive E) (E.take i)
  have := List.length_take_le i E
  omega
theorem liveTo_mem {E : List Ev} {i : Nat} {e : Ev} (h : e ∈ liveTo E i) : e ∈ E := List.mem_of_mem_take (List.mem_filter.1 h).1
theorem live_is {E : List Ev} {u : Ev} (h : addsE u.kind = true) : isLive E u = !(hasv (seenF E (wholeE u.key)) u.r u.n || hasv (seenF E (aimAtE u)) u.r u.n) := by
  unfold isLive
  rw [ended_is E u h, h, Bool.true_and]

set_option maxHeartbeats 4000000 in
theorem all_any (ao : Option Addr) (m c : Nat) (E : List Ev) (w : World) (hE : Evs w ao m c E) (hm : m ≤ 1000) :
    Calls Tryz.prog 94 #[.slice ao m c] w fun e w' => ∃ v, e = .returned v ∧ Row w' w.heap.size v (allE E) ∧ Below w.heap.size w w' := by
  have hlen := hE.len
  have hwide : Hid (∀ e ∈ E, Wide e) := hE.wide
  go_enter Tryz.func94, Tryz.ntmps94
  go_wp2_with fail
  refine (seenby_any ao m c E w hE (by omega)).mono ?_
  rintro e w1 ⟨rfl, hMap, hb1⟩
  have HE : Aside (Evs w1 ao m c E) := hE.below hb1 (Nat.le_refl _)
  have HM : Aside (Mpa w1 w.heap.size (seenF E)) := hMap
  have HB1 : Hid (Below w.heap.size w w1) := hb1
  have hs1 : w.heap.size < w1.heap.size := hMap.lt
  clear hE hb1 hMap
  have H0 : Aside (Row w1 w1.heap.size (.slice none 0 0) (liveTo E 0) ∧ Below w1.heap.size w1 w1) := ⟨row_nil _ _, Below.refl _ _⟩
  go_wp2
  go_loopg [4, 11] m (fun kx s4 s11 wr => ∃ i : Nat, s11 = .int .i64 i ∧ i ≤ m ∧ m - i ≤ kx ∧ Aside (Row wr w1.heap.size s4 (liveTo E i) ∧ Below w1.heap.size w1 wr))
  case atStart => exact ⟨0, rfl, Nat.zero_le _, by omega, H0⟩
  case round =>
    clear H0
    obtain ⟨i, rfl, him, hkx, HS⟩ := hrel
    by_cases hlt : i < m
    · have hltz : (i : Int) < (m : Int) := by omega
      obtain ⟨b, off, u, rfl, hui, hu, hr, hbl⟩ := (HE.out.below HS.out.2 (Nat.le_refl _)).at hlt
      have hu16 := hu.1
      have hix := fun W : World => index_ev W (b := b) (off := off) (k := i) (m := m) (c := c) hlt
      have hsz : w1.heap.size ≤ wr.heap.size := HS.out.2.size
      have hz := liesE_new wr zv
      have hE1 : LiesE ((wr.alloc (.cells (evc zv) 29)).setRow wr.heap.size (evc u)) wr.heap.size u := hz.row u
      have hB1 : Below wr.heap.size wr ((wr.alloc (.cells (evc zv) 29)).setRow wr.heap.size (evc u)) := below_setRow ((Below.refl _ _).alloc (Nat.le_refl _) _) (Nat.le_refl _) _
      have HS1 : Aside (Row ((wr.alloc (.cells (evc zv) 29)).setRow wr.heap.size (evc u)) w1.heap.size u4 (liveTo E i) ∧ Below w1.heap.size w1 ((wr.alloc (.cells (evc zv) 29)).setRow wr.heap.size (evc u)) ∧ LiesE ((wr.alloc (.cells (evc zv) 29)).setRow wr.heap.size (evc u)) wr.heap.size u) :=
        ⟨HS.out.1.below hB1 (Nat.le_refl _), HS.out.2.trans (hB1.mono hsz), hE1⟩
      clear hB1
      go_upto_region 6 with (first | refine load_ev_mid rfl rfl rfl hr hu16 ?_ | refine store_ev rfl rfl rfl rfl hz hu16 rfl ?_)
      change Code.wp _ _ _ _ ((wr.alloc (.cells (evc zv) 29)).setRow wr.heap.size (evc u))
      clear hE1 hz hr hix HS hbl
      generalize (wr.alloc (.cells (evc zv) 29)).setRow wr.heap.size (evc u) = W at HS1 ⊢
      generalize wr.heap.size = D at *
      have hE1 := HS1.out.2.2
      have c19 := hE1.c19 hu16
      have HSN : Hid (liveTo E (i + 1) = if isLive E u then liveTo E i ++ [u] else liveTo E i) := liveTo_succ hui
      go_wp2_with fail
      refine (adds_any u.kind W).mono ?_
      rintro e wx ⟨rfl, hwx⟩
      obtain rfl := hwx.symm
      clear hwx c19
      rcases Bool.eq_false_or_eq_true (addsE u.kind) with ha | ha
      · have hlive : Hid (isLive E u = !(hasv (seenF E (wholeE u.key)) u.r u.n || hasv (seenF E (aimAtE u)) u.r u.n)) := live_is ha
        rw [ha]
        go_wp2_with (refine load_ev rfl rfl rfl hE1 hu16 ?_)
        refine (ended_any u hu16 w.heap.size (seenF E) W (HM.out.below HS1.out.2.1 hs1)).mono ?_
        rintro e w3 ⟨rfl, hb3⟩
        have HS3 : Aside (Row w3 w1.heap.size u4 (liveTo E i) ∧ Below w1.heap.size w1 w3 ∧ LiesE w3 D u) := ⟨HS1.out.1.below hb3 (Nat.le_refl _), HS1.out.2.1.trans (hb3.mono HS1.out.2.1.size), hE1.below hb3 hE1.lt⟩
        clear hb3 hE1 HS1
        generalize (hasv (seenF E (wholeE u.key)) u.r u.n || hasv (seenF E (aimAtE u)) u.r u.n) = t at *
        cases t with
        | true =>
          have HS4 : Aside (Row w3 w1.heap.size u4 (liveTo E (i + 1)) ∧ Below w1.heap.size w1 w3) := ⟨by rw [HSN.out, hlive.out]; exact HS3.out.1, HS3.out.2.1⟩
          clear HS3 HSN hlive
          go_wp2
          go_roundg (m - (i + 1))
          case measure => omega
          case rel => exact ⟨i + 1, by go_num, by omega, Nat.le_refl _, HS4⟩
        | false =>
          have hE3 := HS3.out.2.2
          have hRow : Row (w3.alloc (.cells (evc u) 29)) w1.heap.size u4 (liveTo E i) := HS3.out.1.below ((Below.refl _ _).alloc (Nat.le_refl _) _) (Nat.le_refl _)
          have hF : Evs (w3.alloc (.cells (evc u) 29)) (some ⟨w3.heap.size, 0, none⟩) 1 1 [u] := evs_single _ _ u hu (liesE_new w3 u)
          have hll := liveTo_len E i
          have hle : w1.heap.size ≤ (w3.alloc (.cells (evc u) 29)).heap.size := by have := HS3.out.2.1.size; simp; omega
          have HB3 : Hid (Below w1.heap.size w1 (w3.alloc (.cells (evc u) 29))) := HS3.out.2.1.alloc HS3.out.2.1.size _
          clear HS3
          go_wp2_with (first | refine load_ev rfl rfl rfl hE3 hu16 ?_ | refine build_ev1 rfl rfl rfl hu16 ?_ | refine wpList_appE rfl _ _ rfl w1.heap.size _ (liveTo E i) rfl hRow _ 1 1 [u] rfl hF (by omega) hle ?_)
          intro v4 w4 hR4 hg4 ho4
          have HS4 : Aside (Row w4 w1.heap.size v4 (liveTo E (i + 1)) ∧ Below w1.heap.size w1 w4) := ⟨by rw [HSN.out, hlive.out]; exact hR4, HB3.out.grown hg4 hle hRow.own⟩
          clear hR4 hg4 ho4 hRow hF hE3 HB3 HSN hlive hll hle
          go_wp2
          go_roundg (m - (i + 1))
          case measure => omega
          case rel => exact ⟨i + 1, by go_num, by omega, Nat.le_refl _, HS4⟩
      · have HS4 : Aside (Row W w1.heap.size u4 (liveTo E (i + 1)) ∧ Below w1.heap.size w1 W) := ⟨by rw [HSN.out, isLive, ha]; exact HS1.out.1, HS1.out.2.1⟩
        clear HS1 HSN hE1
        rw [ha]
        go_wp2
        go_roundg (m - (i + 1))
        case measure => omega
        case rel => exact ⟨i + 1, by go_num, by omega, Nat.le_refl _, HS4⟩
    · obtain rfl : i = m := by omega
      have HR : Aside (Row wr w1.heap.size u4 (liveE E) ∧ Below w1.heap.size w1 wr) := by
        have := HS.out
        rw [liveTo_all (by omega)] at this
        exact this
      clear HS
      go_wp2_with fail
      refine (sortst_any u4 (liveE E) w1.heap.size wr HR.out.1 (fun e he => hwide.out e (List.mem_filter.1 he).1) (by have : (liveE E).length ≤ E.length := List.length_filter_le _ _; omega)).mono ?_
      rintro e w5 ⟨rfl, hR5, hg5⟩
      have H5 : Hid (Row w5 w.heap.size u4 (allE E) ∧ Below w.heap.size w w5) := by
        have hb5 : Below w1.heap.size w1 w5 := HR.out.2.grown hg5 HR.out.2.size HR.out.1.own
        exact ⟨hR5.lower (by omega), HB1.out.trans (hb5.mono (by omega))⟩
      clear hR5 hg5 HR
      go_wp2
      go_ret
      exact ⟨_, rfl, H5.out⟩
end Go.Proofs.YthlebgioamcioabGreat

/-
  What typeOf, latestType, ofKey and Type come to.
-/
namespace Go.Proofs.YthlebgioamcioabGreat
set_option maxRecDepth 100000
set_option maxRecDepth 100000
open Go.RowKit

set_option maxHeartbeats 400000 in
theorem typeof_any (k : Int) (w : World) : Calls Tryz.prog 160 #[.int .i64 k] w fun e w' => e = .returned (.int .i64 (typE k)) ∧ w' = w := by
  unfold typE
  go_enter Tryz.func160, Tryz.ntmps160
  go_wp2
  all_goals
    go_ret
    refine ⟨?_, rfl⟩
    simp_all
theorem range_at {w : World} {b k : Nat} {e : Ev} (h : w.rangeAt b k (evl e)) (hl : e.deps.length = 16) (j : Nat) : w.cell? ⟨b, k + (19 + j), none⟩ = (opl e)[j]? ∨ (opl e)[j]? = none := by
  cases hj : (opl e)[j]? with
  | none => exact .inr rfl
  | some v => exact .inl (h (19 + j) v (by rw [evl_hi hl]; exact hj))
theorem range_kind {w : World} {b k : Nat} {e : Ev} (h : w.rangeAt b k (evl e)) (hl : e.deps.length = 16) : w.cell? ⟨b, k + 19, none⟩ = some (.int .i64 e.kind) := (range_at h hl 0).resolve_right (by simp [opl])
theorem range_key {w : World} {b k : Nat} {e : Ev} (h : w.rangeAt b k (evl e)) (hl : e.deps.length = 16) : w.cell? ⟨b, k + 20, none⟩ = some (.string (sb e.key)) := (range_at h hl 1).resolve_right (by simp [opl])
theorem range_field {w : World} {b k : Nat} {e : Ev} (h : w.rangeAt b k (evl e)) (hl : e.deps.length = 16) : w.cell? ⟨b, k + 21, none⟩ = some (.string (sb e.field)) := (range_at h hl 2).resolve_right (by simp [opl])
theorem last_at {S : List Ev} {k : Nat} {u : Ev} (hl : S.length = k + 1) (h : S[k]? = some u) : lastE S = typE u.kind := by
  unfold lastE
  rw [List.getLast?_eq_getElem?, hl, Nat.add_sub_cancel, h]
set_option maxHeartbeats 400000 in
theorem latest_any (ao : Option Addr) (m c : Nat) (S : List Ev) (w : World) (hE : Evs w ao m c S) (hm : m ≤ 1000) :
    Calls Tryz.prog 93 #[.slice ao m c] w fun e w' => e = .returned (.int .i64 (lastE S)) ∧ w' = w := by
  have hlen := hE.len
  cases m with
  | zero =>
    have hS : S = [] := List.eq_nil_of_length_eq_zero hlen
    subst hS
    clear hE
    go_enter Tryz.func93, Tryz.ntmps93
    go_wp2
    go_ret
    exact ⟨rfl, rfl⟩
  | succ k =>
    obtain ⟨b, off, u, rfl, hu, hw, hr, hb⟩ := hE.at (Nat.lt_succ_self k)
    have HL : Hid (lastE S = typE u.kind) := last_at hlen hu
    have ck := range_kind hr hw.1
    have hix := fun W : World => index_ev W (b := b) (off := off) (k := k) (m := k + 1) (c := c) (Nat.lt_succ_self k)
    have hne : ¬ ((k + 1 : Nat) : Int) = 0 := by omega
    clear hE hr
    go_enter Tryz.func93, Tryz.ntmps93
    go_wp2_with fail
    refine (typeof_any u.kind w).mono ?_
    rintro e w' ⟨rfl, rfl⟩
    clear ck
    go_wp2
    go_ret
    exact ⟨by rw [HL.out]; rfl, rfl⟩

def keyTo (key : List UInt8) (E : List Ev) (i : Nat) : List Ev := ofKeyE key (E.take i)
theorem keyTo_succ {key : List UInt8} {E : List Ev} {i : Nat} {u : Ev} (h : E[i]? = some u) : keyTo key E (i + 1) = if u.key = key then keyTo key E i ++ [u] else keyTo key E i := by
  unfold keyTo ofKeyE
  rw [take_snoc h, List.filter_append, List.filter_cons, List.filter_nil]
  by_cases hk : u.key = key <;> simp [hk]
theorem keyTo_len (key : List UInt8) (E : List Ev) (i : Nat) : (keyTo key E i).length ≤ i := by
  unfold keyTo ofKeyE
  have := List.length_filter_le (fun e => decide (e.key = key)) (E.take i)
  have := List.length_take_le i E
  omega
theorem sb_beq (a b : List UInt8) : ((sb a).toList == (sb b).toList) = decide (a = b) := by
  rw [ByteArray.toList_eq, ByteArray.toList_eq, data_sb, data_sb, Bool.eq_iff_iff]
  simp
set_option maxHeartbeats 4000000 in
theorem ofkey_any (ao : Option Addr) (m c : Nat) (E : List Ev) (key : List UInt8) (w : World) (hE : Evs w ao m c E) (hm : m ≤ 1000) :
    Calls Tryz.prog 95 #[.slice ao m c, .string (sb key)] w fun e w' => ∃ v, e = .returned v ∧ Row w' w.heap.size v (ofKeyE key E) ∧ Below w.heap.size w w' := by
  have hlen := hE.len
  have HE : Aside (Evs w ao m c E) := hE
  have H0 : Aside (Row w w.heap.size (.slice none 0 0) (keyTo key E 0) ∧ Below w.heap.size w w) := ⟨row_nil _ _, Below.refl _ _⟩
  clear hE
  go_enter Tryz.func95, Tryz.ntmps95
  go_wp2
  go_loopg [5, 10] m (fun kx s5 s10 wr => ∃ i : Nat, s10 = .int .i64 i ∧ i ≤ m ∧ m - i ≤ kx ∧ Aside (Row wr w.heap.size s5 (keyTo key E i) ∧ Below w.heap.size w wr))
  case atStart => exact ⟨0, rfl, Nat.zero_le _, by omega, H0⟩
  case round =>
    clear H0
    obtain ⟨i, rfl, him, hkx, HS⟩ := hrel
    by_cases hlt : i < m
    · have hltz : (i : Int) < (m : Int) := by omega
      obtain ⟨b, off, u, rfl, hui, hu, hr, hbl⟩ := (HE.out.below HS.out.2 (Nat.le_refl _)).at hlt
      have hu16 := hu.1
      have hix := fun W : World => index_ev W (b := b) (off := off) (k := i) (m := m) (c := c) hlt
      have hsz : w.heap.size ≤ wr.heap.size := HS.out.2.size
      have hz := liesE_new wr zv
      have hE1 : LiesE ((wr.alloc (.cells (evc zv) 29)).setRow wr.heap.size (evc u)) wr.heap.size u := hz.row u
      have hB1 : Below wr.heap.size wr ((wr.alloc (.cells (evc zv) 29)).setRow wr.heap.size (evc u)) := below_setRow ((Below.refl _ _).alloc (Nat.le_refl _) _) (Nat.le_refl _) _
      have HS1 : Aside (Row ((wr.alloc (.cells (evc zv) 29)).setRow wr.heap.size (evc u)) w.heap.size u5 (keyTo key E i) ∧ Below w.heap.size w ((wr.alloc (.cells (evc zv) 29)).setRow wr.heap.size (evc u)) ∧ LiesE ((wr.alloc (.cells (evc zv) 29)).setRow wr.heap.size (evc u)) wr.heap.size u) :=
        ⟨HS.out.1.below hB1 (Nat.le_refl _), HS.out.2.trans (hB1.mono hsz), hE1⟩
      clear hB1
      go_upto_region 5 with (first | refine load_ev_mid rfl rfl rfl hr hu16 ?_ | refine store_ev rfl rfl rfl rfl hz hu16 rfl ?_)
      change Code.wp _ _ _ _ ((wr.alloc (.cells (evc zv) 29)).setRow wr.heap.size (evc u))
      clear hE1 hz hr hix HS hbl
      generalize (wr.alloc (.cells (evc zv) 29)).setRow wr.heap.size (evc u) = W at HS1 ⊢
      generalize wr.heap.size = D at *
      have hE1 := HS1.out.2.2
      have c20 := hE1.c20 hu16
      have hkb := sb_beq u.key key
      by_cases hk : u.key = key
      · have HSN : Hid (keyTo key E (i + 1) = keyTo key E i ++ [u]) := by show _ = _; rw [keyTo_succ hui, if_pos hk]
        have hRow : Row (W.alloc (.cells (evc u) 29)) w.heap.size u5 (keyTo key E i) := HS1.out.1.below ((Below.refl _ _).alloc (Nat.le_refl _) _) (Nat.le_refl _)
        have hF : Evs (W.alloc (.cells (evc u) 29)) (some ⟨W.heap.size, 0, none⟩) 1 1 [u] := evs_single _ _ u hu (liesE_new W u)
        have hll := keyTo_len key E i
        have hle : w.heap.size ≤ (W.alloc (.cells (evc u) 29)).heap.size := by have := HS1.out.2.1.size; simp; omega
        have HB3 : Hid (Below w.heap.size w (W.alloc (.cells (evc u) 29))) := HS1.out.2.1.alloc HS1.out.2.1.size _
        rw [decide_eq_true hk] at hkb
        clear HS1 hk
        go_wp2_with (first | refine load_ev rfl rfl rfl hE1 hu16 ?_ | refine build_ev1 rfl rfl rfl hu16 ?_ | refine wpList_appE rfl _ _ rfl w.heap.size _ (keyTo key E i) rfl hRow _ 1 1 [u] rfl hF (by omega) hle ?_)
        intro v4 w4 hR4 hg4 ho4
        have HS4 : Aside (Row w4 w.heap.size v4 (keyTo key E (i + 1)) ∧ Below w.heap.size w w4) := ⟨by rw [HSN.out]; exact hR4, HB3.out.grown hg4 hle hRow.own⟩
        clear hR4 hg4 ho4 hRow hF hE1 HB3 HSN hll hle hkb c20
        go_wp2
        go_roundg (m - (i + 1))
        case measure => omega
        case rel => exact ⟨i + 1, by go_num, by omega, Nat.le_refl _, HS4⟩
      · have HS4 : Aside (Row W w.heap.size u5 (keyTo key E (i + 1)) ∧ Below w.heap.size w W) := ⟨by rw [keyTo_succ hui, if_neg hk]; exact HS1.out.1, HS1.out.2.1⟩
        rw [decide_eq_false hk] at hkb
        clear HS1 hk
        go_wp2
        go_roundg (m - (i + 1))
        case measure => omega
        case rel => exact ⟨i + 1, by go_num, by omega, Nat.le_refl _, HS4⟩
    · obtain rfl : i = m := by omega
      have HR : Hid (Row wr w.heap.size u5 (ofKeyE key E) ∧ Below w.heap.size w wr) := by
        have := HS.out
        rw [keyTo, List.take_of_length_le (by omega)] at this
        exact this
      clear HS
      go_wp2
      go_ret
      exact ⟨_, rfl, HR.out⟩
theorem evs_wide {w : World} {ao : Option Addr} {m c : Nat} {E : List Ev} (h : Evs w ao m c E) {F : List Ev} (hF : ∀ e ∈ F, e ∈ E) : ∀ e ∈ F, Wide e := fun e he => h.wide e (hF e he)
theorem mem_ofKey {key : List UInt8} {l : List Ev} {e : Ev} (h : e ∈ ofKeyE key l) : e ∈ l := (List.mem_filter.1 h).1
theorem mem_all {l : List Ev} {e : Ev} (h : e ∈ allE l) : e ∈ l := (all_mem.1 h).1
theorem ofKey_len (key : List UInt8) (l : List Ev) : (ofKeyE key l).length ≤ l.length := List.length_filter_le _ _
set_option maxHeartbeats 400000 in
theorem type_any (ao : Option Addr) (m c : Nat) (E : List Ev) (key : List UInt8) (w : World) (hE : Evs w ao m c E) (hm : m ≤ 1000) :
    Calls Tryz.prog 37 #[.slice ao m c, .string (sb key)] w fun e w' => e = .returned (.int .i64 (typeE E key)) ∧ Below w.heap.size w w' := by
  have hlen := hE.len
  have hw : Hid (∀ e ∈ E, Wide e) := hE.wide
  go_enter Tryz.func37, Tryz.ntmps37
  go_wp2_with fail
  refine (ofkey_any ao m c E key w hE hm).mono ?_
  rintro e w1 ⟨v1, rfl, hR1, hb1⟩
  obtain ⟨a1, c1, hv1, hE1⟩ := hR1.evs (fun e he => hw.out e (mem_ofKey he))
  subst hv1
  have hl1 := ofKey_len key E
  have HB1 : Hid (Below w.heap.size w w1) := hb1
  clear hE hb1 hR1
  go_wp2_with fail
  refine (all_any a1 _ c1 _ w1 hE1 (by omega)).mono ?_
  rintro e w2 ⟨v2, rfl, hR2, hb2⟩
  obtain ⟨a2, c2, hv2, hE2⟩ := hR2.evs (fun e he => hw.out e (mem_ofKey (mem_all he)))
  subst hv2
  have hl2 := all_length (ofKeyE key E)
  have HB2 : Hid (Below w.heap.size w w2) := HB1.out.trans (hb2.mono HB1.out.size)
  clear hE1 hb2 hR2 HB1
  go_wp2_with fail
  refine (latest_any a2 _ c2 _ w2 hE2 (by omega)).mono ?_
  rintro e w3 ⟨rfl, hw3⟩
  obtain rfl := hw3.symm
  have HT : Hid (lastE (allE (ofKeyE key E)) = typeE E key) := by show _ = _; rw [all_key]; rfl
  clear hE2 hw3
  go_wp2
  go_ret
  exact ⟨by rw [HT.out]; rfl, HB2.out⟩
end Go.Proofs.YthlebgioamcioabGreat

/-
  What few comes to (layer 16's, in the place of layer 10's).
-/
namespace Go.Proofs.YthlebgioamcioabGreat
set_option maxRecDepth 100000
set_option maxRecDepth 100000
open Go.RowKit

end Go.Proofs.YthlebgioamcioabGreat

/-
  Small laws for the statements' own walks.
-/
namespace Go.Proofs.YthlebgioamcioabGreat
set_option maxRecDepth 100000
set_option maxRecDepth 100000
open Go.RowKit

theorem Evs.take {w : World} {ao : Option Addr} {m c : Nat} {E : List Ev} (h : Evs w ao m c E) {i : Nat} (hi : i ≤ m) : Evs w ao i c (E.take i) := by
  have hl := h.len
  have hr := h.room
  refine ⟨by rw [List.length_take]; omega, by omega, h.top, fun e => ⟨by have := (h.zero e).1; omega, (h.zero e).2⟩, fun ad ha j u hu => ?_, fun e he => h.wide e (List.mem_of_mem_take he)⟩
  refine h.cells ad ha j u ?_
  have e1 : evs E = evs (E.take i) ++ evs (E.drop i) := by rw [← evs_append, List.take_append_drop]
  rw [e1, List.getElem?_append_left ((List.getElem?_eq_some_iff.1 hu).1)]
  exact hu
theorem slice_to (w : World) {ao : Option Addr} {m c k : Nat} (hk : k ≤ c) : (Instr.slice 32 (.slice ao m c) none (some (.int .i64 (k : Int))) none).run Tryz.prog w = .ok (.slice ao k c) w := by
  have h2 : (k : Int) ≤ (c : Int) := by omega
  have hs : (Tryz.prog.info? 29).map (·.size) = some 26 := by kernel_rfl
  cases ao with
  | none => go_simp
  | some ad => go_simp
theorem exec_slice {o : Oper} {a : Act} {w : World} {x y : Operand} {t : TypeId} {vx vy v : Value} (ho : o.op = .slice t x none (some y) none) (hx : a.eval x = vx) (hy : a.eval y = vy) (hr : (Instr.sliceAt t vx none (some vy) none).run Tryz.prog w = .ok v w) : (execOp a.eval o).run Tryz.prog w = .ok (.value v) w := by
  unfold execOp
  simp only [ho, hx, hy, Option.map_some, Option.map_none, Sem.run_bind, Sem.run_pure, hr]
  rfl
theorem slice_at (w : World) {ao : Option Addr} {m c k : Nat} (hk : k ≤ c) : (Instr.sliceAt 32 (.slice ao m c) none (some (.int .i64 (k : Int))) none).run Tryz.prog w = .ok (.slice ao k c) w := by
  have hs := slice_to w (ao := ao) (m := m) hk
  have ht : Tryz.prog.underlying 32 = some (.slice 29) := Tryz.underlying32
  simp only [Instr.sliceAt, Sem.run_bind, run_underlying ht, Result.andThen_ok]
  exact hs
theorem exec_pick {o : Oper} {a : Act} {w : World} {x y z : Operand} {b : Bool} {v v' : Value} (ho : o.op = .pick x y z) (hx : a.eval x = .bool b) (hy : a.eval y = v) (hz : a.eval z = v') : (execOp a.eval o).run Tryz.prog w = .ok (.value (if b then v else v')) w := by
  unfold execOp
  simp only [ho, hx, hy, hz]
  cases b <;> rfl
theorem exec_bin {o : Oper} {a : Act} {w : World} {x y : Operand} {op : BinOp} {t r : TypeId} {vx vy v : Value} (ho : o.op = .binOp op t x y r) (hx : a.eval x = vx) (hy : a.eval y = vy) (hg : (eqGuard op t x y vx vy).run Tryz.prog w = .ok () w) (hv : (binOp op t vx vy).run Tryz.prog w = .ok v w) : (execOp a.eval o).run Tryz.prog w = .ok (.value v) w := by
  unfold execOp; simp only [ho, hx, hy, Sem.run_bind, hg, hv, Result.andThen_ok, Sem.run_pure]
theorem enters_all (xs : Array Value) (w : World) : (callFunc 94 xs).run Tryz.prog w = .ok (.enter 94 xs) w := enters Tryz.func94 (by kernel_rfl) (by kernel_rfl) xs w
theorem range_below {w W : World} {b k : Nat} {l : List Value} (h : w.rangeAt b k l) (hb : Below w.heap.size w W) (hl : b < w.heap.size) : W.rangeAt b k l := fun j v hv => by
  rw [hb.cell (p := ⟨b, k + j, none⟩) hl]; exact h j v hv
theorem eqGuard_ev (w : World) {op : BinOp} {x y : Operand} (e f : Ev) : (eqGuard op 29 x y (.agg (evc e)) (.agg (evc f))).run Tryz.prog w = .ok () w := by
  have := plain_ev
  go_simp
theorem same_dec (e f : Ev) : sameE e f = decide (e = f) := by
  rw [Bool.eq_iff_iff, sameE_iff]; simp
theorem eql_evd (w : World) {e f : Ev} (he : e.deps.length = 16) (hf : f.deps.length = 16) : (binOp .eql 29 (.agg (evc e)) (.agg (evc f))).run Tryz.prog w = .ok (.bool (decide (e = f))) w := by
  rw [run_eql_ev w e f he hf, same_dec]
theorem cut_mod (cut : Int) (m : Nat) (h : (Lit.int .u64 cut).wf = true) : ∃ k : Nat, cut.tmod ((m : Int) + 1) = (k : Int) ∧ k ≤ m := by
  have h0 : 0 ≤ cut := by
    simp [Lit.wf, IntKind.min, IntKind.max, IntKind.signed] at h
    omega
  rw [Int.tmod_eq_emod_of_nonneg h0]
  have h1 := Int.emod_nonneg cut (show ((m : Int) + 1) ≠ 0 by omega)
  have h2 := Int.emod_lt_of_pos cut (show (0 : Int) < (m : Int) + 1 by omega)
  exact ⟨(cut % ((m : Int) + 1)).toNat, by omega, by omega⟩
end Go.Proofs.YthlebgioamcioabGreat

/-
  What the laws' unlike comes to.
-/
namespace Go.Proofs.YthlebgioamcioabGreat
set_option maxRecDepth 100000
set_option maxRecDepth 100000
open Go.RowKit

theorem field_e0 (w : World) (b i : Nat) : (Instr.fieldAt 29 (.pointer (some ⟨b, i, none⟩)) 0).run Tryz.prog w = .ok (.pointer (some ⟨b, i + 0, none⟩)) w := by go_simp
theorem load_dt {w : World} {b k : Nat} {e : Ev} (h : w.rangeAt b k (evl e)) : (loadVar 23 ⟨b, k + 0, none⟩).run Tryz.prog w = .ok (.agg (dotc e.r e.n)) w :=
  run_loadVar_mid (P := Tryz.prog) w b k 23 (dotc e.r e.n).toList _ (fun j v hv => by
    match j, hv with
    | 0, hv => exact h 0 v hv
    | 1, hv => exact h 1 v hv) Tryz.underlying23 rfl (sizeD e.r e.n)
theorem plain_dt : Tryz.prog.eqGuardType Tryz.prog.depth 23 = false := by kernel_rfl
theorem eqGuard_dt (w : World) {op : BinOp} {x y : Operand} (r n r' n' : Int) : (eqGuard op 23 x y (.agg (dotc r n)) (.agg (dotc r' n'))).run Tryz.prog w = .ok () w := run_eqGuard_agg w _ _ _ _ _ _ plain_dt
theorem eql_dt (w : World) {r n r' n' : Int} {t : Bool} (h : decide (r = r' ∧ n = n') = t) : (binOp .eql 23 (.agg (dotc r n)) (.agg (dotc r' n'))).run Tryz.prog w = .ok (.bool t) w := by
  rw [run_eql_struct, run_equalIn_dot w 9998, Result.andThen_ok, h]
theorem unlike_snoc {E : List Ev} {i : Nat} {x : Ev} (h : Unlike (E.take i)) (hx : E[i]? = some x) (hn : ∀ q y, q < i → E[q]? = some y → ¬ sameDot x y) : Unlike (E.take (i + 1)) := by
  unfold Unlike at *
  rw [take_snoc hx, List.pairwise_append]
  refine ⟨h, List.pairwise_singleton _ _, fun a ha b hb => ?_⟩
  rw [List.mem_singleton.1 hb]
  obtain ⟨q, hq⟩ := List.getElem?_of_mem ha
  have hql : q < i := by
    have := (List.getElem?_eq_some_iff.1 hq).1
    rw [List.length_take] at this
    omega
  rw [List.getElem?_take_of_lt hql] at hq
  intro hs
  exact hn q a hql hq ⟨hs.1.symm, hs.2.symm⟩
end Go.Proofs.YthlebgioamcioabGreat

/-
  What the reference's Type and Ends come to.
-/
namespace Go.Proofs.YthlebgioamcioabGreat
set_option maxRecDepth 100000
set_option maxRecDepth 100000
open Go.RowKit

def kindAt (i : Nat) : Int := [1, 2, 3, 5, 7, 9].getD i 0
set_option maxHeartbeats 1000000 in
theorem rtype_any (k : Int) (w : World) : Calls Tryz.prog 143 #[.int .i64 k] w fun e w' => e = .returned (.int .i64 (typE k)) ∧ Below w.heap.size w w' := by
  obtain ⟨W, hW⟩ : ∃ W, w.alloc (.cells #[.int .i64 1, .int .i64 2, .int .i64 3, .int .i64 5, .int .i64 7, .int .i64 9] 3) = W := ⟨_, rfl⟩
  have hg : W.heap[w.heap.size]? = some (.cells #[.int .i64 1, .int .i64 2, .int .i64 3, .int .i64 5, .int .i64 7, .int .i64 9] 3 (0, 0)) := by rw [← hW]; exact heap_alloc_new w _
  have HB : Hid (Below w.heap.size w W) := by show Below _ _ _; rw [← hW]; exact (Below.refl _ _).alloc (Nat.le_refl _) _
  have HC : Hid (∀ i, i < 6 → W.cell? ⟨w.heap.size, i, none⟩ = some (.int .i64 (kindAt i))) := by
    show ∀ i, i < 6 → _
    intro i hi
    rw [cell_of_row W _ i _ _ _ hg]
    match i, hi with
    | 0, _ => rfl
    | 1, _ => rfl
    | 2, _ => rfl
    | 3, _ => rfl
    | 4, _ => rfl
    | 5, _ => rfl
  have HW : Hid (w.alloc (.cells #[.int .i64 1, .int .i64 2, .int .i64 3, .int .i64 5, .int .i64 7, .int .i64 9] 3) = W) := hW
  clear hg hW
  go_enter Tryz.func143, Tryz.ntmps143
  go_wp2
  go_loopg [8] 6 (fun kx s8 wr => ∃ i : Nat, s8 = .int .i64 i ∧ i ≤ 6 ∧ 6 - i ≤ kx ∧ wr = W ∧ Hid (∀ q, q < i → kindAt q ≠ k))
  case atStart => exact ⟨0, rfl, by omega, by omega, HW.out, fun q h => by omega⟩
  case round =>
    obtain ⟨i, rfl, hi6, hkx, rfl, HN⟩ := hrel
    by_cases hlt : i < 6
    · have hltz : (i : Int) < 6 := by omega
      have ci := HC.out i hlt
      by_cases hk : kindAt i = k
      · have HT : Hid ((i : Int) + 1 = typE k) := by
          show _ = _
          rw [← hk]
          match i, hlt with
          | 0, _ => rfl
          | 1, _ => rfl
          | 2, _ => rfl
          | 3, _ => rfl
          | 4, _ => rfl
          | 5, _ => rfl
        have hkb : (kindAt i == k) = true := by simpa using hk
        go_wp2
        go_ret
        exact ⟨by rw [← HT.out]; rfl, HB.out⟩
      · have hkb : (kindAt i == k) = false := by simpa using hk
        have HN2 : Hid (∀ q, q < i + 1 → kindAt q ≠ k) := fun q hq => by
          by_cases h : q < i
          · exact HN.out q h
          · obtain rfl : q = i := by omega
            exact hk
        clear HN
        go_wp2
        go_roundg (6 - (i + 1))
        case measure => omega
        case rel => exact ⟨i + 1, by go_num, by omega, Nat.le_refl _, rfl, HN2⟩
    · obtain rfl : i = 6 := by omega
      have HT : Hid (typE k = 0) := by
        show _ = _
        have h0 := HN.out 0 (by omega)
        have h1 := HN.out 1 (by omega)
        have h2 := HN.out 2 (by omega)
        have h3 := HN.out 3 (by omega)
        have h4 := HN.out 4 (by omega)
        have h5 := HN.out 5 (by omega)
        simp only [kindAt, List.getD_cons_zero, List.getD_cons_succ, ne_eq] at h0 h1 h2 h3 h4 h5
        unfold typE
        rw [if_neg (fun e => h0 e.symm), if_neg (fun e => h1 e.symm), if_neg (fun e => h2 e.symm), if_neg (fun e => h3 e.symm), if_neg (fun e => h4 e.symm), if_neg (fun e => h5 e.symm)]
      clear HN
      go_wp2
      go_ret
      exact ⟨by rw [HT.out]; rfl, HB.out⟩

theorem load_dotm {w : World} {g k : Nat} {r n : Int} (h : w.rangeAt g k (dotc r n).toList) : (loadVar 23 ⟨g, k, none⟩).run Tryz.prog w = .ok (.agg (dotc r n)) w :=
  run_loadVar_mid (P := Tryz.prog) w g k 23 _ _ h Tryz.underlying23 rfl (by kernel_rfl)
theorem LiesE.rf {w : World} {g : Nat} {e : Ev} (h : LiesE w g e) (hl : e.deps.length = 16) : w.rangeAt g (19 + 5) (dotc e.rr e.rn).toList := h.ref hl
set_option maxHeartbeats 4000000 in
theorem rends_any (b a : Ev) (hb16 : b.deps.length = 16) (ha16 : a.deps.length = 16) (w : World) : Calls Tryz.prog 144 #[.agg (evc b), .agg (evc a)] w fun e w' => e = .returned (.bool (endsE b a)) ∧ Below w.heap.size w w' := by
  obtain ⟨hb, ha, hB⟩ := boxedEE w b a
  have HB : Hid (Below w.heap.size w ((w.alloc (.cells (evc b) 29)).alloc (.cells (evc a) 29))) := hB
  clear hB
  go_enter Tryz.func144, Tryz.ntmps144
  go_wp2_with (first | refine load_ev rfl rfl rfl hb hb16 ?_ | refine load_ev rfl rfl rfl ha ha16 ?_)
  refine (rcovers_any b a hb16 _).mono ?_
  rintro e w1 ⟨rfl, hb1⟩
  have hb' := hb.below hb1 hb.lt
  have ha' := ha.below hb1 ha.lt
  have HB1 : Hid (Below w.heap.size w w1) := HB.out.trans (hb1.mono HB.out.size)
  clear hb ha hb1 HB
  rcases Bool.eq_false_or_eq_true (coversE b a) with hc | hc
  · have ca := ha'.c19 ha16
    rw [hc]
    go_wp2_with fail
    refine (rtype_any a.kind w1).mono ?_
    rintro e w2 ⟨rfl, hb2⟩
    have hb := hb'.below hb2 hb'.lt
    have ha := ha'.below hb2 ha'.lt
    have HB2 : Hid (Below w.heap.size w w2) := HB1.out.trans (hb2.mono HB1.out.size)
    clear hb' ha' hb2 HB1 ca
    by_cases ht : typE a.kind = 0
    · have HR : Hid (endsE b a = false) := by show _ = _; unfold endsE; rw [(typ_adds a.kind).1 ht]; simp
      have htb : (typE a.kind == 0) = true := by simpa using ht
      clear hb ha
      go_wp2
      go_ret
      exact ⟨by rw [HR.out]; rfl, HB2.out⟩
    · have htb : (typE a.kind == 0) = false := by simpa using ht
      have hadd : addsE a.kind = true := by
        cases h : addsE a.kind
        · exact absurd ((typ_adds a.kind).2 h) ht
        · rfl
      have kb := hb.c20 hb16
      have ka := ha.c20 ha16
      have hkb := sb_beq b.key a.key
      by_cases hk : b.key = a.key
      · have HR : Hid (endsE b a = hits b a) := by show _ = _; unfold endsE; rw [hc, hadd, decide_eq_true hk]; simp
        have fb := hb.c21 hb16
        have fa := ha.c21 ha16
        have cb := hb.c19 hb16
        have ca := ha.c19 ha16
        have rb := hb.rf hb16
        have da := ha.dot
        have hfe := sb_beq b.field a.field
        rw [decide_eq_true hk] at hkb
        clear hb ha hk ht
        go_upto_region 4 with (fail)
        go_quiet (fail)
        have HB3 : Hid (Below w.heap.size w (w2.drewN nq)) := Below.drewN HB2.out nq
        have rb' : (w2.drewN nq).rangeAt w.heap.size (19 + 5) (dotc b.rr b.rn).toList := rb
        have da' : (w2.drewN nq).rangeAt (w.heap.size + 1) 0 (dotc a.r a.n).toList := da
        clear rb da kb ka fb fa cb ca HB2 hkb htb
        generalize w2.drewN nq = w3 at HB3 rb' da' ⊢
        generalize hqf : decide (b.field = a.field) = qf at hfe
        obtain ⟨qd, hqd⟩ : ∃ qd, decide (b.rr = a.r ∧ b.rn = a.n) = qd := ⟨_, rfl⟩
        have HQF : Hid (decide (b.field = a.field) = qf) := hqf
        have HQD : Hid (decide (b.rr = a.r ∧ b.rn = a.n) = qd) := hqd
        clear hqf hqd
        rename_i hGo
        refine hGo _ _ ?_
        apply wp_seq_k
        intro Kr hRest
        apply wp_region_lit
        by_cases b11 : b.kind = 11
        · have x11 : (b.kind == 11) = true := by simpa using b11
          refine wpl_out (n := 112) ([(2, .pointer (some ⟨w.heap.size, 0, none⟩)), (3, .pointer (some ⟨w.heap.size + 1, 0, none⟩)), (5, .bool qf), (6, .int .i64 b.kind), (7, .int .i64 a.kind)]) [.b true] [4] [.bool true] [.eq b.kind 11 true] rfl (Knows.cons (Knows.cons (Knows.cons (Knows.cons (Knows.cons (Knows.nil _) rfl) rfl) rfl) rfl) rfl) (by kernel_rfl) ⟨x11, trivial⟩ (fun A hA hd hv => ?_)
          have h4 := hv 0 4 _ rfl rfl
          refine hRest _ _ ?_
          apply wp_ret
          refine bodyPost_ret (results_tmp rfl _ _ _) hd ⟨?_, HB3.out⟩
          rw [Array.getD_eq_getD_getElem?, h4, HR.out]
          exact congrArg (fun q => Ending.returned (.bool q)) (by unfold hits; simp [b11])
        have x11 : (b.kind == 11) = false := by simpa using b11
        by_cases b4 : b.kind = 4
        · have x4 : (b.kind == 4) = true := by simpa using b4
          have x3 : (b.kind == 3) = false := by rw [b4]; rfl
          have x6 : (b.kind == 6) = false := by rw [b4]; rfl
          have x5 : (b.kind == 5) = false := by rw [b4]; rfl
          have x8 : (b.kind == 8) = false := by rw [b4]; rfl
          have x7 : (b.kind == 7) = false := by rw [b4]; rfl
          have x1 : (b.kind == 1) = false := by rw [b4]; rfl
          have x10 : (b.kind == 10) = false := by rw [b4]; rfl
          by_cases ak : a.kind = 3
          · have y3 : (a.kind == 3) = true := by simpa using ak
            cases qf with
            | true =>
              have hx := of_decide_eq_true HQF.out
              refine wpl_out (n := 112) ([(2, .pointer (some ⟨w.heap.size, 0, none⟩)), (3, .pointer (some ⟨w.heap.size + 1, 0, none⟩)), (5, .bool true), (6, .int .i64 b.kind), (7, .int .i64 a.kind)]) [.b false, .b true, .b true] [4] [.bool true] [.eq b.kind 11 false, .eq b.kind 4 true, .eq a.kind 3 true] rfl (Knows.cons (Knows.cons (Knows.cons (Knows.cons (Knows.cons (Knows.nil _) rfl) rfl) rfl) rfl) rfl) (by kernel_rfl) ⟨x11, x4, y3, trivial⟩ (fun A hA hd hv => ?_)
              have h4 := hv 0 4 _ rfl rfl
              refine hRest _ _ ?_
              apply wp_ret
              refine bodyPost_ret (results_tmp rfl _ _ _) hd ⟨?_, HB3.out⟩
              rw [Array.getD_eq_getD_getElem?, h4, HR.out]
              exact congrArg (fun q => Ending.returned (.bool q)) (by unfold hits; simp [b4, ak, hx])
            | false =>
              have hx := of_decide_eq_false HQF.out
              refine wpl_out (n := 112) ([(2, .pointer (some ⟨w.heap.size, 0, none⟩)), (3, .pointer (some ⟨w.heap.size + 1, 0, none⟩)), (5, .bool false), (6, .int .i64 b.kind), (7, .int .i64 a.kind)]) [.b false, .b true, .b true, .b false, .b false, .b false, .b false, .b false, .b false] [4] [.bool false] [.eq b.kind 11 false, .eq b.kind 4 true, .eq a.kind 3 true, .eq b.kind 6 false, .eq b.kind 5 false, .eq b.kind 8 false, .eq b.kind 7 false, .eq b.kind 1 false, .eq b.kind 10 false] rfl (Knows.cons (Knows.cons (Knows.cons (Knows.cons (Knows.cons (Knows.nil _) rfl) rfl) rfl) rfl) rfl) (by kernel_rfl) ⟨x11, x4, y3, x6, x5, x8, x7, x1, x10, trivial⟩ (fun A hA hd hv => ?_)
              have h4 := hv 0 4 _ rfl rfl
              refine hRest _ _ ?_
              apply wp_ret
              refine bodyPost_ret (results_tmp rfl _ _ _) hd ⟨?_, HB3.out⟩
              rw [Array.getD_eq_getD_getElem?, h4, HR.out]
              exact congrArg (fun q => Ending.returned (.bool q)) (by unfold hits; simp [b4, ak, hx])
          · have y3 : (a.kind == 3) = false := by simpa using ak
            refine wpl_out (n := 112) ([(2, .pointer (some ⟨w.heap.size, 0, none⟩)), (3, .pointer (some ⟨w.heap.size + 1, 0, none⟩)), (5, .bool qf), (6, .int .i64 b.kind), (7, .int .i64 a.kind)]) [.b false, .b true, .b false, .b false, .b false, .b false, .b false, .b false, .b false] [4] [.bool false] [.eq b.kind 11 false, .eq b.kind 4 true, .eq a.kind 3 false, .eq b.kind 6 false, .eq b.kind 5 false, .eq b.kind 8 false, .eq b.kind 7 false, .eq b.kind 1 false, .eq b.kind 10 false] rfl (Knows.cons (Knows.cons (Knows.cons (Knows.cons (Knows.cons (Knows.nil _) rfl) rfl) rfl) rfl) rfl) (by kernel_rfl) ⟨x11, x4, y3, x6, x5, x8, x7, x1, x10, trivial⟩ (fun A hA hd hv => ?_)
            have h4 := hv 0 4 _ rfl rfl
            refine hRest _ _ ?_
            apply wp_ret
            refine bodyPost_ret (results_tmp rfl _ _ _) hd ⟨?_, HB3.out⟩
            rw [Array.getD_eq_getD_getElem?, h4, HR.out]
            exact congrArg (fun q => Ending.returned (.bool q)) (by unfold hits; simp [b4, ak])
        have x4 : (b.kind == 4) = false := by simpa using b4
        by_cases b3 : b.kind = 3
        · have x3 : (b.kind == 3) = true := by simpa using b3
          have x4 : (b.kind == 4) = false := by rw [b3]; rfl
          have x6 : (b.kind == 6) = false := by rw [b3]; rfl
          have x5 : (b.kind == 5) = false := by rw [b3]; rfl
          have x8 : (b.kind == 8) = false := by rw [b3]; rfl
          have x7 : (b.kind == 7) = false := by rw [b3]; rfl
          have x1 : (b.kind == 1) = false := by rw [b3]; rfl
          have x10 : (b.kind == 10) = false := by rw [b3]; rfl
          by_cases ak : a.kind = 3
          · have y3 : (a.kind == 3) = true := by simpa using ak
            cases qf with
            | true =>
              have hx := of_decide_eq_true HQF.out
              refine wpl_out (n := 112) ([(2, .pointer (some ⟨w.heap.size, 0, none⟩)), (3, .pointer (some ⟨w.heap.size + 1, 0, none⟩)), (5, .bool true), (6, .int .i64 b.kind), (7, .int .i64 a.kind)]) [.b false, .b false, .b true, .b true] [4] [.bool true] [.eq b.kind 11 false, .eq b.kind 4 false, .eq b.kind 3 true, .eq a.kind 3 true] rfl (Knows.cons (Knows.cons (Knows.cons (Knows.cons (Knows.cons (Knows.nil _) rfl) rfl) rfl) rfl) rfl) (by kernel_rfl) ⟨x11, x4, x3, y3, trivial⟩ (fun A hA hd hv => ?_)
              have h4 := hv 0 4 _ rfl rfl
              refine hRest _ _ ?_
              apply wp_ret
              refine bodyPost_ret (results_tmp rfl _ _ _) hd ⟨?_, HB3.out⟩
              rw [Array.getD_eq_getD_getElem?, h4, HR.out]
              exact congrArg (fun q => Ending.returned (.bool q)) (by unfold hits; simp [b3, ak, hx])
            | false =>
              have hx := of_decide_eq_false HQF.out
              refine wpl_out (n := 112) ([(2, .pointer (some ⟨w.heap.size, 0, none⟩)), (3, .pointer (some ⟨w.heap.size + 1, 0, none⟩)), (5, .bool false), (6, .int .i64 b.kind), (7, .int .i64 a.kind)]) [.b false, .b false, .b true, .b true, .b false, .b false, .b false, .b false, .b false, .b false] [4] [.bool false] [.eq b.kind 11 false, .eq b.kind 4 false, .eq b.kind 3 true, .eq a.kind 3 true, .eq b.kind 6 false, .eq b.kind 5 false, .eq b.kind 8 false, .eq b.kind 7 false, .eq b.kind 1 false, .eq b.kind 10 false] rfl (Knows.cons (Knows.cons (Knows.cons (Knows.cons (Knows.cons (Knows.nil _) rfl) rfl) rfl) rfl) rfl) (by kernel_rfl) ⟨x11, x4, x3, y3, x6, x5, x8, x7, x1, x10, trivial⟩ (fun A hA hd hv => ?_)
              have h4 := hv 0 4 _ rfl rfl
              refine hRest _ _ ?_
              apply wp_ret
              refine bodyPost_ret (results_tmp rfl _ _ _) hd ⟨?_, HB3.out⟩
              rw [Array.getD_eq_getD_getElem?, h4, HR.out]
              exact congrArg (fun q => Ending.returned (.bool q)) (by unfold hits; simp [b3, ak, hx])
          · have y3 : (a.kind == 3) = false := by simpa using ak
            refine wpl_out (n := 112) ([(2, .pointer (some ⟨w.heap.size, 0, none⟩)), (3, .pointer (some ⟨w.heap.size + 1, 0, none⟩)), (5, .bool qf), (6, .int .i64 b.kind), (7, .int .i64 a.kind)]) [.b false, .b false, .b true, .b false, .b false, .b false, .b false, .b false, .b false, .b false] [4] [.bool false] [.eq b.kind 11 false, .eq b.kind 4 false, .eq b.kind 3 true, .eq a.kind 3 false, .eq b.kind 6 false, .eq b.kind 5 false, .eq b.kind 8 false, .eq b.kind 7 false, .eq b.kind 1 false, .eq b.kind 10 false] rfl (Knows.cons (Knows.cons (Knows.cons (Knows.cons (Knows.cons (Knows.nil _) rfl) rfl) rfl) rfl) rfl) (by kernel_rfl) ⟨x11, x4, x3, y3, x6, x5, x8, x7, x1, x10, trivial⟩ (fun A hA hd hv => ?_)
            have h4 := hv 0 4 _ rfl rfl
            refine hRest _ _ ?_
            apply wp_ret
            refine bodyPost_ret (results_tmp rfl _ _ _) hd ⟨?_, HB3.out⟩
            rw [Array.getD_eq_getD_getElem?, h4, HR.out]
            exact congrArg (fun q => Ending.returned (.bool q)) (by unfold hits; simp [b3, ak])
        have x3 : (b.kind == 3) = false := by simpa using b3
        by_cases b6 : b.kind = 6
        · have x6 : (b.kind == 6) = true := by simpa using b6
          have x4 : (b.kind == 4) = false := by rw [b6]; rfl
          have x3 : (b.kind == 3) = false := by rw [b6]; rfl
          have x5 : (b.kind == 5) = false := by rw [b6]; rfl
          have x8 : (b.kind == 8) = false := by rw [b6]; rfl
          have x7 : (b.kind == 7) = false := by rw [b6]; rfl
          have x1 : (b.kind == 1) = false := by rw [b6]; rfl
          have x10 : (b.kind == 10) = false := by rw [b6]; rfl
          by_cases ak : a.kind = 5
          · have y5 : (a.kind == 5) = true := by simpa using ak
            cases qf with
            | true =>
              have hx := of_decide_eq_true HQF.out
              refine wpl_out (n := 112) ([(2, .pointer (some ⟨w.heap.size, 0, none⟩)), (3, .pointer (some ⟨w.heap.size + 1, 0, none⟩)), (5, .bool true), (6, .int .i64 b.kind), (7, .int .i64 a.kind)]) [.b false, .b false, .b false, .b true, .b true] [4] [.bool true] [.eq b.kind 11 false, .eq b.kind 4 false, .eq b.kind 3 false, .eq b.kind 6 true, .eq a.kind 5 true] rfl (Knows.cons (Knows.cons (Knows.cons (Knows.cons (Knows.cons (Knows.nil _) rfl) rfl) rfl) rfl) rfl) (by kernel_rfl) ⟨x11, x4, x3, x6, y5, trivial⟩ (fun A hA hd hv => ?_)
              have h4 := hv 0 4 _ rfl rfl
              refine hRest _ _ ?_
              apply wp_ret
              refine bodyPost_ret (results_tmp rfl _ _ _) hd ⟨?_, HB3.out⟩
              rw [Array.getD_eq_getD_getElem?, h4, HR.out]
              exact congrArg (fun q => Ending.returned (.bool q)) (by unfold hits; simp [b6, ak, hx])
            | false =>
              have hx := of_decide_eq_false HQF.out
              refine wpl_out (n := 112) ([(2, .pointer (some ⟨w.heap.size, 0, none⟩)), (3, .pointer (some ⟨w.heap.size + 1, 0, none⟩)), (5, .bool false), (6, .int .i64 b.kind), (7, .int .i64 a.kind)]) [.b false, .b false, .b false, .b true, .b true, .b false, .b false, .b false, .b false] [4] [.bool false] [.eq b.kind 11 false, .eq b.kind 4 false, .eq b.kind 3 false, .eq b.kind 6 true, .eq a.kind 5 true, .eq b.kind 8 false, .eq b.kind 7 false, .eq b.kind 1 false, .eq b.kind 10 false] rfl (Knows.cons (Knows.cons (Knows.cons (Knows.cons (Knows.cons (Knows.nil _) rfl) rfl) rfl) rfl) rfl) (by kernel_rfl) ⟨x11, x4, x3, x6, y5, x8, x7, x1, x10, trivial⟩ (fun A hA hd hv => ?_)
              have h4 := hv 0 4 _ rfl rfl
              refine hRest _ _ ?_
              apply wp_ret
              refine bodyPost_ret (results_tmp rfl _ _ _) hd ⟨?_, HB3.out⟩
              rw [Array.getD_eq_getD_getElem?, h4, HR.out]
              exact congrArg (fun q => Ending.returned (.bool q)) (by unfold hits; simp [b6, ak, hx])
          · have y5 : (a.kind == 5) = false := by simpa using ak
            refine wpl_out (n := 112) ([(2, .pointer (some ⟨w.heap.size, 0, none⟩)), (3, .pointer (some ⟨w.heap.size + 1, 0, none⟩)), (5, .bool qf), (6, .int .i64 b.kind), (7, .int .i64 a.kind)]) [.b false, .b false, .b false, .b true, .b false, .b false, .b false, .b false, .b false] [4] [.bool false] [.eq b.kind 11 false, .eq b.kind 4 false, .eq b.kind 3 false, .eq b.kind 6 true, .eq a.kind 5 false, .eq b.kind 8 false, .eq b.kind 7 false, .eq b.kind 1 false, .eq b.kind 10 false] rfl (Knows.cons (Knows.cons (Knows.cons (Knows.cons (Knows.cons (Knows.nil _) rfl) rfl) rfl) rfl) rfl) (by kernel_rfl) ⟨x11, x4, x3, x6, y5, x8, x7, x1, x10, trivial⟩ (fun A hA hd hv => ?_)
            have h4 := hv 0 4 _ rfl rfl
            refine hRest _ _ ?_
            apply wp_ret
            refine bodyPost_ret (results_tmp rfl _ _ _) hd ⟨?_, HB3.out⟩
            rw [Array.getD_eq_getD_getElem?, h4, HR.out]
            exact congrArg (fun q => Ending.returned (.bool q)) (by unfold hits; simp [b6, ak])
        have x6 : (b.kind == 6) = false := by simpa using b6
        by_cases b5 : b.kind = 5
        · have x5 : (b.kind == 5) = true := by simpa using b5
          have x4 : (b.kind == 4) = false := by rw [b5]; rfl
          have x3 : (b.kind == 3) = false := by rw [b5]; rfl
          have x6 : (b.kind == 6) = false := by rw [b5]; rfl
          have x8 : (b.kind == 8) = false := by rw [b5]; rfl
          have x7 : (b.kind == 7) = false := by rw [b5]; rfl
          have x1 : (b.kind == 1) = false := by rw [b5]; rfl
          have x10 : (b.kind == 10) = false := by rw [b5]; rfl
          by_cases ak : a.kind = 5
          · have y5 : (a.kind == 5) = true := by simpa using ak
            cases qf with
            | true =>
              have hx := of_decide_eq_true HQF.out
              refine wpl_out (n := 112) ([(2, .pointer (some ⟨w.heap.size, 0, none⟩)), (3, .pointer (some ⟨w.heap.size + 1, 0, none⟩)), (5, .bool true), (6, .int .i64 b.kind), (7, .int .i64 a.kind)]) [.b false, .b false, .b false, .b false, .b true, .b true] [4] [.bool true] [.eq b.kind 11 false, .eq b.kind 4 false, .eq b.kind 3 false, .eq b.kind 6 false, .eq b.kind 5 true, .eq a.kind 5 true] rfl (Knows.cons (Knows.cons (Knows.cons (Knows.cons (Knows.cons (Knows.nil _) rfl) rfl) rfl) rfl) rfl) (by kernel_rfl) ⟨x11, x4, x3, x6, x5, y5, trivial⟩ (fun A hA hd hv => ?_)
              have h4 := hv 0 4 _ rfl rfl
              refine hRest _ _ ?_
              apply wp_ret
              refine bodyPost_ret (results_tmp rfl _ _ _) hd ⟨?_, HB3.out⟩
              rw [Array.getD_eq_getD_getElem?, h4, HR.out]
              exact congrArg (fun q => Ending.returned (.bool q)) (by unfold hits; simp [b5, ak, hx])
            | false =>
              have hx := of_decide_eq_false HQF.out
              refine wpl_out (n := 112) ([(2, .pointer (some ⟨w.heap.size, 0, none⟩)), (3, .pointer (some ⟨w.heap.size + 1, 0, none⟩)), (5, .bool false), (6, .int .i64 b.kind), (7, .int .i64 a.kind)]) [.b false, .b false, .b false, .b false, .b true, .b true, .b false, .b false, .b false, .b false] [4] [.bool false] [.eq b.kind 11 false, .eq b.kind 4 false, .eq b.kind 3 false, .eq b.kind 6 false, .eq b.kind 5 true, .eq a.kind 5 true, .eq b.kind 8 false, .eq b.kind 7 false, .eq b.kind 1 false, .eq b.kind 10 false] rfl (Knows.cons (Knows.cons (Knows.cons (Knows.cons (Knows.cons (Knows.nil _) rfl) rfl) rfl) rfl) rfl) (by kernel_rfl) ⟨x11, x4, x3, x6, x5, y5, x8, x7, x1, x10, trivial⟩ (fun A hA hd hv => ?_)
              have h4 := hv 0 4 _ rfl rfl
              refine hRest _ _ ?_
              apply wp_ret
              refine bodyPost_ret (results_tmp rfl _ _ _) hd ⟨?_, HB3.out⟩
              rw [Array.getD_eq_getD_getElem?, h4, HR.out]
              exact congrArg (fun q => Ending.returned (.bool q)) (by unfold hits; simp [b5, ak, hx])
          · have y5 : (a.kind == 5) = false := by simpa using ak
            refine wpl_out (n := 112) ([(2, .pointer (some ⟨w.heap.size, 0, none⟩)), (3, .pointer (some ⟨w.heap.size + 1, 0, none⟩)), (5, .bool qf), (6, .int .i64 b.kind), (7, .int .i64 a.kind)]) [.b false, .b false, .b false, .b false, .b true, .b false, .b false, .b false, .b false, .b false] [4] [.bool false] [.eq b.kind 11 false, .eq b.kind 4 false, .eq b.kind 3 false, .eq b.kind 6 false, .eq b.kind 5 true, .eq a.kind 5 false, .eq b.kind 8 false, .eq b.kind 7 false, .eq b.kind 1 false, .eq b.kind 10 false] rfl (Knows.cons (Knows.cons (Knows.cons (Knows.cons (Knows.cons (Knows.nil _) rfl) rfl) rfl) rfl) rfl) (by kernel_rfl) ⟨x11, x4, x3, x6, x5, y5, x8, x7, x1, x10, trivial⟩ (fun A hA hd hv => ?_)
            have h4 := hv 0 4 _ rfl rfl
            refine hRest _ _ ?_
            apply wp_ret
            refine bodyPost_ret (results_tmp rfl _ _ _) hd ⟨?_, HB3.out⟩
            rw [Array.getD_eq_getD_getElem?, h4, HR.out]
            exact congrArg (fun q => Ending.returned (.bool q)) (by unfold hits; simp [b5, ak])
        have x5 : (b.kind == 5) = false := by simpa using b5
        by_cases b8 : b.kind = 8
        · have x8 : (b.kind == 8) = true := by simpa using b8
          have x4 : (b.kind == 4) = false := by rw [b8]; rfl
          have x3 : (b.kind == 3) = false := by rw [b8]; rfl
          have x6 : (b.kind == 6) = false := by rw [b8]; rfl
          have x5 : (b.kind == 5) = false := by rw [b8]; rfl
          have x7 : (b.kind == 7) = false := by rw [b8]; rfl
          have x1 : (b.kind == 1) = false := by rw [b8]; rfl
          have x10 : (b.kind == 10) = false := by rw [b8]; rfl
          by_cases ak : a.kind = 7
          · have y7 : (a.kind == 7) = true := by simpa using ak
            cases qf with
            | true =>
              have hx := of_decide_eq_true HQF.out
              refine wpl_out (n := 112) ([(2, .pointer (some ⟨w.heap.size, 0, none⟩)), (3, .pointer (some ⟨w.heap.size + 1, 0, none⟩)), (5, .bool true), (6, .int .i64 b.kind), (7, .int .i64 a.kind)]) [.b false, .b false, .b false, .b false, .b false, .b true, .b true] [4] [.bool true] [.eq b.kind 11 false, .eq b.kind 4 false, .eq b.kind 3 false, .eq b.kind 6 false, .eq b.kind 5 false, .eq b.kind 8 true, .eq a.kind 7 true] rfl (Knows.cons (Knows.cons (Knows.cons (Knows.cons (Knows.cons (Knows.nil _) rfl) rfl) rfl) rfl) rfl) (by kernel_rfl) ⟨x11, x4, x3, x6, x5, x8, y7, trivial⟩ (fun A hA hd hv => ?_)
              have h4 := hv 0 4 _ rfl rfl
              refine hRest _ _ ?_
              apply wp_ret
              refine bodyPost_ret (results_tmp rfl _ _ _) hd ⟨?_, HB3.out⟩
              rw [Array.getD_eq_getD_getElem?, h4, HR.out]
              exact congrArg (fun q => Ending.returned (.bool q)) (by unfold hits; simp [b8, ak, hx])
            | false =>
              have hx := of_decide_eq_false HQF.out
              refine wpl_out (n := 112) ([(2, .pointer (some ⟨w.heap.size, 0, none⟩)), (3, .pointer (some ⟨w.heap.size + 1, 0, none⟩)), (5, .bool false), (6, .int .i64 b.kind), (7, .int .i64 a.kind)]) [.b false, .b false, .b false, .b false, .b false, .b true, .b true, .b false, .b false] [4] [.bool false] [.eq b.kind 11 false, .eq b.kind 4 false, .eq b.kind 3 false, .eq b.kind 6 false, .eq b.kind 5 false, .eq b.kind 8 true, .eq a.kind 7 true, .eq b.kind 1 false, .eq b.kind 10 false] rfl (Knows.cons (Knows.cons (Knows.cons (Knows.cons (Knows.cons (Knows.nil _) rfl) rfl) rfl) rfl) rfl) (by kernel_rfl) ⟨x11, x4, x3, x6, x5, x8, y7, x1, x10, trivial⟩ (fun A hA hd hv => ?_)
              have h4 := hv 0 4 _ rfl rfl
              refine hRest _ _ ?_
              apply wp_ret
              refine bodyPost_ret (results_tmp rfl _ _ _) hd ⟨?_, HB3.out⟩
              rw [Array.getD_eq_getD_getElem?, h4, HR.out]
              exact congrArg (fun q => Ending.returned (.bool q)) (by unfold hits; simp [b8, ak, hx])
          · have y7 : (a.kind == 7) = false := by simpa using ak
            refine wpl_out (n := 112) ([(2, .pointer (some ⟨w.heap.size, 0, none⟩)), (3, .pointer (some ⟨w.heap.size + 1, 0, none⟩)), (5, .bool qf), (6, .int .i64 b.kind), (7, .int .i64 a.kind)]) [.b false, .b false, .b false, .b false, .b false, .b true, .b false, .b false, .b false] [4] [.bool false] [.eq b.kind 11 false, .eq b.kind 4 false, .eq b.kind 3 false, .eq b.kind 6 false, .eq b.kind 5 false, .eq b.kind 8 true, .eq a.kind 7 false, .eq b.kind 1 false, .eq b.kind 10 false] rfl (Knows.cons (Knows.cons (Knows.cons (Knows.cons (Knows.cons (Knows.nil _) rfl) rfl) rfl) rfl) rfl) (by kernel_rfl) ⟨x11, x4, x3, x6, x5, x8, y7, x1, x10, trivial⟩ (fun A hA hd hv => ?_)
            have h4 := hv 0 4 _ rfl rfl
            refine hRest _ _ ?_
            apply wp_ret
            refine bodyPost_ret (results_tmp rfl _ _ _) hd ⟨?_, HB3.out⟩
            rw [Array.getD_eq_getD_getElem?, h4, HR.out]
            exact congrArg (fun q => Ending.returned (.bool q)) (by unfold hits; simp [b8, ak])
        have x8 : (b.kind == 8) = false := by simpa using b8
        by_cases b7 : b.kind = 7
        · have x7 : (b.kind == 7) = true := by simpa using b7
          have x4 : (b.kind == 4) = false := by rw [b7]; rfl
          have x3 : (b.kind == 3) = false := by rw [b7]; rfl
          have x6 : (b.kind == 6) = false := by rw [b7]; rfl
          have x5 : (b.kind == 5) = false := by rw [b7]; rfl
          have x8 : (b.kind == 8) = false := by rw [b7]; rfl
          have x1 : (b.kind == 1) = false := by rw [b7]; rfl
          have x10 : (b.kind == 10) = false := by rw [b7]; rfl
          by_cases ak : a.kind = 7
          · have y7 : (a.kind == 7) = true := by simpa using ak
            cases qf with
            | true =>
              have hx := of_decide_eq_true HQF.out
              refine wpl_out (n := 112) ([(2, .pointer (some ⟨w.heap.size, 0, none⟩)), (3, .pointer (some ⟨w.heap.size + 1, 0, none⟩)), (5, .bool true), (6, .int .i64 b.kind), (7, .int .i64 a.kind)]) [.b false, .b false, .b false, .b false, .b false, .b false, .b true, .b true] [4] [.bool true] [.eq b.kind 11 false, .eq b.kind 4 false, .eq b.kind 3 false, .eq b.kind 6 false, .eq b.kind 5 false, .eq b.kind 8 false, .eq b.kind 7 true, .eq a.kind 7 true] rfl (Knows.cons (Knows.cons (Knows.cons (Knows.cons (Knows.cons (Knows.nil _) rfl) rfl) rfl) rfl) rfl) (by kernel_rfl) ⟨x11, x4, x3, x6, x5, x8, x7, y7, trivial⟩ (fun A hA hd hv => ?_)
              have h4 := hv 0 4 _ rfl rfl
              refine hRest _ _ ?_
              apply wp_ret
              refine bodyPost_ret (results_tmp rfl _ _ _) hd ⟨?_, HB3.out⟩
              rw [Array.getD_eq_getD_getElem?, h4, HR.out]
              exact congrArg (fun q => Ending.returned (.bool q)) (by unfold hits; simp [b7, ak, hx])
            | false =>
              have hx := of_decide_eq_false HQF.out
              refine wpl_out (n := 112) ([(2, .pointer (some ⟨w.heap.size, 0, none⟩)), (3, .pointer (some ⟨w.heap.size + 1, 0, none⟩)), (5, .bool false), (6, .int .i64 b.kind), (7, .int .i64 a.kind)]) [.b false, .b false, .b false, .b false, .b false, .b false, .b true, .b true, .b false, .b false] [4] [.bool false] [.eq b.kind 11 false, .eq b.kind 4 false, .eq b.kind 3 false, .eq b.kind 6 false, .eq b.kind 5 false, .eq b.kind 8 false, .eq b.kind 7 true, .eq a.kind 7 true, .eq b.kind 1 false, .eq b.kind 10 false] rfl (Knows.cons (Knows.cons (Knows.cons (Knows.cons (Knows.cons (Knows.nil _) rfl) rfl) rfl) rfl) rfl) (by kernel_rfl) ⟨x11, x4, x3, x6, x5, x8, x7, y7, x1, x10, trivial⟩ (fun A hA hd hv => ?_)
              have h4 := hv 0 4 _ rfl rfl
              refine hRest _ _ ?_
              apply wp_ret
              refine bodyPost_ret (results_tmp rfl _ _ _) hd ⟨?_, HB3.out⟩
              rw [Array.getD_eq_getD_getElem?, h4, HR.out]
              exact congrArg (fun q => Ending.returned (.bool q)) (by unfold hits; simp [b7, ak, hx])
          · have y7 : (a.kind == 7) = false := by simpa using ak
            refine wpl_out (n := 112) ([(2, .pointer (some ⟨w.heap.size, 0, none⟩)), (3, .pointer (some ⟨w.heap.size + 1, 0, none⟩)), (5, .bool qf), (6, .int .i64 b.kind), (7, .int .i64 a.kind)]) [.b false, .b false, .b false, .b false, .b false, .b false, .b true, .b false, .b false, .b false] [4] [.bool false] [.eq b.kind 11 false, .eq b.kind 4 false, .eq b.kind 3 false, .eq b.kind 6 false, .eq b.kind 5 false, .eq b.kind 8 false, .eq b.kind 7 true, .eq a.kind 7 false, .eq b.kind 1 false, .eq b.kind 10 false] rfl (Knows.cons (Knows.cons (Knows.cons (Knows.cons (Knows.cons (Knows.nil _) rfl) rfl) rfl) rfl) rfl) (by kernel_rfl) ⟨x11, x4, x3, x6, x5, x8, x7, y7, x1, x10, trivial⟩ (fun A hA hd hv => ?_)
            have h4 := hv 0 4 _ rfl rfl
            refine hRest _ _ ?_
            apply wp_ret
            refine bodyPost_ret (results_tmp rfl _ _ _) hd ⟨?_, HB3.out⟩
            rw [Array.getD_eq_getD_getElem?, h4, HR.out]
            exact congrArg (fun q => Ending.returned (.bool q)) (by unfold hits; simp [b7, ak])
        have x7 : (b.kind == 7) = false := by simpa using b7
        by_cases b1 : b.kind = 1
        · have x1 : (b.kind == 1) = true := by simpa using b1
          have x4 : (b.kind == 4) = false := by rw [b1]; rfl
          have x3 : (b.kind == 3) = false := by rw [b1]; rfl
          have x6 : (b.kind == 6) = false := by rw [b1]; rfl
          have x5 : (b.kind == 5) = false := by rw [b1]; rfl
          have x8 : (b.kind == 8) = false := by rw [b1]; rfl
          have x7 : (b.kind == 7) = false := by rw [b1]; rfl
          have x10 : (b.kind == 10) = false := by rw [b1]; rfl
          by_cases ak : a.kind = 1
          · have y1 : (a.kind == 1) = true := by simpa using ak
            refine wpl_out (n := 112) ([(2, .pointer (some ⟨w.heap.size, 0, none⟩)), (3, .pointer (some ⟨w.heap.size + 1, 0, none⟩)), (5, .bool qf), (6, .int .i64 b.kind), (7, .int .i64 a.kind)]) [.b false, .b false, .b false, .b false, .b false, .b false, .b false, .b true, .b true] [4] [.bool true] [.eq b.kind 11 false, .eq b.kind 4 false, .eq b.kind 3 false, .eq b.kind 6 false, .eq b.kind 5 false, .eq b.kind 8 false, .eq b.kind 7 false, .eq b.kind 1 true, .eq a.kind 1 true] rfl (Knows.cons (Knows.cons (Knows.cons (Knows.cons (Knows.cons (Knows.nil _) rfl) rfl) rfl) rfl) rfl) (by kernel_rfl) ⟨x11, x4, x3, x6, x5, x8, x7, x1, y1, trivial⟩ (fun A hA hd hv => ?_)
            have h4 := hv 0 4 _ rfl rfl
            refine hRest _ _ ?_
            apply wp_ret
            refine bodyPost_ret (results_tmp rfl _ _ _) hd ⟨?_, HB3.out⟩
            rw [Array.getD_eq_getD_getElem?, h4, HR.out]
            exact congrArg (fun q => Ending.returned (.bool q)) (by unfold hits; simp [b1, ak])
          · have y1 : (a.kind == 1) = false := by simpa using ak
            refine wpl_out (n := 112) ([(2, .pointer (some ⟨w.heap.size, 0, none⟩)), (3, .pointer (some ⟨w.heap.size + 1, 0, none⟩)), (5, .bool qf), (6, .int .i64 b.kind), (7, .int .i64 a.kind)]) [.b false, .b false, .b false, .b false, .b false, .b false, .b false, .b true, .b false, .b false] [4] [.bool false] [.eq b.kind 11 false, .eq b.kind 4 false, .eq b.kind 3 false, .eq b.kind 6 false, .eq b.kind 5 false, .eq b.kind 8 false, .eq b.kind 7 false, .eq b.kind 1 true, .eq a.kind 1 false, .eq b.kind 10 false] rfl (Knows.cons (Knows.cons (Knows.cons (Knows.cons (Knows.cons (Knows.nil _) rfl) rfl) rfl) rfl) rfl) (by kernel_rfl) ⟨x11, x4, x3, x6, x5, x8, x7, x1, y1, x10, trivial⟩ (fun A hA hd hv => ?_)
            have h4 := hv 0 4 _ rfl rfl
            refine hRest _ _ ?_
            apply wp_ret
            refine bodyPost_ret (results_tmp rfl _ _ _) hd ⟨?_, HB3.out⟩
            rw [Array.getD_eq_getD_getElem?, h4, HR.out]
            exact congrArg (fun q => Ending.returned (.bool q)) (by unfold hits; simp [b1, ak])
        have x1 : (b.kind == 1) = false := by simpa using b1
        by_cases b10 : b.kind = 10
        · have x10 : (b.kind == 10) = true := by simpa using b10
          have x4 : (b.kind == 4) = false := by rw [b10]; rfl
          have x3 : (b.kind == 3) = false := by rw [b10]; rfl
          have x6 : (b.kind == 6) = false := by rw [b10]; rfl
          have x5 : (b.kind == 5) = false := by rw [b10]; rfl
          have x8 : (b.kind == 8) = false := by rw [b10]; rfl
          have x7 : (b.kind == 7) = false := by rw [b10]; rfl
          have x1 : (b.kind == 1) = false := by rw [b10]; rfl
          by_cases ak : a.kind = 9
          · have y9 : (a.kind == 9) = true := by simpa using ak
            cases qd with
            | true =>
              have hx := of_decide_eq_true HQD.out
              refine wpl_out (n := 112) ([(2, .pointer (some ⟨w.heap.size, 0, none⟩)), (3, .pointer (some ⟨w.heap.size + 1, 0, none⟩)), (5, .bool qf), (6, .int .i64 b.kind), (7, .int .i64 a.kind)]) [.b false, .b false, .b false, .b false, .b false, .b false, .b false, .b false, .b true, .b true, .v (.pointer (some ⟨w.heap.size, 19, none⟩)), .v (.pointer (some ⟨w.heap.size, 24, none⟩)), .v (.agg (dotc b.rr b.rn)), .v (.pointer (some ⟨w.heap.size + 1, 0, none⟩)), .v (.agg (dotc a.r a.n)), .v (.bool true)] [4] [.bool true] [.eq b.kind 11 false, .eq b.kind 4 false, .eq b.kind 3 false, .eq b.kind 6 false, .eq b.kind 5 false, .eq b.kind 8 false, .eq b.kind 7 false, .eq b.kind 1 false, .eq b.kind 10 true, .eq a.kind 9 true, .fa 29 (.pointer (some ⟨w.heap.size, 0, none⟩)) 3 (.pointer (some ⟨w.heap.size, 19, none⟩)), .fa 27 (.pointer (some ⟨w.heap.size, 19, none⟩)) 5 (.pointer (some ⟨w.heap.size, 24, none⟩)), .ld 23 ⟨w.heap.size, 24, none⟩ (.agg (dotc b.rr b.rn)), .fa 29 (.pointer (some ⟨w.heap.size + 1, 0, none⟩)) 0 (.pointer (some ⟨w.heap.size + 1, 0, none⟩)), .ld 23 ⟨w.heap.size + 1, 0, none⟩ (.agg (dotc a.r a.n)), .bi .eql 23 (.tmp 106) (.tmp 108) (.agg (dotc b.rr b.rn)) (.agg (dotc a.r a.n)) (.bool true)] rfl (Knows.cons (Knows.cons (Knows.cons (Knows.cons (Knows.cons (Knows.nil _) rfl) rfl) rfl) rfl) rfl) (by kernel_rfl) ⟨x11, x4, x3, x6, x5, x8, x7, x1, x10, y9, rfl, rfl, (load_dotm (k := 24) rb'), rfl, (load_dotm da'), ⟨eqGuard_dt _ _ _ _ _, eql_dt _ HQD.out⟩, trivial⟩ (fun A hA hd hv => ?_)
              have h4 := hv 0 4 _ rfl rfl
              refine hRest _ _ ?_
              apply wp_ret
              refine bodyPost_ret (results_tmp rfl _ _ _) hd ⟨?_, HB3.out⟩
              rw [Array.getD_eq_getD_getElem?, h4, HR.out]
              exact congrArg (fun q => Ending.returned (.bool q)) (by unfold hits; simp [b10, ak, hx])
            | false =>
              have hx := of_decide_eq_false HQD.out
              refine wpl_out (n := 112) ([(2, .pointer (some ⟨w.heap.size, 0, none⟩)), (3, .pointer (some ⟨w.heap.size + 1, 0, none⟩)), (5, .bool qf), (6, .int .i64 b.kind), (7, .int .i64 a.kind)]) [.b false, .b false, .b false, .b false, .b false, .b false, .b false, .b false, .b true, .b true, .v (.pointer (some ⟨w.heap.size, 19, none⟩)), .v (.pointer (some ⟨w.heap.size, 24, none⟩)), .v (.agg (dotc b.rr b.rn)), .v (.pointer (some ⟨w.heap.size + 1, 0, none⟩)), .v (.agg (dotc a.r a.n)), .v (.bool false)] [4] [.bool false] [.eq b.kind 11 false, .eq b.kind 4 false, .eq b.kind 3 false, .eq b.kind 6 false, .eq b.kind 5 false, .eq b.kind 8 false, .eq b.kind 7 false, .eq b.kind 1 false, .eq b.kind 10 true, .eq a.kind 9 true, .fa 29 (.pointer (some ⟨w.heap.size, 0, none⟩)) 3 (.pointer (some ⟨w.heap.size, 19, none⟩)), .fa 27 (.pointer (some ⟨w.heap.size, 19, none⟩)) 5 (.pointer (some ⟨w.heap.size, 24, none⟩)), .ld 23 ⟨w.heap.size, 24, none⟩ (.agg (dotc b.rr b.rn)), .fa 29 (.pointer (some ⟨w.heap.size + 1, 0, none⟩)) 0 (.pointer (some ⟨w.heap.size + 1, 0, none⟩)), .ld 23 ⟨w.heap.size + 1, 0, none⟩ (.agg (dotc a.r a.n)), .bi .eql 23 (.tmp 106) (.tmp 108) (.agg (dotc b.rr b.rn)) (.agg (dotc a.r a.n)) (.bool false)] rfl (Knows.cons (Knows.cons (Knows.cons (Knows.cons (Knows.cons (Knows.nil _) rfl) rfl) rfl) rfl) rfl) (by kernel_rfl) ⟨x11, x4, x3, x6, x5, x8, x7, x1, x10, y9, rfl, rfl, (load_dotm (k := 24) rb'), rfl, (load_dotm da'), ⟨eqGuard_dt _ _ _ _ _, eql_dt _ HQD.out⟩, trivial⟩ (fun A hA hd hv => ?_)
              have h4 := hv 0 4 _ rfl rfl
              refine hRest _ _ ?_
              apply wp_ret
              refine bodyPost_ret (results_tmp rfl _ _ _) hd ⟨?_, HB3.out⟩
              rw [Array.getD_eq_getD_getElem?, h4, HR.out]
              exact congrArg (fun q => Ending.returned (.bool q)) (by unfold hits; simp [b10, ak, hx])
          · have y9 : (a.kind == 9) = false := by simpa using ak
            refine wpl_out (n := 112) ([(2, .pointer (some ⟨w.heap.size, 0, none⟩)), (3, .pointer (some ⟨w.heap.size + 1, 0, none⟩)), (5, .bool qf), (6, .int .i64 b.kind), (7, .int .i64 a.kind)]) [.b false, .b false, .b false, .b false, .b false, .b false, .b false, .b false, .b true, .b false] [4] [.bool false] [.eq b.kind 11 false, .eq b.kind 4 false, .eq b.kind 3 false, .eq b.kind 6 false, .eq b.kind 5 false, .eq b.kind 8 false, .eq b.kind 7 false, .eq b.kind 1 false, .eq b.kind 10 true, .eq a.kind 9 false] rfl (Knows.cons (Knows.cons (Knows.cons (Knows.cons (Knows.cons (Knows.nil _) rfl) rfl) rfl) rfl) rfl) (by kernel_rfl) ⟨x11, x4, x3, x6, x5, x8, x7, x1, x10, y9, trivial⟩ (fun A hA hd hv => ?_)
            have h4 := hv 0 4 _ rfl rfl
            refine hRest _ _ ?_
            apply wp_ret
            refine bodyPost_ret (results_tmp rfl _ _ _) hd ⟨?_, HB3.out⟩
            rw [Array.getD_eq_getD_getElem?, h4, HR.out]
            exact congrArg (fun q => Ending.returned (.bool q)) (by unfold hits; simp [b10, ak])
        have x10 : (b.kind == 10) = false := by simpa using b10
        refine wpl_out (n := 112) ([(2, .pointer (some ⟨w.heap.size, 0, none⟩)), (3, .pointer (some ⟨w.heap.size + 1, 0, none⟩)), (5, .bool qf), (6, .int .i64 b.kind), (7, .int .i64 a.kind)]) [.b false, .b false, .b false, .b false, .b false, .b false, .b false, .b false, .b false] [4] [.bool false] [.eq b.kind 11 false, .eq b.kind 4 false, .eq b.kind 3 false, .eq b.kind 6 false, .eq b.kind 5 false, .eq b.kind 8 false, .eq b.kind 7 false, .eq b.kind 1 false, .eq b.kind 10 false] rfl (Knows.cons (Knows.cons (Knows.cons (Knows.cons (Knows.cons (Knows.nil _) rfl) rfl) rfl) rfl) rfl) (by kernel_rfl) ⟨x11, x4, x3, x6, x5, x8, x7, x1, x10, trivial⟩ (fun A hA hd hv => ?_)
        have h4 := hv 0 4 _ rfl rfl
        refine hRest _ _ ?_
        apply wp_ret
        refine bodyPost_ret (results_tmp rfl _ _ _) hd ⟨?_, HB3.out⟩
        rw [Array.getD_eq_getD_getElem?, h4, HR.out]
        exact congrArg (fun q => Ending.returned (.bool q)) (by unfold hits; simp [b11, b4, b3, b6, b5, b8, b7, b1, b10])
      · have HR : Hid (endsE b a = false) := by show _ = _; unfold endsE; rw [decide_eq_false hk]; simp
        rw [decide_eq_false hk] at hkb
        clear hb ha ht hk
        go_wp2
        go_ret
        exact ⟨by rw [HR.out]; rfl, HB2.out⟩
  · have HR : Hid (endsE b a = false) := by show _ = _; unfold endsE; rw [hc]; rfl
    rw [hc]
    clear hb' ha'
    go_wp2
    go_ret
    exact ⟨by rw [HR.out]; rfl, HB1.out⟩
end Go.Proofs.YthlebgioamcioabGreat

/-
  What Ends comes to.
-/
namespace Go.Proofs.YthlebgioamcioabGreat
set_option maxRecDepth 100000
set_option maxRecDepth 100000
open Go.RowKit

theorem plain_am : Tryz.prog.eqGuardType Tryz.prog.depth 255 = false := by kernel_rfl
theorem eqGuard_am (w : World) {op : BinOp} {x y : Operand} (p q : Aim) : (eqGuard op 255 x y (.agg (amc p)) (.agg (amc q))).run Tryz.prog w = .ok () w := run_eqGuard_agg w _ _ _ _ _ _ plain_am
theorem eql_am (w : World) {x y : Aim} {t : Bool} (h : decide (x = y) = t) : (binOp .eql 255 (.agg (amc x)) (.agg (amc y))).run Tryz.prog w = .ok (.bool t) w := by
  rw [run_eql_struct, run_equalIn_aim w 9997, Result.andThen_ok, h]
theorem meets_no {b a : Ev} (h : (aimP b).2 = false) : meets b a = false := by unfold meets; rw [h]; rfl
theorem meets_one {b a : Ev} (h : (aimP b).2 = true) (h1 : decide ((aimP b).1 = wholeE a.key) = true) : meets b a = true := by unfold meets; rw [h, h1]; rfl
theorem meets_two {b a : Ev} (h : (aimP b).2 = true) (h1 : decide ((aimP b).1 = wholeE a.key) = false) : meets b a = decide ((aimP b).1 = aimAtE a) := by unfold meets; rw [h, h1]; rfl
set_option maxHeartbeats 1000000 in
theorem ends_any (b a : Ev) (hb16 : b.deps.length = 16) (ha16 : a.deps.length = 16) (w : World) : Calls Tryz.prog 174 #[.agg (evc b), .agg (evc a)] w fun e w' => e = .returned (.bool (endsE b a)) ∧ Below w.heap.size w w' := by
  obtain ⟨hb, ha, hB⟩ := boxedEE w b a
  have HB : Hid (Below w.heap.size w ((w.alloc (.cells (evc b) 29)).alloc (.cells (evc a) 29))) := hB
  clear hB
  have ca := ha.c19 ha16
  go_enter Tryz.func174, Tryz.ntmps174
  go_wp2_with fail
  refine (adds_any a.kind _).mono ?_
  rintro e w1 ⟨rfl, hw1⟩
  obtain rfl := hw1.symm
  clear hw1 ca
  rcases Bool.eq_false_or_eq_true (addsE a.kind) with hadd | hadd
  · rw [hadd]
    go_wp2_with (first | refine load_ev rfl rfl rfl hb hb16 ?_ | refine load_ev rfl rfl rfl ha ha16 ?_)
    refine (covers_any b a hb16 _).mono ?_
    rintro e w1 ⟨rfl, hb1⟩
    have hb' := hb.below hb1 hb.lt
    have ha' := ha.below hb1 ha.lt
    have HB1 : Hid (Below w.heap.size w w1) := HB.out.trans (hb1.mono HB.out.size)
    clear hb ha hb1 HB
    rcases Bool.eq_false_or_eq_true (coversE b a) with hc | hc
    · rw [hc]
      have HR : Hid (endsE b a = meets b a) := by show _ = _; rw [← ends_aim b a hadd, hc]; rfl
      have hop := hb'.op hb16
      go_wp2_with (refine load_op_at rfl rfl rfl hop ?_)
      refine (aimof_any b _).mono ?_
      rintro e w2 ⟨rfl, hb2⟩
      have ha2 := ha'.below hb2 ha'.lt
      have HB2 : Hid (Below w.heap.size w w2) := HB1.out.trans (hb2.mono HB1.out.size)
      have hM0 := liesM_new w2 zaim
      have hM1 := hM0.row (aimP b).1
      have hlt2 := ha2.lt
      have hA3 : LiesE ((w2.alloc (.cells (amc zaim) 255)).setRow w2.heap.size (amc (aimP b).1)) (w.heap.size + 1) a := (ha2.alloc _).rowOther _ (by omega)
      have HB3 : Hid (Below w.heap.size w ((w2.alloc (.cells (amc zaim) 255)).setRow w2.heap.size (amc (aimP b).1))) := below_setRow (HB2.out.alloc HB2.out.size _) (by have := HB2.out.size; omega) _
      clear hb' ha' hb2 HB1 ha2 HB2 hop hlt2
      go_upto_region 4 with (refine store_am (x := (aimP b).1) rfl rfl rfl rfl hM0 ?_)
      change Code.wp _ _ _ _ ((w2.alloc (.cells (amc zaim) 255)).setRow w2.heap.size (amc (aimP b).1))
      generalize (w2.alloc (.cells (amc zaim) 255)).setRow w2.heap.size (amc (aimP b).1) = W0 at hM1 hA3 HB3 ⊢
      clear hM0
      generalize w2.heap.size = G at *
      rcases Bool.eq_false_or_eq_true (aimP b).2 with hok | hok
      · rcases Bool.eq_false_or_eq_true (decide ((aimP b).1 = wholeE a.key)) with h1 | h1
        · have HR1 : Hid (endsE b a = _) := HR.out.trans (meets_one hok h1)
          rw [hok]
          refine region_vals [24, 25, 26, 27, 28, 29, 30, 31, 32, 33, 34, 35, 36, 37, 38, 4] [.bool true, .bool true, .agg (amc (aimP b).1), .pointer (some ⟨w.heap.size + 1, 19, none⟩), .pointer (some ⟨w.heap.size + 1, 20, none⟩), .string (sb a.key), .agg (amc (wholeE a.key)), .bool true, .bool true, undef, undef, undef, undef, .bool true, .bool true, .bool true] _ (by kernel_rfl) (by kernel_rfl) (by rfl) (by decide) (by kernel_rfl) (by simp only [lay, Act.put, List.setIfInBounds_toArray, List.set_cons_zero, List.set_cons_succ, List.getD_cons_zero, List.getD_cons_succ, Nat.reduceAdd]; rfl) ⟨?_, ?_, ?_, ?_, ?_, ?_, ?_, ?_, ?_, ?_, ?_, ?_, ?_, ?_, ?_, ?_, trivial⟩ ?_
          · exact .inl ⟨rfl, fun W hb => yields_move rfl rfl⟩
          · exact .inl ⟨rfl, fun W hb => yields_move rfl rfl⟩
          · exact .inl ⟨rfl, fun W hb => yields_load rfl rfl (load_amr (hM1.below hb hM1.lt))⟩
          · exact .inl ⟨rfl, fun W hb => yields_field rfl rfl (field_e3 W _)⟩
          · exact .inl ⟨rfl, fun W hb => yields_field rfl rfl (field_p1 W _ 19)⟩
          · exact .inl ⟨rfl, fun W hb => yields_load rfl rfl (load_str_run ((hA3.below hb hA3.lt).c20 ha16))⟩
          · exact .inl ⟨rfl, fun W hb => yields_call (vs := [.string (sb a.key)]) rfl rfl (enters_wholekey _ _) (whole_any _ W)⟩
          · exact .inl ⟨rfl, fun W hb => yields_bin rfl rfl rfl (eqGuard_am W _ _) (eql_am W h1)⟩
          · exact .inl ⟨rfl, fun W hb => yields_move rfl rfl⟩
          · exact .inr ⟨rfl, rfl⟩
          · exact .inr ⟨rfl, rfl⟩
          · exact .inr ⟨rfl, rfl⟩
          · exact .inr ⟨rfl, rfl⟩
          · exact .inl ⟨rfl, fun W hb => yields_pick (b := true) rfl rfl rfl⟩
          · exact .inl ⟨rfl, fun W hb => yields_pick (b := true) rfl rfl rfl⟩
          · exact .inl ⟨rfl, fun W hb => yields_assign rfl rfl⟩
          intro w4 hb4
          have HB4 : Hid (Below w.heap.size w w4) := HB3.out.trans (hb4.mono HB3.out.size)
          clear hb4 HB3 hM1 hA3
          go_wp2
          go_ret
          exact ⟨by rw [HR1.out]; rfl, HB4.out⟩
        · have HR2 : Hid (endsE b a = _) := HR.out.trans (meets_two hok h1)
          rw [hok]
          refine region_vals [24, 25, 26, 27, 28, 29, 30, 31, 32, 33, 34, 35, 36, 37, 38, 4] [.bool true, .bool true, .agg (amc (aimP b).1), .pointer (some ⟨w.heap.size + 1, 19, none⟩), .pointer (some ⟨w.heap.size + 1, 20, none⟩), .string (sb a.key), .agg (amc (wholeE a.key)), .bool false, .bool false, .agg (amc (aimP b).1), .agg (evc a), .agg (amc (aimAtE a)), .bool (decide ((aimP b).1 = aimAtE a)), .bool (decide ((aimP b).1 = aimAtE a)), .bool (decide ((aimP b).1 = aimAtE a)), .bool (decide ((aimP b).1 = aimAtE a))] _ (by kernel_rfl) (by kernel_rfl) (by rfl) (by decide) (by kernel_rfl) (by simp only [lay, Act.put, List.setIfInBounds_toArray, List.set_cons_zero, List.set_cons_succ, List.getD_cons_zero, List.getD_cons_succ, Nat.reduceAdd]; rfl) ⟨?_, ?_, ?_, ?_, ?_, ?_, ?_, ?_, ?_, ?_, ?_, ?_, ?_, ?_, ?_, ?_, trivial⟩ ?_
          · exact .inl ⟨rfl, fun W hb => yields_move rfl rfl⟩
          · exact .inl ⟨rfl, fun W hb => yields_move rfl rfl⟩
          · exact .inl ⟨rfl, fun W hb => yields_load rfl rfl (load_amr (hM1.below hb hM1.lt))⟩
          · exact .inl ⟨rfl, fun W hb => yields_field rfl rfl (field_e3 W _)⟩
          · exact .inl ⟨rfl, fun W hb => yields_field rfl rfl (field_p1 W _ 19)⟩
          · exact .inl ⟨rfl, fun W hb => yields_load rfl rfl (load_str_run ((hA3.below hb hA3.lt).c20 ha16))⟩
          · exact .inl ⟨rfl, fun W hb => yields_call (vs := [.string (sb a.key)]) rfl rfl (enters_wholekey _ _) (whole_any _ W)⟩
          · exact .inl ⟨rfl, fun W hb => yields_bin rfl rfl rfl (eqGuard_am W _ _) (eql_am W h1)⟩
          · exact .inl ⟨rfl, fun W hb => yields_move rfl rfl⟩
          · exact .inl ⟨rfl, fun W hb => yields_load rfl rfl (load_amr (hM1.below hb hM1.lt))⟩
          · exact .inl ⟨rfl, fun W hb => yields_load rfl rfl (load_ev_run (hA3.below hb hA3.lt) ha16)⟩
          · exact .inl ⟨rfl, fun W hb => yields_call (vs := [.agg (evc a)]) rfl rfl (enters_aimat _ _) (aimat_any _ ha16 W)⟩
          · exact .inl ⟨rfl, fun W hb => yields_bin rfl rfl rfl (eqGuard_am W _ _) (eql_am W rfl)⟩
          · exact .inl ⟨rfl, fun W hb => yields_pick (b := false) rfl rfl rfl⟩
          · exact .inl ⟨rfl, fun W hb => yields_pick (b := true) rfl rfl rfl⟩
          · exact .inl ⟨rfl, fun W hb => yields_assign rfl rfl⟩
          intro w4 hb4
          have HB4 : Hid (Below w.heap.size w w4) := HB3.out.trans (hb4.mono HB3.out.size)
          clear hb4 HB3 hM1 hA3
          go_wp2
          go_ret
          exact ⟨by rw [HR2.out]; rfl, HB4.out⟩
      · have HR3 : Hid (endsE b a = _) := HR.out.trans (meets_no hok)
        rw [hok]
        refine region_vals [24, 25, 26, 27, 28, 29, 30, 31, 32, 33, 34, 35, 36, 37, 38, 4] [.bool false, .bool false, undef, undef, undef, undef, undef, undef, undef, undef, undef, undef, undef, undef, .bool false, .bool false] _ (by kernel_rfl) (by kernel_rfl) (by rfl) (by decide) (by kernel_rfl) (by simp only [lay, Act.put, List.setIfInBounds_toArray, List.set_cons_zero, List.set_cons_succ, List.getD_cons_zero, List.getD_cons_succ, Nat.reduceAdd]; rfl) ⟨?_, ?_, ?_, ?_, ?_, ?_, ?_, ?_, ?_, ?_, ?_, ?_, ?_, ?_, ?_, ?_, trivial⟩ ?_
        · exact .inl ⟨rfl, fun W hb => yields_move rfl rfl⟩
        · exact .inl ⟨rfl, fun W hb => yields_move rfl rfl⟩
        · exact .inr ⟨rfl, rfl⟩
        · exact .inr ⟨rfl, rfl⟩
        · exact .inr ⟨rfl, rfl⟩
        · exact .inr ⟨rfl, rfl⟩
        · exact .inr ⟨rfl, rfl⟩
        · exact .inr ⟨rfl, rfl⟩
        · exact .inr ⟨rfl, rfl⟩
        · exact .inr ⟨rfl, rfl⟩
        · exact .inr ⟨rfl, rfl⟩
        · exact .inr ⟨rfl, rfl⟩
        · exact .inr ⟨rfl, rfl⟩
        · exact .inr ⟨rfl, rfl⟩
        · exact .inl ⟨rfl, fun W hb => yields_pick (b := false) rfl rfl rfl⟩
        · exact .inl ⟨rfl, fun W hb => yields_assign rfl rfl⟩
        intro w4 hb4
        have HB4 : Hid (Below w.heap.size w w4) := HB3.out.trans (hb4.mono HB3.out.size)
        clear hb4 HB3 hM1 hA3
        go_wp2
        go_ret
        exact ⟨by rw [HR3.out]; rfl, HB4.out⟩
    · have HR : Hid (endsE b a = false) := by show _ = _; unfold endsE; rw [hc]; rfl
      rw [hc]
      clear hb' ha'
      go_wp2
      go_ret
      exact ⟨by rw [HR.out]; rfl, HB1.out⟩
  · have HR : Hid (endsE b a = false) := by show _ = _; unfold endsE; rw [hadd]; simp
    rw [hadd]
    clear hb ha
    go_wp2
    go_ret
    exact ⟨by rw [HR.out]; rfl, HB.out⟩
end Go.Proofs.YthlebgioamcioabGreat

/-
  Pieces of lists, and lists that are laid anew.
-/
namespace Go.Proofs.YthlebgioamcioabGreat
set_option maxRecDepth 100000
set_option maxRecDepth 100000
open Go.RowKit

/-- From a place on. -/
def dropA (ao : Option Addr) (c k : Nat) : Option Addr := if c = k then ao else ao.map (·.add (k * 26))
theorem slice_from (w : World) {ao : Option Addr} {m c k : Nat} (hk : k ≤ m) : (Instr.sliceAt 32 (.slice ao m c) (some (.int .i64 (k : Int))) none none).run Tryz.prog w = .ok (.slice (dropA ao c k) (m - k) (c - k)) w := by
  have h2 : (k : Int) ≤ (m : Int) := by omega
  have hs : (sizeOf 29).run Tryz.prog w = .ok 26 w := Tryz.sizeOf29 w
  have ht : Tryz.prog.underlying 32 = some (.slice 29) := Tryz.underlying32
  have he : Tryz.prog.elem 32 = 29 := by kernel_rfl
  rw [run_sliceAt_slice w 32 _ _ _ _ (by rw [he]; exact ht), run_slice_l w 32 ao m c (by rw [he]; exact ht) .i64 (k : Int) (by omega) h2, he, hs, Result.andThen_ok]
  unfold sliced dropA
  simp
theorem Evs.drop {w : World} {ao : Option Addr} {m c : Nat} {E : List Ev} (h : Evs w ao m c E) {k : Nat} (hk : k ≤ m) : Evs w (dropA ao c k) (m - k) (c - k) (E.drop k) := by
  have hl := h.len
  have hr := h.room
  have ht := h.top
  refine ⟨by rw [List.length_drop]; omega, by omega, by omega, fun e => ?_, fun ad ha j u hu => ?_, fun e he => h.wide e (List.mem_of_mem_drop he)⟩
  · have : ao = none := by
      unfold dropA at e
      split at e
      · exact e
      · cases ao with
        | none => rfl
        | some _ => cases e
    have := h.zero this
    omega
  · have hlen : (evs (E.take k)).length = k * 26 := by
      rw [evs_length (fun e he => h.wide e (List.mem_of_mem_take he)), List.length_take]
      congr 1
      omega
    have e1 : evs E = evs (E.take k) ++ evs (E.drop k) := by rw [← evs_append, List.take_append_drop]
    have hjl := (List.getElem?_eq_some_iff.1 hu).1
    have hu2 : (evs E)[k * 26 + j]? = some u := by
      rw [e1, List.getElem?_append_right (by omega), hlen, show k * 26 + j - k * 26 = j by omega]
      exact hu
    by_cases hck : c = k
    · have : E.drop k = [] := List.drop_eq_nil_of_le (by omega)
      rw [this] at hu
      cases hu
    · unfold dropA at ha
      rw [if_neg hck] at ha
      cases ao with
      | none => cases ha
      | some a0 =>
        have ha' : a0.add (k * 26) = ad := by simpa using ha
        rw [← ha', Go.Deep.add_add]
        exact h.cells a0 rfl _ _ hu2
theorem exec_slicef {o : Oper} {a : Act} {w : World} {x y : Operand} {t : TypeId} {vx vy v : Value} (ho : o.op = .slice t x (some y) none none) (hx : a.eval x = vx) (hy : a.eval y = vy) (hr : (Instr.sliceAt t vx (some vy) none none).run Tryz.prog w = .ok v w) : (execOp a.eval o).run Tryz.prog w = .ok (.value v) w := by
  unfold execOp
  simp only [ho, hx, hy, Option.map_some, Option.map_none, Sem.run_bind, Sem.run_pure, hr]
  rfl
theorem run_build0 (w : World) : (Instr.buildSlice 32 0 #[]).run Tryz.prog w = .ok (.slice (some ⟨w.heap.size, 0, none⟩) 0 0) (w.alloc (.cells #[] 29)) := by
  obtain ⟨i0, hi, hz0, hz1, hz2⟩ := info_parts infoE
  have ht : Tryz.prog.underlying 32 = some (.slice 29) := Tryz.underlying32
  simp [Instr.buildSlice, run_underlying ht, sizeOf, typeInfo, hi, Instr.fill, newRow]
  have h0 : Array.range 0 = #[] := by apply Array.eq_empty_of_size_eq_zero; simp
  rw [h0, Array.map_empty]
theorem wp_build0 {o : Oper} {a : Act} {w w' : World} {K : Act → World → Prop} {Q : Exit → Act → World → Prop} {ty : TypeId} {n : Nat} {v : Value} (ho : o.op = .buildSlice ty n #[]) (hr : (Instr.buildSlice ty n #[]).run Tryz.prog w = .ok v w') (h : K (a.put o.dst v) w') : o.wp Tryz.prog a w K Q := by
  unfold Oper.wp execOp
  simp only [ho, List.map_toArray, List.map_nil, Sem.run_bind, Sem.run_pure, Result.andThen_ok, hr]
  exact h
end Go.Proofs.YthlebgioamcioabGreat

/-
  What slices.DeleteFunc of events comes to.
-/
namespace Go.Proofs.YthlebgioamcioabGreat
set_option maxRecDepth 100000
set_option maxRecDepth 100000
open Go.RowKit Go.Shelf Go.Sort

theorem calls_belowI {f : FuncId} {as' : Array Value} {W : World} {b : Int} (h : Calls Tryz.prog f as' W fun e w' => e = .returned (.int .i64 b) ∧ w' = W) : Calls Tryz.prog f as' W fun e w' => e = .returned (.int .i64 b) ∧ Below W.heap.size W w' :=
  h.mono fun _ _ ⟨h1, h2⟩ => ⟨h1, by rw [h2]; exact Below.refl _ _⟩
theorem field_p0 (w : World) (b i : Nat) : (Instr.fieldAt 27 (.pointer (some ⟨b, i, none⟩)) 0).run Tryz.prog w = .ok (.pointer (some ⟨b, i, none⟩)) w := by go_simp
theorem enters_typeof (xs : Array Value) (w : World) : (callFunc 160 xs).run Tryz.prog w = .ok (.enter 160 xs) w := enters Tryz.func160 (by kernel_rfl) (by kernel_rfl) xs w
/-- Of's closure. -/
theorem off_any (u : Ev) (hl : u.deps.length = 16) (c : Nat) (x : Int) (w0 : World) (hc0 : w0.cell? ⟨c, 0, none⟩ = some (.int .i64 x)) :
    Calls Tryz.prog 187 #[.agg (evc u), .pointer (some ⟨c, 0, none⟩)] w0 fun e w' => e = .returned (.bool (typE u.kind != x)) ∧ Below w0.heap.size w0 w' := by
  obtain ⟨w, hw⟩ : ∃ w : World, w = w0 := ⟨_, rfl⟩
  subst hw
  have hE := liesE_new w u
  have hc : (w.alloc (.cells (evc u) 29)).cell? ⟨c, 0, none⟩ = some (.int .i64 x) := Lib.cell?_alloc_some _ hc0
  have HB : Hid (Below w.heap.size w (w.alloc (.cells (evc u) 29))) := (Below.refl _ w).alloc (Nat.le_refl _) _
  clear hc0
  go_enter Tryz.func187, Tryz.ntmps187
  go_wp2_with fail
  refine region_vals [4, 5, 6, 7, 8, 9, 3] [.pointer (some ⟨w.heap.size, 19, none⟩), .pointer (some ⟨w.heap.size, 19, none⟩), .int .i64 u.kind, .int .i64 (typE u.kind), .int .i64 x, .bool (typE u.kind != x), .bool (typE u.kind != x)] _ (by kernel_rfl) (by kernel_rfl) (by rfl) (by decide) (by kernel_rfl) (by simp only [lay, Act.put, List.setIfInBounds_toArray, List.set_cons_zero, List.set_cons_succ, List.getD_cons_zero, List.getD_cons_succ, Nat.reduceAdd]; rfl) ⟨?_, ?_, ?_, ?_, ?_, ?_, ?_, trivial⟩ ?_
  · exact .inl ⟨rfl, fun W hb => yields_field rfl rfl (field_e3 W _)⟩
  · exact .inl ⟨rfl, fun W hb => yields_field rfl rfl (field_p0 W _ 19)⟩
  · exact .inl ⟨rfl, fun W hb => yields_load rfl rfl (load_int_run ((hE.below hb hE.lt).c19 hl))⟩
  · exact .inl ⟨rfl, fun W hb => yields_call (vs := [.int .i64 u.kind]) rfl rfl (enters_typeof _ _) (calls_belowI (typeof_any _ W))⟩
  · exact .inl ⟨rfl, fun W hb => yields_load rfl rfl (load_int_run ((hb.cell (block_lt_of_cell hc)).trans hc))⟩
  · exact .inl ⟨rfl, fun W hb => yields_bin rfl rfl rfl (eqGuard_int W) (neq_run W _ _)⟩
  · exact .inl ⟨rfl, fun W hb => yields_assign rfl rfl⟩
  intro w2 hb2
  have HB2 : Hid (Below w.heap.size w w2) := HB.out.trans (hb2.mono HB.out.size)
  clear hE hc hb2 HB
  go_wp2
  go_ret
  exact ⟨rfl, HB2.out⟩

/-! A row that is stored into. -/
theorem heap_setCells_same {g : Nat} {t : TypeId} : ∀ (vs : List Value) (o : Nat) (w : World) (cur : Array Value), w.heap[g]? = some (.cells cur t (0, 0)) → (w.setCells g o vs).heap[g]? = some (.cells (setMany cur o vs) t (0, 0))
  | [], _, _, _, h => h
  | v :: vs, o, w, cur, h => heap_setCells_same vs (o + 1) (w.setCell ⟨g, o, none⟩ v) (cur.setIfInBounds o v) (heap_setCell_same w g o cur t v h)
theorem get_take {cur : Array Value} {N : Nat} {L : List Value} (h : cur.toList.take N = L) {t : Nat} (ht : t < N) : cur[t]? = L[t]? := by
  rw [← h, List.getElem?_take_of_lt ht, Array.getElem?_toList]
theorem take_many {cur : Array Value} {n i : Nat} {R : List Ev} {u : Ev} (hR : ∀ e ∈ R, Wide e) (hn : R.length = n) (hc : n * 26 ≤ cur.size) (h : cur.toList.take (n * 26) = evs R) (hu : Wide u) : (setMany cur (i * 26) (evl u)).toList.take (n * 26) = evs (R.set i u) := by
  have hul := evl_length u hu.1
  have hw2 : ∀ e ∈ R.set i u, Wide e := fun e he => (List.mem_or_eq_of_mem_set he).elim (hR e) (fun e1 => e1 ▸ hu)
  have hl2 : (evs (R.set i u)).length = n * 26 := by rw [evs_length hw2, List.length_set, hn]
  apply List.ext_getElem?
  intro t
  by_cases ht : t < n * 26
  · have htc : t < (setMany cur (i * 26) (evl u)).size := by rw [size_setMany]; omega
    rw [List.getElem?_take_of_lt ht, Array.getElem?_toList, Array.getElem?_eq_getElem htc]
    have hg := get_setMany (evl u) (i * 26) cur t (by omega)
    rw [getElem!_pos _ t htc, hul] at hg
    rw [hg]
    have hj : t / 26 < n := by omega
    have hr : t % 26 < 26 := Nat.mod_lt _ (by omega)
    by_cases hb : i * 26 ≤ t ∧ t < i * 26 + 26
    · rw [if_pos hb]
      have hji : t / 26 = i := by omega
      have he : (R.set i u)[t / 26]? = some u := by rw [hji, List.getElem?_set_self (by omega)]
      have hv : (evl u)[t % 26]? = some (evl u)[t - i * 26]! := by
        rw [show t - i * 26 = t % 26 by omega, List.getElem?_eq_getElem (by omega), getElem!_pos _ _ (by omega)]
      have := evs_at hw2 (t / 26) u he (t % 26) _ hv
      rw [show t / 26 * 26 + t % 26 = t by omega] at this
      exact this.symm
    · rw [if_neg hb]
      have hji : i ≠ t / 26 := by omega
      have htc' : t < cur.size := by omega
      have h1 := get_take h ht
      rw [Array.getElem?_eq_getElem htc'] at h1
      rw [getElem!_pos cur t htc', h1]
      obtain ⟨e, he⟩ : ∃ e, R[t / 26]? = some e := ⟨_, List.getElem?_eq_getElem (by omega)⟩
      have hel := evl_length e (hR e (List.mem_of_getElem? he)).1
      obtain ⟨v, hv⟩ : ∃ v, (evl e)[t % 26]? = some v := ⟨_, List.getElem?_eq_getElem (by omega)⟩
      have a1 := evs_at hR (t / 26) e he (t % 26) v hv
      have a2 := evs_at hw2 (t / 26) e (by rw [List.getElem?_set_ne hji]; exact he) (t % 26) v hv
      rw [show t / 26 * 26 + t % 26 = t by omega] at a1 a2
      rw [a1, a2]
  · rw [List.getElem?_eq_none (by rw [List.length_take, Array.length_toList]; omega), List.getElem?_eq_none (by omega)]
theorem row_put {w : World} {base g n cap i : Nat} {R : List Ev} {u : Ev} (h : Row w base (.slice (some ⟨g, 0, none⟩) n cap) R) (hn : R.length = n) (hR : ∀ e ∈ R, Wide e) (hu : Wide u) : Row (w.setCells g (i * 26) (evl u)) base (.slice (some ⟨g, 0, none⟩) n cap) (R.set i u) := by
  rcases h.2 with ⟨hh, -⟩ | ⟨g', cap', cur, hv, hbg, hg, hnc, hcm, hcs, htk⟩
  · cases hh
  · simp only [Value.slice.injEq, Option.some.injEq, Addr.mk.injEq, and_true] at hv
    obtain ⟨rfl, h1, rfl⟩ := hv
    have hl : (R.set i u).length = R.length := List.length_set
    refine ⟨?_, .inr ⟨g, cap, setMany cur (i * 26) (evl u), by rw [hl, hn], hbg, heap_setCells_same _ _ _ _ hg, by omega, hcm, by rw [size_setMany, hcs], ?_⟩⟩
    · rw [evs_length (fun e he => (List.mem_or_eq_of_mem_set he).elim (hR e) (fun e1 => e1 ▸ hu)), hl]
    · rw [hl, hn]
      rw [hn] at htk
      exact take_many hR hn (by omega) htk hu
/-- What stands behind may turn. -/
theorem row_cut {w : World} {base g n cap i : Nat} {R : List Ev} {vs : List Value} (h : Row w base (.slice (some ⟨g, 0, none⟩) n cap) R) (hn : R.length = n) (hR : ∀ e ∈ R, Wide e) (hi : i ≤ n) : Row (w.setCells g (i * 26) vs) base (.slice (some ⟨g, 0, none⟩) i cap) (R.take i) := by
  rcases h.2 with ⟨hh, -⟩ | ⟨g', cap', cur, hv, hbg, hg, hnc, hcm, hcs, htk⟩
  · cases hh
  · simp only [Value.slice.injEq, Option.some.injEq, Addr.mk.injEq, and_true] at hv
    obtain ⟨rfl, h1, rfl⟩ := hv
    have hl : (R.take i).length = i := by rw [List.length_take]; omega
    have hwt : ∀ e ∈ R.take i, Wide e := fun e he => hR e (List.mem_of_mem_take he)
    have hlt : (evs (R.take i)).length = i * 26 := by rw [evs_length hwt, hl]
    refine ⟨by rw [hlt, hl], .inr ⟨g, cap, setMany cur (i * 26) vs, by rw [hl], hbg, heap_setCells_same _ _ _ _ hg, by omega, hcm, by rw [size_setMany, hcs], ?_⟩⟩
    rw [hl]
    apply List.ext_getElem?
    intro t
    by_cases ht : t < i * 26
    · have htc : t < cur.size := by omega
      have htm : t < (setMany cur (i * 26) vs).size := by rw [size_setMany]; exact htc
      rw [List.getElem?_take_of_lt ht, Array.getElem?_toList, Array.getElem?_eq_getElem htm]
      have hgm := get_setMany vs (i * 26) cur t htc
      rw [getElem!_pos _ t htm, if_neg (by omega), getElem!_pos cur t htc] at hgm
      rw [hgm]
      rw [hn] at htk
      have h1 := get_take htk (show t < n * 26 by omega)
      rw [Array.getElem?_eq_getElem htc] at h1
      rw [h1]
      have e1 : evs R = evs (R.take i) ++ evs (R.drop i) := by rw [← evs_append, List.take_append_drop]
      rw [e1, List.getElem?_append_left (by omega)]
    · rw [List.getElem?_eq_none (by rw [List.length_take, Array.length_toList]; omega), List.getElem?_eq_none (by omega)]

def bad (x : Int) (u : Ev) : Bool := typE u.kind != x
set_option maxHeartbeats 1000000 in
theorem idxf_any (ao : Option Addr) (m c : Nat) (R : List Ev) (k : Nat) (x : Int) (w : World) (hE : Evs w ao m c R) (hc : w.cell? ⟨k, 0, none⟩ = some (.int .i64 x)) (hm : m ≤ 1000) :
    Calls Tryz.prog 138 #[.slice ao m c, .func (.func 187) #[] #[.pointer (some ⟨k, 0, none⟩)]] w fun e w' => ∃ i : Int, e = .returned (.int .i64 i) ∧ Aside ((i = -1 ∧ ∀ u ∈ R, bad x u = false) ∨ ∃ j : Nat, j < m ∧ i = (j : Int) ∧ (∀ u ∈ R.take j, bad x u = false) ∧ ∃ u, R[j]? = some u ∧ bad x u = true) ∧ Below w.heap.size w w' := by
  have hlen := hE.len
  have HE : Aside (Evs w ao m c R) := hE
  have HC : Hid (w.cell? ⟨k, 0, none⟩ = some (.int .i64 x)) := hc
  clear hE hc
  go_enter Tryz.func138, Tryz.ntmps138
  go_wp2
  go_loopg [8] m (fun kx s8 wr => ∃ i : Nat, s8 = .int .i64 i ∧ i ≤ m ∧ m - i ≤ kx ∧ Aside ((∀ u ∈ R.take i, bad x u = false) ∧ Below w.heap.size w wr))
  case atStart => exact ⟨0, rfl, Nat.zero_le _, by omega, ⟨by simp, Below.refl _ _⟩⟩
  case round =>
    obtain ⟨i, rfl, him, hkx, HS⟩ := hrel
    by_cases hlt : i < m
    · have hltz : (i : Int) < (m : Int) := by omega
      obtain ⟨b, o, u, rfl, hui, hu, hr, hbl⟩ := (HE.out.below HS.out.2 (Nat.le_refl _)).at hlt
      have hix := fun W : World => index_ev W (b := b) (off := o) (k := i) (m := m) (c := c) hlt
      have hcr : wr.cell? ⟨k, 0, none⟩ = some (.int .i64 x) := (HS.out.2.cell (World.block_lt_of_cell? w _ HC.out)).trans HC.out
      go_wp2_with (refine load_ev_mid rfl rfl rfl hr hu.1 ?_)
      refine (off_any u hu.1 k x wr hcr).mono ?_
      rintro e w1 ⟨rfl, hb1⟩
      have hb1' : Below w.heap.size w w1 := HS.out.2.trans (hb1.mono HS.out.2.size)
      rcases Bool.eq_false_or_eq_true (bad x u) with hp | hp
      · have hp' : (typE u.kind != x) = true := hp
        have HR : Hid (Aside ((((i : Int)) = -1 ∧ ∀ u ∈ R, bad x u = false) ∨ ∃ j : Nat, j < m ∧ (i : Int) = (j : Int) ∧ (∀ u ∈ R.take j, bad x u = false) ∧ ∃ u, R[j]? = some u ∧ bad x u = true) ∧ Below w.heap.size w w1) := ⟨.inr ⟨i, hlt, rfl, HS.out.1, u, hui, hp⟩, hb1'⟩
        rw [hp']
        clear hb1 hb1' HS hcr hr hix hp hp'
        go_wp2
        go_ret
        exact ⟨_, rfl, HR.out⟩
      · have hp' : (typE u.kind != x) = false := hp
        have HS2 : Aside ((∀ u ∈ R.take (i + 1), bad x u = false) ∧ Below w.heap.size w w1) := by
          refine ⟨fun v hv => ?_, hb1'⟩
          rw [take_snoc hui] at hv
          rcases List.mem_append.1 hv with hv | hv
          · exact HS.out.1 v hv
          · rw [List.mem_singleton.1 hv]; exact hp
        rw [hp']
        clear hb1 hb1' HS hcr hr hix hp hp'
        go_wp2
        go_roundg (m - (i + 1))
        case measure => omega
        case rel => exact ⟨i + 1, by go_num, by omega, Nat.le_refl _, HS2⟩
    · obtain rfl : i = m := by omega
      have HR : Hid ((∀ u ∈ R, bad x u = false) ∧ Below w.heap.size w wr) := by
        have := HS.out
        rw [List.take_of_length_le (by omega)] at this
        exact this
      clear HS
      go_wp2
      go_ret
      exact ⟨_, rfl, .inl ⟨rfl, HR.out.1⟩, HR.out.2⟩

/-- On the way: what is kept lies ahead, the rest as it was. -/
structure Cmpd (x : Int) (L R : List Ev) (i j : Nat) : Prop where
  len : R.length = L.length
  front : R.take i = (L.take j).filter (fun u => !bad x u)
  back : ∀ q, j ≤ q → R[q]? = L[q]?
  le : i < j
theorem Cmpd.start {x : Int} {L : List Ev} {i : Nat} {u : Ev} (h1 : ∀ u ∈ L.take i, bad x u = false) (h2 : L[i]? = some u) (h3 : bad x u = true) : Cmpd x L L i (i + 1) := by
  refine ⟨rfl, ?_, fun _ _ => rfl, by omega⟩
  rw [take_snoc h2, List.filter_append, List.filter_cons, h3, List.filter_nil]
  simp only [Bool.not_true, Bool.false_eq_true, if_false, List.append_nil]
  exact (List.filter_eq_self.2 (fun v hv => by rw [h1 v hv]; rfl)).symm
theorem Cmpd.drop {x : Int} {L R : List Ev} {i j : Nat} {u : Ev} (h : Cmpd x L R i j) (hu : L[j]? = some u) (hb : bad x u = true) : Cmpd x L R i (j + 1) := by
  have hle := h.le
  refine ⟨h.len, ?_, fun q hq => h.back q (by omega), by omega⟩
  rw [take_snoc hu, List.filter_append, List.filter_cons, hb, List.filter_nil]
  simp only [Bool.not_true, Bool.false_eq_true, if_false, List.append_nil]
  exact h.front
theorem Cmpd.keep {x : Int} {L R : List Ev} {i j : Nat} {u : Ev} (h : Cmpd x L R i j) (hj : j < L.length) (hu : L[j]? = some u) (hb : bad x u = false) : Cmpd x L (R.set i u) (i + 1) (j + 1) := by
  have hl := h.len
  have hle := h.le
  refine ⟨by rw [List.length_set]; exact h.len, ?_, fun q hq => ?_, by omega⟩
  · have hi : (R.set i u)[i]? = some u := List.getElem?_set_self (by omega)
    rw [take_snoc hi, take_snoc hu, List.filter_append, List.filter_cons, hb, List.filter_nil, ← h.front]
    simp only [Bool.not_false, if_true]
    congr 1
    rw [List.take_set_of_le (Nat.le_refl _)]
  · rw [List.getElem?_set_ne (by omega)]
    exact h.back q (by omega)
theorem Cmpd.all {x : Int} {L R : List Ev} {i j : Nat} (h : Cmpd x L R i j) (hj : L.length ≤ j) : R.take i = L.filter (fun u => !bad x u) := by
  rw [h.front, List.take_of_length_le hj]
theorem Cmpd.wide {x : Int} {L R : List Ev} {i j : Nat} {u : Ev} (_h : Cmpd x L R i j) (hR : ∀ e ∈ R, Wide e) (hu : Wide u) : ∀ e ∈ R.set i u, Wide e := fun e he => (List.mem_or_eq_of_mem_set he).elim (hR e) (fun e1 => e1 ▸ hu)
theorem store_ev_at {ops : Array Oper} {rest : List Oper} {o : Oper} {a : Act} {w : World} {Q : Exit → Act → World → Prop} {x y : Operand} {g k : Nat} {e : Ev} (hl : e.deps.length = 16) (hgd : o.guard = none) (ho : o.op = .store 29 x y)
    (hx : a.eval x = .pointer (some ⟨g, k, none⟩)) (hy : a.eval y = .agg (evc e)) (hg : w.there g k 26)
    (h : wpList Tryz.prog ops Q rest (a.put o.dst undef) (w.setCells g k (evl e))) : wpList Tryz.prog ops Q (o :: rest) a w :=
  wpList_store_mid hgd 29 x y ho g k (evc e) hx hy (by rw [evc_size e hl]; exact hg) (size26 e hl) (evc_one e) h
theorem row_there {w : World} {base g n cap i : Nat} {R : List Ev} (h : Row w base (.slice (some ⟨g, 0, none⟩) n cap) R) (hn : R.length = n) (hi : i < n) : w.there g (i * 26) 26 := by
  rcases h.2 with ⟨hh, -⟩ | ⟨g', cap', cur, hv, hbg, hg, hnc, hcm, hcs, htk⟩
  · cases hh
  · simp only [Value.slice.injEq, Option.some.injEq, Addr.mk.injEq, and_true] at hv
    obtain ⟨rfl, h1, rfl⟩ := hv
    intro j hj
    have hlt : i * 26 + j < cur.size := by omega
    refine ⟨?_, frozen_of_row w g _ _ _ hg⟩
    rw [cell_of_row w g _ _ _ _ hg, Array.getElem?_eq_getElem hlt]
    rfl
end Go.Proofs.YthlebgioamcioabGreat

/-
  What slices.DeleteFunc of events comes to, whole; what Of comes to.
-/
namespace Go.Proofs.YthlebgioamcioabGreat
set_option maxRecDepth 100000
set_option maxRecDepth 100000
open Go.RowKit Go.Shelf Go.Sort

theorem zero_one (k : Nat) : ∀ v ∈ (Builtin.zeroCells (evc zv) k).toList, v.oneCell' = true := by
  intro v hv
  have h1 := evc_one zv
  rw [Array.all_eq_true_iff_forall_mem] at h1
  simp only [Builtin.zeroCells, Array.toList_map, List.mem_map] at hv
  obtain ⟨t, -, rfl⟩ := hv
  have ht : t % (evc zv).size < (evc zv).size := Nat.mod_lt _ (by decide)
  rw [getElem!_pos (evc zv) _ ht]
  exact h1 _ (Array.getElem_mem ht)
theorem clear_any {w : World} {base g n cap i : Nat} {R : List Ev} (h : Row w base (.slice (some ⟨g, 0, none⟩) n cap) R) (hn : R.length = n) (hi : i < n) (ty : TypeId) :
    (Builtin.clear_ #[32] ty #[.slice (some ⟨g, i * 26, none⟩) (n - i) (cap - i)]).run Tryz.prog w = .ok (.tuple #[]) (w.setCells g (i * 26) (Builtin.zeroCells (evc zv) (n - i)).toList) := by
  have ht : Tryz.prog.underlying 32 = some (.slice 29) := Tryz.underlying32
  have hz : ∀ w, (zeroValue 29).run Tryz.prog w = .ok (.agg (evc zv)) w := Tryz.zeroValue29
  have hlen : (Builtin.zeroCells (evc zv) (n - i)).toList.length = (n - i) * 26 := by simp [Builtin.zeroCells, evc_size zv rfl]
  rcases h.2 with ⟨hh, -⟩ | ⟨g', cap', cur, hv, hbg, hg, hnc, hcm, hcs, htk⟩
  · cases hh
  · simp only [Value.slice.injEq, Option.some.injEq, Addr.mk.injEq, and_true] at hv
    obtain ⟨rfl, h1, rfl⟩ := hv
    have hst := run_storeCells_cells (P := Tryz.prog) g (i * 26) (Builtin.zeroCells (evc zv) (n - i)).toList 0 w (fun j hj => by
      rw [hlen] at hj
      have hlt : i * 26 + j < cur.size := by
        have : n * 26 ≤ cur.size := by omega
        omega
      rw [Nat.add_zero, cell_of_row w g _ _ _ _ hg, Array.getElem?_eq_getElem hlt]
      rfl) (fun j _ => frozen_of_row w g _ _ _ hg) (zero_one _)
    simp only [Nat.add_zero] at hst
    obtain ⟨q, hq⟩ : ∃ q, n - i = q + 1 := ⟨n - i - 1, by omega⟩
    rw [hq] at hst ⊢
    simp [Builtin.clear_, run_underlying ht, hz, Value.cells, hst]
theorem below_put {B b : Nat} {a : World} (hb : B ≤ b) : ∀ (vs : List Value) (o : Nat) (w : World), Below B a w → Below B a (w.setCells b o vs)
  | [], _, _, h => h
  | v :: r, o, _, h => below_put hb r (o + 1) _ (h.setCell (p := ⟨b, o, none⟩) hb v)
theorem slice_own (w : World) {g n cap i : Nat} (hi : i < n) (hn : n ≤ cap) : (Instr.sliceAt 32 (.slice (some ⟨g, 0, none⟩) n cap) (some (.int .i64 (i : Int))) none none).run Tryz.prog w = .ok (.slice (some ⟨g, i * 26, none⟩) (n - i) (cap - i)) w := by
  rw [slice_from w (by omega), dropA, if_neg (by omega)]
  show Result.ok (Value.slice (some (Addr.add ⟨g, 0, none⟩ (i * 26))) (n - i) (cap - i)) w = _
  rw [Addr.add_mid, Nat.zero_add]
theorem row_head {w : World} {base : Nat} {v : Value} {L : List Ev} (h : Row w base v L) : (v = .slice none 0 0 ∧ L = []) ∨ ∃ g cap, v = .slice (some ⟨g, 0, none⟩) L.length cap ∧ base ≤ g ∧ g < w.heap.size ∧ L.length ≤ cap ∧ v.ownBlock = some g := by
  rcases h.2 with ⟨rfl, h0⟩ | ⟨g, cap, cur, rfl, hb, hg, hnc, hcm, hcs, htake⟩
  · exact .inl ⟨rfl, List.eq_nil_of_length_eq_zero h0⟩
  · exact .inr ⟨g, cap, rfl, hb, (Array.getElem?_eq_some_iff.1 hg).1, hnc, rfl⟩
theorem delf_none (base : Nat) (L : List Ev) (ao : Option Addr) (n c : Nat) (k : Nat) (x : Int) (w : World) (hR : Row w base (.slice ao n c) L) (hE : Evs w ao n c L) (hL : n ≤ 1000) (hc : w.cell? ⟨k, 0, none⟩ = some (.int .i64 x)) (hb : base ≤ w.heap.size) (hno : ∀ u ∈ L, bad x u = false) :
    Calls Tryz.prog 65 #[.slice ao n c, .func (.func 187) #[] #[.pointer (some ⟨k, 0, none⟩)]] w fun e w' => ∃ v', e = .returned v' ∧ Row w' base v' (L.filter fun u => !bad x u) ∧ Below base w w' := by
  have HR : Aside (Row w base (.slice ao n c) (L.filter fun u => !bad x u)) := by
    show Row _ _ _ _
    rw [List.filter_eq_self.2 (fun v hv => by rw [hno v hv]; rfl)]
    exact hR
  have hlen := hE.len
  have HN : Hid (∀ u ∈ L, bad x u = false) := hno
  clear hR hno
  go_enter Tryz.func65, Tryz.ntmps65
  go_wp2_with fail
  refine (idxf_any ao n c L k x w hE hc hL).mono ?_
  rintro e w1 ⟨i, rfl, HI, hb1⟩
  have hi : i = -1 := by
    rcases HI.out with ⟨h, -⟩ | ⟨j, hj, -, -, u, hu, hb⟩
    · exact h
    · rw [HN.out u (List.mem_of_getElem? hu)] at hb
      cases hb
  subst hi
  have HF : Hid (Row w1 base (.slice ao n c) (L.filter fun u => !bad x u) ∧ Below base w w1) := ⟨HR.out.below hb1 (Nat.le_refl _), hb1.mono hb⟩
  clear HI HN HR hE hc hb1
  go_wp2
  go_ret
  exact ⟨_, rfl, HF.out⟩
set_option maxHeartbeats 1000000 in
theorem delf_some (base : Nat) (L : List Ev) (g n cap : Nat) (k : Nat) (x : Int) (w : World) (hR : Row w base (.slice (some ⟨g, 0, none⟩) n cap) L) (hE : Evs w (some ⟨g, 0, none⟩) n cap L) (hL : n ≤ 1000) (hcap : n ≤ cap) (hc : w.cell? ⟨k, 0, none⟩ = some (.int .i64 x)) (hb : base ≤ g) (hg : g < w.heap.size) (hkg : k ≠ g) (hyes : ¬ ∀ u ∈ L, bad x u = false) :
    Calls Tryz.prog 65 #[.slice (some ⟨g, 0, none⟩) n cap, .func (.func 187) #[] #[.pointer (some ⟨k, 0, none⟩)]] w fun e w' => ∃ v', e = .returned v' ∧ Row w' base v' (L.filter fun u => !bad x u) ∧ Below base w w' := by
  have hlen := hE.len
  have HN : Hid (¬ ∀ u ∈ L, bad x u = false) := hyes
  have HR : Hid (Row w base (.slice (some ⟨g, 0, none⟩) n cap) L) := hR
  have HK : Hid (k ≠ g ∧ base ≤ g ∧ g < w.heap.size) := ⟨hkg, hb, hg⟩
  have HW : Hid (∀ e ∈ L, Wide e) := hE.wide
  have HC : Hid (w.cell? ⟨k, 0, none⟩ = some (.int .i64 x)) := hc
  clear hR hyes hkg
  go_enter Tryz.func65, Tryz.ntmps65
  go_wp2_with fail
  refine (idxf_any _ n cap L k x w hE hc hL).mono ?_
  rintro e w1 ⟨i, rfl, HI, hb1⟩
  obtain ⟨i0, hi0, rfl, h1, u0, hu0, hbad0⟩ : ∃ j : Nat, j < n ∧ i = (j : Int) ∧ (∀ u ∈ L.take j, bad x u = false) ∧ ∃ u, L[j]? = some u ∧ bad x u = true := by
    rcases HI.out with ⟨-, h⟩ | h
    · exact absurd h HN.out
    · exact h
  have H0 : Aside (Row w1 base (.slice (some ⟨g, 0, none⟩) n cap) L ∧ Cmpd x L L i0 (i0 + 1) ∧ (∀ e ∈ L, Wide e) ∧ Below base w w1 ∧ w1.cell? ⟨k, 0, none⟩ = some (.int .i64 x)) :=
    ⟨HR.out.below hb1 (Nat.le_refl _), Cmpd.start h1 hu0 hbad0, HW.out, hb1.mono (by omega), (hb1.cell (World.block_lt_of_cell? w _ HC.out)).trans HC.out⟩
  clear HI HN HR hE hc hb1 h1 hu0 hbad0 HC HW hb hg
  have hne : ((i0 : Int) == -1) = false := by simp
  go_wp2
  go_loopg [5, 6] n (fun kx s5 s6 wr => ∃ (i j : Nat) (R : List Ev), s5 = .int .i64 i ∧ s6 = .int .i64 j ∧ i < j ∧ j ≤ n ∧ n - j ≤ kx ∧ Aside (Row wr base (.slice (some ⟨g, 0, none⟩) n cap) R ∧ Cmpd x L R i j ∧ (∀ e ∈ R, Wide e) ∧ Below base w wr ∧ wr.cell? ⟨k, 0, none⟩ = some (.int .i64 x)))
  case atStart => exact ⟨i0, i0 + 1, L, rfl, by go_num, by omega, by omega, by omega, H0⟩
  case round =>
    clear H0 hne
    obtain ⟨i, j, R, rfl, rfl, hij, hjn, hkx, HS⟩ := hrel
    by_cases hlt : j < n
    · have hltz : (j : Int) < (n : Int) := by omega
      have hRl : R.length = n := by rw [HS.out.2.1.len]; exact hlen
      obtain ⟨ao', c', hv', hE'⟩ := HS.out.1.evs HS.out.2.2.1
      rw [hRl] at hv' hE'
      obtain ⟨rfl, -, rfl⟩ : some ⟨g, 0, none⟩ = ao' ∧ n = n ∧ cap = c' := by simpa using hv'
      obtain ⟨b, o, u, hbo, hui, hu, hr, hbl⟩ := hE'.at hlt
      obtain ⟨rfl, rfl⟩ : g = b ∧ 0 = o := by simpa using hbo
      have hu16 := hu.1
      have hLj : L[j]? = some u := by rw [← HS.out.2.1.back j (Nat.le_refl _)]; exact hui
      have hix := fun W : World => index_ev W (b := g) (off := 0) (k := j) (m := n) (c := cap) hlt
      simp only [Nat.zero_add] at hix hr
      have hz := liesE_new wr zv
      have hE1 : LiesE ((wr.alloc (.cells (evc zv) 29)).setRow wr.heap.size (evc u)) wr.heap.size u := hz.row u
      have hB1 : Below wr.heap.size wr ((wr.alloc (.cells (evc zv) 29)).setRow wr.heap.size (evc u)) := below_setRow ((Below.refl _ _).alloc (Nat.le_refl _) _) (Nat.le_refl _) _
      have hgw : g < wr.heap.size := hbl
      have HS1 : Aside (Row ((wr.alloc (.cells (evc zv) 29)).setRow wr.heap.size (evc u)) base (.slice (some ⟨g, 0, none⟩) n cap) R ∧ Cmpd x L R i j ∧ (∀ e ∈ R, Wide e) ∧ Below base w ((wr.alloc (.cells (evc zv) 29)).setRow wr.heap.size (evc u)) ∧ ((wr.alloc (.cells (evc zv) 29)).setRow wr.heap.size (evc u)).cell? ⟨k, 0, none⟩ = some (.int .i64 x) ∧ LiesE ((wr.alloc (.cells (evc zv) 29)).setRow wr.heap.size (evc u)) wr.heap.size u) :=
        ⟨HS.out.1.below hB1 (Nat.le_refl _), HS.out.2.1, HS.out.2.2.1, HS.out.2.2.2.1.trans (hB1.mono (by have := HK.out.2.1; omega)), (hB1.cell (World.block_lt_of_cell? wr _ HS.out.2.2.2.2)).trans HS.out.2.2.2.2, hE1⟩
      clear hB1 hE' hv' hbo
      go_upto_region 8 with (first | refine load_ev_mid rfl rfl rfl hr hu16 ?_ | refine store_ev rfl rfl rfl rfl hz hu16 rfl ?_)
      change Code.wp _ _ _ _ ((wr.alloc (.cells (evc zv) 29)).setRow wr.heap.size (evc u))
      clear hE1 hz hr hix HS hbl
      generalize (wr.alloc (.cells (evc zv) 29)).setRow wr.heap.size (evc u) = W at HS1 ⊢
      have hgD : Hid (g ≠ wr.heap.size ∧ g < wr.heap.size) := ⟨by omega, hgw⟩
      clear hgw
      generalize wr.heap.size = D at *
      have hE1 := HS1.out.2.2.2.2.2
      go_wp2_with (refine load_ev rfl rfl rfl hE1 hu16 ?_)
      refine (off_any u hu.1 k x W HS1.out.2.2.2.2.1).mono ?_
      rintro e w2 ⟨rfl, hb2⟩
      have hE2 : LiesE w2 D u := hE1.below hb2 hE1.lt
      have HS2 : Aside (Row w2 base (.slice (some ⟨g, 0, none⟩) n cap) R ∧ Cmpd x L R i j ∧ (∀ e ∈ R, Wide e) ∧ Below base w w2 ∧ w2.cell? ⟨k, 0, none⟩ = some (.int .i64 x)) :=
        ⟨HS1.out.1.below hb2 (Nat.le_refl _), HS1.out.2.1, HS1.out.2.2.1, HS1.out.2.2.2.1.trans (hb2.mono (by have := HK.out; have := hgD.out; have := hE1.lt; omega)), (hb2.cell (World.block_lt_of_cell? W _ HS1.out.2.2.2.2.1)).trans HS1.out.2.2.2.2.1⟩
      rcases Bool.eq_false_or_eq_true (bad x u) with hp | hp
      · have hp' : (typE u.kind != x) = true := hp
        have HS3 : Aside (Row w2 base (.slice (some ⟨g, 0, none⟩) n cap) R ∧ Cmpd x L R i (j + 1) ∧ (∀ e ∈ R, Wide e) ∧ Below base w w2 ∧ w2.cell? ⟨k, 0, none⟩ = some (.int .i64 x)) := ⟨HS2.out.1, HS2.out.2.1.drop hLj hp, HS2.out.2.2⟩
        rw [hp']
        clear hp hp' HS1 HS2 hE1 hE2 hb2 hLj hui
        go_wp2
        go_roundg (n - (j + 1))
        case measure => omega
        case rel => exact ⟨i, j + 1, R, rfl, by go_num, by omega, by omega, Nat.le_refl _, HS3⟩
      · have hp' : (typE u.kind != x) = false := hp
        have hin : i < n := by omega
        have hinz : (i : Int) < (n : Int) := by omega
        have hth := row_there HS2.out.1 hRl hin
        have hix := fun W : World => index_ev W (b := g) (off := 0) (k := i) (m := n) (c := cap) hin
        simp only [Nat.zero_add] at hix
        have HS3 : Aside (Row (w2.setCells g (i * 26) (evl u)) base (.slice (some ⟨g, 0, none⟩) n cap) (R.set i u) ∧ Cmpd x L (R.set i u) (i + 1) (j + 1) ∧ (∀ e ∈ R.set i u, Wide e) ∧ Below base w (w2.setCells g (i * 26) (evl u)) ∧ (w2.setCells g (i * 26) (evl u)).cell? ⟨k, 0, none⟩ = some (.int .i64 x)) :=
          ⟨row_put HS2.out.1 hRl HS2.out.2.2.1 hu, HS2.out.2.1.keep (by omega) hLj hp, HS2.out.2.1.wide HS2.out.2.2.1 hu, below_put HK.out.2.1 _ _ _ HS2.out.2.2.2.1, (World.cell?_setCells_out g _ _ _ _ (fun h => absurd h HK.out.1)).trans HS2.out.2.2.2.2⟩
        rw [hp']
        clear hp hp' HS1 HS2 hE1 hb2 hLj hui
        go_wp2_with (first | refine load_ev rfl rfl rfl hE2 hu16 ?_ | refine store_ev_at hu16 rfl rfl rfl rfl hth ?_)
        go_roundg (n - (j + 1))
        case measure => omega
        case rel => exact ⟨i + 1, j + 1, R.set i u, by go_num, by go_num, by omega, by omega, Nat.le_refl _, HS3⟩
    · obtain rfl : j = n := by omega
      have hRl : R.length = j := by rw [HS.out.2.1.len]; exact hlen
      have hin : i ≤ cap := by omega
      have hinz : (i : Int) < (j : Int) := by omega
      have hcl := clear_any HS.out.1 hRl hij
      have hs1 := fun W : World => slice_own W (g := g) hij hcap
      have hs2 := fun W : World => slice_at W (ao := some ⟨g, 0, none⟩) (m := j) hin
      have HF : Hid (Row (wr.setCells g (i * 26) (Builtin.zeroCells (evc zv) (j - i)).toList) base (.slice (some ⟨g, 0, none⟩) i cap) (L.filter fun u => !bad x u) ∧ Below base w (wr.setCells g (i * 26) (Builtin.zeroCells (evc zv) (j - i)).toList)) :=
        ⟨by rw [← HS.out.2.1.all (by omega)]; exact row_cut HS.out.1 hRl HS.out.2.2.1 (by omega), below_put HK.out.2.1 _ _ _ HS.out.2.2.2.1⟩
      clear HS
      go_wp2
      go_ret
      exact ⟨_, rfl, HF.out⟩
theorem delf_any (base : Nat) (v : Value) (L : List Ev) (k : Nat) (x : Int) (w : World) (hR : Row w base v L) (hW : ∀ e ∈ L, Wide e) (hL : L.length ≤ 1000) (hc : w.cell? ⟨k, 0, none⟩ = some (.int .i64 x)) (hb : base ≤ w.heap.size) (hk : ∀ g, v.ownBlock = some g → k ≠ g) :
    Calls Tryz.prog 65 #[v, .func (.func 187) #[] #[.pointer (some ⟨k, 0, none⟩)]] w fun e w' => ∃ v', e = .returned v' ∧ Row w' base v' (L.filter fun u => !bad x u) ∧ Below base w w' := by
  obtain ⟨ao, c, rfl, hE⟩ := hR.evs hW
  by_cases hno : ∀ u ∈ L, bad x u = false
  · exact delf_none base L ao _ c k x w hR hE hL hc hb hno
  · rcases row_head hR with ⟨-, rfl⟩ | ⟨g, cap, hv, hbg, hgw, hlc, ho⟩
    · exact absurd (fun u hu => by cases hu) hno
    · obtain ⟨rfl, rfl⟩ : ao = some ⟨g, 0, none⟩ ∧ c = cap := by simpa using hv
      exact delf_some base L g _ c k x w hR hE hL hlc hc hbg hgw (hk g ho) hno
theorem bad_all {l : List Ev} {key : List UInt8} : (ofKeyE key (allE l)).filter (fun u => !bad (typeE l key) u) = ofE l key := by
  unfold ofE
  congr 1
  funext e
  unfold bad
  rw [bne, Bool.not_not]
  by_cases h : typE e.kind = typeE l key <;> simp [h]
theorem mem_of {l : List Ev} {key : List UInt8} {e : Ev} (h : e ∈ ofE l key) : e ∈ l := mem_all (mem_ofKey (List.mem_filter.1 h).1)
theorem of_len (l : List Ev) (key : List UInt8) : (ofE l key).length ≤ l.length := Nat.le_trans (List.length_filter_le _ _) (Nat.le_trans (ofKey_len _ _) (all_length l))
set_option maxHeartbeats 1000000 in
/-- Of. -/
theorem of_any (ao : Option Addr) (m c : Nat) (E : List Ev) (key : List UInt8) (w : World) (hE : Evs w ao m c E) (hm : m ≤ 1000) :
    Calls Tryz.prog 125 #[.slice ao m c, .string (sb key)] w fun e w' => ∃ v, e = .returned v ∧ Row w' w.heap.size v (ofE E key) ∧ Below w.heap.size w w' := by
  have hlen := hE.len
  have hw : Hid (∀ e ∈ E, Wide e) := hE.wide
  go_enter Tryz.func125, Tryz.ntmps125
  go_wp2_with fail
  refine (ofkey_any ao m c E key w hE hm).mono ?_
  rintro e w1 ⟨v1, rfl, hR1, hb1⟩
  obtain ⟨a1, c1, hv1, hE1⟩ := hR1.evs (fun e he => hw.out e (mem_ofKey he))
  subst hv1
  have hl1 := ofKey_len key E
  have HB1 : Hid (Below w.heap.size w w1) := hb1
  clear hE hb1 hR1
  go_wp2_with fail
  refine (all_any a1 _ c1 _ w1 hE1 (by omega)).mono ?_
  rintro e w2 ⟨v2, rfl, hR2, hb2⟩
  have HW2 : Hid (∀ e ∈ allE (ofKeyE key E), Wide e) := fun e he => hw.out e (mem_ofKey (mem_all he))
  obtain ⟨a2, c2, hv2, hE2⟩ := hR2.evs HW2.out
  have hl2 := all_length (ofKeyE key E)
  have HR2 : Hid (Row w2 w.heap.size v2 (allE (ofKeyE key E))) := hR2.lower HB1.out.size
  subst hv2
  have HB2 : Hid (Below w.heap.size w w2) := HB1.out.trans (hb2.mono HB1.out.size)
  clear hE1 hb2 hR2 HB1
  have HT : Hid (lastE (allE (ofKeyE key E)) = typeE E key ∧ allE (ofKeyE key E) = ofKeyE key (allE E)) := ⟨by rw [all_key]; rfl, all_key _ _⟩
  have hL3 : (allE (ofKeyE key E)).length ≤ 1000 := by omega
  clear hl1 hl2
  generalize allE (ofKeyE key E) = A at *
  go_wp2_with fail
  refine (latest_any a2 _ c2 _ w2 hE2 hL3).mono ?_
  rintro e w3 ⟨rfl, hw3⟩
  obtain rfl := hw3.symm
  clear hw3
  rw [HT.out.1]
  go_wp2_with fail
  have HA : Hid (Row (w2.alloc (.cells #[.int .i64 (typeE E key)] 3)) w.heap.size (.slice a2 A.length c2) A) := HR2.out.below ((Below.refl _ _).alloc (Nat.le_refl _) _) (Nat.le_refl _)
  have hsz := HB2.out.size
  refine (delf_any w.heap.size _ A w2.heap.size (typeE E key) _ HA.out HW2.out hL3 ((World.cell?_alloc_new w2 _ _ _).trans rfl) (by simp; omega) (fun g hg => ?_)).mono ?_
  · rcases row_head HR2.out with ⟨h, -⟩ | ⟨g', cap', h, -, hlt, -, ho⟩
    · rw [h] at hg
      cases hg
    · rw [ho] at hg
      cases hg
      omega
  rintro e w4 ⟨v4, rfl, hR4, hb4⟩
  have HF : Hid (Row w4 w.heap.size v4 (ofE E key) ∧ Below w.heap.size w w4) := ⟨by rw [← bad_all, ← HT.out.2]; exact hR4, (HB2.out.alloc hsz _).trans hb4⟩
  clear hR4 hb4 HA HR2 HB2 hE2 HT
  go_wp2
  go_ret
  exact ⟨_, rfl, HF.out⟩
end Go.Proofs.YthlebgioamcioabGreat

/-
  Laws of earlier layers that name no function of theirs: single operations, events read and laid, a row's own block, dots compared.
-/
namespace Go.Proofs.YthlebgioamcioabGreat
set_option maxRecDepth 100000
set_option maxRecDepth 100000
open Go.RowKit
deriving instance DecidableEq for Ev

section
variable {o : Oper} {a : Act} {w w' : World} {K : Act → World → Prop} {Q : Exit → Act → World → Prop} {x y z : Operand} {v : Value} {m n : Int}
end
theorem ret_ev2 {fn : Func} {R : Ending → World → Prop} {a : Act} {w : World} {p u : Tmp} {g : Nat} {e : Ev} {v : Value} (h : fn.results = #[.cell p 29, .tmp u]) (hp : a.tmps.getD p undef = .pointer (some ⟨g, 0, none⟩))
    (hu : a.tmps.getD u undef = v) (hd : a.defers = []) (hg : LiesE w g e) (hl : e.deps.length = 16) (hR : R (.returned (.tuple #[.agg (evc e), v])) w) : bodyPost Tryz.prog fn R .ret a w := by
  refine bodyPost_ret ?_ hd hR
  rw [results_cell_tmp h, hp, hu]
  simp only [asAddr, Sem.run_pure, Result.andThen_ok, run_loadVar_row w g 29 29 _ (0, 0) _ hg Tryz.underlying29 rfl (size26 e hl)]
theorem LiesE.c22 {w : World} {g : Nat} {e : Ev} (h : LiesE w g e) (hl : e.deps.length = 16) : w.cell? ⟨g, 22, none⟩ = some (.string (sb e.value)) := h.co hl 3
theorem range_value {w : World} {b k : Nat} {e : Ev} (h : w.rangeAt b k (evl e)) (hl : e.deps.length = 16) : w.cell? ⟨b, k + 22, none⟩ = some (.string (sb e.value)) := (range_at h hl 3).resolve_right (by simp [opl])
theorem range_time {w : World} {b k : Nat} {e : Ev} (h : w.rangeAt b k (evl e)) : w.cell? ⟨b, k + 2, none⟩ = some (.int .i64 e.t) := h 2 _ rfl
end Go.Proofs.YthlebgioamcioabGreat

/-
  The latest one of events, plainly.
-/
namespace Go.Proofs.YthlebgioamcioabGreat
set_option maxRecDepth 100000
set_option maxRecDepth 100000

theorem lt_iff (b a : Ev) : laterE b a = true ↔ a.t < b.t ∨ (a.t = b.t ∧ (a.r < b.r ∨ (a.r = b.r ∧ a.n < b.n))) := by
  unfold laterE
  split
  · simp; omega
  · split
    · simp; omega
    · simp; omega
theorem lt_no (b a : Ev) : laterE b a = false ↔ ¬ (a.t < b.t ∨ (a.t = b.t ∧ (a.r < b.r ∨ (a.r = b.r ∧ a.n < b.n)))) := by
  rw [← lt_iff]; cases laterE b a <;> simp
theorem lt_tr {a b c : Ev} (h1 : laterE a b = true) (h2 : laterE b c = true) : laterE a c = true := by
  rw [lt_iff] at *; omega
theorem lt_ntr {a b c : Ev} (h1 : laterE a b = false) (h2 : laterE b c = false) : laterE a c = false := by
  rw [lt_no] at *; omega
theorem lt_self (a : Ev) : laterE a a = false := by rw [lt_no]; omega

/-- One more is seen. -/
def stepL (p : Ev → Bool) (o : Option Ev) (e : Ev) : Option Ev :=
  match p e, o with
  | false, o => o
  | true, none => some e
  | true, some a => if laterE e a then some e else some a
/-- The latest one of those that count. -/
def latL (p : Ev → Bool) (E : List Ev) : Option Ev := E.foldl (stepL p) none
theorem latL_snoc (p : Ev → Bool) (E : List Ev) (u : Ev) : latL p (E ++ [u]) = stepL p (latL p E) u := by
  unfold latL; rw [List.foldl_append]; rfl
theorem latL_take {p : Ev → Bool} {E : List Ev} {i : Nat} {u : Ev} (h : E[i]? = some u) : latL p (E.take (i + 1)) = stepL p (latL p (E.take i)) u := by
  rw [take_snoc h, latL_snoc]
theorem snoc_ind {α : Type} {P : List α → Prop} (h0 : P []) (h1 : ∀ l a, P l → P (l ++ [a])) (l : List α) : P l := by
  have : ∀ r : List α, P r.reverse := fun r => by
    induction r with
    | nil => exact h0
    | cons a r ih => rw [List.reverse_cons]; exact h1 _ _ ih
  have h := this l.reverse
  rwa [List.reverse_reverse] at h
/-- What it is: the first of those than which none is later. -/
def IsLat (p : Ev → Bool) (E : List Ev) : Option Ev → Prop
  | none => ∀ e ∈ E, p e = false
  | some a => ∃ A B, E = A ++ a :: B ∧ p a = true ∧ (∀ x ∈ A, p x = true → laterE a x = true) ∧ (∀ x ∈ B, p x = true → laterE x a = false)
theorem latL_is (p : Ev → Bool) (E : List Ev) : IsLat p E (latL p E) := by
  induction E using snoc_ind with
  | h0 => intro e he; cases he
  | h1 E u ih =>
    rw [latL_snoc]
    cases hp : p u with
    | false =>
      have e1 : stepL p (latL p E) u = latL p E := by simp [stepL, hp]
      rw [e1]
      cases ho : latL p E with
      | none =>
        rw [ho] at ih
        intro e he
        rcases List.mem_append.1 he with h | h
        · exact ih e h
        · rw [List.mem_singleton.1 h]; exact hp
      | some a =>
        rw [ho] at ih
        obtain ⟨A, B, h1, h2, h3, h4⟩ := ih
        refine ⟨A, B ++ [u], by rw [h1]; simp, h2, h3, fun x hx hpx => ?_⟩
        rcases List.mem_append.1 hx with h | h
        · exact h4 x h hpx
        · rw [List.mem_singleton.1 h, hp] at hpx; cases hpx
    | true =>
      cases ho : latL p E with
      | none =>
        have e1 : stepL p none u = some u := by simp [stepL, hp]
        rw [ho] at ih
        rw [e1]
        refine ⟨E, [], rfl, hp, fun x hx hpx => ?_, by simp⟩
        rw [ih x hx] at hpx
        cases hpx
      | some a =>
        rw [ho] at ih
        obtain ⟨A, B, h1, h2, h3, h4⟩ := ih
        cases hl : laterE u a with
        | true =>
          have e1 : stepL p (some a) u = some u := by simp [stepL, hp, hl]
          rw [e1]
          refine ⟨E, [], rfl, hp, fun x hx hpx => ?_, by simp⟩
          rw [h1] at hx
          rcases List.mem_append.1 hx with h | h
          · exact lt_tr hl (h3 x h hpx)
          · rcases List.mem_cons.1 h with rfl | h
            · exact hl
            · have := h4 x h hpx
              rw [lt_no] at this; rw [lt_iff] at *; omega
        | false =>
          have e1 : stepL p (some a) u = some a := by simp [stepL, hp, hl]
          rw [e1]
          refine ⟨A, B ++ [u], by rw [h1]; simp, h2, h3, fun x hx hpx => ?_⟩
          rcases List.mem_append.1 hx with h | h
          · exact h4 x h hpx
          · rw [List.mem_singleton.1 h]; exact hl
/-- All others are no later. -/
theorem IsLat.top {p : Ev → Bool} {E : List Ev} {a : Ev} (h : IsLat p E (some a)) : a ∈ E ∧ p a = true ∧ ∀ x ∈ E, p x = true → laterE x a = false := by
  obtain ⟨A, B, rfl, h2, h3, h4⟩ := h
  refine ⟨by simp, h2, fun x hx hpx => ?_⟩
  rcases List.mem_append.1 hx with h | h
  · have := h3 x h hpx
    rw [lt_no]; rw [lt_iff] at this; omega
  · rcases List.mem_cons.1 h with rfl | h
    · exact lt_self x
    · exact h4 x h hpx
theorem lat_mem {p : Ev → Bool} {E : List Ev} {a : Ev} (h : latL p E = some a) : a ∈ E := by
  have := latL_is p E
  rw [h] at this
  exact this.top.1
theorem lat_top {p : Ev → Bool} {E : List Ev} {a : Ev} (h : latL p E = some a) : p a = true ∧ ∀ x ∈ E, p x = true → laterE x a = false := by
  have := latL_is p E
  rw [h] at this
  exact this.top.2
theorem lat_none {p : Ev → Bool} {E : List Ev} (h : latL p E = none) : ∀ x ∈ E, p x = false := by
  have := latL_is p E
  rw [h] at this
  exact this
/-- The event that is told. -/
def orz (o : Option Ev) : Ev := o.getD zv
theorem zv_wide : Wide zv := ⟨rfl, ⟨by simp [zv], by simp [zv], by simp [zv]⟩⟩
theorem orz_wide {p : Ev → Bool} {E : List Ev} (h : ∀ e ∈ E, Wide e) : Wide (orz (latL p E)) := by
  cases ho : latL p E with
  | none => exact zv_wide
  | some a => exact h a (lat_mem ho)
def anyE (_ : Ev) : Bool := true
def setE (e : Ev) : Bool := decide (e.kind = 1)

/-- By those that count alone. -/
theorem foldl_filter (p : Ev → Bool) : ∀ (E : List Ev) (o : Option Ev), E.foldl (stepL p) o = (E.filter p).foldl (stepL anyE) o
  | [], _ => rfl
  | e :: E, o => by
    rw [List.foldl_cons, List.filter_cons]
    cases hp : p e with
    | false =>
      have e1 : stepL p o e = o := by simp [stepL, hp]
      rw [e1, if_neg (by simp)]
      exact foldl_filter p E o
    | true =>
      have e1 : stepL p o e = stepL anyE o e := by simp [stepL, hp, anyE]
      rw [e1, if_pos rfl, List.foldl_cons]
      exact foldl_filter p E _
theorem latL_filter (p : Ev → Bool) (E : List Ev) : latL p E = latL anyE (E.filter p) := foldl_filter p E none

/-- The document's: the first than which none is later. -/
def topE (E : List Ev) (a : Ev) : Bool := E.all fun b => !laterE b a
def rlat (E : List Ev) : Option Ev := E.find? (topE E)
theorem topE_iff {E : List Ev} {a : Ev} : topE E a = true ↔ ∀ b ∈ E, laterE b a = false := by
  simp [topE]
theorem rlat_eq (E : List Ev) : rlat E = latL anyE E := by
  have h := latL_is anyE E
  cases ho : latL anyE E with
  | none =>
    rw [ho] at h
    cases E with
    | nil => rfl
    | cons e E => have := h e (by simp); cases this
  | some a =>
    rw [ho] at h
    have ht := h.top
    obtain ⟨A, B, h1, h2, h3, h4⟩ := h
    have hA : ∀ x ∈ A, topE E x = false := fun x hx => by
      rw [Bool.eq_false_iff]
      intro hc
      have := topE_iff.1 hc a ht.1
      rw [h3 x hx rfl] at this
      cases this
    have ha : topE E a = true := topE_iff.2 fun b hb => ht.2.2 b hb rfl
    unfold rlat
    have e1 : E.find? (topE E) = (A ++ a :: B).find? (topE E) := congrArg _ h1
    rw [e1, List.find?_append, List.find?_eq_none.2 (fun x hx => by rw [hA x hx]; simp), List.find?_cons_of_pos ha]
    rfl

theorem unlike_one {E : List Ev} (h : Unlike E) {x y : Ev} (hx : x ∈ E) (hy : y ∈ E) (hd : sameDot x y) : x = y := by
  induction E with
  | nil => cases hx
  | cons e E ih =>
    obtain ⟨h1, h2⟩ := List.pairwise_cons.1 h
    rcases List.mem_cons.1 hx with ex | hx'
    · rcases List.mem_cons.1 hy with ey | hy'
      · rw [ex, ey]
      · subst ex; exact absurd hd (h1 y hy')
    · rcases List.mem_cons.1 hy with ey | hy'
      · subst ey; exact absurd ⟨hd.1.symm, hd.2.symm⟩ (h1 x hx')
      · exact ih h2 hx' hy'
theorem lat_same {p : Ev → Bool} {E M : List Ev} (hu : Unlike E) (hm : ∀ x, x ∈ M ↔ x ∈ E) : latL p M = latL p E := by
  cases h1 : latL p E with
  | none =>
    cases h2 : latL p M with
    | none => rfl
    | some b =>
      have := lat_none h1 b ((hm b).1 (lat_mem h2))
      rw [(lat_top h2).1] at this
      cases this
  | some a =>
    cases h2 : latL p M with
    | none =>
      have := lat_none h2 a ((hm a).2 (lat_mem h1))
      rw [(lat_top h1).1] at this
      cases this
    | some b =>
      have ha := lat_top h1
      have hb := lat_top h2
      have c1 := ha.2 b ((hm b).1 (lat_mem h2)) hb.1
      have c2 := hb.2 a ((hm a).2 (lat_mem h1)) ha.1
      rw [lt_no] at c1 c2
      rw [unlike_one hu (lat_mem h1) ((hm b).1 (lat_mem h2)) ⟨by omega, by omega⟩]

/-- One behind the other. -/
theorem fold_some (p : Ev → Bool) (x : Ev) (B : List Ev) : B.foldl (stepL p) (some x) = match latL p B with
    | none => some x
    | some y => if laterE y x then some y else some x := by
  induction B using snoc_ind with
  | h0 => rfl
  | h1 B e ih =>
    rw [List.foldl_append, ih, latL_snoc]
    show stepL p _ e = _
    cases hp : p e with
    | false =>
      have e1 : ∀ o, stepL p o e = o := fun o => by simp [stepL, hp]
      rw [e1, e1]
    | true =>
      cases ho : latL p B with
      | none => simp [stepL, hp]
      | some y =>
        cases h1 : laterE y x with
        | true =>
          cases h2 : laterE e y with
          | true => simp [stepL, hp, h1, h2, lt_tr h2 h1]
          | false => simp [stepL, hp, h1, h2]
        | false =>
          cases h2 : laterE e y with
          | true => cases h3 : laterE e x <;> simp [stepL, hp, h1, h2, h3]
          | false => simp [stepL, hp, h1, h2, lt_ntr h2 h1]
theorem lat_append (A B : List Ev) : latL anyE (A ++ B) = latL anyE ((latL anyE A).toList ++ (latL anyE B).toList) := by
  have e1 : latL anyE (A ++ B) = B.foldl (stepL anyE) (latL anyE A) := by unfold latL; rw [List.foldl_append]
  rw [e1]
  cases h1 : latL anyE A with
  | none =>
    cases h2 : latL anyE B with
    | none => exact h2
    | some y => exact h2
  | some x =>
    rw [fold_some]
    cases h2 : latL anyE B with
    | none => rfl
    | some y => rfl
theorem lat_some_iff (A B : List Ev) : (latL anyE (A ++ B)).isSome = ((latL anyE A).isSome || (latL anyE B).isSome) := by
  rw [lat_append]
  cases h1 : latL anyE A <;> cases h2 : latL anyE B <;> simp [latL, stepL, anyE]
  split <;> rfl
end Go.Proofs.YthlebgioamcioabGreat

/-
  What reg's isAny, isSet, latestOf, Latest and Value come to.
-/
namespace Go.Proofs.YthlebgioamcioabGreat
set_option maxRecDepth 100000
set_option maxRecDepth 100000
open Go.RowKit

set_option maxHeartbeats 400000 in
theorem isany_any (u : Ev) (_hl : u.deps.length = 16) (w : World) : Calls Tryz.prog 240 #[.agg (evc u)] w fun e w' => e = .returned (.bool (anyE u)) ∧ Below w.heap.size w w' := by
  have HB : Hid (Below w.heap.size w (w.alloc (.cells (evc u) 29))) := (Below.refl _ w).alloc (Nat.le_refl _) _
  go_enter Tryz.func240, Tryz.ntmps240
  go_wp2
  go_ret
  exact ⟨rfl, HB.out⟩
theorem kind_beq (k : Int) : (k == 1) = decide (k = 1) := by rw [Bool.eq_iff_iff]; simp
set_option maxHeartbeats 400000 in
theorem isset_any (u : Ev) (hl : u.deps.length = 16) (w : World) : Calls Tryz.prog 166 #[.agg (evc u)] w fun e w' => e = .returned (.bool (setE u)) ∧ Below w.heap.size w w' := by
  have HB : Hid (Below w.heap.size w (w.alloc (.cells (evc u) 29))) := (Below.refl _ w).alloc (Nat.le_refl _) _
  have c19 := (liesE_new w u).c19 hl
  unfold setE
  go_enter Tryz.func166, Tryz.ntmps166
  go_wp2
  all_goals
    go_ret
    refine ⟨?_, HB.out⟩
    show Ending.returned (.bool (u.kind == 1)) = _
    rw [kind_beq]
theorem two_new (w : World) : LiesE ((w.alloc (.cells (evc zv) 29)).alloc (.cells (evc zv) 29)) w.heap.size zv ∧ LiesE ((w.alloc (.cells (evc zv) 29)).alloc (.cells (evc zv) 29)) (w.heap.size + 1) zv ∧ Below w.heap.size w ((w.alloc (.cells (evc zv) 29)).alloc (.cells (evc zv) 29)) := boxedEE w zv zv
set_option maxHeartbeats 4000000 in
theorem lof_isany (ao : Option Addr) (m c : Nat) (E : List Ev) (w : World) (hE : Evs w ao m c E) (hm : m ≤ 1000) :
    Calls Tryz.prog 165 #[.slice ao m c, .func (.func 240) #[] #[]] w fun e w' => e = .returned (.tuple #[.agg (evc (orz (latL anyE E))), .bool (latL anyE E).isSome]) ∧ Below w.heap.size w w' := by
  have hlen := hE.len
  have HE : Aside (Evs w ao m c E) := hE
  have H0 : Aside (LiesE ((w.alloc (.cells (evc zv) 29)).alloc (.cells (evc zv) 29)) w.heap.size zv ∧ LiesE ((w.alloc (.cells (evc zv) 29)).alloc (.cells (evc zv) 29)) (w.heap.size + 1) (orz (latL anyE (E.take 0))) ∧ Below w.heap.size w ((w.alloc (.cells (evc zv) 29)).alloc (.cells (evc zv) 29))) := two_new w
  clear hE
  go_enter Tryz.func165, Tryz.ntmps165
  go_wp2
  go_loopg [7, 12] m (fun kx s7 s12 wr => ∃ i : Nat, s12 = .int .i64 i ∧ s7 = .bool (latL anyE (E.take i)).isSome ∧ i ≤ m ∧ m - i ≤ kx ∧ Aside (LiesE wr w.heap.size zv ∧ LiesE wr (w.heap.size + 1) (orz (latL anyE (E.take i))) ∧ Below w.heap.size w wr))
  case atStart => exact ⟨0, rfl, rfl, Nat.zero_le _, by omega, H0⟩
  case round =>
    clear H0
    obtain ⟨i, rfl, rfl, him, hkx, HS⟩ := hrel
    by_cases hlt : i < m
    · have hltz : (i : Int) < (m : Int) := by omega
      obtain ⟨b, off, u, rfl, hui, hu, hr, hbl⟩ := (HE.out.below HS.out.2.2 (Nat.le_refl _)).at hlt
      have hu16 := hu.1
      have hix := fun W : World => index_ev W (b := b) (off := off) (k := i) (m := m) (c := c) hlt
      have hsz : w.heap.size ≤ wr.heap.size := HS.out.2.2.size
      have hz := liesE_new wr zv
      have hB1 : Below wr.heap.size wr ((wr.alloc (.cells (evc zv) 29)).setRow wr.heap.size (evc u)) := below_setRow ((Below.refl _ _).alloc (Nat.le_refl _) _) (Nat.le_refl _) _
      have HSN : Hid (latL anyE (E.take (i + 1)) = stepL anyE (latL anyE (E.take i)) u) := latL_take hui
      have ho16 : (orz (latL anyE (E.take i))).deps.length = 16 := (orz_wide (fun e he => HE.out.wide e (List.mem_of_mem_take he))).1
      have HS1 : Aside (LiesE ((wr.alloc (.cells (evc zv) 29)).setRow wr.heap.size (evc u)) w.heap.size zv ∧ LiesE ((wr.alloc (.cells (evc zv) 29)).setRow wr.heap.size (evc u)) (w.heap.size + 1) (orz (latL anyE (E.take i))) ∧ Below w.heap.size w ((wr.alloc (.cells (evc zv) 29)).setRow wr.heap.size (evc u)) ∧ LiesE ((wr.alloc (.cells (evc zv) 29)).setRow wr.heap.size (evc u)) wr.heap.size u) :=
        ⟨HS.out.1.below hB1 HS.out.1.lt, HS.out.2.1.below hB1 HS.out.2.1.lt, HS.out.2.2.trans (hB1.mono hsz), hz.row u⟩
      clear hB1
      go_upto_region 6 with (first | refine load_ev_mid rfl rfl rfl hr hu16 ?_ | refine store_ev rfl rfl rfl rfl hz hu16 rfl ?_)
      change Code.wp _ _ _ _ ((wr.alloc (.cells (evc zv) 29)).setRow wr.heap.size (evc u))
      clear hz hr hix HS hbl
      generalize (wr.alloc (.cells (evc zv) 29)).setRow wr.heap.size (evc u) = W at HS1 ⊢
      generalize wr.heap.size = D at *
      generalize latL anyE (E.take i) = o at *
      have hE1 := HS1.out.2.2.2
      go_wp2_with (refine load_ev rfl rfl rfl hE1 hu16 ?_)
      refine (isany_any u hu16 W).mono ?_
      rintro e w2 ⟨rfl, hb2⟩
      have HS2 : Aside (LiesE w2 w.heap.size zv ∧ LiesE w2 (w.heap.size + 1) (orz o) ∧ Below w.heap.size w w2 ∧ LiesE w2 D u) := ⟨HS1.out.1.below hb2 HS1.out.1.lt, HS1.out.2.1.below hb2 HS1.out.2.1.lt, HS1.out.2.2.1.trans (hb2.mono HS1.out.2.2.1.size), hE1.below hb2 hE1.lt⟩
      clear hb2 hE1 HS1
      cases hp : anyE u with
      | false =>
        have HS3 : Aside (stepL anyE o u = o) := by show _ = _; simp [stepL, hp]
        go_wp2
        go_roundg (m - (i + 1))
        case measure => omega
        case rel => exact ⟨i + 1, by go_num, by rw [HSN.out, HS3.out], by omega, Nat.le_refl _, by rw [HSN.out, HS3.out]; exact ⟨HS2.out.1, HS2.out.2.1, HS2.out.2.2.1⟩⟩
      | true =>
        cases o with
        | none =>
          have HS3 : Aside (stepL anyE none u = some u) := by show _ = _; simp [stepL, hp]
          have hE2 := HS2.out.2.2.2
          have hL := HS2.out.2.1
          have HS4 : Aside (LiesE (w2.setRow (w.heap.size + 1) (evc u)) w.heap.size zv ∧ LiesE (w2.setRow (w.heap.size + 1) (evc u)) (w.heap.size + 1) u ∧ Below w.heap.size w (w2.setRow (w.heap.size + 1) (evc u))) := ⟨HS2.out.1.rowOther _ (by omega), hL.row u, below_setRow HS2.out.2.2.1 (by omega) _⟩
          clear HS2
          go_wp2_with (first | refine load_ev rfl rfl rfl hE2 hu16 ?_ | refine store_ev rfl rfl rfl rfl hL hu16 ho16 ?_)
          go_roundg (m - (i + 1))
          case measure => omega
          case rel => exact ⟨i + 1, by go_num, by rw [HSN.out, HS3.out]; rfl, by omega, Nat.le_refl _, by rw [HSN.out, HS3.out]; exact HS4⟩
        | some a =>
          have ha16 : a.deps.length = 16 := ho16
          have hE2 := HS2.out.2.2.2
          have hL : LiesE w2 (w.heap.size + 1) a := HS2.out.2.1
          go_wp2_with (first | refine load_ev rfl rfl rfl hE2 hu16 ?_ | refine load_ev rfl rfl rfl hL ha16 ?_)
          refine (later_any u a w2).mono ?_
          rintro e w3 ⟨rfl, hb3⟩
          have HS3 : Aside (LiesE w3 w.heap.size zv ∧ LiesE w3 (w.heap.size + 1) a ∧ Below w.heap.size w w3 ∧ LiesE w3 D u) := ⟨HS2.out.1.below hb3 HS2.out.1.lt, hL.below hb3 hL.lt, HS2.out.2.2.1.trans (hb3.mono HS2.out.2.2.1.size), hE2.below hb3 hE2.lt⟩
          clear hb3 hE2 hL HS2
          cases hl : laterE u a with
          | true =>
            have HT : Aside (stepL anyE (some a) u = some u) := by show _ = _; simp [stepL, hp, hl]
            have hE3 := HS3.out.2.2.2
            have hL := HS3.out.2.1
            have HS4 : Aside (LiesE (w3.setRow (w.heap.size + 1) (evc u)) w.heap.size zv ∧ LiesE (w3.setRow (w.heap.size + 1) (evc u)) (w.heap.size + 1) u ∧ Below w.heap.size w (w3.setRow (w.heap.size + 1) (evc u))) := ⟨HS3.out.1.rowOther _ (by omega), hL.row u, below_setRow HS3.out.2.2.1 (by omega) _⟩
            clear HS3
            go_wp2_with (first | refine load_ev rfl rfl rfl hE3 hu16 ?_ | refine store_ev rfl rfl rfl rfl hL hu16 ha16 ?_)
            go_roundg (m - (i + 1))
            case measure => omega
            case rel => exact ⟨i + 1, by go_num, by rw [HSN.out, HT.out]; rfl, by omega, Nat.le_refl _, by rw [HSN.out, HT.out]; exact HS4⟩
          | false =>
            have HT : Aside (stepL anyE (some a) u = some a) := by show _ = _; simp [stepL, hp, hl]
            go_wp2
            go_roundg (m - (i + 1))
            case measure => omega
            case rel => exact ⟨i + 1, by go_num, by rw [HSN.out, HT.out]; rfl, by omega, Nat.le_refl _, by rw [HSN.out, HT.out]; exact ⟨HS3.out.1, HS3.out.2.1, HS3.out.2.2.1⟩⟩
    · obtain rfl : i = m := by omega
      have eT : E.take i = E := List.take_of_length_le (by omega)
      have ho16 : (orz (latL anyE E)).deps.length = 16 := (orz_wide HE.out.wide).1
      rw [eT] at HS ⊢
      clear eT
      have hz := HS.out.1
      have hL := HS.out.2.1
      have HB : Hid (Below w.heap.size w wr) := HS.out.2.2
      clear HS
      obtain ⟨f, HF⟩ : ∃ f, Hid (orz (latL anyE E) = f) := ⟨_, show _ = _ from rfl⟩
      obtain ⟨t, HT⟩ : ∃ t, Hid ((latL anyE E).isSome = t) := ⟨_, show _ = _ from rfl⟩
      rw [HF.out] at hL ho16
      rw [HT.out]
      go_wp2_with (first | refine load_ev rfl rfl rfl hL ho16 ?_ | refine store_ev rfl rfl rfl rfl hz ho16 rfl ?_)
      exact ret_ev2 rfl rfl rfl rfl (hz.row f) ho16 ⟨by rw [HF.out, HT.out]; rfl, below_setRow HB.out (Nat.le_refl _) _⟩
set_option maxHeartbeats 4000000 in
theorem lof_isset (ao : Option Addr) (m c : Nat) (E : List Ev) (w : World) (hE : Evs w ao m c E) (hm : m ≤ 1000) :
    Calls Tryz.prog 165 #[.slice ao m c, .func (.func 166) #[] #[]] w fun e w' => e = .returned (.tuple #[.agg (evc (orz (latL setE E))), .bool (latL setE E).isSome]) ∧ Below w.heap.size w w' := by
  have hlen := hE.len
  have HE : Aside (Evs w ao m c E) := hE
  have H0 : Aside (LiesE ((w.alloc (.cells (evc zv) 29)).alloc (.cells (evc zv) 29)) w.heap.size zv ∧ LiesE ((w.alloc (.cells (evc zv) 29)).alloc (.cells (evc zv) 29)) (w.heap.size + 1) (orz (latL setE (E.take 0))) ∧ Below w.heap.size w ((w.alloc (.cells (evc zv) 29)).alloc (.cells (evc zv) 29))) := two_new w
  clear hE
  go_enter Tryz.func165, Tryz.ntmps165
  go_wp2
  go_loopg [7, 12] m (fun kx s7 s12 wr => ∃ i : Nat, s12 = .int .i64 i ∧ s7 = .bool (latL setE (E.take i)).isSome ∧ i ≤ m ∧ m - i ≤ kx ∧ Aside (LiesE wr w.heap.size zv ∧ LiesE wr (w.heap.size + 1) (orz (latL setE (E.take i))) ∧ Below w.heap.size w wr))
  case atStart => exact ⟨0, rfl, rfl, Nat.zero_le _, by omega, H0⟩
  case round =>
    clear H0
    obtain ⟨i, rfl, rfl, him, hkx, HS⟩ := hrel
    by_cases hlt : i < m
    · have hltz : (i : Int) < (m : Int) := by omega
      obtain ⟨b, off, u, rfl, hui, hu, hr, hbl⟩ := (HE.out.below HS.out.2.2 (Nat.le_refl _)).at hlt
      have hu16 := hu.1
      have hix := fun W : World => index_ev W (b := b) (off := off) (k := i) (m := m) (c := c) hlt
      have hsz : w.heap.size ≤ wr.heap.size := HS.out.2.2.size
      have hz := liesE_new wr zv
      have hB1 : Below wr.heap.size wr ((wr.alloc (.cells (evc zv) 29)).setRow wr.heap.size (evc u)) := below_setRow ((Below.refl _ _).alloc (Nat.le_refl _) _) (Nat.le_refl _) _
      have HSN : Hid (latL setE (E.take (i + 1)) = stepL setE (latL setE (E.take i)) u) := latL_take hui
      have ho16 : (orz (latL setE (E.take i))).deps.length = 16 := (orz_wide (fun e he => HE.out.wide e (List.mem_of_mem_take he))).1
      have HS1 : Aside (LiesE ((wr.alloc (.cells (evc zv) 29)).setRow wr.heap.size (evc u)) w.heap.size zv ∧ LiesE ((wr.alloc (.cells (evc zv) 29)).setRow wr.heap.size (evc u)) (w.heap.size + 1) (orz (latL setE (E.take i))) ∧ Below w.heap.size w ((wr.alloc (.cells (evc zv) 29)).setRow wr.heap.size (evc u)) ∧ LiesE ((wr.alloc (.cells (evc zv) 29)).setRow wr.heap.size (evc u)) wr.heap.size u) :=
        ⟨HS.out.1.below hB1 HS.out.1.lt, HS.out.2.1.below hB1 HS.out.2.1.lt, HS.out.2.2.trans (hB1.mono hsz), hz.row u⟩
      clear hB1
      go_upto_region 6 with (first | refine load_ev_mid rfl rfl rfl hr hu16 ?_ | refine store_ev rfl rfl rfl rfl hz hu16 rfl ?_)
      change Code.wp _ _ _ _ ((wr.alloc (.cells (evc zv) 29)).setRow wr.heap.size (evc u))
      clear hz hr hix HS hbl
      generalize (wr.alloc (.cells (evc zv) 29)).setRow wr.heap.size (evc u) = W at HS1 ⊢
      generalize wr.heap.size = D at *
      generalize latL setE (E.take i) = o at *
      have hE1 := HS1.out.2.2.2
      go_wp2_with (refine load_ev rfl rfl rfl hE1 hu16 ?_)
      refine (isset_any u hu16 W).mono ?_
      rintro e w2 ⟨rfl, hb2⟩
      have HS2 : Aside (LiesE w2 w.heap.size zv ∧ LiesE w2 (w.heap.size + 1) (orz o) ∧ Below w.heap.size w w2 ∧ LiesE w2 D u) := ⟨HS1.out.1.below hb2 HS1.out.1.lt, HS1.out.2.1.below hb2 HS1.out.2.1.lt, HS1.out.2.2.1.trans (hb2.mono HS1.out.2.2.1.size), hE1.below hb2 hE1.lt⟩
      clear hb2 hE1 HS1
      cases hp : setE u with
      | false =>
        have HS3 : Aside (stepL setE o u = o) := by show _ = _; simp [stepL, hp]
        go_wp2
        go_roundg (m - (i + 1))
        case measure => omega
        case rel => exact ⟨i + 1, by go_num, by rw [HSN.out, HS3.out], by omega, Nat.le_refl _, by rw [HSN.out, HS3.out]; exact ⟨HS2.out.1, HS2.out.2.1, HS2.out.2.2.1⟩⟩
      | true =>
        cases o with
        | none =>
          have HS3 : Aside (stepL setE none u = some u) := by show _ = _; simp [stepL, hp]
          have hE2 := HS2.out.2.2.2
          have hL := HS2.out.2.1
          have HS4 : Aside (LiesE (w2.setRow (w.heap.size + 1) (evc u)) w.heap.size zv ∧ LiesE (w2.setRow (w.heap.size + 1) (evc u)) (w.heap.size + 1) u ∧ Below w.heap.size w (w2.setRow (w.heap.size + 1) (evc u))) := ⟨HS2.out.1.rowOther _ (by omega), hL.row u, below_setRow HS2.out.2.2.1 (by omega) _⟩
          clear HS2
          go_wp2_with (first | refine load_ev rfl rfl rfl hE2 hu16 ?_ | refine store_ev rfl rfl rfl rfl hL hu16 ho16 ?_)
          go_roundg (m - (i + 1))
          case measure => omega
          case rel => exact ⟨i + 1, by go_num, by rw [HSN.out, HS3.out]; rfl, by omega, Nat.le_refl _, by rw [HSN.out, HS3.out]; exact HS4⟩
        | some a =>
          have ha16 : a.deps.length = 16 := ho16
          have hE2 := HS2.out.2.2.2
          have hL : LiesE w2 (w.heap.size + 1) a := HS2.out.2.1
          go_wp2_with (first | refine load_ev rfl rfl rfl hE2 hu16 ?_ | refine load_ev rfl rfl rfl hL ha16 ?_)
          refine (later_any u a w2).mono ?_
          rintro e w3 ⟨rfl, hb3⟩
          have HS3 : Aside (LiesE w3 w.heap.size zv ∧ LiesE w3 (w.heap.size + 1) a ∧ Below w.heap.size w w3 ∧ LiesE w3 D u) := ⟨HS2.out.1.below hb3 HS2.out.1.lt, hL.below hb3 hL.lt, HS2.out.2.2.1.trans (hb3.mono HS2.out.2.2.1.size), hE2.below hb3 hE2.lt⟩
          clear hb3 hE2 hL HS2
          cases hl : laterE u a with
          | true =>
            have HT : Aside (stepL setE (some a) u = some u) := by show _ = _; simp [stepL, hp, hl]
            have hE3 := HS3.out.2.2.2
            have hL := HS3.out.2.1
            have HS4 : Aside (LiesE (w3.setRow (w.heap.size + 1) (evc u)) w.heap.size zv ∧ LiesE (w3.setRow (w.heap.size + 1) (evc u)) (w.heap.size + 1) u ∧ Below w.heap.size w (w3.setRow (w.heap.size + 1) (evc u))) := ⟨HS3.out.1.rowOther _ (by omega), hL.row u, below_setRow HS3.out.2.2.1 (by omega) _⟩
            clear HS3
            go_wp2_with (first | refine load_ev rfl rfl rfl hE3 hu16 ?_ | refine store_ev rfl rfl rfl rfl hL hu16 ha16 ?_)
            go_roundg (m - (i + 1))
            case measure => omega
            case rel => exact ⟨i + 1, by go_num, by rw [HSN.out, HT.out]; rfl, by omega, Nat.le_refl _, by rw [HSN.out, HT.out]; exact HS4⟩
          | false =>
            have HT : Aside (stepL setE (some a) u = some a) := by show _ = _; simp [stepL, hp, hl]
            go_wp2
            go_roundg (m - (i + 1))
            case measure => omega
            case rel => exact ⟨i + 1, by go_num, by rw [HSN.out, HT.out]; rfl, by omega, Nat.le_refl _, by rw [HSN.out, HT.out]; exact ⟨HS3.out.1, HS3.out.2.1, HS3.out.2.2.1⟩⟩
    · obtain rfl : i = m := by omega
      have eT : E.take i = E := List.take_of_length_le (by omega)
      have ho16 : (orz (latL setE E)).deps.length = 16 := (orz_wide HE.out.wide).1
      rw [eT] at HS ⊢
      clear eT
      have hz := HS.out.1
      have hL := HS.out.2.1
      have HB : Hid (Below w.heap.size w wr) := HS.out.2.2
      clear HS
      obtain ⟨f, HF⟩ : ∃ f, Hid (orz (latL setE E) = f) := ⟨_, show _ = _ from rfl⟩
      obtain ⟨t, HT⟩ : ∃ t, Hid ((latL setE E).isSome = t) := ⟨_, show _ = _ from rfl⟩
      rw [HF.out] at hL ho16
      rw [HT.out]
      go_wp2_with (first | refine load_ev rfl rfl rfl hL ho16 ?_ | refine store_ev rfl rfl rfl rfl hz ho16 rfl ?_)
      exact ret_ev2 rfl rfl rfl rfl (hz.row f) ho16 ⟨by rw [HF.out, HT.out]; rfl, below_setRow HB.out (Nat.le_refl _) _⟩
set_option maxHeartbeats 1000000 in
theorem glatest_any (ao : Option Addr) (m c : Nat) (E : List Ev) (w : World) (hE : Evs w ao m c E) (hm : m ≤ 1000) :
    Calls Tryz.prog 189 #[.slice ao m c] w fun e w' => e = .returned (.tuple #[.agg (evc (orz (latL anyE E))), .bool (latL anyE E).isSome]) ∧ Below w.heap.size w w' := by
  have hz := liesE_new w zv
  have hwo := (orz_wide (p := anyE) hE.wide).1
  have hB : Below w.heap.size w (w.alloc (.cells (evc zv) 29)) := (Below.refl _ w).alloc (Nat.le_refl _) _
  have hE0 := hE.below hB (Nat.le_refl _)
  have HB : Hid (Below w.heap.size w (w.alloc (.cells (evc zv) 29))) := hB
  clear hB hE
  go_enter Tryz.func189, Tryz.ntmps189
  go_wp2_with fail
  refine (lof_isany ao m c E _ hE0 hm).mono ?_
  rintro e w1 ⟨rfl, hb1⟩
  have hz1 := hz.below hb1 hz.lt
  have HB1 : Hid (Below w.heap.size w w1) := HB.out.trans (hb1.mono HB.out.size)
  clear hz hb1 hE0 HB
  obtain ⟨f, HF⟩ : ∃ f, Hid (orz (latL anyE E) = f) := ⟨_, show _ = _ from rfl⟩
  obtain ⟨t, HT⟩ : ∃ t, Hid ((latL anyE E).isSome = t) := ⟨_, show _ = _ from rfl⟩
  rw [HF.out] at hwo ⊢
  rw [HT.out]
  go_wp2_with (refine store_ev rfl rfl rfl rfl hz1 hwo rfl ?_)
  exact ret_ev2 rfl rfl rfl rfl (hz1.row f) hwo ⟨by rw [HF.out, HT.out]; rfl, below_setRow HB1.out (Nat.le_refl _) _⟩
set_option maxHeartbeats 1000000 in
theorem gvalue_any (ao : Option Addr) (m c : Nat) (E : List Ev) (w : World) (hE : Evs w ao m c E) (hm : m ≤ 1000) :
    Calls Tryz.prog 98 #[.slice ao m c] w fun e w' => e = .returned (.tuple #[.string (sb (orz (latL setE E)).value), .bool (latL setE E).isSome]) ∧ Below w.heap.size w w' := by
  have hwo := (orz_wide (p := setE) hE.wide).1
  go_enter Tryz.func98, Tryz.ntmps98
  go_wp2_with fail
  refine (lof_isset ao m c E w hE hm).mono ?_
  rintro e w1 ⟨rfl, hb1⟩
  have hz := liesE_new w1 zv
  obtain ⟨f, HF⟩ : ∃ f, Hid (orz (latL setE E) = f) := ⟨_, show _ = _ from rfl⟩
  obtain ⟨t, HT⟩ : ∃ t, Hid ((latL setE E).isSome = t) := ⟨_, show _ = _ from rfl⟩
  rw [HF.out] at hwo ⊢
  rw [HT.out]
  have hz2 := hz.row f
  have HB : Hid (Below w.heap.size w ((w1.alloc (.cells (evc zv) 29)).setRow w1.heap.size (evc f))) := below_setRow (hb1.alloc hb1.size _) hb1.size _
  have c22 := hz2.c22 hwo
  clear hb1 hE
  go_upto_region 2 with (refine store_ev rfl rfl rfl rfl hz hwo rfl ?_)
  change Code.wp _ _ _ _ ((w1.alloc (.cells (evc zv) 29)).setRow w1.heap.size (evc f))
  clear hz hz2
  generalize (w1.alloc (.cells (evc zv) 29)).setRow w1.heap.size (evc f) = W at *
  generalize w1.heap.size = D at *
  go_wp2
  go_ret2
  exact ⟨by rw [HF.out, HT.out]; rfl, HB.out⟩
end Go.Proofs.YthlebgioamcioabGreat

