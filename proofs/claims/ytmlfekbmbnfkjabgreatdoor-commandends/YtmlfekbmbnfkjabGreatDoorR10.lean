/-
  The table of commands: what table and rowOf come to.
-/
import Derived.Test.YtmlfekbmbnfkjabGreatDoorR09
import Derived.Deep.MidRow
import Derived.Deep.LoopGhost
import Derived.Test.YtmlfekbmbnfkjabGreatDoorProg
import Derived.RowKit
import Derived.KernelRfl
import Derived.Test.YtmlfekbmbnfkjabGreatDoorR02
import Derived.OwnWalk
import Derived.Laws.IdiomStrings
import Derived.Laws.CopyRow
import Derived.Laws.AppendOwnNone
import Derived.Lib.SlBuf
import Derived.BigQuiet
import Derived.SliceStrings
import Derived.ArgAppend
import Derived.Shelf.GgSortFunc.RowK
namespace Go.Proofs.YtmlfekbmbnfkjabGreatDoor
set_option maxRecDepth 100000
open Go.RowKit

/-- What there is to know of a command. -/
structure Rw22 where
  name : List UInt8
  takes : List UInt8
  is : Int
  fn : Nat
deriving DecidableEq
def rwc (r : Rw22) : List Value := [.string (sb r.name), .string (sb r.takes), .int .i64 r.is, .func (.func r.fn) #[] #[]]
def TB : List Rw22 := [
  ⟨[83, 69, 84], [107, 118], 1, 61⟩,
  ⟨[71, 69, 84], [107], 1, 62⟩,
  ⟨[73, 78, 67, 82, 66, 89], [107, 110], 2, 63⟩,
  ⟨[67, 79, 85, 78, 84], [107], 2, 64⟩,
  ⟨[83, 65, 68, 68], [107, 102], 3, 65⟩,
  ⟨[83, 82, 69, 77], [107, 102], 3, 66⟩,
  ⟨[83, 73, 83, 77, 69, 77, 66, 69, 82], [107, 102], 3, 67⟩,
  ⟨[83, 77, 69, 77, 66, 69, 82, 83], [107], 3, 68⟩,
  ⟨[72, 83, 69, 84], [107, 102, 118], 4, 69⟩,
  ⟨[72, 68, 69, 76], [107, 102], 4, 70⟩,
  ⟨[72, 71, 69, 84], [107, 102], 4, 71⟩,
  ⟨[72, 71, 69, 84, 65, 76, 76], [107], 4, 72⟩,
  ⟨[90, 65, 68, 68], [107, 110, 102], 5, 73⟩,
  ⟨[90, 82, 69, 77], [107, 102], 5, 74⟩,
  ⟨[90, 83, 67, 79, 82, 69], [107, 102], 5, 75⟩,
  ⟨[90, 82, 65, 78, 75], [107, 102], 5, 76⟩,
  ⟨[90, 82, 65, 78, 71, 69], [107, 110, 109], 5, 77⟩,
  ⟨[76, 80, 85, 83, 72], [107, 118], 6, 78⟩,
  ⟨[82, 80, 85, 83, 72], [107, 118], 6, 79⟩,
  ⟨[76, 73, 78, 83, 69, 82, 84], [107, 110, 118], 6, 80⟩,
  ⟨[76, 82, 69, 77], [107, 110], 6, 81⟩,
  ⟨[76, 82, 65, 78, 71, 69], [107, 110, 109], 6, 82⟩,
  ⟨[68, 69, 76], [107], 0, 83⟩,
  ⟨[84, 89, 80, 69], [107], 0, 84⟩,
  ⟨[75, 69, 89, 83], [], 0, 85⟩]
def tbc : Array Value := (TB.flatMap rwc).toArray
set_option maxHeartbeats 4000000 in
theorem table_any (w : World) : Calls Tryz.prog 39 #[] w fun e w' => e = .returned (.slice (some ⟨w.heap.size, 0, none⟩) 25 25) ∧ w' = w.alloc (.cells tbc 62) := by
  go_enter Tryz.func39, Tryz.ntmps39
  go_wp2
  go_ret
  exact ⟨rfl, rfl⟩
end Go.Proofs.YtmlfekbmbnfkjabGreatDoor

/-
  What rowOf comes to: a name's row.
-/
namespace Go.Proofs.YtmlfekbmbnfkjabGreatDoor
set_option maxRecDepth 100000
open Go.RowKit

def rwz : Array Value := #[.string ⟨#[]⟩, .string ⟨#[]⟩, .int .i64 0, .nilFunc]
def rowN (l : List UInt8) : Option Rw22 := TB.find? fun r => decide (r.name = l)
def rowV (o : Option Rw22) : Value := match o with | some r => .agg (rwc r).toArray | none => .agg rwz
theorem tb_len : TB.length = 25 := rfl
theorem rwc_len (r : Rw22) : (rwc r).length = 4 := rfl
theorem flat4 : ∀ (T : List Rw22) (i : Nat) (r : Rw22) (j : Nat) (v : Value), T[i]? = some r → (rwc r)[j]? = some v → (T.flatMap rwc)[i * 4 + j]? = some v
  | [], i, r, j, v, h, _ => by simp at h
  | t :: T, 0, r, j, v, h, k => by
    simp only [List.getElem?_cons_zero, Option.some.injEq] at h
    subst h
    rw [List.flatMap_cons, Nat.zero_mul, Nat.zero_add, List.getElem?_append_left (List.getElem?_eq_some_iff.1 k).1]
    exact k
  | t :: T, i + 1, r, j, v, h, k => by
    rw [List.getElem?_cons_succ] at h
    rw [List.flatMap_cons, List.getElem?_append_right (by rw [rwc_len]; omega), rwc_len]
    have e : (i + 1) * 4 + j - 4 = i * 4 + j := by omega
    rw [e]
    exact flat4 T i r j v h k
theorem tb_cell {W : World} {b i j : Nat} {r : Rw22} {v : Value} (hb : W.heap[b]? = some (.cells tbc 62)) (hr : TB[i]? = some r) (hv : (rwc r)[j]? = some v) : W.cell? ⟨b, i * 4 + j, none⟩ = some v := by
  rw [cell_of_row W b (i * 4 + j) _ _ _ hb]
  unfold tbc
  rw [List.getElem?_toArray]
  exact flat4 TB i r j v hr hv
theorem index_row (w : World) {b k m c : Nat} (hk : k < m) : (Instr.indexAt 89 (.slice (some ⟨b, 0, none⟩) m c) (.int .i64 (k : Int))).run Tryz.prog w = .ok (.pointer (some ⟨b, k * 4, none⟩)) w := by
  have hk' : (k : Int) < (m : Int) := by omega
  have hs : (Tryz.prog.info? 62).map (·.size) = some 4 := by kernel_rfl
  have ht : Tryz.prog.underlying 89 = some (.slice 62) := Tryz.underlying89
  go_simp
theorem rwc_one (r : Rw22) : (rwc r).toArray.all (·.oneCell') = true := by simp [rwc, Value.oneCell']
theorem row_at {W : World} {b i : Nat} {r : Rw22} (hb : W.heap[b]? = some (.cells tbc 62)) (hr : TB[i]? = some r) : (loadVar 62 ⟨b, i * 4, none⟩).run Tryz.prog W = .ok (.agg (rwc r).toArray) W :=
  run_loadVar_mid (P := Tryz.prog) W b (i * 4) 62 _ _ (fun j v hv => tb_cell hb hr hv) Tryz.underlying62 rfl (by rw [rwc_len]; kernel_rfl)
theorem rowN_none {l : List UInt8} (h : ∀ r ∈ TB, r.name ≠ l) : rowN l = none := by
  unfold rowN
  rw [List.find?_eq_none]
  intro r hr
  simpa using h r hr
theorem rowN_some {l : List UInt8} {i : Nat} {r : Rw22} (h : ∀ x ∈ TB.take i, x.name ≠ l) (hr : TB[i]? = some r) (hn : r.name = l) : rowN l = some r := by
  unfold rowN
  obtain ⟨h1, e1⟩ := List.getElem?_eq_some_iff.1 hr
  have e : TB = TB.take i ++ r :: TB.drop (i + 1) := by rw [← e1, ← List.drop_eq_getElem_cons h1, List.take_append_drop]
  rw [e, List.find?_append, List.find?_eq_none.2 (fun x hx => by simpa using h x hx), Option.none_or, List.find?_cons_of_pos (by simpa using hn)]
/-- What rowOf has laid. -/
structure Rl (w wr : World) : Prop where
  res : wr.heap[w.heap.size]? = some (.cells rwz 62 (0, 0))
  tab : wr.heap[w.heap.size + 1]? = some (.cells tbc 62 (0, 0))
  be : Below w.heap.size w wr
set_option maxHeartbeats 1000000 in
theorem rowof_any (l : List UInt8) (w : World) :
    Calls Tryz.prog 21 #[.string (sb l)] w fun e w' => e = .returned (.tuple #[rowV (rowN l), .bool (rowN l).isSome]) ∧ Below w.heap.size w w' := by
  obtain ⟨R, hR⟩ : ∃ R, w.heap.size = R := ⟨_, rfl⟩
  have hs0 : (w.alloc (.cells rwz 62)).heap.size = R + 1 := by rw [← hR]; simp
  have hz0 : (w.alloc (.cells rwz 62)).heap[R]? = some (.cells rwz 62) := by rw [← hR]; exact heap_alloc_new w _
  have hb0 : Below w.heap.size w (w.alloc (.cells rwz 62)) := (Below.refl _ w).alloc (Nat.le_refl _) _
  have hT := table_any (w.alloc (.cells rwz 62))
  have hz1 : ((w.alloc (.cells rwz 62)).alloc (.cells tbc 62)).heap[R]? = some (.cells rwz 62) := by rw [Below.heap_alloc _ _ _ (by omega)]; exact hz0
  have ht1 := heap_alloc_new (w.alloc (.cells rwz 62)) (.cells tbc 62)
  have hb1 : Below w.heap.size w ((w.alloc (.cells rwz 62)).alloc (.cells tbc 62)) := hb0.alloc (by omega) _
  rw [hs0] at hT ht1
  have H0 : Aside (Rl w ((w.alloc (.cells rwz 62)).alloc (.cells tbc 62)) ∧ ∀ x ∈ TB.take 0, x.name ≠ l) := ⟨⟨by rw [hR]; exact hz1, by rw [hR]; exact ht1, hb1⟩, by simp⟩
  have HR : Hid (w.heap.size = R) := hR
  clear hz0 hb0 hz1 ht1 hb1
  go_enter Tryz.func21, Tryz.ntmps21
  go_wp2_with fail
  refine Calls.mono hT ?_
  rintro e w1 ⟨rfl, hw1⟩
  obtain ⟨W1, hW1⟩ : ∃ W1, (w.alloc (.cells rwz 62)).alloc (.cells tbc 62) = W1 := ⟨_, rfl⟩
  rw [hW1] at hw1 H0
  subst hw1
  clear hT hs0 hW1
  go_wp2_with fail
  go_loopw [5, 8] (fun _ c wr => ∃ k : Nat, k ≤ 25 ∧ c = .int .i64 (k : Int) ∧ Aside (Rl w wr ∧ ∀ x ∈ TB.take k, x.name ≠ l)) (fun _ c _ => 25 - (intOf c).toNat)
  case atStart => exact ⟨0, Nat.zero_le _, rfl, H0⟩
  case round =>
    clear H0
    obtain ⟨k, hk, rfl, HX⟩ := hrel
    by_cases hkn : k < 25
    · have hkn' : (k : Int) < 25 := by omega
      obtain ⟨r, hr⟩ : ∃ r, TB[k]? = some r := ⟨_, List.getElem?_eq_getElem (by rw [tb_len]; exact hkn)⟩
      have hix := index_row wr (b := R + 1) (k := k) (m := 25) (c := 25) hkn
      have htab : wr.heap[R + 1]? = some (.cells tbc 62 (0, 0)) := by rw [← hR]; exact HX.out.1.tab
      have hld := row_at htab hr
      clear htab
      have hnew := heap_alloc_new wr (.cells rwz 62)
      have hst := storeVar_rw (cs := (rwc r).toArray) hnew rfl rfl (rwc_one r)
      have hb2 : Below wr.heap.size wr ((wr.alloc (.cells rwz 62)).setRow wr.heap.size (rwc r).toArray) := below_setRow ((Below.refl _ wr).alloc (Nat.le_refl _) _) (Nat.le_refl _) _
      have hg2 := setRow_heap (wr.alloc (.cells rwz 62)) wr.heap.size _ (rwc r).toArray _ _ hnew
      have hcA := cell_of_row _ wr.heap.size 0 _ _ _ hg2
      generalize (wr.alloc (.cells rwz 62)).setRow wr.heap.size (rwc r).toArray = W2 at *
      have hc0 : W2.cell? ⟨wr.heap.size, 0, none⟩ = some (.string (sb r.name)) := hcA
      clear hcA
      have hld2 := loadVar_rw hg2 rfl
      have HX2 : Aside (Rl w W2 ∧ ∀ x ∈ TB.take k, x.name ≠ l) := ⟨⟨by rw [hb2.block _ (Array.getElem?_eq_some_iff.1 HX.out.1.res).1]; exact HX.out.1.res, by rw [hb2.block _ (Array.getElem?_eq_some_iff.1 HX.out.1.tab).1]; exact HX.out.1.tab, HX.out.1.be.trans (hb2.mono HX.out.1.be.size)⟩, HX.out.2⟩
      have hq : ((sb r.name).toList == (sb l).toList) = decide (r.name = l) := sb_beq _ _
      clear HX hnew hb2
      by_cases hn : r.name = l
      · rw [decide_eq_true hn] at hq
        have hfin := rowN_some HX2.out.2 hr hn
        have hres : W2.heap[R]? = some (.cells rwz 62 (0, 0)) := by rw [← hR]; exact HX2.out.1.res
        have hst2 := storeVar_rw (cs := (rwc r).toArray) hres rfl rfl (rwc_one r)
        have hg3 := setRow_heap W2 R _ (rwc r).toArray _ _ hres
        clear hres
        have FIN : Hid (Below w.heap.size w (W2.setRow R (rwc r).toArray)) := below_setRow HX2.out.1.be (by rw [HR.out]; exact Nat.le_refl _) _
        generalize W2.setRow R (rwc r).toArray = W3 at *
        clear HX2
        go_wp2_with (first
          | (refine wpList_loadR (ty := 62) (x := .tmp 10) (ad := ⟨R + 1, k * 4, none⟩) (v := .agg (rwc r).toArray) rfl rfl rfl hld ?_)
          | (refine wpList_storeR (ty := 62) (x := .tmp 5) (y := .tmp 11) (ad := ⟨wr.heap.size, 0, none⟩) (v := .agg (rwc r).toArray) (w' := W2) rfl rfl rfl rfl hst ?_)
          | (refine wpList_loadR (ty := 62) (x := .tmp 5) (ad := ⟨wr.heap.size, 0, none⟩) (v := .agg (rwc r).toArray) rfl rfl rfl hld2 ?_)
          | (refine wpList_storeR (ty := 62) (x := .tmp 2) (y := .tmp 16) (ad := ⟨R, 0, none⟩) (v := .agg (rwc r).toArray) (w' := W3) rfl rfl rfl rfl hst2 ?_))
        refine ret_rw2 rfl rfl rfl rfl hg3 rfl ?_
        rw [hfin]
        exact ⟨rfl, FIN.out⟩
      · rw [decide_eq_false hn] at hq
        have HN : Aside (Rl w W2 ∧ ∀ x ∈ TB.take (k + 1), x.name ≠ l) := ⟨HX2.out.1, fun x hx => by
          rw [List.take_add_one, hr] at hx
          rcases List.mem_append.1 hx with h1 | h1
          · exact HX2.out.2 x h1
          · have h2 : x ∈ [r] := by simpa using h1
            rw [List.mem_singleton.1 h2]; exact hn⟩
        clear HX2
        go_wp2_with (first
          | (refine wpList_loadR (ty := 62) (x := .tmp 10) (ad := ⟨R + 1, k * 4, none⟩) (v := .agg (rwc r).toArray) rfl rfl rfl hld ?_)
          | (refine wpList_storeR (ty := 62) (x := .tmp 5) (y := .tmp 11) (ad := ⟨wr.heap.size, 0, none⟩) (v := .agg (rwc r).toArray) (w' := W2) rfl rfl rfl rfl hst ?_))
        go_roundw
        case rel => exact ⟨k + 1, by omega, by go_num, HN⟩
        case measure => simp [intOf]; omega
    · have hkn' : ¬ (k : Int) < 25 := by omega
      have hfin : rowN l = none := rowN_none (by have := HX.out.2; rw [List.take_of_length_le (by rw [tb_len]; omega)] at this; exact this)
      have hres : wr.heap[R]? = some (.cells rwz 62 (0, 0)) := by rw [← hR]; exact HX.out.1.res
      have hst2 := storeVar_rw (cs := rwz) hres rfl rfl (by simp [rwz, Value.oneCell'])
      have hg3 := setRow_heap wr R _ rwz _ _ hres
      clear hres
      have FIN : Hid (Below w.heap.size w (wr.setRow R rwz)) := below_setRow HX.out.1.be (by rw [HR.out]; exact Nat.le_refl _) _
      generalize wr.setRow R rwz = W3 at *
      clear HX
      go_wp2_with (first
        | (refine wpList_storeR (ty := 62) (x := .tmp 2) (y := .tmp 18) (ad := ⟨R, 0, none⟩) (v := .agg rwz) (w' := W3) rfl rfl rfl rfl hst2 ?_))
      refine ret_rw2 rfl rfl rfl rfl hg3 rfl ?_
      exact ⟨rfl, by rw [← HR.out]; exact FIN.out⟩
end Go.Proofs.YtmlfekbmbnfkjabGreatDoor

/-
  Lists of bytes, texts and lists of texts in memory: laws of earlier layers, gathered.
-/
namespace Go.Proofs.YtmlfekbmbnfkjabGreatDoor
set_option maxRecDepth 100000
namespace T21
set_option maxRecDepth 100000
open Go.RowKit

/-- Bytes as they lie in memory. -/
def bs (l : List UInt8) : List Value := l.map (fun c => Value.int .u8 (c.toNat : Int))
theorem bs_length (l : List UInt8) : (bs l).length = l.length := by simp [bs]
/-- A list of bytes as a call may be handed it: nil, or an address where they lie. -/
structure Bytes (w : World) (ao : Option Addr) (m c : Nat) (l : List UInt8) : Prop where
  len : l.length = m
  room : m ≤ c
  none : ao = none → m = 0 ∧ c = 0
  cells : ∀ ad, ao = some ad → ∀ j u, (bs l)[j]? = some u → w.cell? (ad.add j) = some u

theorem Bytes.below {w w' : World} {ao : Option Addr} {m c : Nat} {l : List UInt8} {B : Nat} (h : Bytes w ao m c l) (hb : Below B w w') (hB : w.heap.size ≤ B) : Bytes w' ao m c l :=
  ⟨h.len, h.room, h.none, fun ad had j u hu => by
    have hc := h.cells ad had j u hu
    have hlt := World.block_lt_of_cell? w _ hc
    rw [hb.cell (Nat.lt_of_lt_of_le hlt hB)]
    exact hc⟩

theorem Bytes.nil (w : World) : Bytes w .none 0 0 [] := ⟨rfl, Nat.le_refl _, fun _ => ⟨rfl, rfl⟩, fun _ h => by cases h⟩

theorem Bytes.own {w : World} {base g n cap : Nat} {l : List UInt8} (h : w.ownsRow base 5 1 (.slice (some ⟨g, 0, .none⟩) n cap) n (bs l)) : Bytes w (some ⟨g, 0, .none⟩) n cap l :=
  ⟨by have := h.1; rw [bs_length] at this; omega,
   by rcases h.2 with ⟨h', _⟩ | ⟨g', cap', cur, h', _, _, hn, _⟩
      · cases h'
      · simp only [Value.slice.injEq] at h'; omega,
   (fun h => by cases h),
   fun ad had j u hu => by
    obtain rfl := Option.some.inj had
    exact h.cells rfl j u hu⟩

/-- Where bytes lie: nowhere, since there are none; or at an address. -/
theorem Bytes.norm {w : World} {ao : Option Addr} {m c : Nat} {l : List UInt8} (h : Bytes w ao m c l) :
    (m = 0 ∧ l = []) ∨ ∃ b off, ao = some ⟨b, off, .none⟩ ∧ 0 < m ∧ ∀ j, j < m → w.cell? ⟨b, off + j, .none⟩ = some (.int .u8 ((l.getD j 0).toNat : Int)) := by
  by_cases h0 : m = 0
  · exact .inl ⟨h0, List.eq_nil_of_length_eq_zero (h.len.trans h0)⟩
  · right
    cases ao with
    | none => exact absurd (h.none rfl).1 h0
    | some ad =>
      obtain ⟨b, off, spot⟩ := ad
      have hg : ∀ j, j < m → w.cell? ((⟨b, off, spot⟩ : Addr).add j) = some (.int .u8 ((l.getD j 0).toNat : Int)) := by
        intro j hj
        refine h.cells _ rfl j _ ?_
        have hj' : j < l.length := by rw [h.len]; exact hj
        simp [bs, hj']
      have hspot : spot = .none := by simpa [Addr.add] using World.cell?_spot (hg 0 (by omega))
      subst hspot
      exact ⟨b, off, rfl, by omega, fun j hj => by have := hg j hj; rwa [Addr.add_lit] at this⟩

theorem own_below {w w' : World} {base : Nat} {v : Value} {n : Nat} {xs : List Value} (h : w.ownsRow base 5 1 v n xs) (hb : Below w.heap.size w w') : w'.ownsRow base 5 1 v n xs := by
  refine h.kept (row := none) ⟨hb.os, hb.tape, hb.output, hb.size, fun k hk _ => hb.block k hk⟩ ?_
  cases v.ownBlock <;> simp

theorem eqGuard_int (w : World) {op : BinOp} {x y : Operand} {a b : Int} : (eqGuard op 3 x y (.int .i64 a) (.int .i64 b)).run Tryz.prog w = .ok () w := by
  cases op <;> simp [eqGuard]
theorem Bytes.part {w : World} {ao : Option Addr} {m c : Nat} {l : List UInt8} (h : Bytes w ao m c l) (k : Nat) (hk : k ≤ m) (hao : ao ≠ .none) : Bytes w ao k c (l.take k) :=
  ⟨by rw [List.length_take, h.len]; omega, by have := h.room; omega, fun h0 => absurd h0 hao, fun ad had j u hu => by
    refine h.cells ad had j u ?_
    rw [bs, List.map_take, List.getElem?_take] at hu
    split at hu
    · exact hu
    · cases hu⟩

theorem Bytes.drop {w : World} {ao : Option Addr} {m c : Nat} {l : List UInt8} (h : Bytes w ao m c l) (a : Nat) (ha : a ≤ m) :
    Bytes w (Option.map (fun x => x.add a) ao) (m - a) (c - a) (l.drop a) :=
  ⟨by rw [List.length_drop, h.len], by have := h.room; omega,
   (fun hn => by
    cases ao with
    | none => have := h.none rfl; omega
    | some ad => cases hn),
   fun ad had j u hu => by
    cases ao with
    | none => cases had
    | some x =>
      obtain rfl := Option.some.inj had
      rw [bs, List.map_drop, List.getElem?_drop] at hu
      have := h.cells x rfl (a + j) u hu
      rwa [Addr.add_add]⟩
theorem Bytes.take {w : World} {ao : Option Addr} {m c : Nat} {l : List UInt8} (h : Bytes w ao m c l) (k : Nat) (hk : k ≤ m) : Bytes w ao k c (l.take k) :=
  ⟨by rw [List.length_take, h.len]; omega, by have := h.room; omega, (fun hn => by have := h.none hn; omega),
   fun ad had j u hu => by
    refine h.cells ad had j u ?_
    rw [bs, List.map_take, List.getElem?_take] at hu
    split at hu
    · exact hu
    · cases hu⟩

theorem new_one (w : World) (a : Value) (t : TypeId) : ∀ j u, [a][j]? = some u → (w.alloc (Obj.cells #[a] t)).cell? ((⟨w.heap.size, 0, none⟩ : Addr).add j) = some u := by
  intro j u hu
  rw [Addr.add_lit, Nat.zero_add, World.cell?_alloc_mark]
  simpa using hu

/-- A list of texts as a call may be handed it. -/
structure Txts (w : World) (ao : Option Addr) (m c : Nat) (S : List ByteArray) : Prop where
  len : S.length = m
  room : m ≤ c
  none : ao = none → m = 0 ∧ c = 0
  cells : ∀ ad, ao = some ad → ∀ j s, S[j]? = some s → w.cell? (ad.add j) = some (.string s)
  small : ∀ s ∈ S, s.size ≤ maxLen

theorem Txts.below {w w' : World} {ao : Option Addr} {m c : Nat} {S : List ByteArray} {B : Nat} (h : Txts w ao m c S) (hb : Below B w w') (hB : w.heap.size ≤ B) : Txts w' ao m c S :=
  ⟨h.len, h.room, h.none, fun ad had j u hu => by
    have hc := h.cells ad had j u hu
    have hlt := World.block_lt_of_cell? w _ hc
    rw [hb.cell (Nat.lt_of_lt_of_le hlt hB)]
    exact hc, h.small⟩
theorem Txts.norm {w : World} {ao : Option Addr} {m c : Nat} {S : List ByteArray} (h : Txts w ao m c S) :
    (m = 0 ∧ S = []) ∨ ∃ b off, ao = some ⟨b, off, .none⟩ ∧ 0 < m ∧ ∀ j, j < m → w.cell? ⟨b, off + j, .none⟩ = some (.string (S.getD j ByteArray.empty)) := by
  by_cases h0 : m = 0
  · exact .inl ⟨h0, List.eq_nil_of_length_eq_zero (h.len.trans h0)⟩
  · right
    cases ao with
    | none => exact absurd (h.none rfl).1 h0
    | some ad =>
      obtain ⟨b, off, spot⟩ := ad
      have hg : ∀ j, j < m → w.cell? ((⟨b, off, spot⟩ : Addr).add j) = some (.string (S.getD j ByteArray.empty)) := by
        intro j hj
        refine h.cells _ rfl j _ ?_
        have hj' : j < S.length := by rw [h.len]; exact hj
        simp [List.getD, hj']
      have hspot : spot = .none := by simpa [Addr.add] using World.cell?_spot (hg 0 (by omega))
      subst hspot
      exact ⟨b, off, rfl, by omega, fun j hj => by have := hg j hj; rwa [Addr.add_lit] at this⟩
theorem Txts.take {w : World} {ao : Option Addr} {m c : Nat} {S : List ByteArray} (h : Txts w ao m c S) (k : Nat) (hk : k ≤ m) : Txts w ao k c (S.take k) :=
  ⟨by rw [List.length_take, h.len]; omega, by have := h.room; omega, (fun hn => by have := h.none hn; omega),
   (fun ad had j u hu => by
    refine h.cells ad had j u ?_
    rw [List.getElem?_take] at hu
    split at hu
    · exact hu
    · cases hu), fun s hs => h.small s (List.mem_of_mem_take hs)⟩

/-- Bytes that a call has made: nowhere, since there are none; or a row of its own. -/
def Made (w : World) (base : Nat) (v : Value) (l : List UInt8) : Prop := w.ownsRow base 5 1 v l.length (bs l)

/-- Bytes as a text. -/
def tx (l : List UInt8) : ByteArray := ⟨l.toArray⟩
theorem tx_size (l : List UInt8) : (tx l).size = l.length := by simp [tx, ByteArray.size]
theorem tx_get (l : List UInt8) (i : Nat) (h : i < (tx l).size) : (tx l)[i] = l.getD i 0 := by
  have hi : i < l.length := by rw [tx_size] at h; exact h
  show l.toArray[i] = _
  rw [List.getElem_toArray]
  simp [List.getD, hi]
theorem Made.bytes {w : World} {base : Nat} {v : Value} {l : List UInt8} (h : Made w base v l) : ∃ ao cap, v = .slice ao l.length cap ∧ Bytes w ao l.length cap l ∧ cap ≤ maxLen := by
  rcases h.2 with ⟨rfl, h0⟩ | ⟨g, cap, cur, rfl, hb, hg, hnc, hcm, hcs, htake⟩
  · have h1 : l = [] := List.eq_nil_of_length_eq_zero h0
    subst h1
    exact ⟨none, 0, rfl, Bytes.nil w, Nat.zero_le _⟩
  · exact ⟨some ⟨g, 0, none⟩, cap, rfl, Bytes.own h, hcm⟩
theorem infoT : (Tryz.prog.info? 9).map (fun i => (i.zero, i.size, i.bytes)) = some (some (.string ByteArray.empty), 1, 16) := by kernel_rfl

end T21
end Go.Proofs.YtmlfekbmbnfkjabGreatDoor

/-
  Bytes that were made of a text: the block bears a mark behind its cells. What 'append' to them comes to.
-/
namespace Go.Proofs.YtmlfekbmbnfkjabGreatDoor
set_option maxRecDepth 100000
namespace T21
open Go.RowKit Go.Sort

def Tail (w : World) (g cap : Nat) (l : List UInt8) : Prop :=
  ∃ cur : Array Value, w.heap[g]? = some (.cells cur 5 (cur.size, cur.size + 1)) ∧ cur.size = cap ∧ l.length ≤ cap ∧ cur.toList.take l.length = bs l
theorem Tail.lt {w : World} {g cap : Nat} {l : List UInt8} (h : Tail w g cap l) : g < w.heap.size := by
  obtain ⟨cur, h1, -⟩ := h
  exact (Array.getElem?_eq_some_iff.1 h1).1
theorem Tail.bytes {w : World} {g cap : Nat} {l : List UInt8} (h : Tail w g cap l) : Bytes w (some ⟨g, 0, none⟩) l.length cap l := by
  obtain ⟨cur, h1, h2, h3, h4⟩ := h
  refine ⟨rfl, h3, (fun h => by cases h), fun ad had j u hu => ?_⟩
  obtain rfl := Option.some.inj had
  rw [Addr.add_lit, Nat.zero_add, cell_of_row w g j cur _ _ h1, ← Array.getElem?_toList]
  rw [← h4, List.getElem?_take] at hu
  split at hu
  · exact hu
  · cases hu
theorem Tail.same {w w' : World} {g cap : Nat} {l : List UInt8} (h : Tail w g cap l) (hb : w'.heap[g]? = w.heap[g]?) : Tail w' g cap l := by
  obtain ⟨cur, h1, h2⟩ := h
  exact ⟨cur, by rw [hb]; exact h1, h2⟩
theorem Tail.below {w w' : World} {g cap : Nat} {l : List UInt8} (h : Tail w g cap l) (hb : Below w.heap.size w w') : Tail w' g cap l := h.same (hb.block g h.lt)
theorem Tail.fz {w : World} {g cap j : Nat} {l : List UInt8} (h : Tail w g cap l) (hj : j < cap) : w.frozen? ⟨g, j, none⟩ = false := by
  obtain ⟨cur, h1, h2, -⟩ := h
  unfold World.frozen?
  rw [h1]
  simp only [Bool.and_eq_false_iff, decide_eq_false_iff_not]
  left; omega
theorem Tail.there {w : World} {g cap j : Nat} {l : List UInt8} (h : Tail w g cap l) (hj : j < cap) : (w.cell? ⟨g, j, none⟩).isSome = true := by
  obtain ⟨cur, h1, h2, -⟩ := h
  rw [cell_of_row w g j cur _ _ h1, Array.getElem?_eq_getElem (by omega)]; rfl
theorem Tail.cell {w : World} {g cap j : Nat} {l : List UInt8} (h : Tail w g cap l) (hj : j < l.length) : w.cell? ⟨g, j, none⟩ = some (.int .u8 ((l.getD j 0).toNat : Int)) := by
  have := h.bytes.cells _ rfl j (.int .u8 ((l.getD j 0).toNat : Int)) (by simp [bs, List.getD, hj])
  rwa [Addr.add_lit, Nat.zero_add] at this
theorem size_setC (w : World) (a : Addr) (v : Value) : (w.setCell a v).heap.size = w.heap.size := by simp [World.setCell]
theorem grown_set (w : World) (g j : Nat) (x : Value) : w.grownBy (w.setCell ⟨g, j, none⟩ x) (some g) :=
  ⟨rfl, rfl, rfl, Nat.le_of_eq (size_setC _ _ _).symm, fun k _ hk => Below.heap_setCell w _ _ k (fun e => hk (by rw [e]))⟩
theorem Tail.set {w : World} {g cap j : Nat} {l : List UInt8} (h : Tail w g cap l) (c : UInt8) : Tail (w.setCell ⟨g, j, none⟩ (.int .u8 (c.toNat : Int))) g cap (l.set j c) := by
  obtain ⟨cur, h1, h2, h3, h4⟩ := h
  refine ⟨cur.setIfInBounds j (.int .u8 (c.toNat : Int)), ?_, by rw [Array.size_setIfInBounds]; exact h2, by rw [List.length_set]; exact h3, ?_⟩
  · rw [setCell_eq_setRow w g j cur _ _ _ h1, Array.size_setIfInBounds]
    exact setRow_heap w g cur _ _ _ h1
  · rw [List.length_set, Array.toList_setIfInBounds, List.take_set, h4, bs, bs, List.map_set]
theorem conv_tail (s : ByteArray) (W : World) (hs : s.size ≤ maxLen) : ∃ cap W', (convert 9 91 (.string s)).run Tryz.prog W = .ok (.slice (some ⟨W.heap.size, 0, none⟩) s.size cap) W' ∧
    Tail W' W.heap.size cap s.data.toList ∧ cap ≤ maxLen ∧ Below W.heap.size W W' ∧ W'.heap.size = W.heap.size + 1 := by
  have hr := run_bytes_of_string (P := Tryz.prog) W 9 91 5 s Tryz.underlying9 Tryz.underlying91 Tryz.underlying5
  have hge := grownCap_ge W s.size 0 5
  have hle := grownCap_le_maxLen W s.size 0 5 hs
  have hsz : s.data.size = s.size := rfl
  have hrs : (bytesRow s (grownCap W s.size 0 5)).size = grownCap W s.size 0 5 := by rw [bytesRow, Array.size_append, Array.size_map, Array.size_replicate]; omega
  refine ⟨_, _, hr, ⟨_, heap_alloc_new W.drew _, hrs, by rw [Array.length_toList]; omega, ?_⟩, hle, (Below.refl _ _).drew.alloc (Nat.le_refl _) _, by simp⟩
  rw [bytesRow, Array.toList_append, Array.toList_map, List.take_left' (by rw [List.length_map])]
  rfl

end T21
end Go.Proofs.YtmlfekbmbnfkjabGreatDoor

/-
  A name with capitals for small letters: the program's and the reference's.
-/
namespace Go.Proofs.YtmlfekbmbnfkjabGreatDoor
set_option maxRecDepth 100000
open Go.RowKit

def upC (c : UInt8) : UInt8 := if 97 ≤ c.toNat ∧ c.toNat ≤ 122 then UInt8.ofNat (c.toNat - 32) else c
def upE (l : List UInt8) : List UInt8 := l.map upC
def upTo (l : List UInt8) (i : Nat) : List UInt8 := (l.take i).map upC ++ l.drop i
theorem upTo_all (l : List UInt8) : upTo l l.length = upE l := by unfold upTo upE; rw [List.take_length, List.drop_length, List.append_nil]
theorem upTo_len (l : List UInt8) (i : Nat) : (upTo l i).length = l.length := by unfold upTo; rw [List.length_append, List.length_map, List.length_take, List.length_drop]; omega
theorem upTo_get (l : List UInt8) (i : Nat) (h : i < l.length) : (upTo l i).getD i 0 = l.getD i 0 := by
  unfold upTo
  rw [List.getD_eq_getElem?_getD, List.getElem?_append_right (by rw [List.length_map, List.length_take]; omega), List.length_map, List.length_take, List.getElem?_drop, List.getD_eq_getElem?_getD]
  congr 2
  omega
theorem upTo_step (l : List UInt8) (i : Nat) (h : i < l.length) : (upTo l i).set i (upC (l.getD i 0)) = upTo l (i + 1) := by
  have hg : l[i]? = some (l.getD i 0) := by rw [List.getD_eq_getElem?_getD, List.getElem?_eq_getElem h]; rfl
  have hd : l.drop i = l.getD i 0 :: l.drop (i + 1) := by
    rw [List.drop_eq_getElem_cons h]
    congr 1
    rw [List.getD_eq_getElem?_getD, List.getElem?_eq_getElem h]; rfl
  unfold upTo
  rw [List.take_add_one, hg, List.map_append, hd, List.set_append_right _ _ (by rw [List.length_map, List.length_take]; omega), List.length_map, List.length_take]
  have e : i - min i l.length = 0 := by omega
  rw [e, List.set_cons_zero, List.append_assoc]
  rfl
theorem upTo_skip (l : List UInt8) (i : Nat) (h : i < l.length) (hc : upC (l.getD i 0) = l.getD i 0) : upTo l i = upTo l (i + 1) := by
  rw [← upTo_step l i h, hc]
  have hg : (upTo l i)[i]? = some (l.getD i 0) := by
    rw [← upTo_get l i h, List.getD_eq_getElem?_getD, List.getElem?_eq_getElem (by rw [upTo_len]; exact h)]; rfl
  refine List.ext_getElem? fun j => ?_
  rw [List.getElem?_set]
  split
  · rename_i e
    subst e
    rw [if_pos (by rw [upTo_len]; exact h), hg]
  · rfl
theorem size_sb (l : List UInt8) : (sb l).size = l.length := by simp [sb, ByteArray.size]
theorem conv_tailback {w : World} {g cap : Nat} {l : List UInt8} (h : T21.Tail w g cap l) : (convert 91 9 (.slice (some ⟨g, 0, none⟩) l.length cap)).run Tryz.prog w = .ok (.string (sb l)) w := by
  refine run_convert_bytes_back w 91 9 5 ⟨g, 0, none⟩ cap l Tryz.underlying91 Tryz.underlying5 Tryz.underlying9 ?_
  intro j hj
  have := h.cell hj
  rw [List.getD_eq_getElem?_getD, List.getElem?_eq_getElem hj] at this
  rw [Addr.add_lit, Nat.zero_add]
  exact this
theorem below_grown {w a b : World} {g : Nat} (h : Below g w a) (k : a.grownBy b (some g)) (hl : g < a.heap.size) : Below g w b :=
  ⟨k.os.trans h.os, k.tape.trans h.tape, k.output.trans h.output, Nat.le_trans h.size k.size, fun j hj => by
    rw [k.block j (by omega) (by intro e; cases e; omega)]; exact h.block j hj⟩
set_option maxHeartbeats 1000000 in
theorem capitals_any (l : List UInt8) (w : World) (hl : l.length ≤ 1000000) :
    Calls Tryz.prog 22 #[.string (sb l)] w fun e w' => e = .returned (.string (sb (upE l))) ∧ Below w.heap.size w w' := by
  obtain ⟨cap, W0, hrun, hT, -, hb0, -⟩ := T21.conv_tail (sb l) w (by rw [size_sb]; unfold maxLen; omega)
  rw [data_sb] at hT
  rw [size_sb] at hrun
  obtain ⟨n, hn⟩ : ∃ n, l.length = n := ⟨_, rfl⟩
  rw [hn] at hrun
  have HN : Hid (l.length = n) := hn
  obtain ⟨g, hg⟩ : ∃ g, w.heap.size = g := ⟨_, rfl⟩
  rw [hg] at hrun hT hb0
  have HG : Hid (w.heap.size = g) := hg
  have H0 : Aside (T21.Tail W0 g cap l ∧ Below g w W0) := ⟨hT, hb0⟩
  clear hT hb0 hn hg
  go_enter Tryz.func22, Tryz.ntmps22
  go_wp2_with fail
  go_loopg [10] n (fun kx s10 wr => ∃ i : Nat, s10 = .int .i64 i ∧ i ≤ n ∧ n - i ≤ kx ∧ Aside (T21.Tail wr g cap (upTo l i) ∧ Below g w wr))
  case atStart => exact ⟨0, rfl, Nat.zero_le _, by omega, H0⟩
  case round =>
    obtain ⟨i, rfl, him, hkx, HR⟩ := hrel
    obtain ⟨hT, hb⟩ := HR.out
    by_cases hlt : i < n
    · have hltz : (i : Int) < (n : Int) := by omega
      have hil : i < l.length := by rw [HN.out]; exact hlt
      have hc := hT.cell (j := i) (by rw [upTo_len]; exact hil)
      rw [upTo_get l i hil] at hc
      have hcap : i < cap := by
        obtain ⟨cur, h1, h2, h3, h4⟩ := hT
        rw [upTo_len] at h3
        omega
      have hfz := hT.fz hcap
      have hset := hT.set (j := i) (upC (l.getD i 0))
      rw [upTo_step l i hil] at hset
      have HSK : Hid (upC (l.getD i 0) = l.getD i 0 → upTo l i = upTo l (i + 1)) := upTo_skip l i hil
      have hbs := T21.grown_set wr g i (.int .u8 ((upC (l.getD i 0)).toNat : Int))
      have hxb : (l.getD i 0).toNat < 256 := UInt8.toNat_lt _
      have HX : Hid (upC (l.getD i 0) = if 97 ≤ (l.getD i 0).toNat ∧ (l.getD i 0).toNat ≤ 122 then UInt8.ofNat ((l.getD i 0).toNat - 32) else l.getD i 0) := rfl
      have HTT : Aside (T21.Tail wr g cap (upTo l i) ∧ Below g w wr) := ⟨hT, hb⟩
      clear hT hb HR hrun
      generalize l.getD i 0 = ch at *
      obtain ⟨y, hy⟩ : ∃ y, (upC ch).toNat = y := ⟨_, rfl⟩
      rw [hy] at hset hbs
      have HY : Hid ((upC ch).toNat = y) := hy
      obtain ⟨x, hx⟩ : ∃ x, ch.toNat = x := ⟨_, rfl⟩
      rw [hx] at hc hxb HX
      have HXX : Hid (ch.toNat = x) := hx
      clear hx hy
      have HS : Aside (T21.Tail (wr.setCell ⟨g, i, none⟩ (.int .u8 (y : Int))) g cap (upTo l (i + 1)) ∧ wr.grownBy (wr.setCell ⟨g, i, none⟩ (.int .u8 (y : Int))) (some g)) := ⟨hset, hbs⟩
      clear hset hbs
      by_cases h12 : 97 ≤ x ∧ x ≤ 122
      · have hz1 : (97 : Int) ≤ (x : Int) := by omega
        have hz2 : (x : Int) ≤ 122 := by omega
        have hyx : (y : Int) = (x : Int) - 97 + 65 := by
          have h3 := HX.out
          rw [if_pos h12] at h3
          have h4 := HY.out
          rw [h3, UInt8.toNat_ofNat'] at h4
          omega
        go_wp2
        rw [← hyx]
        go_roundg (n - (i + 1))
        case measure => omega
        case rel => exact ⟨i + 1, by go_num, by omega, Nat.le_refl _, ⟨HS.out.1, below_grown HTT.out.2 HS.out.2 HTT.out.1.lt⟩⟩
      · have HSKK : Hid (upTo l i = upTo l (i + 1)) := HSK.out (by rw [HX.out, if_neg h12])
        by_cases h1 : 97 ≤ x
        · have hz1 : (97 : Int) ≤ (x : Int) := by omega
          have hz2 : ¬ (x : Int) ≤ 122 := by omega
          clear HX
          go_wp2
          go_roundg (n - (i + 1))
          case measure => omega
          case rel => exact ⟨i + 1, by go_num, by omega, Nat.le_refl _, by rw [← HSKK.out]; exact HTT⟩
        · have hz1 : ¬ (97 : Int) ≤ (x : Int) := by omega
          clear HX
          go_wp2
          go_roundg (n - (i + 1))
          case measure => omega
          case rel => exact ⟨i + 1, by go_num, by omega, Nat.le_refl _, by rw [← HSKK.out]; exact HTT⟩
    · have hltz : ¬ (i : Int) < (n : Int) := by omega
      have hin : i = n := by omega
      subst hin
      have hcv := conv_tailback hT
      rw [upTo_len, HN.out] at hcv
      have FIN : Hid (upTo l i = upE l ∧ Below g w wr) := ⟨by rw [← HN.out]; exact upTo_all l, hb⟩
      clear hT hb HR hrun
      go_wp2
      go_ret
      rw [HG.out]
      exact ⟨by rw [FIN.out.1]; rfl, FIN.out.2⟩
end Go.Proofs.YtmlfekbmbnfkjabGreatDoor

