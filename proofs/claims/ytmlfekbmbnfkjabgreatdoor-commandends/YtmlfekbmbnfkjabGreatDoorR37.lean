/-
  few; and seen: a space that has seen those of events that were ready, and these.
-/
import Derived.Test.YtmlfekbmbnfkjabGreatDoorR36
import Derived.Test.YtmlfekbmbnfkjabGreatDoorR30
import Derived.Test.YtmlfekbmbnfkjabGreatDoorR22
import Derived.Test.YtmlfekbmbnfkjabGreatDoorR12
import Derived.Test.YtmlfekbmbnfkjabGreatDoorR34
import Derived.Test.YtmlfekbmbnfkjabGreatDoorR31
import Derived.Lib.MinMax
import Derived.Test.YtmlfekbmbnfkjabGreatDoorR32
import Derived.Deep.WholeRow
namespace Go.Proofs.YtmlfekbmbnfkjabGreatDoor
set_option maxRecDepth 100000
open Go.RowKit

set_option maxHeartbeats 1000000 in
theorem cfew_any (ao : Option Addr) (m c : Nat) (E : List Ev) (w : World) (hE : Evs w ao m c E) :
    Calls Tryz.prog 6 #[.slice ao m c] w fun e w' => ∃ t : Bool, e = .returned (.bool t) ∧ (t = true → m ≤ 60) ∧ Below w.heap.size w w' := by
  have HE : Aside (Evs w ao m c E) := hE
  clear hE
  by_cases hbig : 60 < m
  · have hz : (60 : Int) < (m : Int) := by omega
    go_enter Tryz.func6, Tryz.ntmps6
    go_wp2
    go_ret
    exact ⟨_, rfl, by simp, Below.refl _ _⟩
  · have hz : ¬ (60 : Int) < (m : Int) := by omega
    go_enter Tryz.func6, Tryz.ntmps6
    go_wp2
    go_loopg [9] m (fun kx s9 wr => ∃ i : Nat, s9 = .int .i64 i ∧ i ≤ m ∧ m - i ≤ kx ∧ Below w.heap.size w wr)
    case atStart => exact ⟨0, rfl, Nat.zero_le _, by omega, Below.refl _ _⟩
    case round =>
      obtain ⟨i, rfl, him, hkx, hb⟩ := hrel
      by_cases hlt : i < m
      · have hltz : (i : Int) < (m : Int) := by omega
        obtain ⟨b, off, u, rfl, hui, hu, hr, hbl⟩ := (HE.out.below hb (Nat.le_refl _)).at hlt
        have hix := fun W : World => index_ev W (b := b) (off := off) (k := i) (m := m) (c := c) hlt
        have ck := range_key hr hu.1
        have cf := range_field hr hu.1
        have cv := range_value hr hu.1
        have HB : Hid (Below w.heap.size w wr) := hb
        clear hr hb
        obtain ⟨y, hyy⟩ : ∃ y, IntKind.i64.wrap (((sb u.key).size : Int) + ((sb u.field).size : Int)) = y := ⟨_, rfl⟩
        obtain ⟨z, hzz⟩ : ∃ z, IntKind.i64.wrap (y + ((sb u.value).size : Int)) = z := ⟨_, rfl⟩
        by_cases hg : 1000 < z
        · have hgb : decide (1000 < z) = true := decide_eq_true hg
          go_wp2_with fail
          go_quiet (fail)
          go_wp2
          go_ret
          exact ⟨_, rfl, fun _ => by omega, Below.drewN HB.out nq⟩
        · have hgb : decide (1000 < z) = false := decide_eq_false hg
          go_wp2_with fail
          go_quiet (fail)
          go_wp2
          go_roundg (m - (i + 1))
          case measure => omega
          case rel => exact ⟨i + 1, by go_num, by omega, Nat.le_refl _, Below.drewN HB.out nq⟩
      · have hltz : ¬ (i : Int) < (m : Int) := by omega
        have HB : Hid (Below w.heap.size w wr) := hb
        clear hb
        go_wp2
        go_ret
        exact .inr ⟨rfl, by omega, HB.out⟩
theorem Row.keep22 {w w' : World} {base : Nat} {v : Value} {E : List Ev} (h : Row w base v E) (hk : ∀ k, v.ownBlock = some k → w'.heap[k]? = w.heap[k]?) : Row w' base v E := by
  refine ⟨h.1, ?_⟩
  rcases h.2 with hn | ⟨g, cap, cur, rfl, hbg, hg, rest⟩
  · exact .inl hn
  · exact .inr ⟨g, cap, cur, rfl, hbg, by rw [hk g rfl]; exact hg, rest⟩
theorem SpK.free_new {Y : Lay} {w : World} {g : Nat} {s : St} {x : Option Key} (h : SpK Y w g s x) {j : Nat} (hj : w.heap.size ≤ j) : Free Y g j := by
  refine ⟨by have := h.lt; omega, fun e => by have := (h.mlt _ e).1; omega, ?_⟩
  cases hy : Y.own j with
  | none => rfl
  | some k => have := h.ol j (by rw [hy]; simp); omega
theorem Came.short {l : List Ev} (h : Came l) : (seenS l).L.length ≤ l.length ∧ (seenS l).DL.length ≤ l.length := by
  refine ⟨?_, ?_⟩
  · rw [h.live.length_eq]; exact List.length_filter_le _ _
  · have := h.dead.length_eq
    rw [List.length_map] at this
    rw [this]; exact List.length_filter_le _ _
/-- A space that has seen l, and these in a row of their own. -/
structure Sn (w wr : World) (Y : Lay) (g : Nat) (v : Value) (l : List Ev) : Prop where
  sp : SpK Y wr g (seenS l) none
  ab : Above w.heap.size g Y
  row : Row wr w.heap.size v l
  free : ∀ j, v.ownBlock = some j → Free Y g j
  be : Below w.heap.size w wr
  came : Came l
theorem Sn.below {w wr w' : World} {Y : Lay} {g : Nat} {v : Value} {l : List Ev} (h : Sn w wr Y g v l) (hb : Below wr.heap.size wr w') : Sn w w' Y g v l :=
  ⟨h.sp.below hb (Nat.le_refl _), h.ab, h.row.below hb (Nat.le_refl _), h.free, h.be.trans (hb.mono h.be.size), h.came⟩
set_option maxHeartbeats 4000000 in
theorem cseen_any (ao : Option Addr) (m c : Nat) (E : List Ev) (w : World) (hE : Evs w ao m c E) (hm : m ≤ 60) :
    Calls Tryz.prog 7 #[.slice ao m c] w fun x w' => ∃ (g : Nat) (Y : Lay) (v : Value) (l : List Ev), x = .returned (.tuple #[.pointer (some ⟨g, 0, none⟩), v]) ∧ Sn w w' Y g v l ∧ l.length ≤ m := by
  have HE : Aside (Evs w ao m c E) := hE
  have hN := new_any w
  clear hE
  go_enter Tryz.func7, Tryz.ntmps7
  go_wp2_with fail
  refine Calls.mono hN ?_
  rintro x w1 ⟨rfl, hw1⟩
  obtain ⟨g, hg⟩ : ∃ g, w.heap.size = g := ⟨_, rfl⟩
  have H0 : Aside (Sn w w1 lay0 g (.slice none 0 0) [] ∧ ([] : List Ev).length ≤ 0) := ⟨⟨by rw [hw1, ← hg]; exact sp_new w, by rw [← hg]; exact above_new w, row_nil _ _, (fun j hj => by cases hj), by rw [hw1]; exact (Below.refl _ w).alloc (Nat.le_refl _) _, Came.nil⟩, Nat.le_refl _⟩
  have HG : Hid (w.heap.size = g) := hg
  rw [hg]
  clear hN hw1 hg
  go_wp2_with fail
  go_loopw [5, 10] (fun v5 i wr => ∃ (k : Nat) (Y : Lay) (l : List Ev), k ≤ m ∧ i = .int .i64 (k : Int) ∧ Aside (Sn w wr Y g v5 l ∧ l.length ≤ k)) (fun _ i _ => m - (intOf i).toNat)
  case atStart => exact ⟨0, lay0, [], Nat.zero_le _, rfl, H0⟩
  case round =>
    clear H0
    obtain ⟨k, Y, l, hk, rfl, HS⟩ := hrel
    by_cases hlt : k < m
    · have hlt' : (k : Int) < (m : Int) := by omega
      have hll : l.length ≤ 60 := by have := HS.out.2; omega
      obtain ⟨b, off, u, rfl, hui, hu, hr, hbl⟩ := (HE.out.below HS.out.1.be (Nat.le_refl _)).at hlt
      have hu16 := hu.1
      have hix := fun W : World => index_ev W (b := b) (off := off) (k := k) (m := m) (c := c) hlt
      have hA := apply_any Y wr g (seenS l) u HS.out.1.sp HS.out.1.came.inv hu (by have := HS.out.1.came.short.1; omega)
      have HBL : Hid (b < wr.heap.size) := hbl
      have HU : Hid (Wide u) := hu
      clear hu hbl
      go_wp2_with (first | refine load_ev_mid rfl rfl rfl hr hu16 ?_)
      refine Calls.mono hA ?_
      rintro x w2 ⟨rfl, Y2, hS2, hT2⟩
      have hB := hT2.below HS.out.1.ab HS.out.1.be.size
      have hrow2 : Row w2 w.heap.size u5 l := HS.out.1.row.keep22 fun j hj => hT2.block j (HS.out.1.row.cellsAt j hj).2.1 (HS.out.1.free j hj).g (HS.out.1.free j hj).km (HS.out.1.free j hj).own
      have hfree2 : ∀ j, u5.ownBlock = some j → Free Y2 g j := fun j hj => hT2.free (HS.out.1.row.cellsAt j hj).2.1 (HS.out.1.free j hj)
      cases hre : readyE (seenS l) u
      · have hne : ¬ applyE (seenS l) u = 0 := by
          unfold applyE
          rw [hre]
          cases okev u <;> simp
        have hsame : applyS (seenS l) u = seenS l := by unfold applyS; rw [hre]; rfl
        rw [hsame] at hS2
        have HS2 : Aside (Sn w w2 Y2 g u5 l ∧ l.length ≤ k + 1) := ⟨⟨hS2, hB.2, hrow2, hfree2, HS.out.1.be.trans hB.1, HS.out.1.came⟩, by have := HS.out.2; omega⟩
        generalize applyE (seenS l) u = z at *
        have hz : (z == 0) = false := by simpa using hne
        clear hA hS2 hT2 hB hrow2 hfree2 hr hre hsame HS hix
        go_wp2
        go_roundw
        case rel => exact ⟨k + 1, Y2, l, by omega, by go_num, HS2⟩
        case measure => simp [intOf]; omega
      · have hok : okev u = true := by
          unfold readyE at hre
          simp only [Bool.and_eq_true] at hre
          exact hre.1
        have he0 : applyE (seenS l) u = 0 := by unfold applyE; rw [hok, hre]; rfl
        have hsee : applyS (seenS l) u = seeE (seenS l) u := by unfold applyS; rw [hre]; rfl
        rw [hsee, ← seenS_snoc] at hS2
        rw [he0]
        have hr2 : w2.rangeAt b (off + k * 26) (evl u) := by
          have := (HE.out.below (HS.out.1.be.trans hB.1) (Nat.le_refl _)).at hlt
          obtain ⟨b', off', u', e1, hui', hu', hr', -⟩ := this
          simp only [Option.some.injEq, Addr.mk.injEq, and_true] at e1
          obtain ⟨rfl, rfl⟩ := e1
          rw [hui] at hui'
          obtain rfl := Option.some.inj hui'
          exact hr'
        have hb6 : Below w2.heap.size w2 (w2.alloc (.cells (evc u) 47)) := (Below.refl _ w2).alloc (Nat.le_refl _) _
        have hF : Evs (w2.alloc (.cells (evc u) 47)) (some ⟨w2.heap.size, 0, none⟩) 1 1 [u] := evs_single _ _ u HU.out (liesE_new w2 u)
        have hRow : Row (w2.alloc (.cells (evc u) 47)) w.heap.size u5 l := hrow2.below hb6 (Nat.le_refl _)
        have hbe2 : Below w.heap.size w w2 := HS.out.1.be.trans hB.1
        have hle : w.heap.size ≤ (w2.alloc (.cells (evc u) 47)).heap.size := Nat.le_trans hbe2.size hb6.size
        have hS6 : SpK Y2 (w2.alloc (.cells (evc u) 47)) g (seenS (l ++ [u])) none := hS2.below hb6 (Nat.le_refl _)
        have HFIN : Hid (∀ v' w', Row w' w.heap.size v' (l ++ [u]) → (w2.alloc (.cells (evc u) 47)).grownBy w' u5.ownBlock → (∀ j, v'.ownBlock = some j → u5.ownBlock = some j ∨ w2.heap.size + 1 ≤ j) → Sn w w' Y2 g v' (l ++ [u]) ∧ (l ++ [u]).length ≤ k + 1) := fun v' w' h1 h2 h3 =>
          ⟨⟨hS6.kept (fun j hj hjo => h2.block j hj (fun e => by
              have hf := hfree2 j e.symm
              rcases hjo with h | h | h
              · exact hf.g h
              · exact hf.km h
              · exact h hf.own)) h2.size, hB.2, h1, fun j hj => by
              rcases h3 j hj with h | h
              · exact hfree2 j h
              · exact hS6.free_new (by simpa using h),
            (hbe2.trans (hb6.mono hbe2.size)).grown h2 hle (fun k e => (hRow.cellsAt k e).1), HS.out.1.came.snoc HU.out hre⟩, by rw [List.length_append]; have := HS.out.2; simp; omega⟩
        clear hA hS2 hT2 hB hrow2 hfree2 hr hre HS he0 hsee hok hbe2 hb6 hS6
        go_wp2_with (first
          | refine load_ev_mid rfl rfl rfl hr2 hu16 ?_
          | refine build_ev1 rfl rfl rfl hu16 ?_
          | refine wpList_appE rfl _ _ rfl w.heap.size _ l rfl hRow _ 1 1 [u] rfl hF (by omega) hle ?_)
        intro v' w' h1 h2 h3
        have H6 : Aside _ := HFIN.out v' w' h1 h2 h3
        clear h1 h2 h3 hr2 hF hRow hle HFIN hix
        go_wp2
        go_roundw
        case rel => exact ⟨k + 1, Y2, l ++ [u], by omega, by go_num, H6⟩
        case measure => simp [intOf]; omega
    · have hlt' : ¬ (k : Int) < (m : Int) := by omega
      have FIN : Hid (Sn w wr Y g u5 l ∧ l.length ≤ m) := ⟨HS.out.1, Nat.le_trans HS.out.2 hk⟩
      clear HS
      go_wp2
      go_ret2
      exact ⟨g, Y, _, rfl, l, FIN.out⟩
end Go.Proofs.YtmlfekbmbnfkjabGreatDoor

/-
  What a command comes to over a space, out of its row's planner; KEYS, TYPE, DEL.
-/
namespace Go.Proofs.YtmlfekbmbnfkjabGreatDoor
set_option maxRecDepth 100000
open Go.RowKit

def typS (s : St) (k : Key) : Int := typeE (ofKeyE k s.L) k
def Po.dif (b : Bool) (k : Int) (ky f v : List UInt8) (n r m : Int) : Po := if b then ⟨3, [], 1, [], k, ky, f, v, n, r, m, true⟩ else Po.tell 3 [] 0 []
theorem Po.dif_out (b : Bool) (k : Int) (ky f v : List UInt8) (n r m : Int) : (Po.dif b k ky f v n r m).out none 0 0 = outd b k ky f v n r m := by cases b <;> rfl
theorem Po.dif_L (b : Bool) (k : Int) (ky f v : List UInt8) (n r m : Int) : (Po.dif b k ky f v n r m).L = [] := by cases b <;> rfl
theorem typE_range (k : Int) : ∃ i : Nat, i < 7 ∧ typE k = (i : Int) := by
  unfold typE
  split
  · exact ⟨1, by omega, rfl⟩
  split
  · exact ⟨2, by omega, rfl⟩
  split
  · exact ⟨3, by omega, rfl⟩
  split
  · exact ⟨4, by omega, rfl⟩
  split
  · exact ⟨5, by omega, rfl⟩
  split
  · exact ⟨6, by omega, rfl⟩
  exact ⟨0, by omega, rfl⟩
theorem typS_range (s : St) (k : Key) : ∃ i : Nat, i < 7 ∧ typS s k = (i : Int) := by
  unfold typS typeE lastE
  split
  · exact typE_range _
  · exact ⟨0, by omega, rfl⟩
/-- Of what size a space is here. -/
structure Fine22 (s : St) : Prop where
  len : s.L.length + s.DL.length ≤ 900
  fld : ∀ a ∈ s.L, a.field.length ≤ 1000
  num : ∀ a ∈ s.L, -9223372036854775808 ≤ a.num ∧ a.num ≤ 9223372036854775807
/-- What is told where a space lies. -/
structure At22 (Y : Lay) (g : Nat) (s : St) (w : World) : Prop where
  sp : SpK Y w g s none
  fine : Fine22 s
theorem At22.below {Y : Lay} {g : Nat} {s : St} {w w' : World} (h : At22 Y g s w) (hb : Below w.heap.size w w') : At22 Y g s w' := ⟨h.sp.below hb (Nat.le_refl _), h.fine⟩
abbrev pg (g : Nat) : Option Addr := some ⟨g, 0, none⟩
section
variable {w : World}
theorem bare_dif {fn : FuncId} {p : Option Addr} {c : Cl} {b : Bool} {k : Int} {ky f v : List UInt8} {n r m : Int} (h : Calls Tryz.prog fn #[.pointer p, .agg (clc c)] w fun x w' => x = .returned (.agg (outd b k ky f v n r m)) ∧ Below w.heap.size w w') : PlanC fn p c (Po.dif b k ky f v n r m) w :=
  PlanC.bare (Po.dif_L _ _ _ _ _ _ _ _) (by rw [Po.dif_out]; exact h)
end

/-! The row of a name. -/
def ixN (nm : List UInt8) : Option Nat := TB.findIdx? fun r => decide (r.name = nm)
theorem ixN_find (nm : List UInt8) : rowN nm = (ixN nm).bind fun i => TB[i]? := by
  unfold rowN ixN
  rw [List.find?_eq_bind_findIdx?_getElem?]
theorem ixN_lt {nm : List UInt8} {i : Nat} (h : ixN nm = some i) : i < 25 ∧ ∃ r, TB[i]? = some r ∧ r.name = nm := by
  unfold ixN at h
  obtain ⟨h1, h2, -⟩ := List.findIdx?_eq_some_iff_getElem.1 h
  exact ⟨h1, _, List.getElem?_eq_getElem h1, of_decide_eq_true h2⟩
/-- A row's planner is a function of the program. -/
theorem row_enters {i : Nat} {r : Rw22} (h : TB[i]? = some r) : ∀ (xs : Array Value) (u : World), (callFunc r.fn xs).run Tryz.prog u = .ok (.enter r.fn xs) u := by
  match i, h with
  | 0, h => cases h; exact enters Tryz.func61 (by kernel_rfl) (by kernel_rfl)
  | 1, h => cases h; exact enters Tryz.func62 (by kernel_rfl) (by kernel_rfl)
  | 2, h => cases h; exact enters Tryz.func63 (by kernel_rfl) (by kernel_rfl)
  | 3, h => cases h; exact enters Tryz.func64 (by kernel_rfl) (by kernel_rfl)
  | 4, h => cases h; exact enters Tryz.func65 (by kernel_rfl) (by kernel_rfl)
  | 5, h => cases h; exact enters Tryz.func66 (by kernel_rfl) (by kernel_rfl)
  | 6, h => cases h; exact enters Tryz.func67 (by kernel_rfl) (by kernel_rfl)
  | 7, h => cases h; exact enters Tryz.func68 (by kernel_rfl) (by kernel_rfl)
  | 8, h => cases h; exact enters Tryz.func69 (by kernel_rfl) (by kernel_rfl)
  | 9, h => cases h; exact enters Tryz.func70 (by kernel_rfl) (by kernel_rfl)
  | 10, h => cases h; exact enters Tryz.func71 (by kernel_rfl) (by kernel_rfl)
  | 11, h => cases h; exact enters Tryz.func72 (by kernel_rfl) (by kernel_rfl)
  | 12, h => cases h; exact enters Tryz.func73 (by kernel_rfl) (by kernel_rfl)
  | 13, h => cases h; exact enters Tryz.func74 (by kernel_rfl) (by kernel_rfl)
  | 14, h => cases h; exact enters Tryz.func75 (by kernel_rfl) (by kernel_rfl)
  | 15, h => cases h; exact enters Tryz.func76 (by kernel_rfl) (by kernel_rfl)
  | 16, h => cases h; exact enters Tryz.func77 (by kernel_rfl) (by kernel_rfl)
  | 17, h => cases h; exact enters Tryz.func78 (by kernel_rfl) (by kernel_rfl)
  | 18, h => cases h; exact enters Tryz.func79 (by kernel_rfl) (by kernel_rfl)
  | 19, h => cases h; exact enters Tryz.func80 (by kernel_rfl) (by kernel_rfl)
  | 20, h => cases h; exact enters Tryz.func81 (by kernel_rfl) (by kernel_rfl)
  | 21, h => cases h; exact enters Tryz.func82 (by kernel_rfl) (by kernel_rfl)
  | 22, h => cases h; exact enters Tryz.func83 (by kernel_rfl) (by kernel_rfl)
  | 23, h => cases h; exact enters Tryz.func84 (by kernel_rfl) (by kernel_rfl)
  | 24, h => cases h; exact enters Tryz.func85 (by kernel_rfl) (by kernel_rfl)
  | i + 25, h => simp [TB] at h
noncomputable def planBy (D : Nat → Po) (s : St) (c : Cl) : Po := match ixN c.name with
  | none => Po.tell 2 [69, 82, 82] 0 []
  | some i => if !((TB.getD i ⟨[], [], 0, 0⟩).is == 0) && isoE (typS s c.key) (TB.getD i ⟨[], [], 0, 0⟩).is then Po.tell 2 [87, 82, 79, 78, 71, 84, 89, 80, 69] 0 [] else D i
theorem outcome_by (D : Nat → Po) {Y : Lay} {g : Nat} {s : St} {w : World} (c : Cl) (h : At22 Y g s w) (hP : ∀ i r, ixN c.name = some i → TB[i]? = some r → ∀ u, Below w.heap.size w u → At22 Y g s u → PlanC r.fn (pg g) c (D i) u) : PlanC 15 (pg g) c (planBy D s c) w := by
  cases hi : ixN c.name with
  | none =>
    have hN : rowN c.name = none := by rw [ixN_find, hi]; rfl
    have e : planBy D s c = Po.tell 2 [69, 82, 82] 0 [] := by unfold planBy; rw [hi]
    rw [e]
    exact PlanC.bare rfl (outcomeof_none _ c w hN)
  | some i =>
    obtain ⟨h25, r, hr, hn⟩ := ixN_lt hi
    have hN : rowN c.name = some r := by rw [ixN_find, hi]; exact hr
    have hg : TB.getD i ⟨[], [], 0, 0⟩ = r := by rw [List.getD_eq_getElem?_getD, hr]; rfl
    have e : planBy D s c = if !(r.is == 0) && isoE (typS s c.key) r.is then Po.tell 2 [87, 82, 79, 78, 71, 84, 89, 80, 69] 0 [] else D i := by
      unfold planBy
      rw [hi]
      show (if !((TB.getD i ⟨[], [], 0, 0⟩).is == 0) && isoE (typS s c.key) (TB.getD i ⟨[], [], 0, 0⟩).is then _ else _) = _
      rw [hg]
    have hT : ∀ u, Below w.heap.size w u → Calls Tryz.prog 28 #[.pointer (pg g), .string (sb c.key)] u fun x w' => x = .returned (.int .i64 (typS s c.key)) ∧ Below u.heap.size u w' := fun u hb => stype_any Y u g s c.key (h.below hb).sp (by have := h.fine.len; omega)
    have hQ := fun u (hb : Below w.heap.size w u) => hP i r hi hr u hb (h.below hb)
    rw [e]
    by_cases h0 : r.is = 0
    · rw [if_neg (by simp [h0])]
      exact outcomeofL_free _ c r _ w hN (row_enters hr) hQ h0
    · cases hz : isoE (typS s c.key) r.is
      · rw [if_neg (by simp)]
        exact outcomeofL_any _ c r _ _ w hN (row_enters hr) hQ hT h0 hz
      · rw [if_pos (by simp [h0])]
        exact PlanC.bare rfl (outcomeof_other _ c r _ w hN hT h0 hz)
/-- Plan, over a space. -/
theorem plan_by (D : Nat → Po) {Y : Lay} {g : Nat} {s : St} {w : World} (c : Cl) (h : At22 Y g s w) (hP : ∀ i r, ixN c.name = some i → TB[i]? = some r → ∀ u, Below w.heap.size w u → At22 Y g s u → PlanC r.fn (pg g) c (D i) u) :
    Calls Tryz.prog 8 #[.pointer (pg g), .agg (clc c)] w fun x w' => ∃ ao q cc, x = .returned (.tuple #[.agg ((planBy D s c).rep ao q cc), .agg (planBy D s c).op, .bool (planBy D s c).b]) ∧ TRow w' w.heap.size (.slice ao q cc) (planBy D s c).L ∧ Below w.heap.size w w' := by
  refine planL_any (fun pp u => pp = pg g ∧ At22 Y g s u) (pg g) c (planBy D s c) w (fun pp u u' hj hb => ⟨hj.1, hj.2.below hb⟩) (fun u hb => ?_) (fun u pp hb hj => ?_)
  · exact (ornew_some _ u).mono fun _ _ ⟨h1, h2⟩ => ⟨pg g, h1, ⟨rfl, (h.below hb).below h2⟩, h2⟩
  · obtain ⟨rfl, hj⟩ := hj
    exact outcome_by D c hj fun i r h1 h2 v hv h3 => hP i r h1 h2 v (hb.trans (hv.mono hb.size)) h3
section
variable {Y : Lay} {g : Nat} {s : St} {w : World}
theorem q_del (c : Cl) (h : At22 Y g s w) : PlanC 83 (pg g) c (Po.dif (!(typS s c.key == 0)) 11 c.key [] [] 0 0 0) w :=
  bare_dif (removekey_any _ c _ w fun u hb => stype_any Y u g s c.key (h.below hb).sp (by have := h.fine.len; omega))
theorem q_type (c : Cl) (h : At22 Y g s w) : PlanC 84 (pg g) c (Po.tell 1 (TYW.getD (typS s c.key).toNat []) 0 []) w := by
  obtain ⟨i, hi, e⟩ := typS_range s c.key
  have := telltype_any (pg g) c i hi w fun u hb => by
    have := stype_any Y u g s c.key (h.below hb).sp (by have := h.fine.len; omega)
    unfold typS at e
    rw [e] at this
    exact this
  have e2 : Po.tell 1 (TYW.getD (typS s c.key).toNat []) 0 [] = Po.tell 1 (TYW.getD i []) 0 [] := by
    rw [e]
    rfl
  rw [e2]
  exact PlanC.bare rfl this
theorem planBy_free {D : Nat → Po} {s : St} {c : Cl} {i : Nat} (hi : ixN c.name = some i) (h0 : (TB.getD i ⟨[], [], 0, 0⟩).is = 0) : planBy D s c = D i := by
  unfold planBy
  rw [hi]
  show (if !((TB.getD i ⟨[], [], 0, 0⟩).is == 0) && isoE (typS s c.key) (TB.getD i ⟨[], [], 0, 0⟩).is then _ else _) = _
  rw [if_neg (by rw [h0]; simp)]
theorem planBy_typed {D : Nat → Po} {s : St} {c : Cl} {i : Nat} (hi : ixN c.name = some i) (h0 : isoE (typS s c.key) (TB.getD i ⟨[], [], 0, 0⟩).is = false) : planBy D s c = D i := by
  unfold planBy
  rw [hi]
  show (if !((TB.getD i ⟨[], [], 0, 0⟩).is == 0) && isoE (typS s c.key) (TB.getD i ⟨[], [], 0, 0⟩).is then _ else _) = _
  rw [if_neg (by rw [h0]; simp)]
theorem ix_type : ixN [84, 89, 80, 69] = some 23 := by decide
theorem ix_del : ixN [68, 69, 76] = some 22 := by decide
/-- Plan's answer. -/
abbrev PlanT (p : Option Addr) (c : Cl) (O : Po) (w : World) : Prop := Calls Tryz.prog 8 #[.pointer p, .agg (clc c)] w fun x w' => ∃ ao q cc, x = .returned (.tuple #[.agg (O.rep ao q cc), .agg O.op, .bool O.b]) ∧ TRow w' w.heap.size (.slice ao q cc) O.L ∧ Below w.heap.size w w'
theorem plan_row (c : Cl) (h : At22 Y g s w) {i : Nat} {r : Rw22} {O : Po} (hi : ixN c.name = some i) (hr : TB[i]? = some r) (h0 : r.is = 0) (hP : ∀ u, Below w.heap.size w u → At22 Y g s u → PlanC r.fn (pg g) c O u) : PlanT (pg g) c O w := by
  have := plan_by (fun _ => O) c h (fun j r' h1 h2 u hb hA => by
    rw [hi] at h1
    obtain rfl := Option.some.inj h1
    rw [hr] at h2
    obtain rfl := Option.some.inj h2
    exact hP u hb hA)
  rw [planBy_free hi (by rw [List.getD_eq_getElem?_getD, hr]; exact h0)] at this
  exact this
theorem plan_rowT (c : Cl) (h : At22 Y g s w) {i : Nat} {r : Rw22} {O : Po} (hi : ixN c.name = some i) (hr : TB[i]? = some r) (h0 : isoE (typS s c.key) r.is = false) (hP : ∀ u, Below w.heap.size w u → At22 Y g s u → PlanC r.fn (pg g) c O u) : PlanT (pg g) c O w := by
  have := plan_by (fun _ => O) c h (fun j r' h1 h2 u hb hA => by
    rw [hi] at h1
    obtain rfl := Option.some.inj h1
    rw [hr] at h2
    obtain rfl := Option.some.inj h2
    exact hP u hb hA)
  rw [planBy_typed hi (by rw [List.getD_eq_getElem?_getD, hr]; exact h0)] at this
  exact this
theorem plan_type (k : List UInt8) (h : At22 Y g s w) : PlanT (pg g) ⟨[84, 89, 80, 69], k, [], [], 0, 0⟩ (Po.tell 1 (TYW.getD (typS s k).toNat []) 0 []) w := plan_row _ h ix_type rfl rfl fun _ _ hA => q_type _ hA
theorem plan_del (k : List UInt8) (h : At22 Y g s w) : PlanT (pg g) ⟨[68, 69, 76], k, [], [], 0, 0⟩ (Po.dif (!(typS s k == 0)) 11 k [] [] 0 0 0) w := plan_row _ h ix_del rfl rfl fun _ _ hA => q_del _ hA
end

end Go.Proofs.YtmlfekbmbnfkjabGreatDoor

/-
  What the laws on Plan share: a reply and an operation that are laid; spaces that came of events.
-/
namespace Go.Proofs.YtmlfekbmbnfkjabGreatDoor
set_option maxRecDepth 100000
open Go.RowKit

theorem po_rep_one (O : Po) (ao : Option Addr) (q cc : Nat) : (O.rep ao q cc).all (·.oneCell') = true := repc_one _ _ _ _ _ _
theorem po_op_one (O : Po) : O.op.all (·.oneCell') = true := opx_one _ _ _ _ _ _ _
/-- A reply's and an operation's variable, each laid and stored into. -/
theorem two_laid (w : World) (O : Po) (ao : Option Addr) (q cc : Nat) : ∃ W2 W3,
    (storeVar 30 ⟨w.heap.size, 0, none⟩ (.agg (O.rep ao q cc))).run Tryz.prog ((w.alloc (.cells repz 30)).alloc (.cells opzz 34)) = .ok () W2 ∧
    (storeVar 34 ⟨w.heap.size + 1, 0, none⟩ (.agg O.op)).run Tryz.prog W2 = .ok () W3 ∧
    W3.heap[w.heap.size]? = some (.cells (O.rep ao q cc) 30 (0, 0)) ∧ W3.heap[w.heap.size + 1]? = some (.cells O.op 34 (0, 0)) ∧ Below w.heap.size w W3 ∧ w.heap.size + 2 = W3.heap.size := by
  have h0 : ((w.alloc (.cells repz 30)).alloc (.cells opzz 34)).heap[w.heap.size]? = some (.cells repz 30 (0, 0)) := by rw [Below.heap_alloc _ _ _ (by simp)]; exact heap_alloc_new w _
  have h1 := alloc_two w (.cells repz 30) (.cells opzz 34)
  have hb := below_two w (.cells repz 30) (.cells opzz 34)
  have hsz : ((w.alloc (.cells repz 30)).alloc (.cells opzz 34)).heap.size = w.heap.size + 2 := by simp
  generalize (w.alloc (.cells repz 30)).alloc (.cells opzz 34) = W at *
  have hs1 := storeVar_rep (cs := O.rep ao q cc) h0 rfl rfl (po_rep_one O ao q cc)
  have g0 := setRow_heap W w.heap.size _ (O.rep ao q cc) _ _ h0
  have g1 := (setRow_ne22 W w.heap.size (w.heap.size + 1) (O.rep ao q cc) (by omega)).trans h1
  have b1 : Below w.heap.size w (W.setRow w.heap.size (O.rep ao q cc)) := below_setRow hb (Nat.le_refl _) _
  have z1 : (W.setRow w.heap.size (O.rep ao q cc)).heap.size = w.heap.size + 2 := by rw [← hsz]; simp [World.setRow]
  generalize W.setRow w.heap.size (O.rep ao q cc) = W2 at *
  have hs2 := storeVar_opr (cs := O.op) g1 rfl rfl (po_op_one O)
  refine ⟨W2, _, hs1, hs2, (setRow_ne22 W2 (w.heap.size + 1) w.heap.size O.op (by omega)).trans g0, setRow_heap W2 _ _ O.op _ _ g1, below_setRow b1 (by omega) _, ?_⟩
  rw [← z1]; simp [World.setRow]
theorem ev_texts {e : Ev} (h : okev e = true) : e.key ≠ [] ∧ e.key.length ≤ 64 ∧ e.field.length ≤ 64 ∧ e.value.length ≤ 64 ∧ -1099511627776 ≤ e.num ∧ e.num ≤ 1099511627776 := by
  obtain ⟨-, -, -, -, h5, h6, h7, -, -⟩ := okev_parts h
  obtain ⟨t1, t2, t3⟩ := of_decide_eq_true h6
  obtain ⟨n1, n2⟩ := of_decide_eq_true h7
  exact ⟨h5, t1, t2, t3, n1, n2⟩
theorem came_fine {l : List Ev} (h : Came l) (hl : l.length ≤ 400) : Fine22 (seenS l) := by
  refine ⟨by have := h.short; omega, fun a ha => ?_, fun a ha => ?_⟩
  · have := ev_texts (h.ok a (h.mem.1 ha).1)
    omega
  · have := ev_texts (h.ok a (h.mem.1 ha).1)
    omega
theorem Sn.at22 {w wr : World} {Y : Lay} {g : Nat} {v : Value} {l : List Ev} (h : Sn w wr Y g v l) (hl : l.length ≤ 400) : At22 Y g (seenS l) wr := ⟨h.sp, came_fine h.came hl⟩
theorem sb_lit (T l : List UInt8) : ((sb T).toList == l) = decide (T = l) := by
  rw [ByteArray.toList_eq, data_sb, Bool.eq_iff_iff]
  simp
end Go.Proofs.YtmlfekbmbnfkjabGreatDoor

/-
  What may be seen next by a space that came of events; and keys of which nothing is kept.
-/
namespace Go.Proofs.YtmlfekbmbnfkjabGreatDoor
set_option maxRecDepth 100000
open Go.RowKit

theorem zeros_get (k : Nat) : zeros.getD k 0 = 0 := by
  rw [List.getD_eq_getElem?_getD]
  cases h : zeros[k]? with
  | none => rfl
  | some x =>
    have := List.mem_of_getElem? h
    simp [zeros] at this
    rw [this]
    rfl
theorem Came.seen_bd {l : List Ev} (h : Came l) : ∀ k, 0 ≤ (seenS l).seen.getD k 0 ∧ (seenS l).seen.getD k 0 ≤ (l.length : Int) := by
  induction h with
  | nil =>
    intro k
    show 0 ≤ zeros.getD k 0 ∧ zeros.getD k 0 ≤ _
    rw [zeros_get]
    exact ⟨Int.le_refl _, Int.le_refl _⟩
  | @snoc l e hc hw hr ih =>
    intro k
    obtain ⟨-, h2, h3, -⟩ := ready_facts hc.inv hw hr
    have hd := okdot_iff.1 h2
    have hl := hc.inv.len
    have h4 := ih k
    have h5 := ih e.r.toNat
    rw [seenS_snoc]
    show 0 ≤ ((seenS l).seen.set e.r.toNat e.n).getD k 0 ∧ ((seenS l).seen.set e.r.toNat e.n).getD k 0 ≤ _
    rw [getD_set (by omega), List.length_append]
    simp only [List.length_cons, List.length_nil]
    split <;> constructor <;> omega
theorem ok_time {e : Ev} (h : okev e = true) : 0 ≤ e.t ∧ e.t ≤ 1152921504606846975 := by
  obtain ⟨-, h2, h3, -⟩ := okev_parts h
  exact ⟨h2, h3⟩
theorem Came.time_bd {l : List Ev} (h : Came l) : 0 ≤ (seenS l).time ∧ (seenS l).time ≤ 1152921504606846975 := by
  induction h with
  | nil => exact ⟨by decide, by decide⟩
  | @snoc l e hc hw hr ih =>
    have := ok_time (ready_facts hc.inv hw hr).1
    rw [seenS_snoc]
    show 0 ≤ max (seenS l).time e.t ∧ max (seenS l).time e.t ≤ _
    omega
theorem Came.fine {l : List Ev} (h : Came l) (hl : l.length ≤ 1000) : fine (seenS l).seen = true := by
  unfold Go.Proofs.YtmlfekbmbnfkjabGreatDoor.fine
  rw [List.all_eq_true]
  intro x hx
  obtain ⟨k, hk⟩ := List.getElem?_of_mem hx
  have := h.seen_bd k
  rw [List.getD_eq_getElem?_getD, hk, Option.getD_some] at this
  simp only [decide_eq_true_eq]
  omega
theorem next_place {l : List Ev} (h : Came l) (hl : l.length ≤ 1000) {r n : Int} (hr : 0 ≤ r ∧ r < 16) (hn : n = (seenS l).seen.getD r.toNat 0 + 1) : withE (seenS l).seen r n = 0 := by
  have hb := h.seen_bd r.toNat
  have hd : okdot r n = true := by
    unfold okdot
    simp only [decide_eq_true_eq]
    omega
  unfold withE
  rw [h.fine hl, hd, hn]
  simp
theorem next_ok {l : List Ev} {e : Ev} (h : Came l) (hl : l.length ≤ 1000) (hd : e.deps = (seenS l).seen) (hr : 0 ≤ e.r ∧ e.r < 16) (hn : e.n = (seenS l).seen.getD e.r.toNat 0 + 1) (ht : 0 ≤ e.t ∧ e.t ≤ 1152921504606846975) (ho : opE e = true) (hf : refE e = true) : okev e = true := by
  unfold okev placeE
  rw [hd, next_place h hl hr hn, ho, hf]
  simp [ht.1, ht.2]
theorem max_self : ∀ v : List Int, each max v v = v := by
  intro v
  induction v with
  | nil => rfl
  | cons x v ih =>
    show max x x :: each max v v = x :: v
    rw [ih, Int.max_self]
theorem next_ready {l : List Ev} {e : Ev} (h : Came l) (hl : l.length ≤ 1000) (hd : e.deps = (seenS l).seen) (hr : 0 ≤ e.r ∧ e.r < 16) (hn : e.n = (seenS l).seen.getD e.r.toNat 0 + 1) (hk : okev e = true) : readyE (seenS l) e = true := by
  unfold readyE
  rw [hk, next_place h hl hr hn, hd, max_self]
  simp
/-! Keys. -/
theorem Came.adds {l : List Ev} (h : Came l) {a : Ev} (ha : a ∈ (seenS l).L) : addsE a.kind = true := by
  have := (h.mem.1 ha).2
  unfold isLive at this
  simp only [Bool.and_eq_true] at this
  exact this.1
theorem type_none {l : List Ev} (h : Came l) {k : Key} (ht : typeE (ofKeyE k (seenS l).L) k = 0) : ofKeyE k (seenS l).L = [] := by
  have h1 : ∀ a ∈ allE (ofKeyE k (seenS l).L), addsE a.kind = true := fun a ha => h.adds (List.mem_filter.1 (all_mem.1 ha).1).1
  have h2 : ∀ a ∈ ofKeyE k (seenS l).L, a ∈ allE (ofKeyE k (seenS l).L) := fun a ha =>
    all_mem.2 ⟨ha, live_part (l := l) (fun b hb => (h.mem.1 (List.mem_filter.1 hb).1).1) (h.mem.1 (List.mem_filter.1 ha).1).2⟩
  have h3 : ∀ a ∈ ofKeyE k (seenS l).L, a.key = k := fun a ha => by simpa using (List.mem_filter.1 ha).2
  generalize ofKeyE k (seenS l).L = X at *
  cases X with
  | nil => rfl
  | cons a X =>
    exfalso
    have h4 : a ∈ ofKeyE k (allE (a :: X)) := List.mem_filter.2 ⟨h2 a (by simp), by simpa using h3 a (by simp)⟩
    unfold typeE lastE at ht
    cases hg : (ofKeyE k (allE (a :: X))).getLast? with
    | none =>
      rw [List.getLast?_eq_none_iff] at hg
      rw [hg] at h4
      cases h4
    | some e =>
      rw [hg] at ht
      have h5 : e ∈ ofKeyE k (allE (a :: X)) := List.mem_of_getLast? hg
      have h6 := h1 e (List.mem_filter.1 h5).1
      rw [(typ_adds e.kind).1 ht] at h6
      cases h6
theorem none_type {s : St} {k : Key} (h : ofKeyE k s.L = []) : typeE (ofKeyE k s.L) k = 0 ∧ ofE (ofKeyE k s.L) k = [] := by
  rw [h]
  have h1 : allE ([] : List Ev) = [] := by rw [← List.length_eq_zero_iff]; have := all_length ([] : List Ev); simpa using this
  unfold ofE typeE
  rw [h1]
  exact ⟨rfl, rfl⟩
/-- What ends a key by whoever has seen all leaves nothing of it. -/
theorem del_gone {l : List Ev} {e : Ev} (h : Came l) (hk : e.kind = 11) (hd : e.deps = (seenS l).seen) : ofKeyE e.key (seeE (seenS l) e).L = [] := by
  have hL : (seeE (seenS l) e).L = (seenS l).L.filter fun a => !endsE e a := by
    show (if addsE e.kind then _ else _) = _
    rw [hk]
    rfl
  rw [hL]
  unfold ofKeyE
  rw [List.filter_filter, List.filter_eq_nil_iff]
  intro a ha
  by_cases hq : a.key = e.key
  · have h1 : endsE e a = true := by
      unfold endsE coversE hits
      rw [hd, h.dots a (h.mem.1 ha).1, h.adds ha, hk, hq]
      simp
    rw [h1]
    simp
  · simp [hq]
/-- The event that DEL makes. -/
def delEv (r n t : Int) (v : List Int) (k : Key) : Ev := ⟨r, n, t, v, 11, k, [], [], 0, 0, 0⟩
theorem del_op (r n t : Int) (v : List Int) (k : Key) (h0 : k ≠ []) (h1 : k.length ≤ 64) : opE (delEv r n t v k) = true ∧ refE (delEv r n t v k) = true := by
  refine ⟨?_, rfl⟩
  unfold opE
  simp [delEv, iskindE, textsE, numE, sameO, used, part4, part3, part2, part1, usesF, usesV, usesN, usesR, h0, h1]
end Go.Proofs.YtmlfekbmbnfkjabGreatDoor

/-
  What Span comes to, the program's and the reference's.
-/
namespace Go.Proofs.YtmlfekbmbnfkjabGreatDoor
set_option maxRecDepth 100000
namespace T15
set_option maxRecDepth 100000
open Go.RowKit

/-- A place, counted from the front. -/
def frontZ (n p : Int) : Int := if p < 0 then p + n else p
def spanZ (many fr tt : Int) : Int × Int := if min (frontZ (max many 0) tt) (max many 0 - 1) < max (frontZ (max many 0) fr) 0 then (0, 0) else (max (frontZ (max many 0) fr) 0, min (frontZ (max many 0) tt) (max many 0 - 1) + 1)
def Wide64 (x : Int) : Prop := -9223372036854775808 ≤ x ∧ x ≤ 9223372036854775807
theorem wrap_in {x : Int} (h : Wide64 x) : IntKind.i64.wrap x = x := by
  obtain ⟨h1, h2⟩ := h
  simp [IntKind.wrap, IntKind.signed, IntKind.bits]; omega
theorem zfront_any (n p : Int) (w : World) (hn : 0 ≤ n ∧ n ≤ 9223372036854775807) (hp : Wide64 p) : Calls Tryz.prog 151 #[.int .i64 n, .int .i64 p] w fun e w' => e = .returned (.int .i64 (frontZ n p)) ∧ w' = w := by
  unfold frontZ
  by_cases h : p < 0
  · have hw : IntKind.i64.wrap (p + n) = p + n := wrap_in ⟨by have := hp.1; omega, by omega⟩
    rw [if_pos h]
    go_enter Tryz.func151, Tryz.ntmps151
    go_wp2
    go_ret
    exact ⟨rfl, rfl⟩
  · rw [if_neg h]
    go_enter Tryz.func151, Tryz.ntmps151
    go_wp2
    go_ret
    exact ⟨rfl, rfl⟩
theorem front_wide {n p : Int} (hn : 0 ≤ n ∧ n ≤ 9223372036854775807) (hp : Wide64 p) : Wide64 (frontZ n p) := by
  unfold frontZ
  unfold Wide64 at *
  split <;> omega
set_option maxHeartbeats 1000000 in
theorem zspan_any (many fr tt : Int) (w : World) (h1 : Wide64 many) (h2 : Wide64 fr) (h3 : Wide64 tt) : Calls Tryz.prog 122 #[.int .i64 many, .int .i64 fr, .int .i64 tt] w fun e w' => e = .returned (.tuple #[.int .i64 (spanZ many fr tt).1, .int .i64 (spanZ many fr tt).2]) ∧ w' = w := by
  unfold spanZ
  have hn : 0 ≤ max many 0 ∧ max many 0 ≤ 9223372036854775807 := by unfold Wide64 at h1; omega
  obtain ⟨n, hm⟩ : ∃ n, max many 0 = n := ⟨_, rfl⟩
  rw [hm] at hn ⊢
  have hfa := front_wide hn h2
  have hfb := front_wide hn h3
  have hca := zfront_any n fr w hn h2
  have hcb := zfront_any n tt w hn h3
  generalize frontZ n fr = x at *
  generalize frontZ n tt = y at *
  obtain ⟨a, ha⟩ : ∃ a, max x 0 = a := ⟨_, rfl⟩
  obtain ⟨n1, hn1⟩ : ∃ n1, n - 1 = n1 := ⟨_, rfl⟩
  have hwn : IntKind.i64.wrap (n - 1) = n1 := by rw [wrap_in ⟨by omega, by omega⟩, hn1]
  obtain ⟨b, hb⟩ : ∃ b, min y n1 = b := ⟨_, rfl⟩
  have hwb : IntKind.i64.wrap (b + 1) = b + 1 := wrap_in ⟨by unfold Wide64 at hfb; omega, by omega⟩
  rw [ha, hn1, hb]
  have HN1 : Hid (n - 1 = n1) := hn1
  clear hn1 h1 h2 h3 hfa hfb hn
  by_cases hba : b < a
  · rw [if_pos hba]
    go_enter Tryz.func122, Tryz.ntmps122
    go_wp2_with fail
    refine hca.mono ?_
    rintro e w1 ⟨rfl, hw1⟩
    obtain rfl := hw1.symm
    go_wp2_with fail
    refine hcb.mono ?_
    rintro e w1 ⟨rfl, hw1⟩
    obtain rfl := hw1.symm
    go_wp2
    go_ret2
    exact ⟨rfl, rfl⟩
  · rw [if_neg hba]
    go_enter Tryz.func122, Tryz.ntmps122
    go_wp2_with fail
    refine hca.mono ?_
    rintro e w1 ⟨rfl, hw1⟩
    obtain rfl := hw1.symm
    go_wp2_with fail
    refine hcb.mono ?_
    rintro e w1 ⟨rfl, hw1⟩
    obtain rfl := hw1.symm
    go_wp2
    go_ret2
    exact ⟨rfl, rfl⟩
end T15
end Go.Proofs.YtmlfekbmbnfkjabGreatDoor

/-
  Two texts, appended at once; what spans of a list are.
-/
namespace Go.Proofs.YtmlfekbmbnfkjabGreatDoor
set_option maxRecDepth 100000
open Go.RowKit

theorem span_in (many : Nat) (fr tt : Int) : ∃ a b : Nat, T15.spanZ many fr tt = ((a : Int), (b : Int)) ∧ a ≤ b ∧ b ≤ many := by
  unfold T15.spanZ
  split
  · exact ⟨0, 0, rfl, Nat.le_refl _, Nat.zero_le _⟩
  · refine ⟨(max (T15.frontZ (max (many : Int) 0) fr) 0).toNat, (min (T15.frontZ (max (many : Int) 0) tt) (max (many : Int) 0 - 1) + 1).toNat, ?_, by omega, by omega⟩
    congr 1 <;> omega
/-- The part of a list that a span names. -/
def cutZ {α : Type} (L : List α) (fr tt : Int) : List α := (L.drop (T15.spanZ L.length fr tt).1.toNat).take ((T15.spanZ L.length fr tt).2.toNat - (T15.spanZ L.length fr tt).1.toNat)
end Go.Proofs.YtmlfekbmbnfkjabGreatDoor

/-
  The score and the rank of a member: placeOf.
-/
namespace Go.Proofs.YtmlfekbmbnfkjabGreatDoor
set_option maxRecDepth 100000
namespace T15
open Go.RowKit

end T15
end Go.Proofs.YtmlfekbmbnfkjabGreatDoor

/-
  ZRANGE.
-/
namespace Go.Proofs.YtmlfekbmbnfkjabGreatDoor
set_option maxRecDepth 100000
namespace T15
open Go.RowKit

end T15
end Go.Proofs.YtmlfekbmbnfkjabGreatDoor

