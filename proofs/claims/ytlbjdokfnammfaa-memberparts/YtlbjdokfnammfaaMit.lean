/-
  The reference bag: its list of things in a row; Remove and Put.
-/
import Derived.Test.YtlbjdokfnammfaaBpl
import Derived.Test.YtlbjdokfnammfaaGba
import Derived.Laws.OwnMore
import Derived.Laws.AppendOwnNone
import Derived.Great.BuildSlice
import Derived.Deep.MidRow
import Derived.Deep.RegionWith
import Derived.Deep.RegionHeld3
import Derived.BigQuiet
import Derived.OwnWalk
namespace Go.Proofs.Ytlbjdokfnammfaa
set_option maxRecDepth 100000
open Go.RowKit

/-- An item's cells. -/
def itl (i : It Int) : List Value := [.int .i64 i.r, .int .i64 i.n, Value.int .i64 i.x]
def itc (i : It Int) : Array Value := #[.int .i64 i.r, .int .i64 i.n, Value.int .i64 i.x]
theorem itc_eq (i : It Int) : itc i = (itl i).toArray := rfl
theorem itl_length (i : It Int) : (itl i).length = 3 := rfl
theorem itl_one (i : It Int) : ∀ u ∈ itl i, u.oneCell' = true := by
  intro u hu
  simp only [itl, List.mem_cons, List.not_mem_nil, or_false] at hu
  rcases hu with rfl | rfl | rfl <;> rfl
/-- What a call may have turned: the bag's block and its map's; the map is then the old one, or a new one. -/
structure Turn (g : Nat) (m m' : Option Nat) (w w' : World) : Prop where
  os : w'.os = w.os
  tape : w'.tape = w.tape
  output : w'.output = w.output
  size : w.heap.size ≤ w'.heap.size
  block : ∀ k, k < w.heap.size → k ≠ g → m ≠ some k → w'.heap[k]? = w.heap[k]?
  own : ∀ k, m' = some k → m = some k ∨ w.heap.size ≤ k
theorem Turn.refl (g : Nat) (m : Option Nat) (w : World) : Turn g m m w w := ⟨rfl, rfl, rfl, Nat.le_refl _, fun _ _ _ _ => rfl, fun _ h => .inl h⟩
theorem Turn.trans {g : Nat} {m m' m'' : Option Nat} {a b c : World} (h : Turn g m m' a b) (k : Turn g m' m'' b c) : Turn g m m'' a c :=
  ⟨k.os.trans h.os, k.tape.trans h.tape, k.output.trans h.output, Nat.le_trans h.size k.size,
   fun i hi hg hv => (k.block i (Nat.lt_of_lt_of_le hi h.size) hg (fun e => by rcases h.own i e with h1 | h1; · exact hv h1
                                                                               · omega)).trans (h.block i hi hg hv),
   fun i hi => by
    rcases k.own i hi with h1 | h1
    · exact h.own i h1
    · exact .inr (Nat.le_trans h.size h1)⟩
theorem Turn.of_below {g : Nat} (m : Option Nat) {w w' : World} (h : Below w.heap.size w w') : Turn g m m w w' :=
  ⟨h.os, h.tape, h.output, h.size, fun k hk _ _ => h.block k hk, fun _ e => .inl e⟩
theorem Turn.below {g B : Nat} {m m' : Option Nat} {w w' : World} (h : Turn g m m' w w') (hB : B ≤ w.heap.size) (hg : B ≤ g) (hv : ∀ k, m = some k → B ≤ k) : Below B w w' :=
  ⟨h.os, h.tape, h.output, h.size, fun k hk => h.block k (by omega) (by omega) (fun e => by have := hv k e; omega)⟩
def its (S : List (It Int)) : List Value := S.flatMap itl
theorem its_nil : its [] = [] := rfl
theorem its_length : ∀ S : List (It Int), (its S).length = S.length * 3
  | [] => rfl
  | i :: S => by
    have ih := its_length S
    have e1 : its (i :: S) = itl i ++ its S := by simp [its]
    rw [e1, List.length_append, ih, itl_length, List.length_cons]; omega
theorem its_append (S T : List (It Int)) : its (S ++ T) = its S ++ its T := by simp [its]
theorem its_one (S : List (It Int)) : ∀ u ∈ its S, u.oneCell' = true := by
  intro u hu
  obtain ⟨i, -, h⟩ := List.mem_flatMap.1 hu
  exact itl_one i u h
theorem its_at : ∀ {S : List (It Int)} (k : Nat) (i : It Int), S[k]? = some i → ∀ (j : Nat) (v : Value), (itl i)[j]? = some v → (its S)[k * 3 + j]? = some v
  | [], k, i, hi, j, v, hv => by simp at hi
  | x :: S, k, i, hi, j, v, hv => by
    have e1 : its (x :: S) = itl x ++ its S := by simp [its]
    cases k with
    | zero =>
      have : x = i := by simpa using hi
      subst this
      have hj : j < 3 := (List.getElem?_eq_some_iff.1 hv).1
      rw [e1, Nat.zero_mul, Nat.zero_add, List.getElem?_append_left (by rw [itl_length]; omega)]
      exact hv
    | succ k =>
      rw [e1, List.getElem?_append_right (by rw [itl_length]; omega), itl_length, show (k + 1) * 3 + j - 3 = k * 3 + j by omega]
      exact its_at k i (by simpa using hi) j v hv
/-- What is known of a list's type and its elements'. -/
structure El (T e : TypeId) (z : Array Value) (bt : Nat) : Prop where
  ht : Try.prog.underlying T = some (.slice e)
  hi : (Try.prog.info? e).map (fun i => (i.zero, i.size, i.bytes)) = some (some (.agg z), 3, bt)
  hz : z.size = 3
  hb : bt ≤ 32
/-- A row of the program's own. -/
abbrev Rw (e : TypeId) (w : World) (base : Nat) (v : Value) (S : List (It Int)) : Prop := w.ownsRow base e 3 v S.length (its S)
theorem rw_nil (e : TypeId) (w : World) (base : Nat) : Rw e w base (.slice none 0 0) [] := World.ownsRow_nil w base _ _
theorem Rw.lower {e : TypeId} {w : World} {base b : Nat} {v : Value} {S : List (It Int)} (h : Rw e w base v S) (hb : b ≤ base) : Rw e w b v S := by
  refine ⟨h.1, ?_⟩
  rcases h.2 with hn | ⟨g, cap, cur, e, hbg, rest⟩
  · exact .inl hn
  · exact .inr ⟨g, cap, cur, e, Nat.le_trans hb hbg, rest⟩
theorem Rw.keep {e : TypeId} {w w' : World} {base : Nat} {v : Value} {S : List (It Int)} (h : Rw e w base v S) (hk : ∀ k, v.ownBlock = some k → w'.heap[k]? = w.heap[k]?) : Rw e w' base v S := by
  refine ⟨h.1, ?_⟩
  rcases h.2 with hn | ⟨g, cap, cur, rfl, hbg, hg, rest⟩
  · exact .inl hn
  · exact .inr ⟨g, cap, cur, rfl, hbg, by rw [hk g rfl]; exact hg, rest⟩
theorem Rw.below {e : TypeId} {w w' : World} {base B : Nat} {v : Value} {S : List (It Int)} (h : Rw e w base v S) (hb : Below B w w') (hB : w.heap.size ≤ B) : Rw e w' base v S :=
  h.keep fun k hk => hb.block k (by have := (h.lt k hk).2; omega)
/-- Which slice it is. -/
theorem Rw.val {e : TypeId} {w : World} {base : Nat} {v : Value} {S : List (It Int)} (h : Rw e w base v S) : ∃ ao cap, v = .slice ao S.length cap ∧ S.length ≤ cap ∧ cap ≤ maxLen := by
  rcases h.2 with ⟨rfl, h0⟩ | ⟨g, cap, cur, rfl, hbg, hg, hn, hc, rest⟩
  · exact ⟨none, 0, by rw [h0], by omega, Nat.zero_le _⟩
  · exact ⟨_, cap, rfl, hn, hc⟩
/-- One item of it. -/
theorem Rw.at3 {e : TypeId} {w : World} {base : Nat} {v : Value} {S : List (It Int)} (h : Rw e w base v S) {k : Nat} (hk : k < S.length) : ∃ g cap i, v = .slice (some ⟨g, 0, none⟩) S.length cap ∧ S.length ≤ cap ∧ S[k]? = some i ∧ base ≤ g ∧ g < w.heap.size ∧
    w.cell? ⟨g, k * 3, none⟩ = some (.int .i64 i.r) ∧ w.cell? ⟨g, k * 3 + 1, none⟩ = some (.int .i64 i.n) ∧ w.cell? ⟨g, k * 3 + 2, none⟩ = some (Value.int .i64 i.x) ∧ ∀ j, w.frozen? ⟨g, j, none⟩ = false := by
  obtain ⟨i, hi⟩ : ∃ i, S[k]? = some i := ⟨_, List.getElem?_eq_getElem hk⟩
  rcases h.2 with ⟨rfl, h0⟩ | ⟨g, cap, cur, rfl, hbg, hg, hn, hc, rest⟩
  · omega
  · have hc := fun j u hu => h.cells (g := g) rfl j u hu
    have key := fun j v hv => hc _ _ (its_at k i hi j v hv)
    have k0 := key 0 _ rfl
    have k1 := key 1 _ rfl
    have k2 := key 2 _ rfl
    rw [Addr.add_mid, Nat.zero_add] at k0 k1 k2
    exact ⟨g, cap, i, rfl, hn, hi, hbg, (Array.getElem?_eq_some_iff.1 hg).1, k0, k1, k2, fun j => frozen_of_row w g j _ _ hg⟩
/-- Items that lie at an address. -/
structure IAts (w : World) (ad : Addr) (F : List (It Int)) : Prop where
  cells : ∀ j u, (its F)[j]? = some u → w.cell? (ad.add j) = some u
theorem iapp_new {T e : TypeId} {z : Array Value} {bt : Nat} (E : El T e z bt) {w : World} (base : Nat) (ty : TypeId) (i : TypeInfo) (hi : Try.prog.info? e = some i) (hz : i.zero = some (.agg z)) (hsize : i.size = 3) (hbytes : i.bytes = bt)
    (v : Value) (n : Nat) (xs : List Value) (hown : w.ownsRow base e 3 v n xs)
    (a : Addr) (m c : Nat) (news : List Value) (hl : news.length = m * 3) (hnews : ∀ j u, news[j]? = some u → w.cell? (a.add j) = some u) (h1 : ∀ u ∈ news, u.oneCell' = true)
    (hnm : n + m ≤ 1048576) (hm : 0 < m) (v' : Value) (w' : World) (hr : (Builtin.append_ #[T, T] ty #[v, .slice (some a) m c]).run Try.prog w = .ok v' w') :
    ∀ k, v'.ownBlock = some k → v.ownBlock = some k ∨ w.heap.size ≤ k := by
  intro k hk
  have ht := E.ht
  have hbt := E.hb
  have hown' := hown
  have hmul : (n + m) * bt ≤ 1048576 * 32 := Nat.mul_le_mul hnm hbt
  have hmul2 : m * bt ≤ 1048576 * 32 := Nat.mul_le_mul (by omega) hbt
  rcases hown.2 with ⟨rfl, rfl⟩ | ⟨g, cap, cur, rfl, hbg, hg, hnc, hcm, hcs, htake⟩
  · have h2 := run_append_nil (P := Try.prog) w T ty e i _ ht hi hz a m c news (by rw [hsize]; omega) hnews (by omega) (by omega) (by rw [hbytes]; omega)
    rw [h2] at hr
    simp only [Result.ok.injEq] at hr
    rw [← hr.1] at hk
    simp only [Value.ownBlock, Option.some.injEq] at hk
    right; omega
  · by_cases hroom : n + m ≤ cap
    · obtain ⟨w2, h2, -⟩ := run_append_fits (P := Try.prog) w base T ty e i 3 ht hi hsize g n cap xs hown' a m c news (by omega) hnews h1 hroom
      rw [h2] at hr
      simp only [Result.ok.injEq] at hr
      rw [← hr.1] at hk
      exact .inl hk
    · have h2 := run_append_grow (P := Try.prog) w T ty e i _ ht hi hz ⟨g, 0, none⟩ n cap xs (by rw [hsize]; exact hown.1) (hown'.cells (g := g) rfl) a m c news (by rw [hsize]; omega) hnews (by omega) (by omega) (growslice_fits (by omega) (by rw [hbytes]; omega))
      rw [h2] at hr
      simp only [Result.ok.injEq] at hr
      rw [← hr.1] at hk
      simp only [Value.ownBlock, Option.some.injEq] at hk
      right; omega
/-- What 'append' of one item does. -/
theorem run_app1 {T e : TypeId} {z : Array Value} {bt : Nat} (E : El T e z bt) {w : World} (ty : TypeId) (base : Nat) (v : Value) (S : List (It Int)) (hown : Rw e w base v S)
    (ad : Addr) (c : Nat) (i : It Int) (hF : IAts w ad [i]) (hnm : S.length < 1048576) (hbase : base ≤ w.heap.size) :
    ∃ v' w', (Builtin.append_ #[T, T] ty #[v, .slice (some ad) 1 c]).run Try.prog w = .ok v' w' ∧ Rw e w' base v' (S ++ [i]) ∧ w.grownBy w' v.ownBlock ∧ (∀ k, v'.ownBlock = some k → v.ownBlock = some k ∨ w.heap.size ≤ k) := by
  obtain ⟨i0, hi, hz0, hz1, hz2⟩ := info_parts E.hi
  have hbt := E.hb
  have hmul : (S.length + 1) * bt ≤ 1048576 * 32 := Nat.mul_le_mul (by omega) hbt
  obtain ⟨v', w', hr, h2, h3, -⟩ := run_append_own (P := Try.prog) w base T ty e i0 (.agg z) 3 i0.bytes E.ht hi hz0 hz1 rfl E.hz (by omega) v S.length (its S) hown ad 1 c (its [i]) (its_length [i]) hF.cells (its_one [i]) (by unfold maxLen; omega) (by rw [hz2]; omega) hbase
  have h4 := iapp_new E base ty i0 hi hz0 hz1 hz2 v S.length (its S) hown ad 1 c (its [i]) (its_length [i]) hF.cells (its_one [i]) (by omega) (by omega) v' w' hr
  exact ⟨v', w', hr, by rw [Rw, its_append, List.length_append]; exact h2, h3, h4⟩
theorem wpList_app1 {ops : Array Oper} {rest : List Oper} {o : Oper} {a : Act} {w : World} {Q : Exit → Act → World → Prop} {T e : TypeId} {z : Array Value} {bt : Nat} (E : El T e z bt) (hw : Region.wanted o (yielded ops a.tmps) = true) (s x : Operand)
    (ho : o.op = .call { callee := .builtin .append, args := #[s, x], argTypes := #[T, T] })
    (base : Nat) (v : Value) (S : List (It Int)) (hs : a.eval s = v) (hown : Rw e w base v S)
    (ad : Addr) (c : Nat) (i : It Int) (hx : a.eval x = .slice (some ad) 1 c) (hF : IAts w ad [i]) (hnm : S.length < 1048576) (hbase : base ≤ w.heap.size)
    (h : ∀ v' w', Rw e w' base v' (S ++ [i]) → w.grownBy w' v.ownBlock → (∀ k, v'.ownBlock = some k → v.ownBlock = some k ∨ w.heap.size ≤ k) → wpList Try.prog ops Q rest (a.put o.dst v') w') : wpList Try.prog ops Q (o :: rest) a w := by
  refine wpList_step fun K hK => ?_
  rw [if_pos hw]
  obtain ⟨v', w', hr, h2, h3, h4⟩ := run_app1 E o.type base v S hown ad c i hF hnm hbase
  unfold Oper.wp execOp
  simp only [ho, resolve, invoke, builtin, Sem.run_bind, Sem.run_pure, Result.andThen_ok, List.map_toArray, List.map_cons, List.map_nil, hs, hx, hr]
  exact hK _ _ (h v' w' h2 h3 h4)
/-- A list of one item. -/
theorem ibuild1 {T e : TypeId} {z : Array Value} {bt : Nat} (E : El T e z bt) (w : World) (i : It Int) : (Instr.buildSlice T 1 #[(0, .agg (itc i))]).run Try.prog w = .ok (.slice (some ⟨w.heap.size, 0, none⟩) 1 1) (w.alloc (.cells (itc i) e)) := by
  obtain ⟨i0, hi, hz0, hz1, hz2⟩ := info_parts E.hi
  have hz := E.hz
  refine run_buildSlice w T e 1 _ (itc i) i0 _ E.ht hi hz0 (by rw [hz1]; decide) (by rw [hz1]; decide) ?_
  rw [hz1]
  have := Great.fill_whole (s := 3) (by omega) [.agg (itc i)] ((Array.range (1 * 3)).map ((Value.agg z).cells[· % (Value.agg z).cells.size]!)) (by
    intro v hv
    rw [List.mem_singleton.1 hv]
    rfl) (by simp)
  refine Eq.trans this ?_
  simp [Value.cells]
theorem iats_new (w : World) (e : TypeId) (i : It Int) : IAts (w.alloc (.cells (itc i) e)) ⟨w.heap.size, 0, none⟩ [i] := ⟨fun j u hu => by
  have e1 : its [i] = itl i := by simp [its]
  rw [e1] at hu
  rw [Addr.add_mid, Nat.zero_add, cell_of_row (w.alloc (.cells (itc i) e)) w.heap.size j _ _ _ (heap_alloc_new w _), itc_eq]
  simpa using hu⟩
theorem Rw.alloc {e : TypeId} {w : World} {base : Nat} {v : Value} {S : List (It Int)} (h : Rw e w base v S) (o : Obj) : Rw e (w.alloc o) base v S := h.below ((Below.refl _ w).alloc (Nat.le_refl _) o) (Nat.le_refl _)
/-- Which stands ahead? -/
theorem before_any (r n r' n' : Int) (w : World) : Calls Try.prog 28 #[.agg (dotc r n), .agg (dotc r' n')] w fun e w' => e = .returned (.bool (decide (r < r' ∨ (r = r' ∧ n < n')))) ∧ Below w.heap.size w w' := by
  have hb0 : Below w.heap.size w ((w.alloc (.cells (dotc r n) 34)).alloc (.cells (dotc r' n') 34)) := ((Below.refl _ _).alloc (Nat.le_refl _) _).alloc (by simp) _
  have hD : LiesD ((w.alloc (.cells (dotc r n) 34)).alloc (.cells (dotc r' n') 34)) w.heap.size r n := (liesD_new w r n).alloc _
  have hD' : LiesD ((w.alloc (.cells (dotc r n) 34)).alloc (.cells (dotc r' n') 34)) (w.heap.size + 1) r' n' := by
    have := liesD_new (w.alloc (.cells (dotc r n) 34)) r' n'
    rwa [World.size_alloc] at this
  obtain ⟨W, hW⟩ : ∃ W, (w.alloc (.cells (dotc r n) 34)).alloc (.cells (dotc r' n') 34) = W := ⟨_, rfl⟩
  rw [hW] at hb0 hD hD'
  have d0 := hD.cell0
  have d1 := hD.cell1
  have e0 := hD'.cell0
  have e1 := hD'.cell1
  clear hD hD'
  have key : (r < r' ∧ decide (r < r' ∨ (r = r' ∧ n < n')) = true) ∨ (¬ r < r' ∧ ¬ r = r' ∧ decide (r < r' ∨ (r = r' ∧ n < n')) = false) ∨ (¬ r < r' ∧ r = r' ∧ n < n' ∧ decide (r < r' ∨ (r = r' ∧ n < n')) = true) ∨ (¬ r < r' ∧ r = r' ∧ ¬ n < n' ∧ decide (r < r' ∨ (r = r' ∧ n < n')) = false) := by
    simp only [decide_eq_true_eq, decide_eq_false_iff_not]
    omega
  generalize decide (r < r' ∨ (r = r' ∧ n < n')) = q at *
  rcases key with ⟨h1, rfl⟩ | ⟨h1, h2, rfl⟩ | ⟨h1, rfl, h3, rfl⟩ | ⟨h1, rfl, h3, rfl⟩
  all_goals
    go_enter Try.func28, Try.ntmps28
    go_wp2
    go_ret
    exact ⟨rfl, hb0⟩
theorem elR : El 51 56 #[.int .i64 0, .int .i64 0, .int .i64 0] 24 := ⟨Try.underlying51, by kernel_rfl, rfl, by decide⟩
/-- The reference bag: its list lies in a row of its own. -/
structure Rb (w : World) (B G : Nat) (v : Value) (S : List (It Int)) : Prop where
  blk : w.heap[G]? = some (.cells #[v] 53 (0, 0))
  row : Rw 56 w B v S
theorem Rb.lt {w : World} {B G : Nat} {v : Value} {S : List (It Int)} (h : Rb w B G v S) : G < w.heap.size := (Array.getElem?_eq_some_iff.1 h.blk).1
theorem Rb.c0 {w : World} {B G : Nat} {v : Value} {S : List (It Int)} (h : Rb w B G v S) : w.cell? ⟨G, 0, none⟩ = some v := cell_of_row w G 0 _ _ _ h.blk
theorem Rb.f0 {w : World} {B G : Nat} {v : Value} {S : List (It Int)} (h : Rb w B G v S) (i : Nat) : w.frozen? ⟨G, i, none⟩ = false := frozen_of_row w G i _ _ h.blk
theorem Rb.below {w w' : World} {B G C : Nat} {v : Value} {S : List (It Int)} (h : Rb w B G v S) (hb : Below C w w') (hC : w.heap.size ≤ C) : Rb w' B G v S :=
  ⟨by rw [hb.block G (Nat.lt_of_lt_of_le h.lt hC)]; exact h.blk, h.row.below hb hC⟩
theorem Rb.turn {w w' : World} {B G g : Nat} {m m' : Option Nat} {v : Value} {S : List (It Int)} (h : Rb w B G v S) (t : Turn g m m' w w') (h1 : g ≠ G) (h2 : m ≠ some G) (h3 : ∀ d, v.ownBlock = some d → d ≠ g ∧ m ≠ some d) : Rb w' B G v S :=
  ⟨by rw [t.block G h.lt h1.symm h2]; exact h.blk, h.row.keep fun k hk => t.block k (h.row.lt k hk).2 (h3 k hk).1 (h3 k hk).2⟩
/-- A list is laid in place of the one that lay there. -/
theorem Rb.lay {w w' : World} {B G : Nat} {v v' : Value} {S S' : List (It Int)} (h : Rb w B G v S) (hb : Below w.heap.size w w') (hr : Rw 56 w' w.heap.size v' S') : Rb (w'.setCell ⟨G, 0, none⟩ v') w.heap.size G v' S' ∧ Turn G none none w (w'.setCell ⟨G, 0, none⟩ v') := by
  have hblk : w'.heap[G]? = some (.cells #[v] 53 (0, 0)) := by rw [hb.block G h.lt]; exact h.blk
  have hlt := h.lt
  refine ⟨⟨by rw [heap_setCell_same _ _ 0 _ _ _ hblk]; rfl, hr.keep fun k hk => Below.heap_setCell _ _ _ k (fun e => ?_)⟩, ⟨hb.os, hb.tape, hb.output, by have := hb.size; simp [World.setCell]; omega, fun k hk hg _ => (Below.heap_setCell _ _ _ k hg).trans (hb.block k hk), fun k e => by cases e⟩⟩
  have := (hr.lt k hk).1
  have e' : k = G := e
  omega
section
variable {α : Type}
theorem del_take {S : List (It α)} {k : Nat} {i : It α} (hi : S[k]? = some i) (r n : Int) : del (S.take (k + 1)) r n = if isAt r n i then del (S.take k) r n else del (S.take k) r n ++ [i] := by
  rw [List.take_add_one, hi]
  unfold del
  rw [List.filter_append]
  cases h : isAt r n i <;> simp [h]
theorem del_lt (S : List (It α)) (r n : Int) : decide ((del S r n).length < S.length) = hasD S r n := by
  have h : ((del S r n).length < S.length) ↔ hasD S r n = true := by
    unfold del hasD
    induction S with
    | nil => simp
    | cons a S ih =>
      simp only [List.filter_cons, List.any_cons, List.length_cons]
      have := List.length_filter_le (fun i => !isAt r n i) S
      cases ha : isAt r n a
      · simp only [Bool.not_false, if_true, List.length_cons, Bool.false_or, ← ih]; omega
      · simp only [Bool.not_true, Bool.false_eq_true, if_false, Bool.true_or, iff_true]; omega
  rw [Bool.eq_iff_iff, decide_eq_true_eq, ← h]
theorem del_len_le (S : List (It α)) (r n : Int) : (del S r n).length ≤ S.length := List.length_filter_le _ _
end
set_option maxHeartbeats 2000000 in
theorem rremove_any (B G : Nat) (v : Value) (S : List (It Int)) (r n : Int) (w : World) (h : Rb w B G v S) (hl : S.length ≤ 1048575) :
    Calls Try.prog 27 #[.pointer (some ⟨G, 0, none⟩), .agg (dotc r n)] w fun e w' => e = .returned (.bool (hasD S r n)) ∧ ∃ v', Rb w' w.heap.size G v' (del S r n) ∧ Turn G none none w w' := by
  obtain ⟨W, hW⟩ : ∃ W, w.alloc (.cells (dotc r n) 34) = W := ⟨_, rfl⟩
  have hD : LiesD W w.heap.size r n := hW ▸ liesD_new w r n
  have hb : Below w.heap.size w W := hW ▸ (Below.refl _ w).alloc (Nat.le_refl _) _
  have hs : W.heap.size = w.heap.size + 1 := by rw [← hW]; simp
  have hR := h.below hb (Nat.le_refl _)
  obtain ⟨ao, cap, rfl, hcap, hmx⟩ := h.row.val
  obtain ⟨len, hlen⟩ : ∃ len, S.length = len := ⟨_, rfl⟩
  have HH : Hid (Rb w B G (.slice ao S.length cap) S) := h
  rw [hlen] at hR hl hcap HH
  have hc0 := hR.c0
  clear h
  go_enter Try.func27, Try.ntmps27
  go_wp2_with fail
  clear hW hc0
  go_loopw [13, 5] (fun c q wr => ∃ k : Nat, k ≤ len ∧ c = .int .i64 (k : Int) ∧ Rw 56 wr W.heap.size q (del (S.take k) r n) ∧ Below W.heap.size W wr) (fun c _ _ => len - (intOf c).toNat)
  case atStart => exact ⟨0, Nat.zero_le _, rfl, rw_nil _ _ _, Below.refl _ _⟩
  case round =>
    obtain ⟨k, hk, rfl, hrow, hbw⟩ := hrel
    have hRr := hR.below hbw (Nat.le_refl _)
    have hc0 := hRr.c0
    obtain ⟨ao2, cap2, hq2, -, -⟩ := hrow.val
    subst hq2
    by_cases hkl : k < len
    · have hkl' : (k : Int) < (len : Int) := by omega
      obtain ⟨g, _, i, e1, -, hi, -, -, c0, c1, c2, -⟩ := hRr.row.at3 (k := k) (by omega)
      simp only [Value.slice.injEq] at e1
      obtain ⟨rfl, -, rfl⟩ := e1
      have d0 := (hD.below hbw hD.lt).cell0
      have d1 := (hD.below hbw hD.lt).cell1
      have hpl := plain_dot
      have heq : ∀ W, (Op.equalIn 10000 34 (.agg #[.int .i64 i.r, .int .i64 i.n]) (.agg #[.int .i64 r, .int .i64 n])).run Try.prog W = .ok (decide (i.r = r ∧ i.n = n)) W := fun W => run_equalIn_dot W 9998 i.r i.n r n
      have hdt := del_take hi r n
      have hdl := del_len_le (S.take k) r n
      rw [List.length_take] at hdl
      cases hq : isAt r n i
      · rw [show decide (i.r = r ∧ i.n = n) = false from hq] at heq
        rw [hq] at hdt
        have hbd := ibuild1 elR wr.drew i
        simp only [itc] at hbd
        have HR : Hid (Rw 56 wr.drew W.heap.size _ (del (S.take k) r n)) := hrow.keep fun _ _ => rfl
        have HB : Hid (Below W.heap.size W wr.drew) := hbw.drew
        have hsz : W.heap.size ≤ (wr.drew.alloc (.cells (itc i) 56)).heap.size := by rw [World.size_alloc]; have h9 := hbw.size; have h8 : wr.drew.heap.size = wr.heap.size := rfl; omega
        have hats := iats_new wr.drew 56 i
        simp only [itc] at hats hsz
        clear hrow hbw hRr
        go_wp2_with fail
        go_region
        go_wp2_with (first | (refine wpList_app1 elR rfl _ _ rfl W.heap.size (.slice ao2 (del (S.take k) r n).length cap2) _ rfl (HR.out.alloc _) _ 1 i rfl hats (by omega) hsz ?_; intro v2 w2 h2 h3 h4))
        go_roundw
        case rel => exact ⟨k + 1, by omega, by go_num, by rw [hdt]; exact h2, (HB.out.alloc HB.out.size _).grown h3 hsz (fun q e => (HR.out.lt q e).1)⟩
        case measure => simp [intOf]; omega
      · rw [show decide (i.r = r ∧ i.n = n) = true from hq] at heq
        rw [hq] at hdt
        have HR : Hid (Rw 56 wr.drew W.heap.size (.slice ao2 (del (S.take k) r n).length cap2) (del (S.take k) r n)) := hrow.keep fun _ _ => rfl
        have HB : Hid (Below W.heap.size W wr.drew) := hbw.drew
        clear hrow hbw hRr
        go_wp2_with fail
        go_region
        go_wp2
        go_roundw
        case rel => exact ⟨k + 1, by omega, by go_num, by rw [hdt]; exact HR.out, HB.out⟩
        case measure => simp [intOf]; omega
    · have hkl' : ¬ (k : Int) < (len : Int) := by omega
      rw [List.take_of_length_le (by omega)] at hrow ⊢
      have hdl := del_lt S r n
      rw [hlen] at hdl
      have HDL : Hid (decide ((del S r n).length < len) = hasD S r n) := hdl
      clear hdl
      have hf0 := hRr.f0 0
      have hbb := hb.trans (hbw.mono hb.size)
      have HF := HH.out.lay hbb (hrow.lower (by omega))
      clear hRr hrow hbw hR hD HH
      go_wp2
      go_ret
      exact ⟨congrArg (fun b => Ending.returned (.bool b)) HDL.out, ⟨_, HF.1⟩, HF.2⟩
section
variable {α : Type}
theorem put_del (S : List (It α)) (d : It α) : put (del S d.r d.n) d = put S d := by
  unfold put del
  rw [List.filter_filter, List.filter_filter]
  congr 1
  · refine List.filter_congr fun i _ => ?_
    cases h : isAt d.r d.n i
    · simp
    · simp [(isAt_bef h).1]
  · congr 1
    refine List.filter_congr fun i _ => ?_
    cases h : isAt d.r d.n i
    · simp
    · simp [(isAt_bef h).2]
theorem put_snoc {T : List (It α)} {d i : It α} (h : bef d i = true) : put (T ++ [i]) d = put T d ++ [i] := by
  unfold put
  rw [List.filter_append, List.filter_append]
  simp [bef_asymm h, h]
theorem put_end {T : List (It α)} {d : It α} (h : ∀ j ∈ T, bef j d = true) : put T d = T ++ [d] := by
  unfold put
  rw [List.filter_eq_self.2 h, List.filter_eq_nil_iff.2 (fun j hj => by rw [bef_asymm (h j hj)]; simp)]
/-- How far it is: whether it is laid, and what stands there. -/
def sofar (S : List (It α)) (d : It α) (k : Nat) : List (It α) := if (S.take k).any (bef d) then put (S.take k) d else S.take k
theorem itake_snoc {S : List (It α)} {k : Nat} {i : It α} (hi : S[k]? = some i) : S.take (k + 1) = S.take k ++ [i] := by rw [List.take_add_one, hi]; rfl
theorem any_snoc {S : List (It α)} {d i : It α} {k : Nat} (hi : S[k]? = some i) : (S.take (k + 1)).any (bef d) = ((S.take k).any (bef d) || bef d i) := by rw [itake_snoc hi]; simp
theorem sofar_done {S : List (It α)} (hS : Srt S) {d i : It α} {k : Nat} (hi : S[k]? = some i) (h : (S.take k).any (bef d) = true) : (S.take (k + 1)).any (bef d) = true ∧ sofar S d (k + 1) = sofar S d k ++ [i] := by
  obtain ⟨j, hj, hdj⟩ := List.any_eq_true.1 h
  have hs : Srt (S.take (k + 1)) := List.Pairwise.sublist (List.take_sublist _ _) hS
  rw [itake_snoc hi] at hs
  have hji := (List.pairwise_append.1 hs).2.2 j hj i (by simp)
  have hdi := bef_trans hdj hji
  have e : (S.take (k + 1)).any (bef d) = true := by rw [any_snoc hi, h]; rfl
  refine ⟨e, ?_⟩
  unfold sofar
  rw [e, h, if_pos rfl, if_pos rfl, itake_snoc hi, put_snoc hdi]
theorem all_bef {S : List (It α)} {d : It α} (hd : hasD S d.r d.n = false) {k : Nat} (h : (S.take k).any (bef d) = false) : ∀ j ∈ S.take k, bef j d = true := fun j hj => by
  rcases bef_tri j d with h1 | h1 | h1
  · have : hasD S d.r d.n = true := List.any_eq_true.2 ⟨j, List.mem_of_mem_take hj, h1⟩
    rw [hd] at this; cases this
  · exact h1
  · have : (S.take k).any (bef d) = true := List.any_eq_true.2 ⟨j, hj, h1⟩
    rw [h] at this; cases this
theorem sofar_now {S : List (It α)} {d i : It α} {k : Nat} (hd : hasD S d.r d.n = false) (hi : S[k]? = some i) (h : (S.take k).any (bef d) = false) (hb : bef d i = true) : (S.take (k + 1)).any (bef d) = true ∧ sofar S d (k + 1) = (sofar S d k ++ [d]) ++ [i] := by
  have e : (S.take (k + 1)).any (bef d) = true := by rw [any_snoc hi, hb]; simp
  refine ⟨e, ?_⟩
  unfold sofar
  rw [e, h, if_pos rfl, if_neg (by simp), itake_snoc hi, put_snoc hb, put_end (all_bef hd h)]
theorem sofar_not {S : List (It α)} {d i : It α} {k : Nat} (hi : S[k]? = some i) (h : (S.take k).any (bef d) = false) (hb : bef d i = false) : (S.take (k + 1)).any (bef d) = false ∧ sofar S d (k + 1) = sofar S d k ++ [i] := by
  have e : (S.take (k + 1)).any (bef d) = false := by rw [any_snoc hi, hb, h]; rfl
  refine ⟨e, ?_⟩
  unfold sofar
  rw [e, h, if_neg (by simp), if_neg (by simp), itake_snoc hi]
theorem sofar_end {S : List (It α)} {d : It α} (hd : hasD S d.r d.n = false) : ((S.take S.length).any (bef d) = true → sofar S d S.length = put S d) ∧ ((S.take S.length).any (bef d) = false → sofar S d S.length ++ [d] = put S d) := by
  constructor
  · intro h; unfold sofar; rw [h, if_pos rfl, List.take_length]
  · intro h; unfold sofar
    rw [h, if_neg (by simp), ← put_end (all_bef hd h), List.take_length]
theorem sofar_len (S : List (It α)) (d : It α) (k : Nat) : (sofar S d k).length ≤ S.length + 1 := by
  unfold sofar
  have h1 : (S.take k).length ≤ S.length := by rw [List.length_take]; omega
  have h2 := put_length_le (S.take k) d
  split <;> omega
end
theorem LiesD.turn {w w' : World} {g D : Nat} {m m' : Option Nat} {r n : Int} (h : LiesD w D r n) (t : Turn g m m' w w') (h1 : g ≠ D) (h2 : ∀ k, m = some k → k ≠ D) : LiesD w' D r n := by
  rw [LiesD, t.block D h.lt (fun e => h1 e.symm) (fun e => h2 D e rfl)]; exact h
set_option maxHeartbeats 2000000 in
theorem rput_any (B G : Nat) (v : Value) (S : List (It Int)) (hS : Srt S) (i : It Int) (w : World) (h : Rb w B G v S) (hl : S.length ≤ 1000000) :
    Calls Try.prog 21 #[.pointer (some ⟨G, 0, none⟩), .agg (dotc i.r i.n), .int .i64 i.x] w fun e w' => e = .returned (.tuple #[]) ∧ ∃ v', Rb w' w.heap.size G v' (put S i) ∧ Turn G none none w w' := by
  obtain ⟨W, hW⟩ : ∃ W, w.alloc (.cells (dotc i.r i.n) 34) = W := ⟨_, rfl⟩
  have hD : LiesD W w.heap.size i.r i.n := hW ▸ liesD_new w i.r i.n
  have hb : Below w.heap.size w W := hW ▸ (Below.refl _ w).alloc (Nat.le_refl _) _
  have hs : W.heap.size = w.heap.size + 1 := by rw [← hW]; simp
  have hR := h.below hb (Nat.le_refl _)
  have hGlt := h.lt
  have d0 := hD.cell0
  have d1 := hD.cell1
  clear h
  have hpd := put_del S i
  have hdel := hasD_del S i.r i.n
  have hSd := hS.del i.r i.n
  have hdl := del_len_le S i.r i.n
  go_enter Try.func21, Try.ntmps21
  go_wp2_with fail
  refine (rremove_any B G v S i.r i.n W hR (by omega)).mono ?_
  rintro e w1 ⟨rfl, v1, hR1, ht1⟩
  clear hW d0 d1 hR
  generalize del S i.r i.n = S1 at *
  have hD1 := hD.turn ht1 (by omega) (fun k e => nomatch e)
  obtain ⟨ao, cap, rfl, hcap, hmx⟩ := hR1.row.val
  obtain ⟨len, hlen⟩ : ∃ len, S1.length = len := ⟨_, rfl⟩
  have HH : Hid (Rb w1 W.heap.size G (.slice ao S1.length cap) S1) := hR1
  rw [hlen] at hR1 hcap HH
  have hc0 := hR1.c0
  go_wp2_with fail
  clear hc0
  go_loopw [17, 6, 7] (fun c q f wr => ∃ (k : Nat) (F : Bool), k ≤ len ∧ c = .int .i64 (k : Int) ∧ f = .bool F ∧ Hid ((S1.take k).any (bef i) = F) ∧ Rw 56 wr w1.heap.size q (sofar S1 i k) ∧ Below w1.heap.size w1 wr) (fun c _ _ _ => len - (intOf c).toNat)
  case atStart => exact ⟨0, false, Nat.zero_le _, rfl, rfl, rfl, rw_nil _ _ _, Below.refl _ _⟩
  case round =>
    obtain ⟨k, F, hk, rfl, rfl, hF, hrow, hbw⟩ := hrel
    obtain ⟨ao2, cap2, hq2, -, -⟩ := hrow.val
    subst hq2
    have hsl := sofar_len S1 i k
    rw [hlen] at hsl
    by_cases hkl : k < len
    · have hkl' : (k : Int) < (len : Int) := by omega
      have hc0 := hR1.c0
      obtain ⟨g, _, t, e1, -, ht, -, hglt, c0, c1, c2, -⟩ := hR1.row.at3 (k := k) (by omega)
      simp only [Value.slice.injEq] at e1
      obtain ⟨rfl, -, rfl⟩ := e1
      have K1 : Hid (∀ W', Below w1.heap.size w1 W' → W'.cell? ⟨G, 0, none⟩ = some (.slice (some ⟨g, 0, none⟩) len cap) ∧ W'.cell? ⟨w.heap.size, 0, none⟩ = some (.int .i64 i.r) ∧ W'.cell? ⟨w.heap.size, 1, none⟩ = some (.int .i64 i.n) ∧ W'.cell? ⟨g, k * 3, none⟩ = some (.int .i64 t.r) ∧ W'.cell? ⟨g, k * 3 + 1, none⟩ = some (.int .i64 t.n) ∧ W'.cell? ⟨g, k * 3 + 2, none⟩ = some (.int .i64 t.x)) := fun W' hb =>
        ⟨(hb.cell hR1.lt).trans hc0, (hb.cell hD1.lt).trans hD1.cell0, (hb.cell hD1.lt).trans hD1.cell1, (hb.cell hglt).trans c0, (hb.cell hglt).trans c1, (hb.cell hglt).trans c2⟩
      have HR0 : Hid (Rw 56 wr.drew w1.heap.size (.slice ao2 (sofar S1 i k).length cap2) (sofar S1 i k)) := hrow.keep fun _ _ => rfl
      have HB0 : Hid (Below w1.heap.size w1 wr.drew) := hbw.drew
      have HRN : Hid (∀ nq, Rw 56 (wr.drewN nq) w1.heap.size (.slice ao2 (sofar S1 i k).length cap2) (sofar S1 i k)) := fun nq => hrow.keep fun _ _ => rfl
      have HBN : Hid (∀ nq, Below w1.heap.size w1 (wr.drewN nq)) := fun nq => hbw.trans ⟨rfl, rfl, rfl, Nat.le_refl _, fun _ _ => rfl⟩
      clear hrow hbw hc0 c0 c1 c2
      cases F
      · have Bf := before_any i.r i.n t.r t.n wr.drew
        obtain ⟨q, hq⟩ : ∃ q, Hid (bef i t = q) := ⟨_, rfl⟩
        rw [show decide (i.r < t.r ∨ (i.r = t.r ∧ i.n < t.n)) = q from hq.out] at Bf
        go_wp2_with fail
        go_region_held3 (fun W' => W'.cell? ⟨G, 0, none⟩ = some (.slice (some ⟨g, 0, none⟩) len cap) ∧ W'.cell? ⟨w.heap.size, 0, none⟩ = some (.int .i64 i.r) ∧ W'.cell? ⟨w.heap.size, 1, none⟩ = some (.int .i64 i.n) ∧ W'.cell? ⟨g, k * 3, none⟩ = some (.int .i64 t.r) ∧ W'.cell? ⟨g, k * 3 + 1, none⟩ = some (.int .i64 t.n) ∧ W'.cell? ⟨g, k * 3 + 2, none⟩ = some (.int .i64 t.x))
          (first | exact K1.out _ HB0.out | exact K1.out _ (HB0.out.trans (hb5.mono HB0.out.size)) | assumption)
          (first | (go_at_call 28; refine Calls.mono Bf ?_; rintro e w5 ⟨rfl, hb5⟩))
        have HR1 : Hid (Rw 56 w5 w1.heap.size (.slice ao2 (sofar S1 i k).length cap2) (sofar S1 i k)) := HR0.out.below hb5 (Nat.le_refl _)
        have HB1 : Hid (Below w1.heap.size w1 w5) := HB0.out.trans (hb5.mono HB0.out.size)
        clear hb5 Bf HR0 HB0 HRN HBN
        cases q
        · have hfin := sofar_not ht hF.out hq.out
          have HFIN : Hid ((S1.take (k + 1)).any (bef i) = false ∧ sofar S1 i (k + 1) = sofar S1 i k ++ [t]) := hfin
          clear hfin
          obtain ⟨g0, dd0, dd1, c0, c1, c2⟩ := K1.out _ HB1.out
          have hbd := ibuild1 elR w5 t
          have hats := iats_new w5 56 t
          have hsz : w1.heap.size ≤ (w5.alloc (.cells (itc t) 56)).heap.size := by rw [World.size_alloc]; have h9 := HB1.out.size; omega
          simp only [itc] at hbd hats hsz
          go_wp2_with (first | (refine wpList_app1 elR rfl _ _ rfl w1.heap.size (.slice ao2 (sofar S1 i k).length cap2) (sofar S1 i k) rfl (HR1.out.alloc _) _ 1 t rfl hats (by first | omega | (rw [List.length_append]; simp only [List.length_cons, List.length_nil]; omega)) hsz ?_; intro v7 w7 h2 h3 h4))
          go_roundw
          case rel => exact ⟨k + 1, false, by omega, by go_num, rfl, HFIN.out.1, by rw [HFIN.out.2]; exact h2, (HB1.out.alloc HB1.out.size _).grown h3 hsz (fun q e => (HR1.out.lt q e).1)⟩
          case measure => simp [intOf]; omega
        · have hfin := sofar_now hdel ht hF.out hq.out
          have HFIN : Hid ((S1.take (k + 1)).any (bef i) = true ∧ sofar S1 i (k + 1) = (sofar S1 i k ++ [i]) ++ [t]) := hfin
          clear hfin
          obtain ⟨g0, dd0, dd1, c0, c1, c2⟩ := K1.out _ HB1.out
          have hbd := ibuild1 elR w5 i
          have hats := iats_new w5 56 i
          have hsz : w1.heap.size ≤ (w5.alloc (.cells (itc i) 56)).heap.size := by rw [World.size_alloc]; have h9 := HB1.out.size; omega
          simp only [itc] at hbd hats hsz
          go_upto_region 9 with (first | (refine wpList_app1 elR rfl _ _ rfl w1.heap.size (.slice ao2 (sofar S1 i k).length cap2) (sofar S1 i k) rfl (HR1.out.alloc _) _ 1 i rfl hats (by first | omega | (rw [List.length_append]; simp only [List.length_cons, List.length_nil]; omega)) hsz ?_; intro v6 w6 h2 h3 h4))
          have HB2 : Hid (Below w1.heap.size w1 w6) := (HB1.out.alloc HB1.out.size _).grown h3 hsz (fun q e => (HR1.out.lt q e).1)
          obtain ⟨ao6, cap6, hv6, -, -⟩ := h2.val
          subst hv6
          have HR2 : Hid (Rw 56 w6 w1.heap.size (.slice ao6 (sofar S1 i k ++ [i]).length cap6) (sofar S1 i k ++ [i])) := h2
          clear h2 h3 h4 hbd hats hsz HR1 HB1 g0 dd0 dd1 c0 c1 c2
          obtain ⟨g0, dd0, dd1, c0, c1, c2⟩ := K1.out _ HB2.out
          have hbd := ibuild1 elR w6 t
          have hats := iats_new w6 56 t
          have hsz : w1.heap.size ≤ (w6.alloc (.cells (itc t) 56)).heap.size := by rw [World.size_alloc]; have h9 := HB2.out.size; omega
          simp only [itc] at hbd hats hsz
          go_wp2_with (first | (refine wpList_app1 elR rfl _ _ rfl w1.heap.size (.slice ao6 (sofar S1 i k ++ [i]).length cap6) (sofar S1 i k ++ [i]) rfl (HR2.out.alloc _) _ 1 t rfl hats (by first | omega | (rw [List.length_append]; simp only [List.length_cons, List.length_nil]; omega)) hsz ?_; intro v7 w7 h2 h3 h4))
          go_roundw
          case rel => exact ⟨k + 1, true, by omega, by go_num, rfl, HFIN.out.1, by rw [HFIN.out.2]; exact h2, (HB2.out.alloc HB2.out.size _).grown h3 hsz (fun q e => (HR2.out.lt q e).1)⟩
          case measure => simp [intOf]; omega
      · have hfin := sofar_done hSd ht hF.out
        have HFIN : Hid ((S1.take (k + 1)).any (bef i) = true ∧ sofar S1 i (k + 1) = sofar S1 i k ++ [t]) := hfin
        clear hfin
        go_wp2_with fail
        go_quiet (fail)
        have HR1 : Hid (Rw 56 (wr.drewN nq) w1.heap.size (.slice ao2 (sofar S1 i k).length cap2) (sofar S1 i k)) := HRN.out nq
        have HB1 : Hid (Below w1.heap.size w1 (wr.drewN nq)) := HBN.out nq
        clear HR0 HB0 HRN HBN
        generalize wr.drewN nq = w5 at *
        obtain ⟨g0, dd0, dd1, c0, c1, c2⟩ := K1.out _ HB1.out
        have hbd := ibuild1 elR w5 t
        have hats := iats_new w5 56 t
        have hsz : w1.heap.size ≤ (w5.alloc (.cells (itc t) 56)).heap.size := by rw [World.size_alloc]; have h9 := HB1.out.size; omega
        simp only [itc] at hbd hats hsz
        go_wp2_with (first | (refine wpList_app1 elR rfl _ _ rfl w1.heap.size (.slice ao2 (sofar S1 i k).length cap2) (sofar S1 i k) rfl (HR1.out.alloc _) _ 1 t rfl hats (by first | omega | (rw [List.length_append]; simp only [List.length_cons, List.length_nil]; omega)) hsz ?_; intro v7 w7 h2 h3 h4))
        go_roundw
        case rel => exact ⟨k + 1, true, by omega, by go_num, rfl, HFIN.out.1, by rw [HFIN.out.2]; exact h2, (HB1.out.alloc HB1.out.size _).grown h3 hsz (fun q e => (HR1.out.lt q e).1)⟩
        case measure => simp [intOf]; omega
    · have hkl' : ¬ (k : Int) < (len : Int) := by omega
      obtain rfl : k = len := by omega
      have hse := sofar_end hdel
      rw [hlen, hpd] at hse
      have hfin : ∀ (W' : World) (v' : Value) (S' : List (It Int)), Below w1.heap.size w1 W' → Rw 56 W' w1.heap.size v' S' → S' = put S i → Rb (W'.setCell ⟨G, 0, none⟩ v') w.heap.size G v' (put S i) ∧ Turn G none none w (W'.setCell ⟨G, 0, none⟩ v') := fun W' v' S' hb' hr' e => by
        subst e
        obtain ⟨h1, h2⟩ := HH.out.lay hb' hr'
        exact ⟨⟨h1.blk, h1.row.lower (by have := ht1.size; omega)⟩, ((Turn.of_below none hb).trans ht1).trans h2⟩
      have HFIN : Hid (∀ (W' : World) (v' : Value) (S' : List (It Int)), Below w1.heap.size w1 W' → Rw 56 W' w1.heap.size v' S' → S' = put S i → Rb (W'.setCell ⟨G, 0, none⟩ v') w.heap.size G v' (put S i) ∧ Turn G none none w (W'.setCell ⟨G, 0, none⟩ v')) := hfin
      clear hfin
      have hRr := hR1.below hbw (Nat.le_refl _)
      have hc0 := hRr.c0
      have hf0 := hRr.f0 0
      cases F
      · have HE : Hid (sofar S1 i k ++ [i] = put S i) := hse.2 hF.out
        have HR1 : Hid (Rw 56 wr w1.heap.size (.slice ao2 (sofar S1 i k).length cap2) (sofar S1 i k)) := hrow
        have HB1 : Hid (Below w1.heap.size w1 wr) := hbw
        have dd0 := (hD1.below hbw hD1.lt).cell0
        have dd1 := (hD1.below hbw hD1.lt).cell1
        have hbd := ibuild1 elR wr i
        have hats := iats_new wr 56 i
        have hsz : w1.heap.size ≤ (wr.alloc (.cells (itc i) 56)).heap.size := by rw [World.size_alloc]; have h9 := HB1.out.size; omega
        simp only [itc] at hbd hats hsz
        have HHr : Hid (∀ W', Below w1.heap.size w1 W' → W'.cell? ⟨G, 0, none⟩ = some (.slice ao k cap) ∧ W'.frozen? ⟨G, 0, none⟩ = false) := fun W' hb => ⟨(hR1.below hb (Nat.le_refl _)).c0, (hR1.below hb (Nat.le_refl _)).f0 0⟩
        clear hrow hbw hRr hse
        go_upto_region 14 with (first | (refine wpList_app1 elR rfl _ _ rfl w1.heap.size (.slice ao2 (sofar S1 i k).length cap2) (sofar S1 i k) rfl (HR1.out.alloc _) _ 1 i rfl hats (by omega) hsz ?_; intro v6 w6 h2 h3 h4))
        have HB2 : Hid (Below w1.heap.size w1 w6) := (HB1.out.alloc HB1.out.size _).grown h3 hsz (fun q e => (HR1.out.lt q e).1)
        have HF := HFIN.out _ _ _ HB2.out h2 HE.out
        obtain ⟨ao6, cap6, hv6, -, -⟩ := h2.val
        subst hv6
        obtain ⟨g0, f0⟩ := HHr.out _ HB2.out
        clear h2 h3 h4 hbd hats hsz hc0 hf0 dd0 dd1
        generalize (sofar S1 i k ++ [i]).length = ln at *
        go_wp2
        go_end0
        first | exact ⟨rfl, ⟨_, HF.1⟩, HF.2⟩ | exact ⟨rfl, _, HF.1, HF.2⟩
      · have HF := HFIN.out _ _ _ hbw hrow (hse.1 hF.out)
        clear hrow hbw hRr hse
        go_wp2
        go_end0
        first | exact ⟨rfl, ⟨_, HF.1⟩, HF.2⟩ | exact ⟨rfl, _, HF.1, HF.2⟩
section
variable {α : Type}
theorem hasD_put (S : List (It α)) (d : It α) (r n : Int) : hasD (put S d) r n = (hasD S r n || isAt r n d) := by
  rw [Bool.eq_iff_iff, Bool.or_eq_true, hasD_iff, hasD_iff, isAt_iff]
  constructor
  · rintro ⟨i, hi, h⟩
    rcases mem_put.1 hi with rfl | ⟨hi, -⟩
    · exact .inr h
    · exact .inl ⟨i, hi, h⟩
  · rintro (⟨i, hi, h⟩ | h)
    · cases hh : isAt d.r d.n i
      · exact ⟨i, mem_put.2 (.inr ⟨hi, hh⟩), h⟩
      · rw [isAt_iff] at hh
        exact ⟨d, mem_put.2 (.inl rfl), by omega, by omega⟩
    · exact ⟨d, mem_put.2 (.inl rfl), h⟩
theorem hasD_puts (l : List (It α)) (r n : Int) : hasD (puts l) r n = hasD l r n := by
  unfold puts
  suffices h : ∀ (l S : List (It α)), hasD (l.foldl put S) r n = (hasD S r n || hasD l r n) from by rw [h]; rfl
  intro l
  induction l with
  | nil => intro S; simp [hasD]
  | cons a l ih =>
    intro S
    rw [List.foldl_cons, ih, hasD_put]
    simp [hasD, Bool.or_assoc]
end
end Go.Proofs.Ytlbjdokfnammfaa
