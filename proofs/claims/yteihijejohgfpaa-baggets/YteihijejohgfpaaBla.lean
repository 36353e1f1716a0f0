/-
  What the statements' walks have in common: one item of a list that came in; two items compared; what a vector takes away.
-/
import Derived.Test.YteihijejohgfpaaBaw
import Derived.Test.YteihijejohgfpaaBdr
namespace Go.Proofs.Yteihijejohgfpaa
open Go.RowKit

/-- One item of a list that came in. -/
theorem Lst.at3 {w : World} {a : Option Addr} {len cap : Nat} {E : List (It Int)} (h : Lst itl 3 w a len cap E) {k : Nat} (hk : k < len) : ∃ b off i, a = some ⟨b, off, none⟩ ∧ E[k]? = some i ∧ b < w.heap.size ∧
    w.cell? ⟨b, off + k * 3, none⟩ = some (.int .i64 i.r) ∧ w.cell? ⟨b, off + k * 3 + 1, none⟩ = some (.int .i64 i.n) ∧ w.cell? ⟨b, off + k * 3 + 2, none⟩ = some (.int .i64 i.x) := by
  obtain ⟨h1, h2, h3, h4⟩ := h
  rcases h4 with h4 | ⟨b, off, ha, hlt, hE⟩
  · omega
  · obtain ⟨i, hi⟩ : ∃ i, E[k]? = some i := ⟨_, List.getElem?_eq_getElem (by omega)⟩
    exact ⟨b, off, i, ha, hi, hlt, hE k i hi 0 _ rfl, hE k i hi 1 _ rfl, hE k i hi 2 _ rfl⟩
theorem Lst.maxLen {α : Type} {cl : α → List Value} {c : Nat} {w : World} {a : Option Addr} {len cap : Nat} {E : List α} (h : Lst cl c w a len cap E) : len ≤ 9223372036854775807 := by
  have h2 := h.2.1; have h3 := h.2.2.1; unfold Go.maxLen at h3; omega

/-- A struct's fields, by name, type and offset, and whether each is the same. -/
def FieldsEq (P : Program) (w : World) (d : Nat) (xs ys : Array Value) : List (String × TypeId × Nat) → List Bool → Prop
  | [], [] => True
  | t :: ts, b :: bs => t.1 ≠ "_" ∧ (∃ x y, (part t.2.1 xs t.2.2).run P w = .ok x w ∧ (part t.2.1 ys t.2.2).run P w = .ok y w ∧ (Op.equalIn d t.2.1 x y).run P w = .ok b w) ∧ FieldsEq P w d xs ys ts bs
  | _, _ => False
theorem run_eqFields {P : Program} {w : World} {d : Nat} {xs ys : Array Value} : ∀ {fs : List Field} {ts : List (String × TypeId × Nat)} {bs : List Bool}, fs.map (fun f => (f.name, f.type, f.offset)) = ts → FieldsEq P w d xs ys ts bs →
    (Op.eqFields d xs ys fs).run P w = .ok (bs.all id) w
  | [], [], [], _, _ => by simp [Op.eqFields]
  | [], [], _ :: _, _, h => h.elim
  | [], _ :: _, _, h, _ => by simp at h
  | _ :: _, [], _, h, _ => by simp at h
  | _ :: _, _ :: _, [], _, h => h.elim
  | f :: fs, t :: ts, b :: bs, h, ⟨h1, ⟨x, y, h2, h3, h4⟩, h5⟩ => by
    simp only [List.map_cons, List.cons.injEq] at h
    obtain ⟨rfl, h⟩ := h
    have ih := run_eqFields h h5
    simp only at h1 h2 h3 h4
    simp only [Op.eqFields, ne_eq, h1, not_false_eq_true, if_true, Sem.run_bind, h2, h3, h4, Result.andThen_ok]
    cases b
    · simp
    · simp [ih]
theorem part_int (w : World) {cs : Array Value} {k : Nat} {v : Value} (h : cs[k]? = some v) : (part 3 cs k).run Try.prog w = .ok v w := by
  have h3 : Try.prog.underlying 3 = some (.int .i64) := by kernel_rfl
  simp [part, isAgg, run_underlying h3, Sem.run_bind, h]
theorem part_dot (w : World) {cs ds : Array Value} {k : Nat} (h : cs.extract k (k + 2) = ds) : (part 34 cs k).run Try.prog w = .ok (.agg ds) w := by
  have ha : (isAgg 34).run Try.prog w = .ok true w := by kernel_rfl
  simp [part, Sem.run_bind, ha, h]
theorem equal_int (w : World) (d : Nat) (a b : Int) : (Op.equalIn (d + 1) 3 (.int .i64 a) (.int .i64 b)).run Try.prog w = .ok (decide (a = b)) w := by
  have h3 : Try.prog.underlying 3 = some (.int .i64) := by kernel_rfl
  rw [run_equalIn_int w d 3 .i64 .i64 a b h3]
  rfl
/-- Two items compared. -/
theorem run_equalIn_it (w : World) (i j : It Int) : (Op.equalIn 10000 60 (.agg #[.int .i64 i.r, .int .i64 i.n, .int .i64 i.x]) (.agg #[.int .i64 j.r, .int .i64 j.n, .int .i64 j.x])).run Try.prog w = .ok (decide (i.r = j.r ∧ i.n = j.n) && decide (i.x = j.x)) w := by
  rw [run_equalIn_struct w 9999 60 _ _ (by kernel_rfl) (by kernel_rfl)]
  have hm : (Try.prog.fieldsOf 60).toList.map (fun f => (f.name, f.type, f.offset)) = [("Dot", 34, 0), ("X", 3, 2)] := by kernel_rfl
  rw [run_eqFields (bs := [decide (i.r = j.r ∧ i.n = j.n), decide (i.x = j.x)]) hm ⟨by decide, ⟨_, _, part_dot w (ds := dotc i.r i.n) rfl, part_dot w (ds := dotc j.r j.n) rfl, run_equalIn_dot w 9997 _ _ _ _⟩, by decide, ⟨_, _, part_int w rfl, part_int w rfl, equal_int w 9998 _ _⟩, trivial⟩]
  simp
theorem plain_it : Try.prog.eqGuardType Try.prog.depth 60 = false := by kernel_rfl

/-- What two vectors take away, one behind the other, is what their join takes away. -/
def joinv (v u : List Int) : List Int := List.zipWith max v u
theorem joinv_length {v u : List Int} (hv : v.length = 16) (hu : u.length = 16) : (joinv v u).length = 16 := by rw [joinv, List.length_zipWith, hv, hu]; rfl
theorem joinv_get {v u : List Int} (hv : v.length = 16) (hu : u.length = 16) (k : Nat) (hk : k < 16) : (joinv v u).getD k 0 = max (v.getD k 0) (u.getD k 0) := by
  have h1 : k < v.length := by omega
  have h2 : k < u.length := by omega
  simp [joinv, List.getD, List.getElem?_zipWith, List.getElem?_eq_getElem h1, List.getElem?_eq_getElem h2]
theorem hasv_join {v u : List Int} (hv : v.length = 16) (hu : u.length = 16) (r n : Int) : hasv (joinv v u) r n = (hasv v r n || hasv u r n) := by
  unfold hasv
  cases ho : okdot r n
  · rfl
  · obtain ⟨h0, h1, -, -⟩ := of_decide_eq_true ho
    rw [joinv_get hv hu r.toNat (by omega)]
    simp only [Bool.true_and]
    rw [Bool.eq_iff_iff]
    simp only [Bool.or_eq_true, decide_eq_true_eq]
    omega
abbrev all (_ : Int) : Bool := true
theorem len_or (p q : It Int → Bool) : ∀ T : List (It Int), (T.filter fun i => p i || q i).length = (T.filter p).length + (T.filter fun i => q i && !p i).length
  | [] => rfl
  | a :: T => by
    have ih := len_or p q T
    simp only [List.filter_cons]
    cases p a <;> cases q a <;> simp [ih] <;> omega
theorem drops_join {v u : List Int} (hv : v.length = 16) (hu : u.length = 16) (T : List (It Int)) :
    (T.filter fun i => !gone (joinv v u) all i) = (T.filter fun i => !gone v all i).filter (fun i => !gone u all i) ∧
    (T.filter (gone (joinv v u) all)).length = (T.filter (gone v all)).length + ((T.filter fun i => !gone v all i).filter (gone u all)).length ∧
    ((T.filter fun i => !gone v all i).filter (fun i => !gone u all i)).filter (gone (joinv v u) all) = [] := by
  have e : ∀ i : It Int, gone (joinv v u) all i = (gone v all i || gone u all i) := fun i => by simp [gone, hasv_join hv hu]
  refine ⟨?_, ?_, ?_⟩
  · rw [List.filter_filter]
    refine List.filter_congr fun i _ => ?_
    rw [e]; cases gone v all i <;> cases gone u all i <;> rfl
  · rw [List.filter_filter, ← len_or]
    congr 1
    exact List.filter_congr fun i _ => e i
  · rw [List.filter_eq_nil_iff]
    intro i hi
    obtain ⟨h1, h2⟩ := List.mem_filter.1 hi
    obtain ⟨-, h3⟩ := List.mem_filter.1 h1
    rw [e]
    cases hv1 : gone v all i <;> cases hu1 : gone u all i <;> simp_all
/-- Two bags of the call's own that share nothing. -/
structure Two (B : Nat) (w : World) (g : Nat) (m : Option Nat) (S : List (It Int)) (g2 : Nat) (m2 : Option Nat) (S2 : List (It Int)) : Prop where
  a : Obg B w g m S
  b : Obg B w g2 m2 S2
  ne : g ≠ g2
  ap : ∀ k, m = some k → m2 ≠ some k
theorem Bg.notmap {w : World} {g g2 : Nat} {m m2 : Option Nat} {S S2 : List (It Int)} (h : Bg w g m S) (h2 : Bg w g2 m2 S2) : m2 ≠ some g := by
  rintro rfl
  obtain ⟨b, e, hm⟩ := h2.map.resolve_left (by simp)
  obtain rfl := Option.some.inj e
  obtain ⟨es, clock, L, hb, -⟩ := hm
  rw [h.blk] at hb; cases hb
theorem Two.swap {B : Nat} {w : World} {g g2 : Nat} {m m2 : Option Nat} {S S2 : List (It Int)} (h : Two B w g m S g2 m2 S2) : Two B w g2 m2 S2 g m S :=
  ⟨h.b, h.a, h.ne.symm, fun k hk e => h.ap k e hk⟩
theorem Two.left {B : Nat} {w w' : World} {g g2 : Nat} {m m' m2 : Option Nat} {S S' S2 : List (It Int)} (h : Two B w g m S g2 m2 S2) (hB : B ≤ w.heap.size) (h' : Bg w' g m' S') (t : Turn g m m' w w') : Two B w' g m' S' g2 m2 S2 ∧ Below B w w' := by
  obtain ⟨h1, h2⟩ := h.a.turn hB h' t
  refine ⟨⟨h1, ⟨h.b.bg.turn t h.ne.symm (h.b.bg.notmap h.a.bg) (h.a.bg.notmap h.b.bg) (fun k hk e => h.ap k e hk), h.b.low, h.b.own⟩, h.ne, fun k hk e => ?_⟩, h2⟩
  rcases t.own k hk with h3 | h3
  · exact h.ap k h3 e
  · have := (h.b.bg.own k e).1; omega
theorem Two.right {B : Nat} {w w' : World} {g g2 : Nat} {m m2 m2' : Option Nat} {S S2 S2' : List (It Int)} (h : Two B w g m S g2 m2 S2) (hB : B ≤ w.heap.size) (h' : Bg w' g2 m2' S2') (t : Turn g2 m2 m2' w w') : Two B w' g m S g2 m2' S2' ∧ Below B w w' := by
  obtain ⟨h1, h2⟩ := h.swap.left hB h' t
  exact ⟨h1.swap, h2⟩
theorem Two.below {B C : Nat} {w w' : World} {g g2 : Nat} {m m2 : Option Nat} {S S2 : List (It Int)} (h : Two B w g m S g2 m2 S2) (hb : Below C w w') (hC : w.heap.size ≤ C) : Two B w' g m S g2 m2 S2 :=
  ⟨h.a.below hb hC, h.b.below hb hC, h.ne, h.ap⟩
theorem Two.drew {B : Nat} {w : World} {g g2 : Nat} {m m2 : Option Nat} {S S2 : List (It Int)} (h : Two B w g m S g2 m2 S2) : Two B w.drew g m S g2 m2 S2 := ⟨h.a.drew, h.b.drew, h.ne, h.ap⟩
theorem Two.drewN {B : Nat} {w : World} {g g2 : Nat} {m m2 : Option Nat} {S S2 : List (It Int)} (h : Two B w g m S g2 m2 S2) (n : Nat) : Two B (w.drewN n) g m S g2 m2 S2 := by
  have e : (w.drewN n).heap = w.heap := by simp
  exact ⟨⟨h.a.bg.kept fun _ _ _ => by rw [e], h.a.low, h.a.own⟩, ⟨h.b.bg.kept fun _ _ _ => by rw [e], h.b.low, h.b.own⟩, h.ne, h.ap⟩
theorem two_new (w : World) : Two w.heap.size ((w.alloc (.cells #[.map none] 32)).alloc (.cells #[.map none] 32)) w.heap.size none [] (w.heap.size + 1) none [] := by
  have h1 := obg_new w w.heap.size (Nat.le_refl _)
  have h2 := obg_new (w.alloc (.cells #[.map none] 32)) w.heap.size (by simp)
  rw [World.size_alloc] at h2
  exact ⟨h1.below ((Below.refl _ _).alloc (Nat.le_refl _) _) (Nat.le_refl _), h2, by omega, by simp⟩
theorem Two.kept {B D : Nat} {w w' : World} {g g2 : Nat} {m m2 : Option Nat} {S S2 : List (It Int)} (h : Two B w g m S g2 m2 S2) (hk : ∀ k, k < w.heap.size → k ≠ D → w'.heap[k]? = w.heap[k]?) (h1 : g ≠ D) (h2 : g2 ≠ D) (h3 : ∀ k, m = some k → k ≠ D) (h4 : ∀ k, m2 = some k → k ≠ D) : Two B w' g m S g2 m2 S2 :=
  ⟨⟨h.a.bg.kept fun k hl hor => hk k hl (by rcases hor with rfl | e; · exact h1
                                            · exact h3 k e), h.a.low, h.a.own⟩,
   ⟨h.b.bg.kept fun k hl hor => hk k hl (by rcases hor with rfl | e; · exact h2
                                            · exact h4 k e), h.b.low, h.b.own⟩, h.ne, h.ap⟩
theorem Lies.range {w : World} {g : Nat} {l : List Int} (h : Lies w g l) : w.rangeAt g 0 (l.map (Value.int .i64)) := fun j x hx => by
  rw [Nat.zero_add, cell_of_row w g j _ _ _ h]
  simpa [vals] using hx
theorem Lies.turn {w w' : World} {g D : Nat} {m m' : Option Nat} {l : List Int} (h : Lies w D l) (t : Turn g m m' w w') (h1 : g ≠ D) (h2 : ∀ k, m = some k → k ≠ D) : Lies w' D l := by
  rw [Lies, t.block D h.lt (fun e => h1 e.symm) (fun e => h2 D e rfl)]; exact h
theorem under_vv : Try.prog.underlying 36 = some (.array 16 3) := by kernel_rfl
theorem info_vv {l : List Int} (h : l.length = 16) : (Try.prog.info? 36).map (·.size) = some (l.map (Value.int .i64)).length := by
  rw [List.length_map, h]; kernel_rfl
end Go.Proofs.Yteihijejohgfpaa
