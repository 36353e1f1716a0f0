/-
  Rows of items of the program's own: append, one item read out of the midst, what the sort leaves.
-/
import Derived.Test.YtmlfekbmbnfkjabGreatDoorQ37
import Derived.Laws.OwnMore
import Derived.Laws.AppendOwnNone
import Derived.Great.BuildSlice
import Derived.Deep.MidRow
namespace Go.Proofs.YtmlfekbmbnfkjabGreatDoor.E
set_option maxRecDepth 100000
set_option maxRecDepth 100000
open Go.RowKit

/-- What is known of a list's type and xs elements'. -/
structure El (T e : TypeId) (z : Array Value) (bt : Nat) : Prop where
  ht : Tryz.prog.underlying T = some (.slice e)
  hi : (Tryz.prog.info? e).map (fun i => (i.zero, i.size, i.bytes)) = some (some (.agg z), 28, bt)
  hz : z.size = 28
  hb : bt ≤ 512
/-- A row of the program's own. -/
abbrev Rw (e : TypeId) (w : World) (base : Nat) (v : Value) (S : List (It (Cx 26))) : Prop := w.ownsRow base e 28 v S.length (xs S)
theorem rw_nil (e : TypeId) (w : World) (base : Nat) : Rw e w base (.slice none 0 0) [] := World.ownsRow_nil w base _ _
theorem Rw.lower {e : TypeId} {w : World} {base b : Nat} {v : Value} {S : List (It (Cx 26))} (h : Rw e w base v S) (hb : b ≤ base) : Rw e w b v S := by
  refine ⟨h.1, ?_⟩
  rcases h.2 with hn | ⟨g, cap, cur, e, hbg, rest⟩
  · exact .inl hn
  · exact .inr ⟨g, cap, cur, e, Nat.le_trans hb hbg, rest⟩
theorem Rw.keep {e : TypeId} {w w' : World} {base : Nat} {v : Value} {S : List (It (Cx 26))} (h : Rw e w base v S) (hk : ∀ k, v.ownBlock = some k → w'.heap[k]? = w.heap[k]?) : Rw e w' base v S := by
  refine ⟨h.1, ?_⟩
  rcases h.2 with hn | ⟨g, cap, cur, rfl, hbg, hg, rest⟩
  · exact .inl hn
  · exact .inr ⟨g, cap, cur, rfl, hbg, by rw [hk g rfl]; exact hg, rest⟩
theorem Rw.below {e : TypeId} {w w' : World} {base B : Nat} {v : Value} {S : List (It (Cx 26))} (h : Rw e w base v S) (hb : Below B w w') (hB : w.heap.size ≤ B) : Rw e w' base v S :=
  h.keep fun k hk => hb.block k (by have := (h.lt k hk).2; omega)
/-- Which slice it is. -/
theorem Rw.val {e : TypeId} {w : World} {base : Nat} {v : Value} {S : List (It (Cx 26))} (h : Rw e w base v S) : ∃ ao cap, v = .slice ao S.length cap ∧ S.length ≤ cap ∧ cap ≤ maxLen := by
  rcases h.2 with ⟨rfl, h0⟩ | ⟨g, cap, cur, rfl, hbg, hg, hn, hc, rest⟩
  · exact ⟨none, 0, by rw [h0], by omega, Nat.zero_le _⟩
  · exact ⟨_, cap, rfl, hn, hc⟩
/-- One item of it. -/
theorem Rw.atx {e : TypeId} {w : World} {base : Nat} {v : Value} {S : List (It (Cx 26))} (h : Rw e w base v S) {k : Nat} (hk : k < S.length) : ∃ g cap i, v = .slice (some ⟨g, 0, none⟩) S.length cap ∧ S.length ≤ cap ∧ S[k]? = some i ∧ base ≤ g ∧ g < w.heap.size ∧
    w.rangeAt g (k * 28) (xl i) ∧ ∃ cur, w.heap[g]? = some (.cells cur e (0, 0)) := by
  obtain ⟨i, hi⟩ : ∃ i, S[k]? = some i := ⟨_, List.getElem?_eq_getElem hk⟩
  rcases h.2 with ⟨rfl, h0⟩ | ⟨g, cap, cur, rfl, hbg, hg, hn, hc, rest⟩
  · omega
  · have hc := fun j u hu => h.cells (g := g) rfl j u hu
    refine ⟨g, cap, i, rfl, hn, hi, hbg, (Array.getElem?_eq_some_iff.1 hg).1, fun j v hv => ?_, cur, hg⟩
    have := hc _ _ (xs_at k i hi j v hv)
    rw [Addr.add_mid, Nat.zero_add] at this
    exact this

/-- Items that lie at an address. -/
structure Ats (w : World) (ad : Addr) (F : List (It (Cx 26))) : Prop where
  cells : ∀ j u, (xs F)[j]? = some u → w.cell? (ad.add j) = some u
theorem app_new {T e : TypeId} {z : Array Value} {bt : Nat} (E : El T e z bt) {w : World} (base : Nat) (ty : TypeId) (i : TypeInfo) (hi : Tryz.prog.info? e = some i) (hz : i.zero = some (.agg z)) (hsize : i.size = 28) (hbytes : i.bytes = bt)
    (v : Value) (n : Nat) (xs : List Value) (hown : w.ownsRow base e 28 v n xs)
    (a : Addr) (m c : Nat) (news : List Value) (hl : news.length = m * 28) (hnews : ∀ j u, news[j]? = some u → w.cell? (a.add j) = some u) (h1 : ∀ u ∈ news, u.oneCell' = true)
    (hnm : n + m ≤ 1048576) (hm : 0 < m) (v' : Value) (w' : World) (hr : (Builtin.append_ #[T, T] ty #[v, .slice (some a) m c]).run Tryz.prog w = .ok v' w') :
    ∀ k, v'.ownBlock = some k → v.ownBlock = some k ∨ w.heap.size ≤ k := by
  intro k hk
  have ht := E.ht
  have hbt := E.hb
  have hown' := hown
  have hmul : (n + m) * bt ≤ 1048576 * 512 := Nat.mul_le_mul hnm hbt
  have hmul2 : m * bt ≤ 1048576 * 512 := Nat.mul_le_mul (by omega) hbt
  rcases hown.2 with ⟨rfl, rfl⟩ | ⟨g, cap, cur, rfl, hbg, hg, hnc, hcm, hcs, htake⟩
  · have h2 := run_append_nil (P := Tryz.prog) w T ty e i _ ht hi hz a m c news (by rw [hsize]; omega) hnews (by omega) (by omega) (by rw [hbytes]; omega)
    rw [h2] at hr
    simp only [Result.ok.injEq] at hr
    rw [← hr.1] at hk
    simp only [Value.ownBlock, Option.some.injEq] at hk
    right; omega
  · by_cases hroom : n + m ≤ cap
    · obtain ⟨w2, h2, -⟩ := run_append_fits (P := Tryz.prog) w base T ty e i 28 ht hi hsize g n cap xs hown' a m c news (by omega) hnews h1 hroom
      rw [h2] at hr
      simp only [Result.ok.injEq] at hr
      rw [← hr.1] at hk
      exact .inl hk
    · have h2 := run_append_grow (P := Tryz.prog) w T ty e i _ ht hi hz ⟨g, 0, none⟩ n cap xs (by rw [hsize]; exact hown.1) (hown'.cells (g := g) rfl) a m c news (by rw [hsize]; omega) hnews (by omega) (by omega) (growslice_fits (by omega) (by rw [hbytes]; omega))
      rw [h2] at hr
      simp only [Result.ok.injEq] at hr
      rw [← hr.1] at hk
      simp only [Value.ownBlock, Option.some.injEq] at hk
      right; omega
/-- What 'append' of one item does. -/
theorem run_app1 {T e : TypeId} {z : Array Value} {bt : Nat} (E : El T e z bt) {w : World} (ty : TypeId) (base : Nat) (v : Value) (S : List (It (Cx 26))) (hown : Rw e w base v S)
    (ad : Addr) (c : Nat) (i : It (Cx 26)) (hF : Ats w ad [i]) (hnm : S.length < 1048576) (hbase : base ≤ w.heap.size) :
    ∃ v' w', (Builtin.append_ #[T, T] ty #[v, .slice (some ad) 1 c]).run Tryz.prog w = .ok v' w' ∧ Rw e w' base v' (S ++ [i]) ∧ w.grownBy w' v.ownBlock ∧ (∀ k, v'.ownBlock = some k → v.ownBlock = some k ∨ w.heap.size ≤ k) := by
  obtain ⟨i0, hi, hz0, hz1, hz2⟩ := info_parts E.hi
  have hbt := E.hb
  have hmul : (S.length + 1) * bt ≤ 1048576 * 512 := Nat.mul_le_mul (by omega) hbt
  obtain ⟨v', w', hr, h2, h3, -⟩ := run_append_own (P := Tryz.prog) w base T ty e i0 (.agg z) 28 i0.bytes E.ht hi hz0 hz1 rfl E.hz (by omega) v S.length (xs S) hown ad 1 c (xs [i]) (xs_length [i]) hF.cells (xs_one [i]) (by unfold maxLen; omega) (by rw [hz2]; omega) hbase
  have h4 := app_new E base ty i0 hi hz0 hz1 hz2 v S.length (xs S) hown ad 1 c (xs [i]) (xs_length [i]) hF.cells (xs_one [i]) (by omega) (by omega) v' w' hr
  exact ⟨v', w', hr, by rw [Rw, xs_append, List.length_append]; exact h2, h3, h4⟩
/-- A list of one item. -/
theorem run_build1 {T e : TypeId} {z : Array Value} {bt : Nat} (E : El T e z bt) (w : World) (i : It (Cx 26)) : (Instr.buildSlice T 1 #[(0, .agg (xc i))]).run Tryz.prog w = .ok (.slice (some ⟨w.heap.size, 0, none⟩) 1 1) (w.alloc (.cells (xc i) e)) := by
  obtain ⟨i0, hi, hz0, hz1, hz2⟩ := info_parts E.hi
  have hz := E.hz
  refine run_buildSlice w T e 1 _ (xc i) i0 _ E.ht hi hz0 (by rw [hz1]; decide) (by rw [hz1]; decide) ?_
  rw [hz1]
  have := Great.fill_whole (s := 28) (by omega) [.agg (xc i)] ((Array.range (1 * 28)).map ((Value.agg z).cells[· % (Value.agg z).cells.size]!)) (by
    intro v hv
    rw [List.mem_singleton.1 hv]
    exact xc_size i) (by simp)
  refine Eq.trans this ?_
  simp [Value.cells]
theorem ats_new (w : World) (e : TypeId) (i : It (Cx 26)) : Ats (w.alloc (.cells (xc i) e)) ⟨w.heap.size, 0, none⟩ [i] := ⟨fun j u hu => by
  have e1 : xs [i] = xl i := by simp [xs]
  rw [e1] at hu
  rw [Addr.add_mid, Nat.zero_add, cell_of_row (w.alloc (.cells (xc i) e)) w.heap.size j _ _ _ (heap_alloc_new w _)]
  simpa [xc] using hu⟩
theorem ld_mid {w : World} {g off : Nat} {i : It (Cx 26)} (h : w.rangeAt g off (xl i)) : (loadVar 112 ⟨g, off, none⟩).run Tryz.prog w = .ok (.agg (xc i)) w :=
  run_loadVar_mid (P := Tryz.prog) w g off 112 _ _ h Tryz.underlying112 rfl (by rw [xl_length]; kernel_rfl)
theorem Rw.alloc {e : TypeId} {w : World} {base : Nat} {v : Value} {S : List (It (Cx 26))} (h : Rw e w base v S) (o : Obj) : Rw e (w.alloc o) base v S := h.below ((Below.refl _ w).alloc (Nat.le_refl _) o) (Nat.le_refl _)
end Go.Proofs.YtmlfekbmbnfkjabGreatDoor.E

/-
  Rows of items of the program's own: append, one item read out of the midst, what the sort leaves.
-/
namespace Go.Proofs.YtmlfekbmbnfkjabGreatDoor.D
set_option maxRecDepth 100000
set_option maxRecDepth 100000
open Go.RowKit

/-- What is known of a list's type and xs elements'. -/
structure El (T e : TypeId) (z : Array Value) (bt : Nat) : Prop where
  ht : Tryz.prog.underlying T = some (.slice e)
  hi : (Tryz.prog.info? e).map (fun i => (i.zero, i.size, i.bytes)) = some (some (.agg z), 30, bt)
  hz : z.size = 30
  hb : bt ≤ 512
/-- A row of the program's own. -/
abbrev Rw (e : TypeId) (w : World) (base : Nat) (v : Value) (S : List (It (Cx 28))) : Prop := w.ownsRow base e 30 v S.length (xs S)
theorem rw_nil (e : TypeId) (w : World) (base : Nat) : Rw e w base (.slice none 0 0) [] := World.ownsRow_nil w base _ _
theorem Rw.lower {e : TypeId} {w : World} {base b : Nat} {v : Value} {S : List (It (Cx 28))} (h : Rw e w base v S) (hb : b ≤ base) : Rw e w b v S := by
  refine ⟨h.1, ?_⟩
  rcases h.2 with hn | ⟨g, cap, cur, e, hbg, rest⟩
  · exact .inl hn
  · exact .inr ⟨g, cap, cur, e, Nat.le_trans hb hbg, rest⟩
theorem Rw.keep {e : TypeId} {w w' : World} {base : Nat} {v : Value} {S : List (It (Cx 28))} (h : Rw e w base v S) (hk : ∀ k, v.ownBlock = some k → w'.heap[k]? = w.heap[k]?) : Rw e w' base v S := by
  refine ⟨h.1, ?_⟩
  rcases h.2 with hn | ⟨g, cap, cur, rfl, hbg, hg, rest⟩
  · exact .inl hn
  · exact .inr ⟨g, cap, cur, rfl, hbg, by rw [hk g rfl]; exact hg, rest⟩
theorem Rw.below {e : TypeId} {w w' : World} {base B : Nat} {v : Value} {S : List (It (Cx 28))} (h : Rw e w base v S) (hb : Below B w w') (hB : w.heap.size ≤ B) : Rw e w' base v S :=
  h.keep fun k hk => hb.block k (by have := (h.lt k hk).2; omega)
/-- Which slice it is. -/
theorem Rw.val {e : TypeId} {w : World} {base : Nat} {v : Value} {S : List (It (Cx 28))} (h : Rw e w base v S) : ∃ ao cap, v = .slice ao S.length cap ∧ S.length ≤ cap ∧ cap ≤ maxLen := by
  rcases h.2 with ⟨rfl, h0⟩ | ⟨g, cap, cur, rfl, hbg, hg, hn, hc, rest⟩
  · exact ⟨none, 0, by rw [h0], by omega, Nat.zero_le _⟩
  · exact ⟨_, cap, rfl, hn, hc⟩
/-- One item of it. -/
theorem Rw.atx {e : TypeId} {w : World} {base : Nat} {v : Value} {S : List (It (Cx 28))} (h : Rw e w base v S) {k : Nat} (hk : k < S.length) : ∃ g cap i, v = .slice (some ⟨g, 0, none⟩) S.length cap ∧ S.length ≤ cap ∧ S[k]? = some i ∧ base ≤ g ∧ g < w.heap.size ∧
    w.rangeAt g (k * 30) (xl i) ∧ ∃ cur, w.heap[g]? = some (.cells cur e (0, 0)) := by
  obtain ⟨i, hi⟩ : ∃ i, S[k]? = some i := ⟨_, List.getElem?_eq_getElem hk⟩
  rcases h.2 with ⟨rfl, h0⟩ | ⟨g, cap, cur, rfl, hbg, hg, hn, hc, rest⟩
  · omega
  · have hc := fun j u hu => h.cells (g := g) rfl j u hu
    refine ⟨g, cap, i, rfl, hn, hi, hbg, (Array.getElem?_eq_some_iff.1 hg).1, fun j v hv => ?_, cur, hg⟩
    have := hc _ _ (xs_at k i hi j v hv)
    rw [Addr.add_mid, Nat.zero_add] at this
    exact this

/-- Items that lie at an address. -/
structure Ats (w : World) (ad : Addr) (F : List (It (Cx 28))) : Prop where
  cells : ∀ j u, (xs F)[j]? = some u → w.cell? (ad.add j) = some u
theorem app_new {T e : TypeId} {z : Array Value} {bt : Nat} (E : El T e z bt) {w : World} (base : Nat) (ty : TypeId) (i : TypeInfo) (hi : Tryz.prog.info? e = some i) (hz : i.zero = some (.agg z)) (hsize : i.size = 30) (hbytes : i.bytes = bt)
    (v : Value) (n : Nat) (xs : List Value) (hown : w.ownsRow base e 30 v n xs)
    (a : Addr) (m c : Nat) (news : List Value) (hl : news.length = m * 30) (hnews : ∀ j u, news[j]? = some u → w.cell? (a.add j) = some u) (h1 : ∀ u ∈ news, u.oneCell' = true)
    (hnm : n + m ≤ 1048576) (hm : 0 < m) (v' : Value) (w' : World) (hr : (Builtin.append_ #[T, T] ty #[v, .slice (some a) m c]).run Tryz.prog w = .ok v' w') :
    ∀ k, v'.ownBlock = some k → v.ownBlock = some k ∨ w.heap.size ≤ k := by
  intro k hk
  have ht := E.ht
  have hbt := E.hb
  have hown' := hown
  have hmul : (n + m) * bt ≤ 1048576 * 512 := Nat.mul_le_mul hnm hbt
  have hmul2 : m * bt ≤ 1048576 * 512 := Nat.mul_le_mul (by omega) hbt
  rcases hown.2 with ⟨rfl, rfl⟩ | ⟨g, cap, cur, rfl, hbg, hg, hnc, hcm, hcs, htake⟩
  · have h2 := run_append_nil (P := Tryz.prog) w T ty e i _ ht hi hz a m c news (by rw [hsize]; omega) hnews (by omega) (by omega) (by rw [hbytes]; omega)
    rw [h2] at hr
    simp only [Result.ok.injEq] at hr
    rw [← hr.1] at hk
    simp only [Value.ownBlock, Option.some.injEq] at hk
    right; omega
  · by_cases hroom : n + m ≤ cap
    · obtain ⟨w2, h2, -⟩ := run_append_fits (P := Tryz.prog) w base T ty e i 30 ht hi hsize g n cap xs hown' a m c news (by omega) hnews h1 hroom
      rw [h2] at hr
      simp only [Result.ok.injEq] at hr
      rw [← hr.1] at hk
      exact .inl hk
    · have h2 := run_append_grow (P := Tryz.prog) w T ty e i _ ht hi hz ⟨g, 0, none⟩ n cap xs (by rw [hsize]; exact hown.1) (hown'.cells (g := g) rfl) a m c news (by rw [hsize]; omega) hnews (by omega) (by omega) (growslice_fits (by omega) (by rw [hbytes]; omega))
      rw [h2] at hr
      simp only [Result.ok.injEq] at hr
      rw [← hr.1] at hk
      simp only [Value.ownBlock, Option.some.injEq] at hk
      right; omega
/-- What 'append' of one item does. -/
theorem run_app1 {T e : TypeId} {z : Array Value} {bt : Nat} (E : El T e z bt) {w : World} (ty : TypeId) (base : Nat) (v : Value) (S : List (It (Cx 28))) (hown : Rw e w base v S)
    (ad : Addr) (c : Nat) (i : It (Cx 28)) (hF : Ats w ad [i]) (hnm : S.length < 1048576) (hbase : base ≤ w.heap.size) :
    ∃ v' w', (Builtin.append_ #[T, T] ty #[v, .slice (some ad) 1 c]).run Tryz.prog w = .ok v' w' ∧ Rw e w' base v' (S ++ [i]) ∧ w.grownBy w' v.ownBlock ∧ (∀ k, v'.ownBlock = some k → v.ownBlock = some k ∨ w.heap.size ≤ k) := by
  obtain ⟨i0, hi, hz0, hz1, hz2⟩ := info_parts E.hi
  have hbt := E.hb
  have hmul : (S.length + 1) * bt ≤ 1048576 * 512 := Nat.mul_le_mul (by omega) hbt
  obtain ⟨v', w', hr, h2, h3, -⟩ := run_append_own (P := Tryz.prog) w base T ty e i0 (.agg z) 30 i0.bytes E.ht hi hz0 hz1 rfl E.hz (by omega) v S.length (xs S) hown ad 1 c (xs [i]) (xs_length [i]) hF.cells (xs_one [i]) (by unfold maxLen; omega) (by rw [hz2]; omega) hbase
  have h4 := app_new E base ty i0 hi hz0 hz1 hz2 v S.length (xs S) hown ad 1 c (xs [i]) (xs_length [i]) hF.cells (xs_one [i]) (by omega) (by omega) v' w' hr
  exact ⟨v', w', hr, by rw [Rw, xs_append, List.length_append]; exact h2, h3, h4⟩
/-- A list of one item. -/
theorem run_build1 {T e : TypeId} {z : Array Value} {bt : Nat} (E : El T e z bt) (w : World) (i : It (Cx 28)) : (Instr.buildSlice T 1 #[(0, .agg (xc i))]).run Tryz.prog w = .ok (.slice (some ⟨w.heap.size, 0, none⟩) 1 1) (w.alloc (.cells (xc i) e)) := by
  obtain ⟨i0, hi, hz0, hz1, hz2⟩ := info_parts E.hi
  have hz := E.hz
  refine run_buildSlice w T e 1 _ (xc i) i0 _ E.ht hi hz0 (by rw [hz1]; decide) (by rw [hz1]; decide) ?_
  rw [hz1]
  have := Great.fill_whole (s := 30) (by omega) [.agg (xc i)] ((Array.range (1 * 30)).map ((Value.agg z).cells[· % (Value.agg z).cells.size]!)) (by
    intro v hv
    rw [List.mem_singleton.1 hv]
    exact xc_size i) (by simp)
  refine Eq.trans this ?_
  simp [Value.cells]
theorem ats_new (w : World) (e : TypeId) (i : It (Cx 28)) : Ats (w.alloc (.cells (xc i) e)) ⟨w.heap.size, 0, none⟩ [i] := ⟨fun j u hu => by
  have e1 : xs [i] = xl i := by simp [xs]
  rw [e1] at hu
  rw [Addr.add_mid, Nat.zero_add, cell_of_row (w.alloc (.cells (xc i) e)) w.heap.size j _ _ _ (heap_alloc_new w _)]
  simpa [xc] using hu⟩
theorem ld_mid {w : World} {g off : Nat} {i : It (Cx 28)} (h : w.rangeAt g off (xl i)) : (loadVar 135 ⟨g, off, none⟩).run Tryz.prog w = .ok (.agg (xc i)) w :=
  run_loadVar_mid (P := Tryz.prog) w g off 135 _ _ h Tryz.underlying135 rfl (by rw [xl_length]; kernel_rfl)
theorem Rw.alloc {e : TypeId} {w : World} {base : Nat} {v : Value} {S : List (It (Cx 28))} (h : Rw e w base v S) (o : Obj) : Rw e (w.alloc o) base v S := h.below ((Below.refl _ w).alloc (Nat.le_refl _) o) (Nat.le_refl _)
end Go.Proofs.YtmlfekbmbnfkjabGreatDoor.D

