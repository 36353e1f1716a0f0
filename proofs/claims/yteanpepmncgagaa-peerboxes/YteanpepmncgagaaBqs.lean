/-
  Two boxes and a list of numbers that is cut in front and grows behind: what the law keeps.
-/
import Derived.Test.YteanpepmncgagaaBxq
import Derived.ArgAppend
namespace Go.Proofs.Yteanpepmncgagaa
set_option maxRecDepth 100000
open Go.RowKit

/-- A list of numbers of one's own, that may begin behind its block's first cell. -/
def Iq (F : Nat) (w : World) (v : Value) (l : List Int) : Prop :=
  (v = .slice none 0 0 ∧ l = []) ∨ ∃ g off cap cur, v = .slice (some ⟨g, off, none⟩) l.length cap ∧ F ≤ g ∧ w.heap[g]? = some (.cells cur 3 (0, 0)) ∧ l.length ≤ cap ∧ off + cap ≤ cur.size ∧ ∀ j x, l[j]? = some x → cur[off + j]? = some (.int .i64 x)
theorem Iq.shape {F : Nat} {w : World} {v : Value} {l : List Int} (h : Iq F w v l) : ∃ a cap, v = .slice a l.length cap := by
  rcases h with ⟨rfl, rfl⟩ | ⟨g, off, cap, cur, rfl, -⟩
  · exact ⟨none, 0, rfl⟩
  · exact ⟨_, _, rfl⟩
theorem Iq.head {F : Nat} {w : World} {v : Value} {x : Int} {l : List Int} (h : Iq F w v (x :: l)) : ∃ g off cap, v = .slice (some ⟨g, off, none⟩) (l.length + 1) cap ∧ w.cell? ⟨g, off, none⟩ = some (.int .i64 x) := by
  rcases h with ⟨rfl, h⟩ | ⟨g, off, cap, cur, rfl, -, hg, -, -, hx⟩
  · cases h
  · refine ⟨g, off, cap, rfl, ?_⟩
    have := hx 0 x rfl
    simp only [World.cell?, hg]
    simpa using this
theorem Iq.same {F : Nat} {w W : World} {v : Value} {l : List Int} (h : Iq F w v l) (hb : ∀ g cur, w.heap[g]? = some (.cells cur 3 (0, 0)) → v.ownBlock = some g → W.heap[g]? = w.heap[g]?) : Iq F W v l := by
  rcases h with h | ⟨g, off, cap, cur, rfl, h1, h2, h3⟩
  · exact .inl h
  · exact .inr ⟨g, off, cap, cur, rfl, h1, by rw [hb g cur h2 rfl]; exact h2, h3⟩
theorem Iq.lt {F : Nat} {w : World} {v : Value} {l : List Int} (h : Iq F w v l) : ∀ g, v.ownBlock = some g → g < w.heap.size := fun g hg => by
  rcases h with ⟨rfl, -⟩ | ⟨g', off, cap, cur, rfl, h1, h2, h3⟩
  · cases hg
  · simp only [Value.ownBlock, Option.some.injEq] at hg
    subst hg
    exact lt_of_heap h2
/-- Its front is cut. -/
theorem Iq.cut {F : Nat} {w : World} {v : Value} {l : List Int} (h : Iq F w v l) : ∃ v', (∀ W : World, (Instr.slice 64 v (some (.int .i64 ((min 1 l.length : Nat) : Int))) none none).run Try.prog W = .ok v' W) ∧ Iq F w v' (l.drop 1) ∧ (∀ g, v'.ownBlock = some g → v.ownBlock = some g) := by
  have hs : (Try.prog.info? 3).map (·.size) = some 1 := by kernel_rfl
  have ht : Try.prog.underlying 64 = some (.slice 3) := Try.underlying64
  rcases h with ⟨rfl, rfl⟩ | ⟨g, off, cap, cur, rfl, h1, h2, h3, h4, h5⟩
  · refine ⟨.slice none 0 0, fun W => ?_, .inl ⟨rfl, rfl⟩, fun g hg => by cases hg⟩
    kernel_rfl
  · obtain ⟨m, hm⟩ : ∃ m, min 1 l.length = m := ⟨_, rfl⟩
    have hml : m ≤ l.length := by omega
    refine ⟨.slice (some ⟨g, if cap = m then off else off + m, none⟩) (l.length - m) (cap - m), fun W => ?_, .inr ⟨g, if cap = m then off else off + m, cap - m, cur, ?_, h1, h2, ?_, ?_, ?_⟩, fun g' hg' => hg'⟩
    · rw [hm]
      have hi : (m : Int) ≤ (l.length : Int) := by omega
      obtain ⟨i, hi1, hi2⟩ := Option.map_eq_some_iff.1 hs
      simp only [Instr.slice, Sem.run_bind, run_underlying ht, Result.andThen_ok, Instr.sliceBounds, Sem.run_pure, run_sliceBound W .i64 (m : Int) l.length _ (by omega) hi, sizeOf, typeInfo, Int.toNat_natCast]
      by_cases hc : cap = m
      · simp [hc, hi1]
      · simp [hc, Addr.add_mid, hi1, hi2]
    · rw [List.length_drop]
      congr 1
      omega
    · rw [List.length_drop]; omega
    · split <;> omega
    · intro j x hx
      rw [List.getElem?_drop] at hx
      have hj : 1 + j < l.length := (List.getElem?_eq_some_iff.1 hx).1
      have hm1 : m = 1 := by omega
      have hc : ¬ cap = m := by omega
      rw [if_neg hc, hm1, show off + 1 + j = off + (1 + j) by omega]
      exact h5 _ _ hx
theorem Iq.of_own {F n : Nat} {w : World} {v : Value} {l : List Int} (h : w.ownsRow F 3 1 v n (l.map (Value.int .i64))) : Iq F w v l := by
  have hl : l.length = n := by have := h.1; simpa using this
  rcases h.2 with ⟨rfl, h0⟩ | ⟨g, cap, cur, rfl, h1, h2, h3, -, h5, h6⟩
  · exact .inl ⟨rfl, List.eq_nil_of_length_eq_zero (by omega)⟩
  · refine .inr ⟨g, 0, cap, cur, by rw [hl], h1, h2, by omega, by omega, fun j x hx => ?_⟩
    have hj : j < l.length := (List.getElem?_eq_some_iff.1 hx).1
    have h7 : (cur.toList.take (n * 1))[j]? = some (.int .i64 x) := by rw [h6, List.getElem?_map, hx]; rfl
    rw [List.getElem?_take_of_lt (by omega)] at h7
    rw [Nat.zero_add, ← Array.getElem?_toList]
    exact h7
/-- A number goes behind. -/
theorem Iq.push {F : Nat} {w : World} {v : Value} {l : List Int} (h : Iq F w v l) (hF : F ≤ w.heap.size) (hn : l.length ≤ 1000) (x : Int) (ty : TypeId) :
    ∃ v' w', (Builtin.append_ #[64, 64] ty #[v, .slice (some ⟨w.heap.size, 0, none⟩) 1 1]).run Try.prog (w.alloc (.cells #[.int .i64 x] 3)) = .ok v' w' ∧ Iq F w' v' (l ++ [x]) ∧
      (w.heap.size ≤ w'.heap.size ∧ w'.os = w.os ∧ w'.tape = w.tape ∧ w'.output = w.output) ∧ (∀ k, k < w.heap.size → v.ownBlock ≠ some k → w'.heap[k]? = w.heap[k]?) ∧ (∀ k, v'.ownBlock = some k → v.ownBlock = some k ∨ w.heap.size ≤ k) := by
  obtain ⟨i, hi, hz, hs, hb⟩ : ∃ i, Try.prog.info? 3 = some i ∧ i.zero = some (.int .i64 0) ∧ i.size = 1 ∧ i.bytes = 8 := by
    cases h : Try.prog.info? 3 with
    | none => exact absurd h (by decide +kernel)
    | some i =>
      have h2 : (Try.prog.info? 3).map (fun i => (i.zero, i.size, i.bytes)) = some (some (.int .i64 0), 1, 8) := by kernel_rfl
      rw [h] at h2
      simp only [Option.map_some, Option.some.injEq, Prod.mk.injEq] at h2
      exact ⟨i, rfl, h2.1, h2.2.1, h2.2.2⟩
  have ht : Try.prog.underlying 64 = some (.slice 3) := Try.underlying64
  have hnew := heap_alloc_new w (.cells #[.int .i64 x] 3)
  have hold : ∀ k, k < w.heap.size → (w.alloc (.cells #[.int .i64 x] 3)).heap[k]? = w.heap[k]? := fun k hk => ((Below.refl w.heap.size w).alloc (Nat.le_refl _) _).block k hk
  have hsz : (w.alloc (.cells #[.int .i64 x] 3)).heap.size = w.heap.size + 1 := by simp
  have hnews : ∀ (j : Nat) (u : Value), [Value.int .i64 x][j]? = some u → (w.alloc (.cells #[.int .i64 x] 3)).cell? ((⟨w.heap.size, 0, none⟩ : Addr).add j) = some u := fun j u hu => by
    match j, hu with
    | 0, hu => obtain rfl := Option.some.inj hu; simp only [Addr.add_mid, World.cell?, hnew]; rfl
  have h1 : ∀ u ∈ [Value.int .i64 x], u.oneCell' = true := fun u hu => by rw [List.mem_singleton.1 hu]; rfl
  have hos : (w.alloc (.cells #[.int .i64 x] 3)).os = w.os ∧ (w.alloc (.cells #[.int .i64 x] 3)).tape = w.tape ∧ (w.alloc (.cells #[.int .i64 x] 3)).output = w.output := ⟨rfl, rfl, rfl⟩
  generalize w.alloc (.cells #[.int .i64 x] 3) = W at *
  rcases h with ⟨rfl, rfl⟩ | ⟨g, off, cap, cur, rfl, hFg, hg, hlc, hoc, hx⟩
  · obtain ⟨v', w', hr, h2, h3, h4⟩ := run_append_own (P := Try.prog) W w.heap.size 64 ty 3 i (.int .i64 0) 1 8 ht hi hz hs hb rfl (by omega) (.slice none 0 0) 0 [] (World.ownsRow_nil _ _ _ _) ⟨w.heap.size, 0, none⟩ 1 1 [.int .i64 x] rfl hnews h1 (by simp [maxLen]) (by omega) (by omega)
    have hI : Iq w.heap.size w' v' ([] ++ [x]) := Iq.of_own (n := 0 + 1) h2
    refine ⟨v', w', hr, ?_, ⟨by have := h3.size; omega, h3.os.trans hos.1, h3.tape.trans hos.2.1, h3.output.trans hos.2.2⟩, fun k hk _ => (h3.block k (by omega) (by simp [Value.ownBlock])).trans (hold k hk), fun k hk => .inr ?_⟩
    · rcases hI with hI | ⟨g, off, cap, cur, e1, e2, e3⟩
      · exact .inl hI
      · exact .inr ⟨g, off, cap, cur, e1, by omega, e3⟩
    · rcases hI with ⟨rfl, hI⟩ | ⟨g, off, cap, cur, rfl, e2, e3⟩
      · cases hk
      · simp only [Value.ownBlock, Option.some.injEq] at hk
        omega
  · have hgl := lt_of_heap hg
    have hgW : W.heap[g]? = some (.cells cur 3 (0, 0)) := by rw [hold g hgl]; exact hg
    have hsome : ∀ j, j < cap → (W.cell? ⟨g, off + j, none⟩).isSome = true := fun j hj => by
      simp only [World.cell?, hgW]
      simp
      omega
    by_cases hroom : l.length + 1 ≤ cap
    · have hr := run_append_room_cells (P := Try.prog) W 64 ty 3 i ht hi g off l.length cap ⟨w.heap.size, 0, none⟩ 1 1 [.int .i64 x] (by rw [hs]; rfl) hnews h1 hroom (fun j hj => by
        rw [hs, Nat.mul_one, Nat.add_assoc]
        exact hsome _ (by simp at hj; omega)) (fun j hj => frozen_of_row W g _ _ _ hgW)
      rw [hs, Nat.mul_one] at hr
      have hset : W.setCells g (off + l.length) [.int .i64 x] = W.setCell ⟨g, off + l.length, none⟩ (.int .i64 x) := rfl
      rw [hset] at hr
      have hgn := heap_setCell_same W g (off + l.length) cur 3 (.int .i64 x) hgW
      refine ⟨_, _, hr, .inr ⟨g, off, cap, _, by rw [List.length_append]; rfl, hFg, hgn, by rw [List.length_append]; exact hroom, by simpa using hoc, fun j y hy => ?_⟩, ⟨by simp; omega, hos.1, hos.2.1, hos.2.2⟩, fun k hk hne => ?_, fun k hk => .inl hk⟩
      · by_cases hj : j < l.length
        · rw [List.getElem?_append_left hj] at hy
          rw [Array.getElem?_setIfInBounds_ne (by omega)]
          exact hx j y hy
        · have hj2 : j = l.length := by
            have := (List.getElem?_eq_some_iff.1 hy).1
            simp at this
            omega
          subst hj2
          rw [List.getElem?_append_right (Nat.le_refl _), Nat.sub_self] at hy
          obtain rfl := Option.some.inj hy
          rw [Array.getElem?_setIfInBounds_self_of_lt (by omega)]
      · rw [heap_setCell_other W _ k _ (fun e => hne (by rw [e]; rfl)), hold k hk]
    · obtain ⟨v', w', hr, h2, h3⟩ := run_append_arg_grows (P := Try.prog) W 64 ty 3 i (.int .i64 0) 1 8 ht hi hz hs hb rfl (by omega) ⟨g, off, none⟩ l.length cap (l.map (Value.int .i64)) (by simp) (fun j u hu => by
        rw [List.getElem?_map, Option.map_eq_some_iff] at hu
        obtain ⟨y, hy, rfl⟩ := hu
        rw [Addr.add_mid]
        simp only [World.cell?, hgW]
        simpa using hx j y hy) ⟨w.heap.size, 0, none⟩ 1 1 [.int .i64 x] rfl hnews (by omega) (by simp [maxLen]; omega) (by omega)
      have hI : Iq W.heap.size w' v' (l ++ [x]) := Iq.of_own (n := l.length + 1) (by rw [List.map_append]; exact h2)
      refine ⟨v', w', hr, ?_, ⟨by have := h3.size; omega, h3.os.trans hos.1, h3.tape.trans hos.2.1, h3.output.trans hos.2.2⟩, fun k hk _ => (h3.block k (by omega) (by simp)).trans (hold k hk), fun k hk => .inr ?_⟩
      · rcases hI with hI | ⟨g, off, cap, cur, e1, e2, e3⟩
        · exact .inl hI
        · exact .inr ⟨g, off, cap, cur, e1, by omega, e3⟩
      · rcases hI with ⟨rfl, hI⟩ | ⟨g, off, cap, cur, rfl, e2, e3⟩
        · cases hk
        · simp only [Value.ownBlock, Option.some.injEq] at hk
          omega

/-- What the law keeps: a box of numbers, one of texts, and the list. -/
structure Bst (F : Nat) (w : World) (b1 c1 b2 c2 cap : Nat) (li ls : List Value) (v : Value) (l : List Int) : Prop where
  f1 : F ≤ c1
  f2 : F ≤ c2
  ne : c1 ≠ c2
  hF : F ≤ w.heap.size
  q : ∃ Qi Qs, Bv 83 3 w b1 c1 cap Qi ∧ Bv 86 9 w b2 c2 cap Qs ∧ Qi.map Prod.snd = li ∧ Qs.map Prod.snd = ls ∧ ∀ p ∈ Qi, v.ownBlock ≠ some p.1
  iq : Iq F w v l
section
variable {F : Nat} {w W : World} {b1 c1 b2 c2 cap : Nat} {li ls : List Value} {v : Value} {l : List Int}
theorem Bst.below (h : Bst F w b1 c1 b2 c2 cap li ls v l) (hb : Below w.heap.size w W) : Bst F W b1 c1 b2 c2 cap li ls v l := by
  obtain ⟨Qi, Qs, h1, h2, h3, h4, h5⟩ := h.q
  exact ⟨h.f1, h.f2, h.ne, Nat.le_trans h.hF hb.size, ⟨Qi, Qs, h1.below hb, h2.below hb, h3, h4, h5⟩, h.iq.same fun g cur hg _ => hb.block g (lt_of_heap hg)⟩
theorem Bst.puti (h : Bst F w b1 c1 b2 c2 cap li ls v l) (x : Int) (hlt : li.length < cap) : Calls Try.prog 27 #[pt b1, .int .i64 x] w fun e w' => e = .returned (.bool true) ∧ Bst F w' b1 c1 b2 c2 cap (li ++ [.int .i64 x]) ls v l ∧ Below F w w' := by
  obtain ⟨Qi, Qs, h1, h2, rfl, h4, h5⟩ := h.q
  refine Calls.mono (put_room_i h1 x (by simpa using hlt)) ?_
  rintro e w' ⟨rfl, hX, hO⟩
  refine ⟨rfl, ⟨h.f1, h.f2, h.ne, Nat.le_trans h.hF hO.size, ⟨_, Qs, hX, h2.other h1 hO h.ne.symm, by simp, h4, fun p hp => ?_⟩, h.iq.same fun g cur hg _ => hO.block g (lt_of_heap hg) (h1.not hg)⟩, hO.below h.f1 h.hF⟩
  rcases List.mem_append.1 hp with hp | hp
  · exact h5 p hp
  · obtain rfl := List.mem_singleton.1 hp
    exact fun e => Nat.lt_irrefl _ (h.iq.lt _ e)
theorem Bst.puts (h : Bst F w b1 c1 b2 c2 cap li ls v l) (x : ByteArray) (hlt : ls.length < cap) : Calls Try.prog 28 #[pt b2, .string x] w fun e w' => e = .returned (.bool true) ∧ Bst F w' b1 c1 b2 c2 cap li (ls ++ [.string x]) v l ∧ Below F w w' := by
  obtain ⟨Qi, Qs, h1, h2, h3, rfl, h5⟩ := h.q
  refine Calls.mono (put_room_s h2 x (by simpa using hlt)) ?_
  rintro e w' ⟨rfl, hX, hO⟩
  exact ⟨rfl, ⟨h.f1, h.f2, h.ne, Nat.le_trans h.hF hO.size, ⟨Qi, _, h1.other h2 hO h.ne, hX, h3, by simp, h5⟩, h.iq.same fun g cur hg _ => hO.block g (lt_of_heap hg) (h2.not hg)⟩, hO.below h.f2 h.hF⟩
theorem Bst.fulli (h : Bst F w b1 c1 b2 c2 cap li ls v l) (x : Int) (hlt : cap ≤ li.length) : Calls Try.prog 27 #[pt b1, .int .i64 x] w fun e w' => e = .returned (.bool false) ∧ Bst F w' b1 c1 b2 c2 cap li ls v l ∧ Below F w w' := by
  obtain ⟨Qi, Qs, h1, h2, rfl, h4, h5⟩ := h.q
  refine Calls.mono (put_full_i h1 x (by simpa using hlt)) ?_
  rintro e w' ⟨rfl, hb⟩
  exact ⟨rfl, h.below hb, hb.mono h.hF⟩
theorem Bst.fulls (h : Bst F w b1 c1 b2 c2 cap li ls v l) (x : ByteArray) (hlt : cap ≤ ls.length) : Calls Try.prog 28 #[pt b2, .string x] w fun e w' => e = .returned (.bool false) ∧ Bst F w' b1 c1 b2 c2 cap li ls v l ∧ Below F w w' := by
  obtain ⟨Qi, Qs, h1, h2, h3, rfl, h5⟩ := h.q
  refine Calls.mono (put_full_s h2 x (by simpa using hlt)) ?_
  rintro e w' ⟨rfl, hb⟩
  exact ⟨rfl, h.below hb, hb.mono h.hF⟩
theorem Bst.takei {x : Int} {lr : List Value} (h : Bst F w b1 c1 b2 c2 cap (.int .i64 x :: lr) ls v l) : Calls Try.prog 25 #[pt b1] w fun e w' => e = .returned (.tuple #[.int .i64 x, .bool true]) ∧ Bst F w' b1 c1 b2 c2 cap lr ls v l ∧ Below F w w' := by
  obtain ⟨Qi, Qs, h1, h2, h3, h4, h5⟩ := h.q
  obtain ⟨p, Q, rfl, rfl⟩ : ∃ p Q, Qi = (p, .int .i64 x) :: Q ∧ Q.map Prod.snd = lr := by
    cases Qi with
    | nil => cases h3
    | cons q Q =>
      obtain ⟨p, u⟩ := q
      simp only [List.map_cons, List.cons.injEq] at h3
      obtain ⟨rfl, h3⟩ := h3
      exact ⟨p, Q, rfl, h3⟩
  refine Calls.mono (take_some_i h1) ?_
  rintro e w' ⟨rfl, hX, hO⟩
  exact ⟨rfl, ⟨h.f1, h.f2, h.ne, Nat.le_trans h.hF hO.size, ⟨_, Qs, hX, h2.other h1 hO h.ne.symm, rfl, h4, fun p hp => h5 p (List.mem_cons_of_mem _ hp)⟩, h.iq.same fun g cur hg _ => hO.block g (lt_of_heap hg) (h1.not hg)⟩, hO.below h.f1 h.hF⟩
theorem Bst.takes {x : ByteArray} {lr : List Value} (h : Bst F w b1 c1 b2 c2 cap li (.string x :: lr) v l) : Calls Try.prog 26 #[pt b2] w fun e w' => e = .returned (.tuple #[.string x, .bool true]) ∧ Bst F w' b1 c1 b2 c2 cap li lr v l ∧ Below F w w' := by
  obtain ⟨Qi, Qs, h1, h2, h3, h4, h5⟩ := h.q
  obtain ⟨p, Q, rfl, rfl⟩ : ∃ p Q, Qs = (p, .string x) :: Q ∧ Q.map Prod.snd = lr := by
    cases Qs with
    | nil => cases h4
    | cons q Q =>
      obtain ⟨p, u⟩ := q
      simp only [List.map_cons, List.cons.injEq] at h4
      obtain ⟨rfl, h4⟩ := h4
      exact ⟨p, Q, rfl, h4⟩
  refine Calls.mono (take_some_s h2) ?_
  rintro e w' ⟨rfl, hX, hO⟩
  exact ⟨rfl, ⟨h.f1, h.f2, h.ne, Nat.le_trans h.hF hO.size, ⟨Qi, _, h1.other h2 hO h.ne, hX, h3, rfl, h5⟩, h.iq.same fun g cur hg _ => hO.block g (lt_of_heap hg) (h2.not hg)⟩, hO.below h.f2 h.hF⟩
theorem Bst.nonei (h : Bst F w b1 c1 b2 c2 cap [] ls v l) : Calls Try.prog 25 #[pt b1] w fun e w' => e = .returned (.tuple #[.int .i64 0, .bool false]) ∧ w' = w := by
  obtain ⟨Qi, Qs, h1, h2, h3, h4, h5⟩ := h.q
  obtain rfl := List.map_eq_nil_iff.1 h3
  exact take_none_i h1
theorem Bst.nones (h : Bst F w b1 c1 b2 c2 cap li [] v l) : Calls Try.prog 26 #[pt b2] w fun e w' => e = .returned (.tuple #[.string ⟨#[]⟩, .bool false]) ∧ w' = w := by
  obtain ⟨Qi, Qs, h1, h2, h3, h4, h5⟩ := h.q
  obtain rfl := List.map_eq_nil_iff.1 h4
  exact take_none_s h2
theorem Bst.leni (h : Bst F w b1 c1 b2 c2 cap li ls v l) : Calls Try.prog 29 #[pt b1] w fun e w' => e = .returned (.int .i64 (li.length : Int)) ∧ w' = w := by
  obtain ⟨Qi, Qs, h1, h2, rfl, h4, h5⟩ := h.q
  rw [List.length_map]
  exact blen_i h1
theorem Bst.lens (h : Bst F w b1 c1 b2 c2 cap li ls v l) : Calls Try.prog 30 #[pt b2] w fun e w' => e = .returned (.int .i64 (ls.length : Int)) ∧ w' = w := by
  obtain ⟨Qi, Qs, h1, h2, h3, rfl, h5⟩ := h.q
  rw [List.length_map]
  exact blen_s h2
theorem Bst.cut (h : Bst F w b1 c1 b2 c2 cap li ls v l) : ∃ v', (∀ W : World, (Instr.slice 64 v (some (.int .i64 ((min 1 l.length : Nat) : Int))) none none).run Try.prog W = .ok v' W) ∧ Bst F w b1 c1 b2 c2 cap li ls v' (l.drop 1) := by
  obtain ⟨v', h1, h2, h3⟩ := h.iq.cut
  obtain ⟨Qi, Qs, q1, q2, q3, q4, q5⟩ := h.q
  exact ⟨v', h1, h.f1, h.f2, h.ne, h.hF, ⟨Qi, Qs, q1, q2, q3, q4, fun p hp e => q5 p hp (h3 _ e)⟩, h2⟩
theorem Bst.push (h : Bst F w b1 c1 b2 c2 cap li ls v l) (hn : l.length ≤ 1000) (x : Int) (ty : TypeId) :
    ∃ v' w', (Builtin.append_ #[64, 64] ty #[v, .slice (some ⟨w.heap.size, 0, none⟩) 1 1]).run Try.prog (w.alloc (.cells #[.int .i64 x] 3)) = .ok v' w' ∧ Bst F w' b1 c1 b2 c2 cap li ls v' (l ++ [x]) ∧ Below F w w' := by
  obtain ⟨v', w', h1, h2, ⟨s1, s2, s3, s4⟩, h4, h5⟩ := h.iq.push h.hF hn x ty
  obtain ⟨Qi, Qs, q1, q2, q3, q4, q5⟩ := h.q
  have hown : ∀ k, v.ownBlock = some k → F ≤ k ∧ ∃ cur, w.heap[k]? = some (.cells cur 3 (0, 0)) := fun k hk => by
    rcases h.iq with ⟨rfl, -⟩ | ⟨g, off, cap, cur, rfl, e1, e2, -⟩
    · cases hk
    · simp only [Value.ownBlock, Option.some.injEq] at hk
      subst hk
      exact ⟨e1, cur, e2⟩
  have hb : ∀ {b : Nat} {cs : Array Value} {t : TypeId}, w.heap[b]? = some (.cells cs t (0, 0)) → t ≠ 3 → w'.heap[b]? = w.heap[b]? := fun {b cs t} hb ht => h4 b (lt_of_heap hb) fun e => by
    obtain ⟨-, cur, hc⟩ := hown b e
    rw [hb] at hc
    injection hc with hc
    injection hc with _ hc
    exact ht hc
  have hc : ∀ {c n : Nat} {buf : Array Value} {s r : Nat}, w.heap[c]? = some (.chan n buf false s r false) → w'.heap[c]? = w.heap[c]? := fun {c n buf s r} hb => h4 c (lt_of_heap hb) fun e => by
    obtain ⟨-, cur, hc⟩ := hown c e
    rw [hb] at hc
    cases hc
  refine ⟨v', w', h1, ⟨h.f1, h.f2, h.ne, Nat.le_trans h.hF s1, ⟨Qi, Qs, ?_, ?_, q3, q4, fun p hp e => ?_⟩, h2⟩, ⟨s2, s3, s4, s1, fun k hk => h4 k (Nat.lt_of_lt_of_le hk h.hF) fun e => by have := (hown k e).1; omega⟩⟩
  · obtain ⟨s, r, e⟩ := q1.ch
    exact ⟨by rw [hb q1.box (by decide)]; exact q1.box, ⟨s, r, by rw [hc e]; exact e⟩, fun p hp => by rw [h4 p.1 (lt_of_heap (q1.its p hp)) (q5 p hp)]; exact q1.its p hp⟩
  · obtain ⟨s, r, e⟩ := q2.ch
    exact ⟨by rw [hb q2.box (by decide)]; exact q2.box, ⟨s, r, by rw [hc e]; exact e⟩, fun p hp => by rw [hb (q2.its p hp) (by decide)]; exact q2.its p hp⟩
  · rcases h5 _ e with e | e
    · exact q5 p hp e
    · have := lt_of_heap (q1.its p hp)
      omega
end
end Go.Proofs.Yteanpepmncgagaa
