/-
  What bytes.Clone, Bytes, Append, Replace and Cut come to.
-/
import Derived.Test.YthdhnilfkpbmpaaDsk
import Derived.BigQuiet
import Derived.Lib.SliceRun
namespace Go.Proofs.Ythdhnilfkpbmpaa
set_option maxRecDepth 100000

open Go.RowKit

theorem Step.quiet {w w' : World} (g : Nat) (v : Value) (h : Below w.heap.size w w') : Step g v v w w' := ⟨h.os, h.tape, h.output, h.size, fun k hk _ _ => h.block k hk, fun _ h => .inl h⟩
theorem own_lower {w : World} {base b : Nat} {t : TypeId} {v : Value} {n : Nat} {xs : List Value} (h : w.ownsRow base t 1 v n xs) (hb : b ≤ base) : w.ownsRow b t 1 v n xs := by
  refine ⟨h.1, ?_⟩
  rcases h.2 with hn | ⟨g, cap, cur, e, hbg, rest⟩
  · exact .inl hn
  · exact .inr ⟨g, cap, cur, e, Nat.le_trans hb hbg, rest⟩
/-- A row's beginning. -/
theorem own_cut {w : World} {base g n cap : Nat} {l : List UInt8} (k : Nat) (hk : k ≤ n) (h : w.ownsRow base 5 1 (.slice (some ⟨g, 0, none⟩) n cap) n (bs l)) : w.ownsRow base 5 1 (.slice (some ⟨g, 0, none⟩) k cap) k (bs (l.take k)) := by
  have hl : l.length = n := by have := h.1; rw [bs_length] at this; omega
  refine ⟨by rw [bs_length, List.length_take]; omega, ?_⟩
  rcases h.2 with ⟨h', _⟩ | ⟨g', cap', cur, h', hb, hg, hnc, hcm, hcs, htake⟩
  · cases h'
  · simp only [Value.slice.injEq, Option.some.injEq, Addr.mk.injEq, and_true, true_and] at h'
    obtain ⟨rfl, rfl⟩ := h'
    refine .inr ⟨g, cap, cur, rfl, hb, hg, by omega, hcm, hcs, ?_⟩
    rw [Nat.mul_one] at htake ⊢
    have : bs (l.take k) = (bs l).take k := by rw [bs, bs, List.map_take]
    rw [this, ← htake, List.take_take, Nat.min_eq_left hk]

/-- 'append' to a row of the call's own: what it is then is that row, or a new one. -/
theorem app_new {w : World} (base : Nat) (t ty e : TypeId) (i : TypeInfo) (z : Value) (ht : Try.prog.underlying t = some (.slice e)) (hi : Try.prog.info? e = some i) (hz : i.zero = some z) (hsize : i.size = 1)
    (v : Value) (n : Nat) (xs : List Value) (hown : w.ownsRow base e 1 v n xs)
    (a : Addr) (m c : Nat) (news : List Value) (hl : news.length = m) (hnews : ∀ j u, news[j]? = some u → w.cell? (a.add j) = some u) (h1 : ∀ u ∈ news, u.oneCell' = true)
    (h63 : n + m ≤ maxLen) (hbytes : (n + m) * i.bytes ≤ 140737488355328) (v' : Value) (w' : World) (hr : (Builtin.append_ #[t, t] ty #[v, .slice (some a) m c]).run Try.prog w = .ok v' w') :
    ∀ k, v'.ownBlock = some k → v.ownBlock = some k ∨ w.heap.size ≤ k := by
  intro k hk
  unfold maxLen at h63
  have hown' := hown
  rcases hown.2 with ⟨rfl, rfl⟩ | ⟨g, cap, cur, rfl, hbg, hg, hnc, hcm, hcs, htake⟩
  · by_cases hm : m = 0
    · subst hm
      have hn : news = [] := List.eq_nil_of_length_eq_zero hl
      subst hn
      have : (Builtin.append_ #[t, t] ty #[.slice none 0 0, .slice (some a) 0 c]).run Try.prog w = .ok (.slice none 0 0) w := by
        simp [Builtin.append_, run_underlying ht, sizeOf, typeInfo, hi, Builtin.lenOf, Builtin.firstCells, loadCells, loadCellsFrom]
      rw [this] at hr
      simp only [Result.ok.injEq] at hr
      rw [← hr.1] at hk
      cases hk
    · have h2 := run_append_nil (P := Try.prog) w t ty e i z ht hi hz a m c news (by rw [hsize]; omega) hnews (by omega) (by omega) (by rw [Nat.zero_add] at hbytes; omega)
      rw [h2] at hr
      simp only [Result.ok.injEq] at hr
      rw [← hr.1] at hk
      simp only [Value.ownBlock, Option.some.injEq] at hk
      right; omega
  · by_cases hroom : n + m ≤ cap
    · obtain ⟨w2, h2, -⟩ := run_append_fits (P := Try.prog) w base t ty e i 1 ht hi hsize g n cap xs hown' a m c news (by omega) hnews h1 hroom
      rw [h2] at hr
      simp only [Result.ok.injEq] at hr
      rw [← hr.1] at hk
      exact .inl hk
    · have h2 := run_append_grow (P := Try.prog) w t ty e i z ht hi hz ⟨g, 0, none⟩ n cap xs (by rw [hsize]; exact hown.1) (hown'.cells (g := g) rfl) a m c news (by rw [hsize]; omega) hnews (by omega) (by omega) (growslice_fits (by omega) hbytes)
      rw [h2] at hr
      simp only [Result.ok.injEq] at hr
      rw [← hr.1] at hk
      simp only [Value.ownBlock, Option.some.injEq] at hk
      right; omega
theorem wpList_appn {ops : Array Oper} {rest : List Oper} {o : Oper} {a : Act} {w : World} {Q : Exit → Act → World → Prop} (hw : Region.wanted o (yielded ops a.tmps) = true) (s x : Operand) (t : TypeId)
    (ho : o.op = .call { callee := .builtin .append, args := #[s, x], argTypes := #[t, t] })
    (base : Nat) (e : TypeId) (i : TypeInfo) (z : Value) (ht : Try.prog.underlying t = some (.slice e)) (hi : Try.prog.info? e = some i) (hz : i.zero = some z)
    (hsize : i.size = 1) (hzs : z.cells.size = 1)
    (v : Value) (n : Nat) (xs : List Value) (hs : a.eval s = v) (hown : w.ownsRow base e 1 v n xs)
    (ao : Option Addr) (m c : Nat) (news : List Value) (hx : a.eval x = .slice ao m c) (hl : news.length = m) (hnone : ao = none → m = 0 ∧ c = 0)
    (hnews : ∀ ad, ao = some ad → ∀ j u, news[j]? = some u → w.cell? (ad.add j) = some u) (h1 : ∀ u ∈ news, u.oneCell' = true)
    (h63 : n + m ≤ maxLen) (hbytes : (n + m) * i.bytes ≤ 140737488355328) (hbase : base ≤ w.heap.size)
    (h : ∀ v' w', w'.ownsRow base e 1 v' (n + m) (xs ++ news) → w.grownBy w' v.ownBlock → (∀ k, v'.ownBlock = some k → v.ownBlock = some k ∨ w.heap.size ≤ k) → wpList Try.prog ops Q rest (a.put o.dst v') w') : wpList Try.prog ops Q (o :: rest) a w := by
  refine wpList_step fun K hK => ?_
  rw [if_pos hw]
  cases ao with
  | some ad =>
    obtain ⟨v', w', hr, h2, h3, -⟩ := run_append_own (P := Try.prog) w base t o.type e i z 1 i.bytes ht hi hz hsize rfl hzs (by omega) v n xs hown ad m c news (by omega) (hnews ad rfl) h1 h63 hbytes hbase
    have h4 := app_new base t o.type e i z ht hi hz hsize v n xs hown ad m c news hl (hnews ad rfl) h1 h63 hbytes v' w' hr
    unfold Oper.wp
    simp [execOp, ho, resolve, invoke, builtin, hs, hx, hr, Result.andThen]
    exact hK _ _ (h v' w' h2 h3 h4)
  | none =>
    obtain ⟨rfl, rfl⟩ := hnone rfl
    have hn : news = [] := List.eq_nil_of_length_eq_zero hl
    subst hn
    have hrun := run_append_owned_none (P := Try.prog) (w := w) base t o.type e i 1 ht hi v n xs hown
    unfold Oper.wp
    simp [execOp, ho, resolve, invoke, builtin, hs, hx, hrun, Result.andThen]
    exact hK _ _ (h v w (by simpa using hown) (World.grownBy.refl _ _) (fun _ h => .inl h))

theorem bs_cells {w : World} {ao : Option Addr} {m c : Nat} {l : List UInt8} (h : Bytes w ao m c l) : ∀ ad, ao = some ad → ∀ j u, (bs l)[j]? = some u → w.cell? (ad.add j) = some u := h.cells

set_option maxHeartbeats 400000 in
theorem clone_any (ao : Option Addr) (m c : Nat) (l : List UInt8) (w : World) (hB : Bytes w ao m c l) (hm : m ≤ 1048576) :
    Calls Try.prog 35 #[.slice ao m c] w fun e w' => ∃ v, e = .returned v ∧ w'.ownsRow w.heap.size 5 1 v m (bs l) ∧ Below w.heap.size w w' := by
  obtain ⟨i0, hi, hz0, hz1, hz2⟩ := info_parts info5
  cases ao with
  | none =>
    obtain ⟨rfl, rfl⟩ := hB.none rfl
    have hl : l = [] := List.eq_nil_of_length_eq_zero hB.len
    subst hl
    have heq := fun w : World => Lib.run_eql_slice_nil (P := Try.prog) w 54 5 none 0 0 0 0 Try.underlying54
    go_enter Try.func35, Try.ntmps35
    go_wp2
    go_ret
    exact ⟨_, rfl, World.ownsRow_nil _ _ _ _, Below.refl _ _⟩
  | some ad =>
    have hE := own_empty w w.heap.size (Nat.le_refl _) 5
    have hB1 := hB.below ((Below.refl _ w).alloc (Nat.le_refl _) (Obj.cells #[] 5)) (Nat.le_refl _)
    have HB : Hid _ := (Below.refl _ w).alloc (Nat.le_refl _) (Obj.cells #[] 5)
    have heq := fun w : World => Lib.run_eql_slice_nil (P := Try.prog) w 54 5 (some ad) m c 0 0 Try.underlying54
    go_enter Try.func35, Try.ntmps35
    go_wp2_with (refine wpList_appn rfl _ _ 54 rfl w.heap.size 5 i0 (.int .u8 0) Try.underlying54 hi hz0 hz1 rfl _ 0 [] rfl hE _ m c (bs l) rfl (by rw [bs_length]; exact hB.len) hB1.none hB1.cells (bs_oneCell l) (by unfold maxLen; omega) (by rw [hz2]; omega) (by simp) ?_)
    intro v' w' h1 h2 h3
    have hb := HB.out.grown h2 (by simp) (fun k hk => by simp only [Value.ownBlock, Option.some.injEq] at hk; omega)
    clear hE hB hB1 HB h2 h3
    go_wp2
    go_ret
    exact ⟨v', rfl, h1, hb⟩

set_option maxHeartbeats 400000 in
theorem bytes_any (p : Option Addr) (base g : Nat) (v : Value) (l : List UInt8) (f r : Nat) (w w1 : World) (hz : Orz w p g w1) (h : Dsk w1 base g v l f r) :
    Calls Try.prog 22 #[.pointer p] w fun e w' => ∃ v', e = .returned v' ∧ w'.ownsRow w1.heap.size 5 1 v' l.length (bs l) ∧ Below w1.heap.size w1 w' := by
  have hc := h.c0
  have hl := h.len
  have ht := h.top
  obtain ⟨ao, cap, rfl, hB, -⟩ := h.val
  clear h
  generalize hn : l.length = n at *
  go_enter Try.func22, Try.ntmps22
  go_wp2_with fail
  refine Calls.mono hz ?_
  rintro e w2 ⟨rfl, rfl⟩
  go_wp2_with fail
  refine (clone_any _ _ _ _ _ hB (by omega)).mono ?_
  rintro e w3 ⟨v', rfl, h1, h2⟩
  clear hB
  go_wp2
  go_ret
  exact ⟨v', rfl, h1, h2⟩

set_option maxHeartbeats 1000000 in
theorem append_full (p ao : Option Addr) (m c base g : Nat) (v : Value) (l : List UInt8) (f r : Nat) (w w1 : World) (hz : Orz w p g w1) (h : Dsk w1 base g v l f r) (hm : r < l.length + m) (hm2 : m ≤ maxLen) :
    Calls Try.prog 26 #[.pointer p, .slice ao m c] w fun e w' => e = .returned (.int .i64 9) ∧ Dsk w' base g v l f r ∧ Step g v v w1 w' := by
  have hc0 := h.c0
  have hc2 := h.c2
  have hl := h.len
  have ht := h.top
  obtain ⟨a1, cap, rfl, -, -⟩ := h.val
  have H : Hid _ := h
  clear h
  have hlt : (r : Int) - (l.length : Int) < (m : Int) := by omega
  generalize hn : l.length = n at *
  unfold maxLen at hm2
  go_enter Try.func26, Try.ntmps26
  go_wp2_with fail
  refine Calls.mono hz ?_
  rintro e w2 ⟨rfl, rfl⟩
  go_wp2_with fail
  go_quiet (fail)
  go_wp2
  go_ret
  exact ⟨rfl, H.out.below (drawn _ _) (Nat.le_refl _), Step.quiet _ _ (drawn _ _)⟩

set_option maxHeartbeats 1000000 in
theorem append_ok (p ao : Option Addr) (m c base g : Nat) (v : Value) (l b : List UInt8) (f r : Nat) (w w1 : World) (hz : Orz w p g w1) (h : Dsk w1 base g v l f r) (hB : Bytes w1 ao m c b) (hm : l.length + m ≤ r) (hbase : base ≤ w1.heap.size) :
    Calls Try.prog 26 #[.pointer p, .slice ao m c] w fun e w' => e = .returned (.int .i64 0) ∧ ∃ v', Dsk w' base g v' (l ++ b) f r ∧ Step g v v' w1 w' := by
  obtain ⟨i0, hi, hz0, hz1, hz2⟩ := info_parts info5
  have hc0 := h.c0
  have hc2 := h.c2
  have hl := h.len
  have ht := h.top
  obtain ⟨a1, cap, rfl, -, -⟩ := h.val
  have H : Hid _ := h
  clear h
  have hlt : ¬ (r : Int) - (l.length : Int) < (m : Int) := by omega
  have hbl := hB.len
  have HB : Hid _ := hB
  clear hB
  generalize hn : l.length = n at *
  go_enter Try.func26, Try.ntmps26
  go_wp2_with fail
  refine Calls.mono hz ?_
  rintro e w2 ⟨rfl, rfl⟩
  go_wp2_with fail
  go_quiet (fail)
  have hd := drawn w2 nq
  have hDk := H.out.below hd (Nat.le_refl _)
  have hBk := HB.out.below hd (Nat.le_refl _)
  have hSt := Step.quiet g (.slice a1 n cap) hd
  have hbase' : base ≤ (w2.drewN nq).heap.size := Nat.le_trans hbase hd.size
  clear hc0 hc2 H HB hd
  generalize w2.drewN nq = w3 at *
  have hc0 := hDk.c0
  have hrow := hDk.row
  rw [hn] at hrow
  go_wp2_with (refine wpList_appn rfl _ _ 54 rfl base 5 i0 (.int .u8 0) Try.underlying54 hi hz0 hz1 rfl _ n (bs l) rfl hrow _ m c (bs b) rfl (by rw [bs_length]; exact hbl) hBk.none hBk.cells (bs_oneCell b) (by unfold maxLen; omega) (by rw [hz2]; omega) hbase' ?_)
  intro v' w4 h1 h2 h3
  rw [← bs_append] at h1
  have hlen : (l ++ b).length = n + m := by rw [List.length_append]; omega
  have hgne : v'.ownBlock ≠ some g := by
    intro e
    rcases h3 g e with h4 | h4
    · exact hDk.notown h4
    · have := hDk.lt; omega
  have hblk : w4.heap[g]? = some (.cells #[.slice a1 n cap, .int .i64 (f : Int), .int .i64 (r : Int)] 69 (0, 0)) := by
    rw [h2.block g hDk.lt (fun e => hDk.notown e.symm)]
    exact hDk.blk
  have d0 : w4.cell? ⟨g, 0, none⟩ = some (.slice a1 n cap) := cell_of_row w4 g 0 _ _ _ hblk
  have d1 : w4.frozen? ⟨g, 0, none⟩ = false := frozen_of_row w4 g 0 _ _ hblk
  have HD : Hid (Dsk (w4.setCell ⟨g, 0, none⟩ v') base g v' (l ++ b) f r) :=
    ⟨set_three0 w4 g _ _ _ _ _ hblk, row_off (by rw [hlen]; exact h1) hgne, hDk.low, by omega, ht⟩
  have HS : Hid (Step g (.slice a1 n cap) v' w2 (w4.setCell ⟨g, 0, none⟩ v')) := by
    refine hSt.trans ⟨h2.os, h2.tape, h2.output, by rw [setCell_size]; exact h2.size, fun k hk hg hv => ?_, h3⟩
    rw [Below.heap_setCell w4 _ _ k hg]
    exact h2.block k hk (fun e => hv e.symm)
  have hv1 : ∃ a2 c2, v' = .slice a2 (n + m) c2 := by
    rcases h1.2 with ⟨h, h0⟩ | ⟨g', cap', cur, h, _⟩
    · exact ⟨none, 0, by rw [h, h0]⟩
    · exact ⟨_, _, h⟩
  obtain ⟨a2, c2, rfl⟩ := hv1
  clear hc0 hrow hDk hBk hSt h1 h2 h3 hgne hblk
  go_wp2
  go_ret
  exact ⟨rfl, _, HD.out, HS.out⟩

set_option maxHeartbeats 1000000 in
theorem replace_full (p ao : Option Addr) (m c base g : Nat) (v : Value) (l : List UInt8) (f r : Nat) (w w1 : World) (hz : Orz w p g w1) (h : Dsk w1 base g v l f r) (hm : r < m) :
    Calls Try.prog 21 #[.pointer p, .slice ao m c] w fun e w' => e = .returned (.int .i64 9) ∧ w' = w1 := by
  have hc2 := h.c2
  have ht := h.top
  clear h
  have hlt : (r : Int) < (m : Int) := by omega
  go_enter Try.func21, Try.ntmps21
  go_wp2_with fail
  refine Calls.mono hz ?_
  rintro e w2 ⟨rfl, rfl⟩
  go_wp2
  go_ret
  exact ⟨rfl, rfl⟩

set_option maxHeartbeats 1000000 in
theorem replace_ok (p ao : Option Addr) (m c base g : Nat) (v : Value) (l b : List UInt8) (f r : Nat) (w w1 : World) (hz : Orz w p g w1) (h : Dsk w1 base g v l f r) (hB : Bytes w1 ao m c b) (hm : m ≤ r) (hbase : base ≤ w1.heap.size) :
    Calls Try.prog 21 #[.pointer p, .slice ao m c] w fun e w' => e = .returned (.int .i64 0) ∧ ∃ v', Dsk w' base g v' b b.length r ∧ Step g v v' w1 w' := by
  have hc2 := h.c2
  have ht := h.top
  have hbl := hB.len
  have H : Hid _ := h
  clear h
  have hlt : ¬ (r : Int) < (m : Int) := by omega
  go_enter Try.func21, Try.ntmps21
  go_wp2_with fail
  refine Calls.mono hz ?_
  rintro e w2 ⟨rfl, rfl⟩
  go_wp2_with fail
  refine (clone_any _ _ _ _ _ hB (by omega)).mono ?_
  rintro e w3 ⟨v', rfl, h1, h2⟩
  have hD := H.out.below h2 (Nat.le_refl _)
  have hv' := h1.lt
  have hgne : v'.ownBlock ≠ some g := fun e => by have := hv' g e; have := H.out.lt; omega
  have d0 := hD.c0
  have d1 := hD.fz 0
  have hD2 := hD.filed (l' := b) (own_lower (by rw [hbl]; exact h1) hbase) hgne (by omega)
  have HS : Hid (Step g v v' w2 (w3.setCell ⟨g, 0, none⟩ v')) := by
    refine ⟨h2.os, h2.tape, h2.output, by rw [setCell_size]; exact h2.size, fun k hk hg _ => ?_, fun k hk => .inr (hv' k hk).1⟩
    rw [Below.heap_setCell w3 _ _ k hg]
    exact h2.block k hk
  have hv1 : ∃ a2 c2, v' = .slice a2 m c2 := by
    rcases h1.2 with ⟨h, h0⟩ | ⟨g', cap', cur, h, _⟩
    · exact ⟨none, 0, by rw [h, h0]⟩
    · exact ⟨_, _, h⟩
  obtain ⟨a2, c2, rfl⟩ := hv1
  clear hD h1 h2 hB hc2 hv'
  go_wp2_with fail
  refine (sync_any _ _ _ _ _ _ _ _ _ (orz_some g _) hD2).mono ?_
  rintro e w4 ⟨rfl, h3, h4⟩
  clear d0 d1 hD2
  go_wp2
  go_ret
  exact ⟨rfl, _, h3, HS.out.trans h4⟩

set_option maxHeartbeats 1000000 in
theorem cut_arg (p : Option Addr) (x : Int) (base g : Nat) (v : Value) (l : List UInt8) (f r : Nat) (w w1 : World) (hz : Orz w p g w1) (h : Dsk w1 base g v l f r) (hx : x < 0 ∨ (l.length : Int) < x) :
    Calls Try.prog 34 #[.pointer p, .int .i64 x] w fun e w' => e = .returned (.int .i64 1) ∧ w' = w1 := by
  have hc0 := h.c0
  have hl := h.len
  have ht := h.top
  obtain ⟨a1, cap, rfl, -, -⟩ := h.val
  clear h
  generalize l.length = n at *
  rcases hx with hx | hx
  · go_enter Try.func34, Try.ntmps34
    go_wp2_with fail
    refine Calls.mono hz ?_
    rintro e w2 ⟨rfl, rfl⟩
    go_wp2
    go_ret
    exact ⟨rfl, rfl⟩
  · have hx' : ¬ x < 0 := by omega
    go_enter Try.func34, Try.ntmps34
    go_wp2_with fail
    refine Calls.mono hz ?_
    rintro e w2 ⟨rfl, rfl⟩
    go_wp2
    go_ret
    exact ⟨rfl, rfl⟩

/-- A file's beginning is its file. -/
theorem Dsk.cut {w : World} {base g f r : Nat} {ao : Option Addr} {n cap : Nat} {l : List UInt8} (h : Dsk w base g (.slice ao n cap) l f r) (hn : l.length = n) (k : Nat) (hk : k ≤ n) :
    Dsk (w.setCell ⟨g, 0, none⟩ (.slice ao k cap)) base g (.slice ao k cap) (l.take k) f r := by
  have hlk : (l.take k).length = k := by rw [List.length_take]; omega
  have hown : (Value.slice ao k cap).ownBlock = (Value.slice ao n cap).ownBlock := by cases ao <;> rfl
  refine h.filed ?_ (by rw [hown]; exact h.notown) (by have := h.len; omega)
  have hr := h.row
  rw [hn] at hr
  rw [hlk]
  rcases hr.2 with ⟨h', h0⟩ | ⟨g', cap', cur, h', _⟩
  · simp only [Value.slice.injEq] at h'
    obtain ⟨rfl, rfl, rfl⟩ := h'
    obtain rfl : k = 0 := by omega
    rw [List.take_zero]
    exact World.ownsRow_nil _ _ _ _
  · simp only [Value.slice.injEq, true_and] at h'
    obtain ⟨rfl, rfl⟩ := h'
    exact own_cut k hk hr
theorem Step.cut {w : World} {g n k cap : Nat} {ao : Option Addr} : Step g (.slice ao n cap) (.slice ao k cap) w (w.setCell ⟨g, 0, none⟩ (.slice ao k cap)) :=
  ⟨rfl, rfl, rfl, Nat.le_of_eq (setCell_size _ _ _).symm, fun i _ hg _ => Below.heap_setCell w _ _ i hg, fun i h => .inl (by cases ao <;> exact h)⟩

set_option maxHeartbeats 1000000 in
theorem cut_ok (p : Option Addr) (k base g : Nat) (v : Value) (l : List UInt8) (f r : Nat) (w w1 : World) (hz : Orz w p g w1) (h : Dsk w1 base g v l f r) (hk : k ≤ l.length) :
    Calls Try.prog 34 #[.pointer p, .int .i64 (k : Int)] w fun e w' => e = .returned (.int .i64 0) ∧ ∃ v', Dsk w' base g v' (l.take k) k r ∧ Step g v v' w1 w' := by
  have hc0 := h.c0
  have hf0 := h.fz 0
  have hl := h.len
  have ht := h.top
  obtain ⟨a1, cap, rfl, hB, hcap⟩ := h.val
  have hroom := hB.room
  clear hB
  have hD := h.cut rfl k hk
  have hlk : (l.take k).length = k := by rw [List.length_take]; omega
  unfold maxLen at hcap
  clear h
  generalize hn : l.length = n at *
  have hx' : ¬ (k : Int) < 0 := by omega
  have hx2 : ¬ (n : Int) < (k : Int) := by omega
  go_enter Try.func34, Try.ntmps34
  go_wp2_with fail
  refine Calls.mono hz ?_
  rintro e w2 ⟨rfl, rfl⟩
  go_wp2_with fail
  refine (sync_any _ _ _ _ _ _ _ _ _ (orz_some g _) hD).mono ?_
  rintro e w4 ⟨rfl, h3, h4⟩
  rw [hlk] at h3
  clear hc0 hf0 hD
  go_wp2
  go_ret
  exact ⟨rfl, _, h3, Step.cut.trans h4⟩
end Go.Proofs.Ythdhnilfkpbmpaa
