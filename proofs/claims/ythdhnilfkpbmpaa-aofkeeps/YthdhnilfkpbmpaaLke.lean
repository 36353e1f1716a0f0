/-
  AofKeeps, walked.
-/
import Derived.Test.YthdhnilfkpbmpaaLcr
namespace Go.Proofs.Ythdhnilfkpbmpaa
set_option maxRecDepth 100000
set_option linter.unusedVariables false
open Go.RowKit

theorem evs_set : ∀ {L : List Ev} (k : Nat) (x : Int), (∀ e ∈ L, Wide e) → k < L.length → ∃ L', L'.length = L.length ∧ (∀ e ∈ L', Wide e) ∧ (evs L).set (k * 26 + 2) (.int .i64 x) = evs L'
  | [], k, x, _, hk => by simp at hk
  | e :: L, 0, x, h, _ => by
    have hw := h e (by simp)
    refine ⟨{ e with t := x } :: L, by simp, fun y hy => ?_, ?_⟩
    · rcases List.mem_cons.1 hy with rfl | hy
      · exact ⟨hw.1, ⟨hw.2.k, hw.2.f, hw.2.v⟩⟩
      · exact h y (by simp [hy])
    · have e1 : ∀ e : Ev, evs (e :: L) = evl e ++ evs L := fun e => by simp [evs]
      rw [e1, e1, List.set_append_left _ _ (by rw [evl_length e hw.1]; omega)]
      rfl
  | e :: L, k + 1, x, h, hk => by
    obtain ⟨L', h1, h2, h3⟩ := evs_set (L := L) k x (fun y hy => h y (by simp [hy])) (by simpa using hk)
    have hw := h e (by simp)
    refine ⟨e :: L', by simp [h1], fun y hy => ?_, ?_⟩
    · rcases List.mem_cons.1 hy with rfl | hy
      · exact hw
      · exact h2 y hy
    · have e1 : ∀ L : List Ev, evs (e :: L) = evl e ++ evs L := fun L => by simp [evs]
      rw [e1, e1, List.set_append_right _ _ (by rw [evl_length e hw.1]; omega), evl_length e hw.1, show (k + 1) * 26 + 2 - 26 = k * 26 + 2 by omega, h3]
/-- A list of some events. -/
def Own (w : World) (B : Nat) (v : Value) (n : Nat) : Prop := ∃ L : List Ev, L.length = n ∧ (∀ e ∈ L, Wide e) ∧ Row w B v L
theorem Own.set {w : World} {B g n c : Nat} (h : Own w B (.slice (some ⟨g, 0, none⟩) n c) n) {k : Nat} (hk : k < n) :
    (∃ t, w.cell? ⟨g, k * 26 + 2, none⟩ = some (.int .i64 t)) ∧ w.frozen? ⟨g, k * 26 + 2, none⟩ = false ∧ ∀ x : Int, Own (w.setCell ⟨g, k * 26 + 2, none⟩ (.int .i64 x)) B (.slice (some ⟨g, 0, none⟩) n c) n := by
  obtain ⟨L, h1, h2, h3⟩ := h
  obtain ⟨e, he⟩ : ∃ e, L[k]? = some e := ⟨_, List.getElem?_eq_getElem (by omega)⟩
  refine ⟨⟨e.t, ?_⟩, ?_, fun x => ?_⟩
  · have := h3.cells (g := g) rfl _ _ (evs_at h2 k e he 2 (.int .i64 e.t) rfl)
    rw [Addr.add_lit, Nat.zero_add] at this
    exact this
  · obtain ⟨cur, hc⟩ := own_blk h3 (k := g) rfl
    exact frozen_of_row w g _ _ _ hc
  · obtain ⟨L', h4, h5, h6⟩ := evs_set k x h2 (by omega)
    refine ⟨L', by omega, h5, ?_⟩
    have h3' : w.ownsRow B 30 26 (.slice (some ⟨g, 0, none⟩) n c) n (evs L) := by have := h3; unfold Row at this; rw [h1] at this; exact this
    have h7 := (h3'.stored (k * 26 + 2) (.int .i64 x)).1
    rw [h6] at h7
    show World.ownsRow _ B 30 26 _ L'.length (evs L')
    rw [h4, h1]
    exact h7
theorem own_made {w : World} {B n c : Nat} {ao : Option Addr} (h : Own w B (.slice ao n c) n) (hn : 0 < n) : ∃ g, ao = some ⟨g, 0, none⟩ := by
  obtain ⟨L, h1, h2, h3⟩ := h
  rcases h3.2 with ⟨-, h0⟩ | ⟨g, cap, cur, hv, -⟩
  · omega
  · simp only [Value.slice.injEq] at hv
    exact ⟨g, hv.1⟩
theorem Lg.store {w : World} {base g k : Nat} {p : Option Addr} {v : Value} {b : Bool} {s : List UInt8} {E : List Ev} (h : Lg w base g p v b s E k) (q i : Nat) (x : Value) (h1 : q ≠ g) (h2 : v.ownBlock ≠ some q) : Lg (w.setCell ⟨q, i, none⟩ x) base g p v b s E k :=
  h.kept (fun j hj => Below.heap_setCell w _ _ j (by
    rcases hj with rfl | hj
    · exact fun e => h1 e.symm
    · exact fun e => h2 (by rw [hj, e])))
theorem below_store {w w' : World} {B : Nat} (h : Below B w w') (q i : Nat) (x : Value) (hq : B ≤ q) : Below B w (w'.setCell ⟨q, i, none⟩ x) :=
  ⟨h.os, h.tape, h.output, by rw [setCell_size]; exact h.size, fun j hj => by rw [Below.heap_setCell w' _ _ j (by show j ≠ q; omega)]; exact h.block j hj⟩

set_option maxHeartbeats 4000000 in
theorem keeps_walk (ao : Option Addr) (n cn : Nat) (L : List Ev) (s : List UInt8) (w : World) (hL : Evs w ao n cn L) (hs : s.length ≤ maxLen) :
    Calls Try.prog 5 #[.slice ao n cn, .string (sb s)] w fun e w' => e = .returned (.bool true) ∧ Below w.heap.size w w' := by
  have hsz : (sb s).size = s.length := sb_size s
  have hn9 : n ≤ 9223372036854775807 := by have := hL.room; have := hL.top; unfold maxLen at this; omega
  unfold maxLen at hs
  go_enter Try.func5, Try.ntmps5
  go_wp2_with fail
  refine (awake_any _).mono ?_
  rintro e w1 ⟨rfl, hb1⟩
  by_cases hn1 : 100 < n
  · have hn2 : (100 : Int) < (n : Int) := by omega
    go_wp2_with fail
    refine (awake_any _).mono ?_
    rintro e w3 ⟨rfl, hb3⟩
    go_wp2
    go_ret
    exact ⟨rfl, hb1.trans (hb3.mono hb1.size)⟩
  have hn2 : ¬ (100 : Int) < (n : Int) := by omega
  by_cases hs1 : 1000 < s.length
  · have hs2 : (1000 : Int) < (s.length : Int) := by omega
    go_wp2_with fail
    refine (awake_any _).mono ?_
    rintro e w3 ⟨rfl, hb3⟩
    go_wp2
    go_ret
    exact ⟨rfl, hb1.trans (hb3.mono hb1.size)⟩
  have hs2 : ¬ (1000 : Int) < (s.length : Int) := by omega
  have hL1 := hL.below hb1 (Nat.le_refl _)
  have hlen := hL.len
  clear hL
  go_wp2_with fail
  refine (kept_begun _).mono ?_
  rintro e w3 ⟨g, gd, vE, vd, rfl, hK, hb3⟩
  have hL3 := hL1.below hb3 (Nat.le_refl _)
  have hz := row_empty w3 w3.heap.size (Nat.le_refl _)
  have hbz : Below w3.heap.size w3 (w3.alloc (Obj.cells #[] 30)) := (Below.refl _ _).alloc (Nat.le_refl _) _
  have hL4 := hL3.below hbz (Nat.le_refl _)
  have HZ : Hid _ := hbz
  clear hbz
  go_wp2_with (refine wpList_appE rfl _ _ rfl w3.heap.size _ [] rfl hz _ n cn L rfl hL4 (by simp only [List.length_nil]; omega) (by simp) ?_)
  intro vO w4 hO hgO hoO
  have hb4 : Below w3.heap.size w3 w4 := HZ.out.grown hgO (by simp) (fun k hk => by simp only [Value.ownBlock, Option.some.injEq] at hk; omega)
  have hwL := hL3.wide
  obtain ⟨aO, cO, rfl, hEO⟩ := Row.evs hO hwL
  rw [hlen] at hEO
  have hO' : Row w4 w3.heap.size (.slice aO n cO) L := by have := hO; rw [hlen] at this; exact this
  have hK4 := hK.below hb4 (Nat.le_refl _)
  have hoff : Off aO n g gd vE vd w4 := row_offs hO' hK.both.log.lt hK.both.dsk.lt (fun j hj => (hK.both.log.own j hj).2.1) (fun j hj => (hK.both.dsk.own j hj).2.1)
  have hq : ∀ j, (Value.slice aO n cO).ownBlock = some j → j < w4.heap.size ∧ j ≠ g ∧ j ≠ gd ∧ vE.ownBlock ≠ some j ∧ vd.ownBlock ≠ some j := fun j hj => by
    have h1 := hO'.lt j hj
    have h2 := hK.both.log.lt
    have h3 := hK.both.dsk.lt
    exact ⟨h1.2, by omega, by omega, fun e => by have := (hK.both.log.own j e).2.1; omega, fun e => by have := (hK.both.dsk.own j e).2.1; omega⟩
  have B4 : Below w1.heap.size w1 w4 := hb3.trans (hb4.mono hb3.size)
  have HR : Hid _ := rewrite_any s aO n cO L hK4.both B4.size hEO hoff (by omega) (by omega)
  rw [hlen]
  clear hz hL4 HZ hgO hoO hO hL3 hEO
  go_wp2_with fail
  refine Calls.mono HR.out ?_
  rintro e w5 (⟨err, herr, rfl, hB5, hM5⟩ | ⟨rfl, hf, vE', vd', hB5, hM5⟩)
  · have HB5 : Hid (Below w.heap.size w w5) := hb1.trans ((B4.trans (hK4.both.moved hM5 B4.size)).mono hb1.size)
    have he : err ≠ 0 := by rcases herr with h | h | ⟨h, -⟩ <;> omega
    have he1 : (err != 0) = true := by simpa using he
    have he2 : (err == 0) = false := by simpa using he
    clear HR hK4 hK hM5 hB5 B4 herr
    go_wp2
    go_ret
    exact ⟨rfl, HB5.out⟩
  have B5 : Below w1.heap.size w1 w5 := B4.trans (hK4.both.moved hM5 B4.size)
  have hoff5 := hoff.mv hM5
  have hown5 : Own w5 w3.heap.size (.slice aO n cO) n := ⟨L, hlen, hwL, own_same hO' (fun j hj => by
    obtain ⟨h1, h2, h3, h4, h5⟩ := hq j hj
    exact hM5.block _ h1 h2 h3 h4 h5)⟩
  have hLg5 := hB5.log
  have hlow : w1.heap.size ≤ w3.heap.size := hb3.size
  clear HR hK4 hK hM5 hB5 B4 hoff hO' hb4 hq
  go_wp2_with fail
  go_loopw [44] (fun i wr => ∃ k : Nat, k ≤ n ∧ i = .int .i64 (k : Int) ∧ Own wr w3.heap.size (.slice aO n cO) n ∧ Lg wr w1.heap.size g (some ⟨gd, 0, none⟩) vE' true s L L.length ∧ Below w1.heap.size w1 wr) (fun i _ => n - (intOf i).toNat)
  case atStart => exact ⟨0, Nat.zero_le _, rfl, hown5, hLg5, B5⟩
  case round =>
    obtain ⟨k, hk, rfl, hown, hLg, hB⟩ := hrel
    clear hown5 hLg5 B5
    by_cases hkn : k < n
    · obtain ⟨gO, rfl⟩ := own_made hown (by omega)
      obtain ⟨⟨t, ct⟩, cf, hset⟩ := hown.set hkn
      obtain ⟨h1, h2, h3, h4, h5⟩ := hoff5 (by omega) _ rfl
      simp only [] at h1 h2 h3 h4 h5
      have hlo : w3.heap.size ≤ gO := by
        obtain ⟨L', -, -, hr⟩ := hown
        exact (hr.lt gO rfl).1
      have HO : Hid (∀ x : Int, Own (wr.setCell ⟨gO, k * 26 + 2, none⟩ (.int .i64 x)) w3.heap.size (.slice (some ⟨gO, 0, none⟩) n cO) n ∧ Lg (wr.setCell ⟨gO, k * 26 + 2, none⟩ (.int .i64 x)) w1.heap.size g (some ⟨gd, 0, none⟩) vE' true s L L.length ∧ Below w1.heap.size w1 (wr.setCell ⟨gO, k * 26 + 2, none⟩ (.int .i64 x))) :=
        fun x => ⟨hset x, hLg.store gO _ _ h2 h4, below_store hB gO _ _ (by omega)⟩
      clear hset hown hLg hB
      go_wp2
      go_roundw
      case rel => exact ⟨k + 1, by omega, by go_num, HO.out _⟩
      case measure => simp [intOf]; omega
    · obtain rfl : k = n := by omega
      clear hown
      go_wp2_with fail
      refine (events_any _ _ _ _ _ _ _ _ _ _ _ (lorz_some g _) hLg).mono ?_
      rintro e w6 ⟨v6, rfl, hr6, hb6⟩
      have hL6 := hLg.below hb6 (Nat.le_refl _)
      have B6 := hB.trans (hb6.mono hB.size)
      obtain ⟨aX, cX, rfl, -⟩ := Row.evs hr6 hwL
      have hglt := hLg.lt
      have hvlt := fun j hj => (hLg.own j hj).2.1
      have hown6 : Own w6 wr.heap.size (.slice aX k cX) k := ⟨L, hlen, hwL, by have := hr6; rw [hlen] at this; exact this⟩
      have hlow6 : w1.heap.size ≤ wr.heap.size := hB.size
      rw [hlen]
      clear hLg hB hb6 hr6
      generalize wr.heap.size = N at *
      go_wp2_with fail
      go_loopw [60] (fun i wr' => ∃ j : Nat, j ≤ k ∧ i = .int .i64 (j : Int) ∧ Own wr' N (.slice aX k cX) k ∧ Lg wr' w1.heap.size g (some ⟨gd, 0, none⟩) vE' true s L L.length ∧ Below w1.heap.size w1 wr') (fun i _ => k - (intOf i).toNat)
      case atStart => exact ⟨0, Nat.zero_le _, rfl, hown6, hL6, B6⟩
      case round =>
        obtain ⟨j, hj, rfl, hown, hLg, hB⟩ := hrel
        clear hown6 hL6 B6
        by_cases hjn : j < k
        · obtain ⟨gO, rfl⟩ := own_made hown (by omega)
          obtain ⟨⟨t, ct⟩, cf, hset⟩ := hown.set hjn
          have hlo : N ≤ gO := by
            obtain ⟨L', -, -, hr⟩ := hown
            exact (hr.lt gO rfl).1
          have HO : Hid (∀ x : Int, Own (wr.setCell ⟨gO, j * 26 + 2, none⟩ (.int .i64 x)) N (.slice (some ⟨gO, 0, none⟩) k cX) k ∧ Lg (wr.setCell ⟨gO, j * 26 + 2, none⟩ (.int .i64 x)) w1.heap.size g (some ⟨gd, 0, none⟩) vE' true s L L.length ∧ Below w1.heap.size w1 (wr.setCell ⟨gO, j * 26 + 2, none⟩ (.int .i64 x))) :=
            fun x => ⟨hset x, hLg.store gO _ _ (by omega) (fun e => by have := hvlt gO e; omega), below_store hB gO _ _ (by omega)⟩
          clear hset hown hLg hB
          go_wp2
          go_roundw
          case rel => exact ⟨j + 1, by omega, by go_num, HO.out _⟩
          case measure => simp [intOf]; omega
        · obtain rfl : j = k := by omega
          clear hown
          go_wp2_with fail
          refine (events_any _ _ _ _ _ _ _ _ _ _ _ (lorz_some g _) hLg).mono ?_
          rintro e w7 ⟨v7, rfl, hr7, hb7⟩
          have B7 := hB.trans (hb7.mono hB.size)
          obtain ⟨a7, c7, rfl, hE7⟩ := Row.evs hr7 hwL
          have hE1 := hL1.below B7 (Nat.le_refl _)
          rw [hlen] at hE7 ⊢
          have HS : Hid _ := same_yes a7 ao j c7 cn L w7 hE7 hE1 (by omega)
          clear hr7 hb7 hE7 hE1 hLg hB
          go_wp2_with fail
          refine Calls.mono HS.out ?_
          rintro e w8 ⟨rfl, hb8⟩
          have HB : Hid (Below w.heap.size w w8) := hb1.trans ((B7.trans (hb8.mono B7.size)).mono hb1.size)
          clear HS hb8 B7
          go_wp2
          go_ret
          exact ⟨rfl, HB.out⟩
end Go.Proofs.Ythdhnilfkpbmpaa
