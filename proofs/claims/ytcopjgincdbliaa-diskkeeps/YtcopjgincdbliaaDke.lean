/-
  DiskKeeps: what goes in and comes out is memory of its own. For every input.
-/
import Derived.Test.YtcopjgincdbliaaDpa
namespace Go.Proofs.Ytcopjgincdbliaa
open Go.RowKit

/-- Bytes of the call's own, that were made of a text: whatever they hold. -/
def Raw (w : World) (g n : Nat) : Prop := ∃ cur : Array Value, w.heap[g]? = some (.cells cur 5 (cur.size, cur.size + 1)) ∧ n ≤ cur.size ∧ ∀ j, j < n → ∃ c : Nat, c < 256 ∧ cur[j]? = some (.int .u8 (c : Int))
theorem Raw.lt {w : World} {g n : Nat} (h : Raw w g n) : g < w.heap.size := by
  obtain ⟨cur, h1, -⟩ := h
  exact (Array.getElem?_eq_some_iff.1 h1).1
theorem Raw.cell {w : World} {g n j : Nat} (h : Raw w g n) (hj : j < n) : ∃ c : Nat, c < 256 ∧ w.cell? ⟨g, j, none⟩ = some (.int .u8 (c : Int)) := by
  obtain ⟨cur, h1, h2, h3⟩ := h
  obtain ⟨c, hc, hv⟩ := h3 j hj
  exact ⟨c, hc, by rw [cell_of_row w g j cur _ _ h1]; exact hv⟩
theorem Raw.fz {w : World} {g n j : Nat} (h : Raw w g n) (hj : j < n) : w.frozen? ⟨g, j, none⟩ = false := by
  obtain ⟨cur, h1, h2, -⟩ := h
  unfold World.frozen?
  rw [h1]
  simp only [Bool.and_eq_false_iff, decide_eq_false_iff_not]
  left; omega
theorem Raw.set {w : World} {g n j : Nat} (h : Raw w g n) (c : Nat) (hc : c < 256) : Raw (w.setCell ⟨g, j, none⟩ (.int .u8 (c : Int))) g n := by
  obtain ⟨cur, h1, h2, h3⟩ := h
  refine ⟨cur.setIfInBounds j (.int .u8 (c : Int)), ?_, by rw [Array.size_setIfInBounds]; exact h2, fun i hi => ?_⟩
  · rw [setCell_eq_setRow w g j cur _ _ _ h1, Array.size_setIfInBounds]
    exact setRow_heap w g cur _ _ _ h1
  · rw [Array.getElem?_setIfInBounds]
    by_cases e : j = i
    · subst e
      rw [if_pos rfl, if_pos (by omega)]
      exact ⟨c, hc, rfl⟩
    · rw [if_neg e]
      exact h3 i hi
theorem Raw.same {w w' : World} {g n : Nat} (h : Raw w g n) (hb : w'.heap[g]? = w.heap[g]?) : Raw w' g n := by
  obtain ⟨cur, h1, h2⟩ := h
  exact ⟨cur, by rw [hb]; exact h1, h2⟩
theorem grown_set (w : World) (g j : Nat) (x : Value) : w.grownBy (w.setCell ⟨g, j, none⟩ x) (some g) :=
  ⟨rfl, rfl, rfl, Nat.le_of_eq (setCell_size _ _ _).symm, fun k _ hk => Below.heap_setCell w _ _ k (fun e => hk (by rw [e]))⟩
theorem raw_bytes (s : ByteArray) (W : World) (hs : s.size ≤ maxLen) : ∃ cap W', (convert 9 38 (.string s)).run Try.prog W = .ok (.slice (some ⟨W.heap.size, 0, none⟩) s.size cap) W' ∧
    Bytes W' (some ⟨W.heap.size, 0, none⟩) s.size cap s.data.toList ∧ Raw W' W.heap.size s.size ∧ cap ≤ maxLen ∧ Below W.heap.size W W' ∧ W'.heap.size = W.heap.size + 1 := by
  have hr := run_bytes_of_string (P := Try.prog) W 9 38 5 s Try.underlying9 Try.underlying38 Try.underlying5
  obtain ⟨cap, W', h1, h2, h3, h4, h5⟩ := conv_bytes s W hs
  refine ⟨cap, W', h1, h2, ?_, h3, h4, h5⟩
  rw [hr] at h1
  simp only [Result.ok.injEq] at h1
  obtain ⟨-, rfl⟩ := h1
  refine ⟨_, heap_alloc_new W.drew _, ?_, fun j hj => ?_⟩
  · rw [bytesRow, Array.size_append, Array.size_map]
    have : s.data.size = s.size := rfl
    omega
  · have hj' : j < s.data.size := hj
    exact ⟨(s.data[j]).toNat, (s.data[j]).toNat_lt, bytesRow_at s _ j hj'⟩
theorem xor255 (x : Nat) (h : x < 256) : bits .xor .u8 (x : Int) 255 = ((255 - x : Nat) : Int) :=
  (by decide +kernel : ∀ c : Fin 256, bits .xor .u8 (c.val : Int) 255 = ((255 - c.val : Nat) : Int)) ⟨x, h⟩
theorem xor255u (x : Nat) (h : x < 256) : bits .xor .u8 (x : Int) 255 = (((UInt8.ofNat (255 - x)).toNat : Nat) : Int) := by
  rw [toNat_ofNat_lt _ (by omega), xor255 x h]

theorem Bytes.same {w w' : World} {b m c : Nat} {l : List UInt8} (h : Bytes w (some ⟨b, 0, .none⟩) m c l) (hb : w'.heap[b]? = w.heap[b]?) : Bytes w' (some ⟨b, 0, .none⟩) m c l :=
  ⟨h.len, h.room, h.none, fun ad had j u hu => by
    obtain rfl := Option.some.inj had
    have := h.cells _ rfl j u hu
    rw [← this]
    refine World.cell?_of_block ?_
    rw [Addr.add_lit]
    exact hb⟩
theorem Dsk.grown {w w' : World} {base g f r k : Nat} {v : Value} {l : List UInt8} (h : Dsk w base g v l f r) (hg : w.grownBy w' (some k)) (h1 : g ≠ k) (h2 : v.ownBlock ≠ some k) : Dsk w' base g v l f r :=
  h.kept fun i hi hor => hg.block i hi (fun e => by
    rcases hor with rfl | hv
    · exact h1 (Option.some.inj e)
    · exact h2 (by rw [hv, e]))

set_option maxHeartbeats 1000000 in
theorem keeps_long (a b : ByteArray) (ha : a.size ≤ 140737488351232) (hb : b.size ≤ 140737488351232) (h : 1000 < a.size + b.size) (w : World) :
    Calls Try.prog 6 #[.string a, .string b] w fun e w' => e = .returned (.bool true) ∧ Below w.heap.size w w' := by
  have h' : (1000 : Int) < (a.size : Int) + (b.size : Int) := by omega
  go_enter Try.func6, Try.ntmps6
  go_wp2_with fail
  refine (awake_any _).mono ?_
  rintro e w1 ⟨rfl, b1⟩
  go_wp2_with fail
  refine (awake_any _).mono ?_
  rintro e w2 ⟨rfl, b2⟩
  go_wp2
  go_ret
  exact ⟨rfl, b1.trans (b2.mono b1.size)⟩

set_option maxHeartbeats 4000000 in
theorem keeps_short (a b : ByteArray) (h : a.size + b.size ≤ 1000) (w : World) :
    Calls Try.prog 6 #[.string a, .string b] w fun e w' => e = .returned (.bool true) ∧ Below w.heap.size w w' := by
  have h' : ¬ (1000 : Int) < (a.size : Int) + (b.size : Int) := by omega
  go_enter Try.func6, Try.ntmps6
  go_wp2_with fail
  refine (awake_any _).mono ?_
  rintro e w1 ⟨rfl, b1⟩
  have s1 := b1.size
  go_wp2_with fail
  refine (new_ok 65536 w.heap.size _ s1).mono ?_
  rintro e w2 ⟨rfl, hD, b2, z2⟩
  rw [show held 65536 = 65536 by decide] at hD
  have B2 := b1.trans (b2.mono s1)
  have s2 := B2.size
  have hgl := hD.lt
  clear b1 b2 z2
  generalize w1.heap.size = g at *
  obtain ⟨cx, w3, hcv1, hX, rX, -, b3, z3⟩ := raw_bytes a w2 (by unfold maxLen; omega)
  obtain ⟨cy, w4, hcv2, hY, rY, -, b4, z4⟩ := raw_bytes b w3 (by unfold maxLen; omega)
  have hX4 := hX.below b4 (Nat.le_refl _)
  have rX4 : Raw w4 w2.heap.size a.size := rX.same (b4.block _ (by omega))
  have hD4 := (hD.below b3 (Nat.le_refl _)).below b4 (Nat.le_refl _)
  have B4 := (B2.trans (b3.mono s2)).trans (b4.mono (by omega))
  have s4 := B4.size
  have hxl : w2.heap.size < w4.heap.size := by omega
  have hyl : w3.heap.size < w4.heap.size := by omega
  have hgx : g ≠ w2.heap.size := by omega
  have hgy : g ≠ w3.heap.size := by omega
  have hxy : w2.heap.size ≠ w3.heap.size := by omega
  have hbx : w.heap.size ≤ w2.heap.size := s2
  have hby : w.heap.size ≤ w3.heap.size := by omega
  have hal := size_list a
  have hbl := size_list b
  clear hX rX hD b3 b4 B2 z3 z4 hgl s2 s1
  generalize w2.heap.size = gx at *
  generalize w3.heap.size = gy at *
  go_wp2_with fail
  refine (replace_ok _ _ _ _ _ _ _ _ _ _ _ _ _ (orz_some _ _) hD4 hX4 (by omega) s4).mono ?_
  rintro e w5 ⟨rfl, v1, hD5, s5⟩
  have B5 := B4.trans (hD4.stepBelow s5 s4)
  have hv1 : ∀ k, v1.ownBlock = some k → w4.heap.size ≤ k := fun k hk => by
    rcases s5.own k hk with h | h
    · cases h
    · exact h
  have rX5 := rX4.same (s5.block gx hxl hgx.symm (fun e => by cases e))
  have rY5 := rY.same (s5.block gy hyl hgy.symm (fun e => by cases e))
  have hY5 := hY.same (s5.block gy hyl hgy.symm (fun e => by cases e))
  have l5 := s5.size
  clear hX4 hcv1 hcv2 rX4 rY hY hD4 B4 s5
  go_wp2_with fail
  refine (append_ok _ _ _ _ _ _ _ _ _ _ _ _ _ (orz_some _ _) hD5 hY5 (by omega) (Nat.le_trans s4 l5)).mono ?_
  rintro e w6 ⟨rfl, v2, hD6, s6⟩
  have B6 := B5.trans (hD5.stepBelow s6 (Nat.le_trans s4 l5))
  have hv2 : ∀ k, v2.ownBlock = some k → w4.heap.size ≤ k := fun k hk => by
    rcases s6.own k hk with h | h
    · exact hv1 k h
    · omega
  have rX6 := rX5.same (s6.block gx (by omega) hgx.symm (fun e => by have := hv1 _ e; omega))
  have rY6 := rY5.same (s6.block gy (by omega) hgy.symm (fun e => by have := hv1 _ e; omega))
  have hvx : v2.ownBlock ≠ some gx := fun e => by have := hv2 _ e; omega
  have hvy : v2.ownBlock ≠ some gy := fun e => by have := hv2 _ e; omega
  clear rX5 rY5 hY5 hD5 B5 s6 hv1 hv2 l5 s4
  have hlen : (a.data.toList ++ b.data.toList).length = a.size + b.size := by rw [List.length_append, hal, hbl]
  rw [hal] at hD6
  generalize hL : a.data.toList ++ b.data.toList = L at *
  go_wp2_with fail
  go_loopw [42] (fun i wr => ∃ k : Nat, k ≤ a.size ∧ i = .int .i64 (k : Int) ∧ Raw wr gx a.size ∧ w6.grownBy wr (some gx)) (fun i _ => a.size - (intOf i).toNat)
  case atStart => exact ⟨0, by omega, rfl, rX6, World.grownBy.refl _ _⟩
  case round =>
    obtain ⟨k, hk, rfl, rX7, g7⟩ := hrel
    by_cases hlt : k < a.size
    · obtain ⟨c, hc, hcell⟩ := rX7.cell hlt
      have hfz := rX7.fz hlt
      have hx := xor255 c hc
      have Hr : Hid _ := rX7.set (j := k) (255 - c) (by omega)
      clear rX7 rX6
      go_wp2
      go_roundw
      case rel => exact ⟨k + 1, by omega, by go_num, Hr.out, grown_trans g7 (grown_set _ _ _ _)⟩
      case measure => simp [intOf]; omega
    · obtain rfl : k = a.size := by omega
      have hD7 := hD6.grown g7 hgx hvx
      have rY7 := rY6.same (g7.block gy rY6.lt (fun e => hxy (Option.some.inj e).symm))
      have B7 := B6.grown g7 B6.size (fun k hk => by cases hk; exact hbx)
      clear rX7 rX6 rY6 g7 hD6 B6
      go_wp2_with fail
      go_loopw [54] (fun i wq => ∃ k : Nat, k ≤ b.size ∧ i = .int .i64 (k : Int) ∧ Raw wq gy b.size ∧ wr.grownBy wq (some gy)) (fun i _ => b.size - (intOf i).toNat)
      case atStart => exact ⟨0, by omega, rfl, rY7, World.grownBy.refl _ _⟩
      case round =>
        obtain ⟨k, hk, rfl, rY8, g8⟩ := hrel
        by_cases hlt : k < b.size
        · obtain ⟨c, hc, hcell⟩ := rY8.cell hlt
          have hfz := rY8.fz hlt
          have hx := xor255 c hc
          have Hr : Hid _ := rY8.set (j := k) (255 - c) (by omega)
          clear rY8 rY7
          go_wp2
          go_roundw
          case rel => exact ⟨k + 1, by omega, by go_num, Hr.out, grown_trans g8 (grown_set _ _ _ _)⟩
          case measure => simp [intOf]; omega
        · obtain rfl : k = b.size := by omega
          have hD8 := hD7.grown g8 hgy hvy
          have B8 := B7.grown g8 B7.size (fun k hk => by cases hk; exact hby)
          clear rY7 rY8 g8 hD7 B7
          go_wp2_with fail
          refine (bytes_any _ _ _ _ _ _ _ _ _ (orz_some _ _) hD8).mono ?_
          rintro e w9 ⟨v9, rfl, h9, b9⟩
          rw [hlen] at h9
          obtain ⟨ao, c9, rfl⟩ := own_slice h9
          have hn9 : a.size + b.size ≤ 1000 := h
          generalize hN : a.size + b.size = n at *
          go_wp2_with fail
          go_loopw [68] (fun i wq => ∃ (k : Nat) (l' : List UInt8), k ≤ n ∧ i = .int .i64 (k : Int) ∧ wq.ownsRow wr.heap.size 5 1 (.slice ao n c9) n (bs l') ∧ w9.grownBy wq (Value.slice ao n c9).ownBlock) (fun i _ => n - (intOf i).toNat)
          case atStart => exact ⟨0, L, by omega, rfl, h9, World.grownBy.refl _ _⟩
          case round =>
            obtain ⟨k, l', hk, rfl, h10, g10⟩ := hrel
            by_cases hlt : k < n
            · have h10' := h10
              rcases h10'.2 with ⟨hv, h0⟩ | ⟨G, cap, cur, hv, -, -, hnc, hcm, -⟩
              · omega
              simp only [Value.slice.injEq, true_and] at hv
              obtain ⟨rfl, rfl⟩ := hv
              have hcell := row_cell h10 k hlt
              have hfz := h10.frozenAt k
              have hx := xor255u (l'.getD k 0).toNat (l'.getD k 0).toNat_lt
              have Ht : Hid _ := row_turn h10 k (UInt8.ofNat (255 - (l'.getD k 0).toNat))
              unfold maxLen at hcm
              clear h10 h9 h10'
              generalize (l'.getD k 0).toNat = c at *
              go_wp2
              go_roundw
              case rel => exact ⟨k + 1, _, by omega, by go_num, Ht.out.1, grown_trans g10 Ht.out.2⟩
              case measure => simp [intOf]; omega
            · obtain rfl : k = n := by omega
              have b10 := b9.grown g10 b9.size (fun j hj => (h10.lt j hj).1)
              have hD10 := hD8.below b10 (Nat.le_refl _)
              have B10 := B8.trans (b10.mono B8.size)
              clear h9 h10 g10 b9 b10 hD8 B8
              go_wp2_with fail
              refine (bytes_any _ _ _ _ _ _ _ _ _ (orz_some _ _) hD10).mono ?_
              rintro e w11 ⟨v11, rfl, h11, b11⟩
              have hcv := own_text h11
              have hD11 := hD10.below b11 (Nat.le_refl _)
              have B11 := B10.trans (b11.mono B10.size)
              obtain ⟨a3, c3, rfl⟩ := own_slice h11
              rw [← hL, tx_app, hL, hlen] at hcv
              rw [hlen]
              clear hD10 b11 B10 h11
              go_wp2_with fail
              refine (fast_any _ _ _ _ _ _ _ _ _ (orz_some _ _) hD11).mono ?_
              rintro e w12 ⟨rfl, hw⟩
              subst hw
              clear hcv hD11
              go_wp2
              go_ret
              exact ⟨rfl, B11⟩
theorem keeps_walk (a b : ByteArray) (ha : a.size ≤ 140737488351232) (hb : b.size ≤ 140737488351232) (w : World) :
    Calls Try.prog 6 #[.string a, .string b] w fun e w' => e = .returned (.bool true) ∧ Below w.heap.size w w' := by
  by_cases h : a.size + b.size ≤ 1000
  · exact keeps_short a b h w
  · exact keeps_long a b ha hb (by omega) w
end Go.Proofs.Ytcopjgincdbliaa
