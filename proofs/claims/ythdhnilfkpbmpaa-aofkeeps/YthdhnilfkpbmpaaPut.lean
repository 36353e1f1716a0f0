/-
  What vlq.Put comes to: a new list that holds the bytes that were there and a number's bytes behind; nothing that was there has turned. Asked: that the bytes are fewer than 2^47.
-/
import Derived.Test.YthdhnilfkpbmpaaGrp
namespace Go.Proofs.Ythdhnilfkpbmpaa
open Go.RowKit

/-- A list of bytes as a call may be handed it: nil, or an address where they lie. -/
structure Bytes (w : World) (ao : Option Addr) (m c : Nat) (l : List UInt8) : Prop where
  len : l.length = m
  room : m ≤ c
  none : ao = none → m = 0 ∧ c = 0
  cells : ∀ ad, ao = some ad → ∀ j u, (bs l)[j]? = some u → w.cell? (ad.add j) = some u

theorem Bytes.below {w w' : World} {ao : Option Addr} {m c : Nat} {l : List UInt8} {B : Nat} (h : Bytes w ao m c l) (hb : Below B w w') (hB : w.heap.size ≤ B) : Bytes w' ao m c l :=
  ⟨h.len, h.room, h.none, fun ad had j u hu => by
    have hc := h.cells ad had j u hu
    have hlt := World.block_lt_of_cell? w _ hc
    rw [hb.cell (Nat.lt_of_lt_of_le hlt hB)]
    exact hc⟩

theorem Bytes.nil (w : World) : Bytes w .none 0 0 [] := ⟨rfl, Nat.le_refl _, fun _ => ⟨rfl, rfl⟩, fun _ h => by cases h⟩

theorem Bytes.own {w : World} {base g n cap : Nat} {l : List UInt8} (h : w.ownsRow base 5 1 (.slice (some ⟨g, 0, .none⟩) n cap) n (bs l)) : Bytes w (some ⟨g, 0, .none⟩) n cap l :=
  ⟨by have := h.1; rw [bs_length] at this; omega,
   by rcases h.2 with ⟨h', _⟩ | ⟨g', cap', cur, h', _, _, hn, _⟩
      · cases h'
      · simp only [Value.slice.injEq] at h'; omega,
   (fun h => by cases h),
   fun ad had j u hu => by
    obtain rfl := Option.some.inj had
    exact h.cells rfl j u hu⟩

theorem bs_oneCell (l : List UInt8) : ∀ u ∈ bs l, u.oneCell' = true := by
  intro u hu
  obtain ⟨_, _, rfl⟩ := List.mem_map.1 hu
  rfl
theorem bs_append (a b : List UInt8) : bs (a ++ b) = bs a ++ bs b := by simp [bs]

set_option maxHeartbeats 400000 in
theorem put_any (ao : Option Addr) (m c : Nat) (l : List UInt8) (n : Nat) (w : World) (hb : Bytes w ao m c l) (hm : m ≤ 140737488355328) (hn : n < 18446744073709551616) :
    Calls Try.prog 51 #[.slice ao m c, .int .u64 (n : Int)] w fun e w' =>
      ∃ g, e = .returned (.slice (some ⟨g, 0, none⟩) (m + Vq.wd n) (m + Vq.wd n)) ∧ w'.ownsRow w.heap.size 5 1 (.slice (some ⟨g, 0, none⟩) (m + Vq.wd n) (m + Vq.wd n)) (m + Vq.wd n) (bs (l ++ Vq.num n)) ∧ Below w.heap.size w w' := by
  obtain ⟨i0, hi, hz0, hz1, hz2⟩ := info_parts info5
  have hw1 := Vq.wd_pos n
  have hw2 := Vq.wd_le n
  go_enter Try.func51, Try.ntmps51
  go_wp2_with fail
  refine (groups_any n _ hn).mono ?_
  rintro e w1 ⟨rfl, hown1, hbel1⟩
  have hb1 := hb.below hbel1 (Nat.le_refl _)
  go_wp2_with (first
    | (at_make; refine wpList_make_own _ rfl _ _ 54 rfl w.heap.size 5 i0 (.int .u8 0) 1 Try.underlying54 hi hz0 hz1 _ _ _ (m + Vq.wd n) rfl rfl (by omega) ?b2 ?b3 hbel1.size ?_))
  case b2 => rw [hz2]; omega
  case b3 => unfold maxLen; omega
  intro w2 hown2 hgrow2
  have hbel2 : Below w.heap.size w w2 := hbel1.grown hgrow2 hbel1.size (fun k h => by cases h)
  have hb2 := hb.below hbel2 (Nat.le_refl _)
  have hown12 := hown1.kept hgrow2 (.inr (by simp [Value.ownBlock]))
  go_wp2_with (first
    | (at_builtin; refine wpList_append_fits_any _ rfl (.tmp 15) (.tmp 16) 54 rfl w.heap.size 5 i0 1 Try.underlying54 hi hz1 w1.heap.size 0 (m + Vq.wd n) _ rfl hown2 ao m c (bs l) rfl (by rw [bs_length, hb.len]; omega) hb2.none hb2.cells (bs_oneCell _) (by omega) ?_))
  intro w3 hown3 hgrow3
  have hs1 := hbel1.size
  have hlt := (hown1.lt w.heap.size rfl).2
  have hown13 := hown12.kept hgrow3 (.inr (by simp only [Value.ownBlock, ne_eq, Option.some.injEq]; omega))
  go_wp2_with (first
    | (at_builtin; refine wpList_append_fits _ rfl (.tmp 18) (.tmp 19) 54 rfl w.heap.size 5 i0 1 Try.underlying54 hi hz1 w1.heap.size m (m + Vq.wd n) _ rfl hown3 ⟨w.heap.size, 0, none⟩ (Vq.wd n) (Vq.wd n) (bs (Vq.num n)) rfl (by rw [bs_length, Vq.num_length]; omega) (hown13.cells rfl) (bs_oneCell _) (by omega) ?_))
  intro w4 hown4 hgrow4
  go_wp2
  go_ret
  refine ⟨w1.heap.size, rfl, ?_, ?_⟩
  · rw [bs_append]; exact hown4
  · exact (hbel2.grown hgrow3 hbel2.size (fun k hk => by cases hk; exact hs1)).grown hgrow4 (Nat.le_trans hbel2.size hgrow3.size) (fun k hk => by cases hk; exact hs1)
end Go.Proofs.Ythdhnilfkpbmpaa
