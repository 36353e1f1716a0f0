/-
  VlqBack: what was put is taken as it was, whatever stands about it; cut off it ends too early. Asked: that each text is of at most 1048576 bytes.
-/
import Derived.Test.YtjfbmjdeohlpjaaTki
import Derived.Test.YtjfbmjdeohlpjaaCnv
import Derived.Test.YtjfbmjdeohlpjaaAwk
namespace Go.Proofs.Ytjfbmjdeohlpjaa
open Go.RowKit

set_option maxHeartbeats 1000000 in
theorem back_walk (s : ByteArray) (u : Nat) (n : Int) (t : ByteArray) (q : Nat) (w : World) (hs : s.size ≤ 1048576) (hu : u < 18446744073709551616) (hn : -9223372036854775808 ≤ n ∧ n ≤ 9223372036854775807) (ht : t.size ≤ 1048576) (hq : q < 18446744073709551616) :
    Calls Try.prog 6 #[.string s, .int .u64 (u : Int), .int .i64 n, .string t, .int .u64 (q : Int)] w fun e w' => e = .returned (.bool true) ∧ Below w.heap.size w w' := by
  have hw1 := Vq.wd_pos u
  have hw2 := Vq.wd_le u
  have hz1 := Vq.wd_pos (zig n)
  have hz2 := Vq.wd_le (zig n)
  go_enter Try.func6, Try.ntmps6
  go_wp2_with fail
  refine (awake_any _).mono ?_
  rintro e w1 ⟨rfl, hb1⟩
  obtain ⟨cap, w2, hrun, hby, hcap, hb2, _⟩ := conv_bytes s w1 (by unfold maxLen; omega)
  go_wp2_with fail
  refine (put_any _ _ _ _ u _ hby (by omega) hu).mono ?_
  rintro e w3 ⟨g, rfl, hown3, hb3⟩
  clear hrun
  obtain ⟨cap4, w4, hrun4, hby4, hcap4, hb4, _⟩ := conv_bytes s w3 (by unfold maxLen; omega)
  go_wp2_with fail
  refine (putint_any _ _ _ _ n _ hby4 (by omega) hn).mono ?_
  rintro e w5 ⟨g5, rfl, hown5, hb5⟩
  clear hrun4
  have hownA := own_below (own_below hown3 hb4) hb5
  have hk : (s.size : Int) + (Vq.wd u : Int) - (s.size : Int) = (Vq.wd u : Int) := by omega
  have hB5 : Below w.heap.size w w5 := (((hb1.trans (hb2.mono hb1.size)).trans (hb3.mono (Nat.le_trans hb1.size hb2.size))).trans (hb4.mono (Nat.le_trans hb1.size (Nat.le_trans hb2.size hb3.size)))).trans (hb5.mono (Nat.le_trans hb1.size (Nat.le_trans hb2.size (Nat.le_trans hb3.size hb4.size))))
  have hsA : w2.heap.size ≤ w5.heap.size := Nat.le_trans hb3.size (Nat.le_trans hb4.size hb5.size)
  go_wp2_with (at_builtin; refine wpList_append_full _ rfl (.tmp 50) (.tmp 51) rfl t rfl rfl hownA (by omega) hsA ?_)
  intro g6 cap6 w6 hown6 hb6 hcap6
  have hl : s.data.toList.length = s.size := by rw [Array.length_toList]; rfl
  have hby6 : Bytes w6 (some ⟨g6, 0, none⟩) (s.size + Vq.wd u + t.size) cap6 (s.data.toList ++ Vq.num u ++ t.data.toList) := by
    rw [List.append_assoc]; exact Bytes.own hown6
  have htk := take_num _ _ _ _ _ u w6 hu hby6 hcap6
  rw [hl] at htk
  have Htk : Hid _ := htk
  clear htk
  go_wp2_with fail
  refine Calls.mono Htk.out ?_
  rintro e w6' ⟨rfl, hw6⟩
  obtain rfl := hw6.symm
  clear Htk hw6
  have hownB := own_below hown5 hb6
  have hsB : w4.heap.size ≤ w6.heap.size := Nat.le_trans hb5.size hb6.size
  go_wp2_with (at_builtin; refine wpList_append_full _ rfl (.tmp 65) (.tmp 66) rfl t rfl rfl hownB (by omega) hsB ?_)
  intro g7 cap7 w7 hown7 hb7 hcap7
  have hby7 : Bytes w7 (some ⟨g7, 0, none⟩) (s.size + Vq.wd (zig n) + t.size) cap7 (s.data.toList ++ Vq.num (zig n) ++ t.data.toList) := by
    rw [List.append_assoc]; exact Bytes.own hown7
  have htk := takeint_num _ _ _ _ _ n w7 hn hby7 hcap7
  rw [hl] at htk
  have Htk : Hid _ := htk
  clear htk
  go_wp2_with fail
  refine Calls.mono Htk.out ?_
  rintro e w7' ⟨rfl, hw7⟩
  obtain rfl := hw7.symm
  clear Htk hw7
  have hownC := own_below (own_below hownA hb6) hb7
  have hbyC := (Bytes.own hownC).take (s.size + q % Vq.wd u) (by have := Nat.mod_lt q hw1; omega)
  have e : (s.data.toList ++ Vq.num u).take (s.size + q % Vq.wd u) = s.data.toList ++ (Vq.num u).take (q % Vq.wd u) := by
    rw [← hl, List.take_append, List.take_of_length_le (by omega), Nat.add_sub_cancel_left]
  rw [e] at hbyC
  have hrw : q % Vq.wd u < Vq.wd u := Nat.mod_lt q hw1
  have hqr : (q : Int) % (Vq.wd u : Int) = ((q % Vq.wd u : Nat) : Int) := rfl
  have htk := take_cut _ _ _ _ u (q % Vq.wd u) w7 hrw hbyC (by unfold maxLen; omega)
  rw [hl] at htk
  have Htk : Hid _ := htk
  clear htk e hbyC hl
  generalize q % Vq.wd u = r at *
  go_wp2_with fail
  refine Calls.mono Htk.out ?_
  rintro e w8 ⟨rfl, hw8⟩
  obtain rfl := hw8.symm
  clear Htk hw8
  go_wp2
  go_ret
  exact ⟨rfl, (hB5.trans (hb6.mono hB5.size)).trans (hb7.mono (Nat.le_trans hB5.size hb6.size))⟩
end Go.Proofs.Ytjfbmjdeohlpjaa
