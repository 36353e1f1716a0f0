/-
  What resp.flat, Encode, Command come to; and the reference's line, Encode, Command.
-/
import Derived.Test.YtkhfplpplmnjiabDoorRdn
namespace Go.Proofs.YtkhfplpplmnjiabDoor
set_option maxRecDepth 100000
open Go.RowKit Go.Sort

/-- A text of which the first k bytes have been made flat. -/
def fl (k : Nat) (s : List UInt8) : List UInt8 := Rs.flat (s.take k) ++ s.drop k
theorem flat_len (s : List UInt8) : (Rs.flat s).length = s.length := by simp [Rs.flat]
theorem fl_len (k : Nat) (s : List UInt8) : (fl k s).length = s.length := by rw [fl, List.length_append, flat_len, List.length_take, List.length_drop]; omega
theorem fl_get (k : Nat) (s : List UInt8) (hk : k < s.length) : (fl k s).getD k 0 = s.getD k 0 := by
  have h1 : (Rs.flat (s.take k)).length = k := by rw [flat_len, List.length_take]; omega
  rw [fl, List.getD_eq_getElem?_getD, List.getElem?_append_right (by omega), h1, Nat.sub_self, List.getElem?_drop, Nat.add_zero, List.getD_eq_getElem?_getD]
def fc (c : UInt8) : UInt8 := if c = 13 ∨ c = 10 then 32 else c
theorem flat_succ (s : List UInt8) (k : Nat) (hk : k < s.length) : Rs.flat (s.take (k + 1)) = Rs.flat (s.take k) ++ [fc (s.getD k 0)] := by
  rw [List.take_succ_eq_append_getElem hk, Rs.flat, List.map_append]
  simp [Rs.flat, fc, List.getD, hk]
theorem fl_succ (k : Nat) (s : List UInt8) (hk : k < s.length) : fl (k + 1) s = (fl k s).set k (fc (s.getD k 0)) := by
  have h1 : (Rs.flat (s.take k)).length = k := by rw [flat_len, List.length_take]; omega
  have h2 : s.drop k = s.getD k 0 :: s.drop (k + 1) := by rw [List.drop_eq_getElem_cons hk]; simp [List.getD, hk]
  rw [fl, fl, flat_succ s k hk, List.append_assoc, List.singleton_append, h2, List.set_append_right _ _ (by omega), h1, Nat.sub_self, List.set_cons_zero]
theorem set_self {l : List UInt8} {k : Nat} (h : k < l.length) : l.set k (l.getD k 0) = l := by
  have : l.getD k 0 = l[k] := by simp [List.getD, h]
  rw [this]; exact List.set_getElem_self h
theorem fl_skip (k : Nat) (s : List UInt8) (hk : k < s.length) (h : ¬ (s.getD k 0 = 13 ∨ s.getD k 0 = 10)) : fl (k + 1) s = fl k s := by
  rw [fl_succ k s hk, fc, if_neg h, ← fl_get k s hk]
  exact set_self (by rw [fl_len]; exact hk)
theorem fl_done (s : List UInt8) : fl s.length s = Rs.flat s := by rw [fl, List.take_length, List.drop_length, List.append_nil]
theorem u8_eq {x : UInt8} {n : Nat} (h : (x.toNat : Int) = (n : Int)) (hn : n < 256) : x = UInt8.ofNat n := by
  apply UInt8.toNat_inj.1; rw [UInt8.toNat_ofNat']; omega

theorem conv_tx {w : World} {ao : Option Addr} {n c : Nat} {l : List UInt8} (h : Bytes w ao n c l) : (convert 25 9 (.slice ao n c)).run Tryd.prog w = .ok (.string (tx l)) w :=
  conv_mb ⟨ao, c, by rw [h.len], by rw [h.len]; exact h⟩

set_option maxHeartbeats 2000000 in
theorem flat_any (s : ByteArray) (hs : s.size ≤ 1000000) (w : World) : Calls Tryd.prog 13 #[.string s] w fun e w' => e = .returned (.string (tx (Rs.flat s.data.toList))) ∧ Below w.heap.size w w' := by
  obtain ⟨cap, w1, hcv, hT, hcap, hb1, -⟩ := conv_tail s w (by unfold maxLen; omega)
  have hl := lsize s
  have hcc := hT.bytes.room
  rw [hl] at hcc
  go_enter Tryd.func13, Tryd.ntmps13
  go_wp2_with fail
  go_loopw [10] (fun i wr => ∃ k : Nat, k ≤ s.size ∧ i = .int .i64 (k : Int) ∧ Hid (Tail wr w.heap.size cap (fl k s.data.toList)) ∧ Below w.heap.size w wr) (fun i _ => s.size - (intOf i).toNat)
  case atStart => exact ⟨0, Nat.zero_le _, rfl, by rw [Hid, fl, List.take_zero, List.drop_zero]; exact hT, hb1⟩
  case round =>
    obtain ⟨k, hk, rfl, HT, hbel⟩ := hrel
    clear hT hcv hb1
    by_cases hlt : k < s.size
    · have hc := HT.out.cell (j := k) (by rw [fl_len, hl]; exact hlt)
      rw [fl_get k _ (by omega)] at hc
      have hfz := HT.out.fz (j := k) (by omega)
      by_cases hx : s.data.toList.getD k 0 = 13 ∨ s.data.toList.getD k 0 = 10
      · have HN : Hid (Tail (wr.setCell ⟨w.heap.size, k, none⟩ (.int .u8 32)) w.heap.size cap (fl (k + 1) s.data.toList)) := by
          rw [Hid, fl_succ k _ (by omega), fc, if_pos hx]
          exact HT.out.set (j := k) 32
        have hgr : Below w.heap.size w (wr.setCell ⟨w.heap.size, k, none⟩ (.int .u8 32)) := hbel.grown (grown_set wr w.heap.size k (.int .u8 32)) hbel.size (fun j hj => by cases hj; exact Nat.le_refl _)
        have hg : Hid _ := hgr
        clear hgr
        rcases hx with hx | hx
        · rw [hx] at hc
          have e13 : ((13 : UInt8).toNat : Int) = 13 := rfl
          rw [e13] at hc
          clear hx e13
          go_wp2
          go_roundw
          case rel => exact ⟨k + 1, by omega, by go_num, HN, hg.out⟩
          case measure => simp [intOf]; omega
        · rw [hx] at hc
          have e13 : ((10 : UInt8).toNat : Int) = 10 := rfl
          rw [e13] at hc
          clear hx e13
          go_wp2
          go_roundw
          case rel => exact ⟨k + 1, by omega, by go_num, HN, hg.out⟩
          case measure => simp [intOf]; omega
      · have HN : Hid (Tail wr w.heap.size cap (fl (k + 1) s.data.toList)) := by
          rw [Hid, fl_skip k _ (by omega) hx]; exact HT.out
        have h13 : (((s.data.toList.getD k 0).toNat : Int) == 13) = false := by
          rw [beq_eq_false_iff_ne]; intro e; exact hx (.inl (u8_eq (n := 13) e (by decide)))
        have h10 : (((s.data.toList.getD k 0).toNat : Int) == 10) = false := by
          rw [beq_eq_false_iff_ne]; intro e; exact hx (.inr (u8_eq (n := 10) e (by decide)))
        clear hx
        generalize (s.data.toList.getD k 0).toNat = x at *
        go_wp2
        go_roundw
        case rel => exact ⟨k + 1, by omega, by go_num, HN, hbel⟩
        case measure => simp [intOf]; omega
    · obtain rfl : k = s.size := by omega
      have hb := HT.out.bytes
      rw [fl_len, hl] at hb
      have HF : Hid (fl s.size s.data.toList = Rs.flat s.data.toList) := by rw [Hid, ← hl]; exact fl_done _
      rw [HF.out] at hb
      have hcv := conv_tx hb
      clear hb HT
      go_wp2
      go_ret
      exact ⟨rfl, hbel⟩

end Go.Proofs.YtkhfplpplmnjiabDoor
