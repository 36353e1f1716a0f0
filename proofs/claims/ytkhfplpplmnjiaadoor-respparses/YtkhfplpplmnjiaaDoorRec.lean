/-
  What the reference's Encode and Command come to; the program's Command.
-/
import Derived.Test.YtkhfplpplmnjiaaDoorEcd
namespace Go.Proofs.YtkhfplpplmnjiaaDoor
set_option maxRecDepth 100000
open Go.RowKit Go.Sort

theorem putcmd_any (ao : Option Addr) (m c : Nat) (S : List ByteArray) (w : World) (hT : Txts w ao m c S) (hf : few3 S) (hw : Tab w) :
    Calls Tryd.prog 13 #[.slice ao m c] w fun e w' => ∃ v, e = .returned v ∧ Made w' w.heap.size v (Rs.many (dl S)) ∧ Below w.heap.size w w' := by
  go_enter Tryd.func13, Tryd.ntmps13
  go_wp2_with fail
  refine Calls.mono (putmany_any ao m c S _ hT hf hw) ?_
  rintro e w2 ⟨v, rfl, hM, hb2⟩
  go_wp2
  go_ret
  exact ⟨_, rfl, hM, hb2⟩

theorem ln3 (sg : UInt8) (l : List UInt8) : tx (Rs.ln [sg] l) = tx [sg] ++ tx l ++ tx [13, 10] := by rw [tx_app, tx_app]; rfl
theorem many_succ (S : List ByteArray) (k : Nat) (hk : k < S.length) (H : List UInt8) : tx (H ++ ((S.take (k + 1)).map fun s => s.data.toList).flatMap Rs.bulk) = tx (H ++ ((S.take k).map fun s => s.data.toList).flatMap Rs.bulk) ++ tx (Rs.bulk (S.getD k ByteArray.empty).data.toList) := by
  rw [tx_app, dl_take_succ S k hk, List.append_assoc]

set_option maxHeartbeats 2000000 in
theorem rencode_any (kind : Int) (t : ByteArray) (n : Int) (ao : Option Addr) (m c : Nat) (S : List ByteArray) (w : World) (ht : t.size ≤ 3000) (h0 : -9223372036854775808 ≤ n) (h1 : n ≤ 9223372036854775807) (hT : Txts w ao m c S) (hf : few3 S) :
    Calls Tryd.prog 12 #[.agg #[.int .i64 kind, .string t, .int .i64 n, .slice ao m c]] w fun e w' => e = .returned (.string (tx (enc kind t.data.toList n (dl S)))) ∧ Below w.heap.size w w' := by
  have hbx : ∀ o : Obj, Below w.heap.size w (w.alloc o) := fun o => (Below.refl _ _).alloc (Nat.le_refl _) o
  have hil := Lib.itoa_length_le n h0 h1
  have z2 : (tx [13, 10]).size = 2 := rfl
  have e2 : (⟨#[13, 10]⟩ : ByteArray) = tx [13, 10] := rfl
  by_cases k1 : kind = 1
  · subst k1
    have he : Hid (tx (enc 1 t.data.toList n (dl S)) = tx [43] ++ tx (Rs.flat t.data.toList) ++ tx [13, 10]) := by rw [Hid, ← ln3]; rfl
    have hz : (tx (Rs.flat t.data.toList)).size ≤ 3000 := by rw [tx_size, flat_len, lsize]; omega
    have C := fun w => rline_any t (by omega) w
    have C : Hid _ := C
    have z1 : (tx [43]).size = 1 := rfl
    have e1 : (⟨#[43]⟩ : ByteArray) = tx [43] := rfl
    clear hT hf
    generalize tx (Rs.flat t.data.toList) = T at *
    go_enter Tryd.func12, Tryd.ntmps12
    go_wp2_with fail
    refine Calls.mono (C.out _) ?_
    rintro e w1 ⟨rfl, hb1⟩
    have hb1' := (hbx _).trans (hb1.mono (hbx _).size)
    go_wp2
    go_ret
    rw [he.out]
    exact ⟨rfl, hb1'⟩
  have j1 := k_ne k1
  by_cases k2 : kind = 2
  · subst k2
    have he : Hid (tx (enc 2 t.data.toList n (dl S)) = tx [45] ++ tx (Rs.flat t.data.toList) ++ tx [13, 10]) := by rw [Hid, ← ln3]; rfl
    have hz : (tx (Rs.flat t.data.toList)).size ≤ 3000 := by rw [tx_size, flat_len, lsize]; omega
    have C := fun w => rline_any t (by omega) w
    have C : Hid _ := C
    have z1 : (tx [45]).size = 1 := rfl
    have e1 : (⟨#[45]⟩ : ByteArray) = tx [45] := rfl
    clear hT hf
    generalize tx (Rs.flat t.data.toList) = T at *
    go_enter Tryd.func12, Tryd.ntmps12
    go_wp2_with fail
    refine Calls.mono (C.out _) ?_
    rintro e w1 ⟨rfl, hb1⟩
    have hb1' := (hbx _).trans (hb1.mono (hbx _).size)
    go_wp2
    go_ret
    rw [he.out]
    exact ⟨rfl, hb1'⟩
  have j2 := k_ne k2
  by_cases k3 : kind = 3
  · subst k3
    have he : Hid (tx (enc 3 t.data.toList n (dl S)) = tx [58] ++ tx (Lib.itoa n) ++ tx [13, 10]) := by rw [Hid, ← ln3]; rfl
    have hz : (tx (Lib.itoa n)).size ≤ 3000 := by rw [tx_size]; omega
    have C := fun w => rdigits_any n h0 h1 w
    have C : Hid _ := C
    have z1 : (tx [58]).size = 1 := rfl
    have e1 : (⟨#[58]⟩ : ByteArray) = tx [58] := rfl
    clear hT hf
    generalize tx (Lib.itoa n) = T at *
    go_enter Tryd.func12, Tryd.ntmps12
    go_wp2_with fail
    refine Calls.mono (C.out _) ?_
    rintro e w1 ⟨rfl, hb1⟩
    have hb1' := (hbx _).trans (hb1.mono (hbx _).size)
    go_wp2
    go_ret
    rw [he.out]
    exact ⟨rfl, hb1'⟩
  have j3 := k_ne k3
  by_cases k4 : kind = 4
  · subst k4
    have he : enc 4 t.data.toList n (dl S) = Rs.bulk t.data.toList := rfl
    rw [he]
    have C := fun w => rbulk_any t (by omega) w
    have C : Hid _ := C
    clear hT hf
    go_enter Tryd.func12, Tryd.ntmps12
    go_wp2_with fail
    refine Calls.mono (C.out _) ?_
    rintro e w1 ⟨rfl, hb1⟩
    have hb1' := (hbx _).trans (hb1.mono (hbx _).size)
    go_wp2
    go_ret
    exact ⟨rfl, hb1'⟩
  have j4 := k_ne k4
  by_cases k5 : kind = 5
  · subst k5
    have he : enc 5 t.data.toList n (dl S) = [36, 45, 49, 13, 10] := rfl
    rw [he]
    clear hT hf
    go_enter Tryd.func12, Tryd.ntmps12
    go_wp2
    go_ret
    exact ⟨rfl, hbx _⟩
  have j5 := k_ne k5
  by_cases k6 : kind = 6
  · subst k6
    have hlen := hT.len
    have hm100 : m ≤ 100 := by have := hf.1; omega
    have him := Lib.itoa_length_le (m : Int) (by omega) (by omega)
    have he : Hid (tx (enc 6 t.data.toList n (dl S)) = tx (Rs.ln [42] (Lib.itoa (m : Int)) ++ ((S.take m).map fun s => s.data.toList).flatMap Rs.bulk)) := by
      have he : enc 6 t.data.toList n (dl S) = Rs.many (dl S) := rfl
      rw [Hid, he, Rs.many, dl_length, hlen, List.take_of_length_le (by omega)]; rfl
    have hH := ln3 42 (Lib.itoa (m : Int))
    have hz : (tx (Lib.itoa (m : Int))).size ≤ 21 := by rw [tx_size]; exact him
    have hHl : (Rs.ln [42] (Lib.itoa (m : Int))).length ≤ 24 := by rw [Rs.ln_len]; simp only [List.length_cons, List.length_nil]; omega
    have C := fun w => rdigits_any (m : Int) (by omega) (by omega) w
    have C : Hid _ := C
    have z1 : (tx [42]).size = 1 := rfl
    have e1 : (⟨#[42]⟩ : ByteArray) = tx [42] := rfl
    have hH : Hid _ := hH
    generalize Rs.ln [42] (Lib.itoa (m : Int)) = H at *
    generalize tx (Lib.itoa (m : Int)) = T at *
    clear him hil
    go_enter Tryd.func12, Tryd.ntmps12
    go_wp2_with fail
    refine Calls.mono (C.out _) ?_
    rintro e w1 ⟨rfl, hb1⟩
    have hb1' := (hbx _).trans (hb1.mono (hbx _).size)
    have hcl1 : w1.cell? ⟨w.heap.size, 3, none⟩ = some (.slice ao m c) := by
      rw [hb1.cell (by simp), World.cell?_alloc_mark]; rfl
    have hTsz : (T : ByteArray).size ≤ 21 := hz
    clear hb1 C
    go_wp2_with fail
    go_loopw [3, 46] (fun o i wr => ∃ k : Nat, k ≤ m ∧ i = .int .i64 (k : Int) ∧ Hid (o = .string (tx (H ++ ((S.take k).map fun s => s.data.toList).flatMap Rs.bulk))) ∧ wr.cell? ⟨w.heap.size, 3, none⟩ = some (.slice ao m c) ∧ Below w.heap.size w wr ∧ w.heap.size < wr.heap.size) (fun _ i _ => m - (intOf i).toNat)
    case atStart => exact ⟨0, Nat.zero_le _, rfl, by rw [Hid, List.take_zero]; simp only [List.map_nil, List.flatMap_nil, List.append_nil]; rw [hH.out], hcl1, hb1', World.block_lt_of_cell? w1 _ hcl1⟩
    case round =>
      obtain ⟨k, hk, rfl, HO, hcl, hbel, hsz⟩ := hrel
      clear hcl1 hb1'
      have HO := HO.out
      subst HO
      by_cases hlt : k < m
      · have hTr := hT.below hbel (Nat.le_refl _)
        rcases hTr.norm with ⟨rfl, rfl⟩ | ⟨b, off, hao, -, hcell⟩
        · omega
        subst hao
        have hc2 := hcell k hlt
        have HF : Hid _ := many_succ S k (by omega) H
        have hFl := bulks_len (S.take k) (fun s hs => hf.2 s (List.mem_of_mem_take hs))
        rw [List.length_take] at hFl
        have hO : (tx (H ++ ((S.take k).map fun s => s.data.toList).flatMap Rs.bulk)).size ≤ 1000000 := by rw [tx_size, List.length_append]; omega
        have hss : (S.getD k ByteArray.empty).size ≤ 3000 := hf.2 _ (by simp [List.getD, show k < S.length by omega])
        have hbs : (tx (Rs.bulk (S.getD k ByteArray.empty).data.toList)).size ≤ 4000 := by
          have := bulk_len (S.getD k ByteArray.empty).data.toList (by rw [lsize]; omega)
          rw [lsize] at this
          rw [tx_size]; omega
        have C : Hid _ := rbulk_any (S.getD k ByteArray.empty) (by omega) wr
        clear hcell hTr hFl HO
        generalize tx (Rs.bulk (S.getD k ByteArray.empty).data.toList) = G at *
        generalize S.getD k ByteArray.empty = s at *
        have HO2 : Hid (tx (H ++ ((S.take k).map fun s => s.data.toList).flatMap Rs.bulk) = tx (H ++ ((S.take k).map fun s => s.data.toList).flatMap Rs.bulk)) := rfl
        generalize tx (H ++ ((S.take k).map fun s => s.data.toList).flatMap Rs.bulk) = O at *
        go_wp2_with fail
        refine Calls.mono C.out ?_
        rintro e w3 ⟨rfl, hb3⟩
        have hbel3 := hbel.trans (hb3.mono hbel.size)
        have hcl3 : w3.cell? ⟨w.heap.size, 3, none⟩ = some (.slice (some ⟨b, off, none⟩) m c) := by rw [hb3.cell hsz]; exact hcl
        have hsz3 : w.heap.size < w3.heap.size := Nat.lt_of_lt_of_le hsz hb3.size
        clear hcl
        go_wp2
        go_roundw
        case rel => exact ⟨k + 1, by omega, by go_num, by rw [Hid, HF.out], hcl3, hbel3, hsz3⟩
        case measure => simp [intOf]; omega
      · obtain rfl : k = m := by omega
        clear hT hcl
        have HE := he
        go_wp2
        go_ret
        rw [HE.out, List.map_take]
        exact ⟨rfl, hbel⟩
  have j6 := k_ne k6
  have he : enc kind t.data.toList n (dl S) = [] := by
    rw [enc, if_neg k1, if_neg k2, if_neg k3, if_neg k4, if_neg k5, if_neg k6]
  rw [he]
  clear hT hf
  go_enter Tryd.func12, Tryd.ntmps12
  go_wp2
  go_ret
  exact ⟨rfl, hbx _⟩

theorem rcommand_any (ao : Option Addr) (m c : Nat) (S : List ByteArray) (w : World) (hT : Txts w ao m c S) (hf : few3 S) :
    Calls Tryd.prog 14 #[.slice ao m c] w fun e w' => e = .returned (.string (tx (Rs.many (dl S)))) ∧ Below w.heap.size w w' := by
  have C : Hid (Calls Tryd.prog 12 #[.agg #[.int .i64 6, .string ⟨#[]⟩, .int .i64 0, .slice ao m c]] w _) := rencode_any 6 ⟨#[]⟩ 0 ao m c S w (by decide) (by decide) (by decide) hT hf
  have he : enc 6 (⟨#[]⟩ : ByteArray).data.toList 0 (dl S) = Rs.many (dl S) := rfl
  rw [he] at C
  go_enter Tryd.func14, Tryd.ntmps14
  go_wp2_with fail
  refine Calls.mono C.out ?_
  rintro e w2 ⟨rfl, hb2⟩
  go_wp2
  go_ret
  exact ⟨rfl, hb2⟩
end Go.Proofs.YtkhfplpplmnjiaaDoor
