/-
  What resp.putLine, putBulk, putMany come to: bytes put behind bytes of the call's own.
-/
import Derived.Test.YtkhfplpplmnjiabDoorTal
import Derived.Test.YtkhfplpplmnjiabDoorRbk
import Derived.Test.YtkhfplpplmnjiabDoorItl
import Derived.Lib.AppendStr
namespace Go.Proofs.YtkhfplpplmnjiabDoor
set_option maxRecDepth 100000
open Go.RowKit Go.Sort

theorem strCells_bs (s : ByteArray) : Lib.strCells s = bs s.data.toList := by
  simp [Lib.strCells, bs]
theorem lsize (s : ByteArray) : s.data.toList.length = s.size := by rw [Array.length_toList]; rfl

set_option maxHeartbeats 1000000 in
theorem putline_any (base : Nat) (v : Value) (l : List UInt8) (s1 s2 : ByteArray) (w : World) (hM : Made w base v l) (hbase : base ≤ w.heap.size) (hsz : l.length + s1.size + s2.size ≤ 1000000000) :
    Calls Tryd.prog 12 #[v, .string s1, .string s2] w fun e w' => ∃ v', e = .returned v' ∧ Made w' base v' (l ++ Rs.ln s1.data.toList s2.data.toList) ∧ Below base w w' := by
  obtain ⟨i0, hi, hz0, hz1, hz2⟩ := info_parts info5
  have h1 := lsize s1
  have h2 := lsize s2
  have HL : Hid (l ++ Rs.ln s1.data.toList s2.data.toList = ((l ++ s1.data.toList) ++ s2.data.toList) ++ [13, 10]) := by simp [Hid, Rs.ln, Rs.crlf]
  have HM : Hid _ := hM
  have n1 : Hid ((l ++ s1.data.toList).length = l.length + s1.size) := by rw [Hid, List.length_append, h1]
  have n2 : Hid (((l ++ s1.data.toList) ++ s2.data.toList).length = l.length + s1.size + s2.size) := by rw [Hid, List.length_append, List.length_append, h1, h2]
  have n3 : Hid ((((l ++ s1.data.toList) ++ s2.data.toList) ++ [13, 10]).length = l.length + s1.size + s2.size + 2) := by rw [Hid, List.length_append, List.length_append, List.length_append, h1, h2]; rfl
  clear h1 h2 hM
  go_enter Tryd.func12, Tryd.ntmps12
  go_wp2_with (first
    | (at_builtin; refine Lib.wpList_append_own_string _ rfl (.tmp 7) (.tmp 8) 25 9 rfl base 5 i0 Tryd.underlying25 Tryd.underlying9 hi hz0 hz1 hz2 v l.length (bs l) rfl HM.out s1 rfl (by unfold maxLen; omega) (by omega) hbase ?_))
  rintro v1 w1 hown1 hgrow1 -
  have hb1 : Below base w w1 := (Below.refl _ _).grown hgrow1 hbase (fun k hk => (HM.out.lt k hk).1)
  have M1 : Hid (Made w1 base v1 (l ++ s1.data.toList)) := by
    rw [Hid, Made, n1.out, bs_append, ← strCells_bs]; exact hown1
  have hbs1 : base ≤ w1.heap.size := Nat.le_trans hbase hb1.size
  clear hown1 hgrow1 HM
  have m1 := M1.out
  rw [Made, n1.out] at m1
  go_wp2_with (first
    | (at_builtin; refine Lib.wpList_append_own_string _ rfl (.tmp 10) (.tmp 11) 25 9 rfl base 5 i0 Tryd.underlying25 Tryd.underlying9 hi hz0 hz1 hz2 v1 (l.length + s1.size) (bs (l ++ s1.data.toList)) rfl m1 s2 rfl (by unfold maxLen; omega) (by omega) hbs1 ?_))
  rintro v2 w2 hown2 hgrow2 -
  have hb2 : Below base w w2 := hb1.grown hgrow2 hbs1 (fun k hk => (m1.lt k hk).1)
  have M2 : Hid (Made w2 base v2 ((l ++ s1.data.toList) ++ s2.data.toList)) := by
    rw [Hid, Made, n2.out, bs_append, ← strCells_bs]; exact hown2
  have hbs2 : base ≤ w2.heap.size := Nat.le_trans hbase hb2.size
  clear hown2 hgrow2 m1 M1 hb1 hbs1
  have m2 := M2.out
  rw [Made, n2.out] at m2
  go_wp2_with (first
    | (at_builtin; refine Lib.wpList_append_own_string _ rfl (.tmp 13) _ 25 9 rfl base 5 i0 Tryd.underlying25 Tryd.underlying9 hi hz0 hz1 hz2 v2 (l.length + s1.size + s2.size) (bs ((l ++ s1.data.toList) ++ s2.data.toList)) rfl m2 ⟨#[13, 10]⟩ rfl (by unfold maxLen; show _ + 2 ≤ _; omega) (by show _ + 2 ≤ _; omega) hbs2 ?_))
  rintro v3 w3 hown3 hgrow3 -
  have hb3 : Below base w w3 := hb2.grown hgrow3 hbs2 (fun k hk => (m2.lt k hk).1)
  have M3 : Hid (Made w3 base v3 (((l ++ s1.data.toList) ++ s2.data.toList) ++ [13, 10])) := by
    rw [Hid, Made, n3.out, bs_append, List.append_assoc]; exact hown3
  clear hown3 hgrow3 m2 M2 hb2 hbs2
  go_wp2
  go_ret
  refine ⟨_, rfl, ?_, hb3⟩
  rw [HL.out]
  exact M3.out
theorem putline_lit (base : Nat) (v : Value) (l : List UInt8) (c1 : List UInt8) (c2 : List UInt8) (w : World) (hM : Made w base v l) (hbase : base ≤ w.heap.size) (hsz : l.length + c1.length + c2.length ≤ 1000000000) :
    Calls Tryd.prog 12 #[v, .string ⟨c1.toArray⟩, .string ⟨c2.toArray⟩] w fun e w' => ∃ v', e = .returned v' ∧ Made w' base v' (l ++ Rs.ln c1 c2) ∧ Below base w w' := by
  have := putline_any base v l ⟨c1.toArray⟩ ⟨c2.toArray⟩ w hM hbase (by simpa [ByteArray.size] using hsz)
  simpa using this
theorem bulk_len (s : List UInt8) (h : s.length ≤ 1000000) : (Rs.bulk s).length ≤ s.length + 26 := by
  have := Lib.itoa_length_le (s.length : Int) (by omega) (by omega)
  rw [Rs.bulk, List.length_append, Rs.ln_len, Rs.ln_len]
  simp only [List.length_cons, List.length_nil]
  omega

set_option maxHeartbeats 1000000 in
theorem putbulk_any (base : Nat) (v : Value) (l : List UInt8) (s : ByteArray) (w : World) (hM : Made w base v l) (hbase : base ≤ w.heap.size) (hl : l.length ≤ 1000000) (hs : s.size ≤ 1000000) (ht : Tab w) :
    Calls Tryd.prog 15 #[v, .string s] w fun e w' => ∃ v', e = .returned v' ∧ Made w' base v' (l ++ Rs.bulk s.data.toList) ∧ Below base w w' := by
  have h1 := lsize s
  have hil := Lib.itoa_length_le (s.size : Int) (by omega) (by omega)
  have HL : Hid (l ++ Rs.bulk s.data.toList = (l ++ Rs.ln [36] (Lib.itoa (s.size : Int))) ++ Rs.ln [] s.data.toList) := by rw [Hid, Rs.bulk, h1, List.append_assoc]
  have n1 : (l ++ Rs.ln [36] (Lib.itoa (s.size : Int))).length ≤ l.length + 24 := by
    rw [List.length_append, Rs.ln_len]; simp only [List.length_cons, List.length_nil]; omega
  have C1 : Hid _ := itoa_any (s.size : Int) (by omega) (by omega) w ht
  have C2 := fun (w1 : World) (h : Made w1 base v l) (hb : base ≤ w1.heap.size) => putline_lit base v l [36] (Lib.itoa (s.size : Int)) w1 h hb (by simp only [List.length_cons, List.length_nil]; omega)
  have C3 := fun (w1 : World) (v1 : Value) (h : Made w1 base v1 (l ++ Rs.ln [36] (Lib.itoa (s.size : Int)))) (hb : base ≤ w1.heap.size) => putline_any base v1 _ ⟨#[]⟩ s w1 h hb (by show _ + 0 + _ ≤ _; omega)
  have C2 : Hid _ := C2
  have C3 : Hid _ := C3
  clear h1 hil n1
  generalize Lib.itoa (s.size : Int) = it at *
  go_enter Tryd.func15, Tryd.ntmps15
  go_wp2_with fail
  refine Calls.mono C1.out ?_
  rintro e w1 ⟨rfl, hb1⟩
  have hM1 : Made w1 base v l := own_below hM hb1
  have hbs1 : base ≤ w1.heap.size := Nat.le_trans hbase hb1.size
  go_wp2_with fail
  refine Calls.mono (C2.out w1 hM1 hbs1) ?_
  rintro e w2 ⟨v2, rfl, hM2, hb2⟩
  have hbs2 : base ≤ w2.heap.size := Nat.le_trans hbs1 hb2.size
  have hb12 : Below base w w2 := (hb1.mono hbase).trans hb2
  go_wp2_with fail
  refine Calls.mono (C3.out w2 v2 hM2 hbs2) ?_
  rintro e w3 ⟨v3, rfl, hM3, hb3⟩
  have hb13 : Below base w w3 := hb12.trans hb3
  go_wp2
  go_ret
  refine ⟨_, rfl, ?_, hb13⟩
  rw [HL.out]
  exact hM3

theorem dl_take_succ (S : List ByteArray) (k : Nat) (hk : k < S.length) : ((S.take (k + 1)).map fun s => s.data.toList).flatMap Rs.bulk = ((S.take k).map fun s => s.data.toList).flatMap Rs.bulk ++ Rs.bulk (S.getD k ByteArray.empty).data.toList := by
  rw [List.take_succ_eq_append_getElem hk, List.map_append, List.flatMap_append]
  simp [List.getD, hk]
theorem bulks_len (S : List ByteArray) (h : ∀ s ∈ S, s.size ≤ 3000) : ((S.map fun s => s.data.toList).flatMap Rs.bulk).length ≤ 3030 * S.length := by
  induction S with
  | nil => simp
  | cons s S ih =>
    have h1 := ih (fun x hx => h x (by simp [hx]))
    have h2 := h s (by simp)
    have h3 := bulk_len s.data.toList (by rw [lsize]; omega)
    rw [lsize] at h3
    rw [List.map_cons, List.flatMap_cons, List.length_append, List.length_cons]
    omega
/-- Texts' bytes. -/
def dl (S : List ByteArray) : List (List UInt8) := S.map fun s => s.data.toList
theorem dl_length (S : List ByteArray) : (dl S).length = S.length := by simp [dl]
def few3 (S : List ByteArray) : Prop := S.length ≤ 100 ∧ ∀ s ∈ S, s.size ≤ 3000

set_option maxHeartbeats 2000000 in
theorem putmany_any (ao : Option Addr) (m c : Nat) (S : List ByteArray) (w : World) (hT : Txts w ao m c S) (hf : few3 S) (ht : Tab w) :
    Calls Tryd.prog 10 #[.slice none 0 0, .slice ao m c] w fun e w' => ∃ v', e = .returned v' ∧ Made w' w.heap.size v' (Rs.many (dl S)) ∧ Below w.heap.size w w' := by
  have hlen := hT.len
  have hm100 : m ≤ 100 := by have := hf.1; omega
  have hil := Lib.itoa_length_le (m : Int) (by omega) (by omega)
  have HL : Hid (Rs.many (dl S) = Rs.ln [42] (Lib.itoa (m : Int)) ++ ((S.take m).map fun s => s.data.toList).flatMap Rs.bulk) := by
    rw [Hid, Rs.many, dl_length, hlen, List.take_of_length_le (by omega)]; rfl
  have C1 : Hid _ := itoa_any (m : Int) (by omega) (by omega) w ht
  have C2 := fun (w1 : World) (hb : w.heap.size ≤ w1.heap.size) => putline_lit w.heap.size (.slice none 0 0) [] [42] (Lib.itoa (m : Int)) w1 (World.ownsRow_nil w1 _ _ _) hb (by simp only [List.length_cons, List.length_nil]; omega)
  have C2 : Hid _ := C2
  obtain ⟨H, hH⟩ : ∃ H, H = Rs.ln [42] (Lib.itoa (m : Int)) := ⟨_, rfl⟩
  have hHl : H.length ≤ 30 := by rw [hH, Rs.ln_len]; simp only [List.length_cons, List.length_nil]; omega
  rw [List.nil_append, ← hH] at C2
  rw [← hH] at HL
  clear hil hH
  generalize Lib.itoa (m : Int) = it at *
  go_enter Tryd.func10, Tryd.ntmps10
  go_wp2_with fail
  refine Calls.mono C1.out ?_
  rintro e w1 ⟨rfl, hb1⟩
  go_wp2_with fail
  refine Calls.mono (C2.out w1 hb1.size) ?_
  rintro e w2 ⟨v2, rfl, hM2, hb2⟩
  have hb12 : Below w.heap.size w w2 := hb1.trans hb2
  go_wp2_with fail
  go_loopw [0, 14] (fun v i wr => ∃ k : Nat, k ≤ m ∧ i = .int .i64 (k : Int) ∧ Hid (Made wr w.heap.size v (H ++ ((S.take k).map fun s => s.data.toList).flatMap Rs.bulk)) ∧ Below w.heap.size w wr) (fun _ i _ => m - (intOf i).toNat)
  case atStart => exact ⟨0, Nat.zero_le _, rfl, by rw [Hid]; simpa using hM2, hb12⟩
  case round =>
    obtain ⟨k, hk, rfl, HM, hbel⟩ := hrel
    clear hM2 hb12 hb2
    by_cases hlt : k < m
    · have hTr := hT.below hbel (Nat.le_refl _)
      rcases hTr.norm with ⟨rfl, rfl⟩ | ⟨b, off, hao, -, hcell⟩
      · omega
      subst hao
      have hc2 := hcell k hlt
      have HF : Hid _ := dl_take_succ S k (by omega)
      have hFl := bulks_len (S.take k) (fun s hs => hf.2 s (List.mem_of_mem_take hs))
      rw [List.length_take] at hFl
      have hsz : (S.getD k ByteArray.empty).size ≤ 3000 := hf.2 _ (by simp [List.getD, show k < S.length by omega])
      have htr := ht.below hbel
      clear hcell hTr
      generalize S.getD k ByteArray.empty = s at *
      have hFL : (H ++ ((S.take k).map fun s => s.data.toList).flatMap Rs.bulk).length ≤ 1000000 := by rw [List.length_append]; omega
      have C3 : Hid _ := putbulk_any w.heap.size _ _ s wr HM.out hbel.size hFL (by omega) htr
      clear hFl hFL HM
      go_wp2_with fail
      refine Calls.mono C3.out ?_
      rintro e w3 ⟨v3, rfl, hM3, hb3⟩
      have hbel3 := hbel.trans hb3
      have HM3 : Hid _ := hM3
      clear hM3
      go_wp2
      go_roundw
      case rel =>
        refine ⟨k + 1, by omega, by go_num, ?_, hbel3⟩
        rw [HF.out, ← List.append_assoc]
        exact HM3
      case measure => simp [intOf]; omega
    · obtain rfl : k = m := by omega
      clear hT
      go_wp2
      go_ret
      refine ⟨_, rfl, ?_, hbel⟩
      rw [HL.out]
      exact HM.out
end Go.Proofs.YtkhfplpplmnjiabDoor
