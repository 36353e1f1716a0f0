/-
  What takeText, takeKey, takeWhole and take come to.
-/
import Derived.Test.YtmlfekbmbnfkjabGreatDoorR11
import Derived.Test.YtmlfekbmbnfkjabGreatDoorR09
import Derived.ArgAppend
namespace Go.Proofs.YtmlfekbmbnfkjabGreatDoor
set_option maxRecDepth 100000
open Go.RowKit

/-- The call in a block, behind one part's store. -/
theorem cl_set1 {w : World} {g : Nat} {c : Cl} (h : w.heap[g]? = some (.cells (clc c) 38 (0, 0))) (s : List UInt8) : (w.setCell ⟨g, 1, none⟩ (.string (sb s))).heap[g]? = some (.cells (clc { c with key := s }) 38 (0, 0)) := by
  rw [heap_setCell_same w g 1 _ _ _ h]; rfl
theorem cl_set2 {w : World} {g : Nat} {c : Cl} (h : w.heap[g]? = some (.cells (clc c) 38 (0, 0))) (s : List UInt8) : (w.setCell ⟨g, 2, none⟩ (.string (sb s))).heap[g]? = some (.cells (clc { c with field := s }) 38 (0, 0)) := by
  rw [heap_setCell_same w g 2 _ _ _ h]; rfl
theorem cl_set3 {w : World} {g : Nat} {c : Cl} (h : w.heap[g]? = some (.cells (clc c) 38 (0, 0))) (s : List UInt8) : (w.setCell ⟨g, 3, none⟩ (.string (sb s))).heap[g]? = some (.cells (clc { c with value := s }) 38 (0, 0)) := by
  rw [heap_setCell_same w g 3 _ _ _ h]; rfl
theorem cl_set4 {w : World} {g : Nat} {c : Cl} (h : w.heap[g]? = some (.cells (clc c) 38 (0, 0))) (n : Int) : (w.setCell ⟨g, 4, none⟩ (.int .i64 n)).heap[g]? = some (.cells (clc { c with n := n }) 38 (0, 0)) := by
  rw [heap_setCell_same w g 4 _ _ _ h]; rfl
theorem cl_set5 {w : World} {g : Nat} {c : Cl} (h : w.heap[g]? = some (.cells (clc c) 38 (0, 0))) (n : Int) : (w.setCell ⟨g, 5, none⟩ (.int .i64 n)).heap[g]? = some (.cells (clc { c with m := n }) 38 (0, 0)) := by
  rw [heap_setCell_same w g 5 _ _ _ h]; rfl
/-- Block g alone may have turned. -/
structure Bt (g : Nat) (w w' : World) : Prop where
  os : w'.os = w.os
  tape : w'.tape = w.tape
  output : w'.output = w.output
  size : w.heap.size ≤ w'.heap.size
  block : ∀ k, k < w.heap.size → k ≠ g → w'.heap[k]? = w.heap[k]?
theorem Bt.of_below {g : Nat} {w w' : World} (h : Below w.heap.size w w') : Bt g w w' := ⟨h.os, h.tape, h.output, h.size, fun k hk _ => h.block k hk⟩
theorem Bt.set (g i : Nat) (w : World) (v : Value) : Bt g w (w.setCell ⟨g, i, none⟩ v) := by
  have h := T21.grown_set w g i v
  exact ⟨h.os, h.tape, h.output, h.size, fun k hk hg => h.block k hk (by simpa using hg)⟩
theorem Bt.trans {g : Nat} {a b c : World} (h : Bt g a b) (k : Bt g b c) : Bt g a c :=
  ⟨k.os.trans h.os, k.tape.trans h.tape, k.output.trans h.output, Nat.le_trans h.size k.size, fun i hi hg => (k.block i (Nat.lt_of_lt_of_le hi h.size) hg).trans (h.block i hi hg)⟩
theorem Bt.below {g B : Nat} {w w' : World} (h : Bt g w w') (hg : B ≤ g) (hB : B ≤ w.heap.size) : Below B w w' := ⟨h.os, h.tape, h.output, h.size, fun k hk => h.block k (by omega) (by omega)⟩
/-- What a part's taking leaves: the error's number, and the store, if there is none. -/
def textP (g i : Nat) (s : List UInt8) (z : Int) (w w' : World) (e : Ending) : Prop :=
  e = .returned (.int .i64 z) ∧ ((z ≠ 0 ∧ w' = w) ∨ (z = 0 ∧ w' = w.setCell ⟨g, i, none⟩ (.string (sb s))))
theorem taketx_any (g i : Nat) (s : List UInt8) (w : World) (v0 : Value) (hc : w.cell? ⟨g, i, none⟩ = some v0) (hf : w.frozen? ⟨g, i, none⟩ = false) :
    Calls Tryz.prog 41 #[.pointer (some ⟨g, i, none⟩), .string (sb s)] w fun e w' => textP g i s (textE s) w w' e := by
  have hsz : (sb s).size = s.length := size_sb s
  by_cases h : 64 < s.length
  · have e1 : textE s = 4 := if_pos h
    rw [e1]
    have hz : (64 : Int) < (s.length : Int) := by omega
    go_enter Tryz.func41, Tryz.ntmps41
    go_wp2
    go_ret
    exact ⟨rfl, .inl ⟨by decide, rfl⟩⟩
  · have e1 : textE s = 0 := if_neg h
    rw [e1]
    have hz : ¬ (64 : Int) < (s.length : Int) := by omega
    go_enter Tryz.func41, Tryz.ntmps41
    go_wp2
    go_ret
    exact ⟨rfl, .inr ⟨rfl, rfl⟩⟩
theorem sb_empty (s : List UInt8) : (sb s).toList.isEmpty = decide (s = []) := by
  rw [ByteArray.toList_eq]
  cases s <;> simp [sb]
theorem takekey_any (g i : Nat) (s : List UInt8) (w : World) (v0 : Value) (hc : w.cell? ⟨g, i, none⟩ = some v0) (hf : w.frozen? ⟨g, i, none⟩ = false) :
    Calls Tryz.prog 40 #[.pointer (some ⟨g, i, none⟩), .string (sb s)] w fun e w' => textP g i s (keyTE s) w w' e := by
  have hq := sb_empty s
  by_cases h : s = []
  · have e1 : keyTE s = 1 := if_pos h
    rw [e1]
    rw [decide_eq_true h] at hq
    clear h e1
    go_enter Tryz.func40, Tryz.ntmps40
    go_wp2
    go_ret
    exact ⟨rfl, .inl ⟨by decide, rfl⟩⟩
  · have e1 : keyTE s = textE s := if_neg h
    rw [e1]
    rw [decide_eq_false h] at hq
    clear h e1
    have hT := taketx_any g i s w v0 hc hf
    clear hc hf
    go_enter Tryz.func40, Tryz.ntmps40
    go_wp2_with fail
    refine Calls.mono hT ?_
    rintro e w1 ⟨rfl, hw⟩
    go_wp2
    go_ret
    exact ⟨rfl, hw⟩
theorem neq_err (W : World) (t : TypeId) (N : Nat) : (binOp .neq 114 (.iface t (.pointer (some ⟨N, 0, none⟩))) .nilIface).run Tryz.prog W = .ok (.bool true) W := by kernel_rfl
def wholeP (g i : Nat) (s : List UInt8) (w w' : World) (e : Ending) : Prop :=
  e = .returned (.int .i64 (numTE s)) ∧ ((numTx s = none ∧ Below w.heap.size w w') ∨ ∃ n W, numTx s = some n ∧ Below w.heap.size w W ∧ w' = W.setCell ⟨g, i, none⟩ (.int .i64 n))
set_option maxHeartbeats 1000000 in
theorem takewhole_any (g i : Nat) (s : List UInt8) (w : World) (v0 : Value) (hg : g < w.heap.size) (hc : w.cell? ⟨g, i, none⟩ = some v0) (hf : w.frozen? ⟨g, i, none⟩ = false) (hs : s.length ≤ 1000) (ht : Tb w) :
    Calls Tryz.prog 42 #[.pointer (some ⟨g, i, none⟩), .string (sb s)] w fun e w' => wholeP g i s w w' e := by
  have hbad : numTx s = none → ∀ n, Lib.atoiAll s = .ok n → -999999999999999 ≤ n → n ≤ 999999999999999 → Lib.itoa n ≠ s := fun h n h1 h2 h3 h4 => by
    rw [(whole_iff s n).2 ⟨h1, h2, h3, h4⟩] at h; cases h
  by_cases hok : ∃ n, Lib.atoiAll s = .ok n
  · obtain ⟨n, hn⟩ := hok
    have hA := atoi_ok s n hn (by omega) w
    have HS : Hid (numTx s = none → -999999999999999 ≤ n → n ≤ 999999999999999 → Lib.itoa n ≠ s) := fun h => hbad h n hn
    have HT : Hid (∀ m, numTx s = some m → m = n ∧ -999999999999999 ≤ n ∧ n ≤ 999999999999999 ∧ Lib.itoa n = s) := fun m h => by
      obtain ⟨h1, h2, h3, h4⟩ := (whole_iff s m).1 h
      rw [hn] at h1
      injection h1 with h1
      subst h1
      exact ⟨rfl, h2, h3, h4⟩
    have HU : Hid (-999999999999999 ≤ n → n ≤ 999999999999999 → Lib.itoa n = s → numTx s = some n) := fun h1 h2 h3 => (whole_iff s n).2 ⟨hn, h1, h2, h3⟩
    have HTB : Hid (Tb w) := ht
    have HC : Aside (g < w.heap.size ∧ w.cell? ⟨g, i, none⟩ = some v0 ∧ w.frozen? ⟨g, i, none⟩ = false) := ⟨hg, hc, hf⟩
    have hn13 : numTx s = none → numTE s = 13 := fun h => by unfold numTE; rw [h]; rfl
    have h13 : (∀ m, numTx s ≠ some m) → numTx s = none := fun h => by
      cases h' : numTx s with
      | none => rfl
      | some m => exact absurd h' (h m)
    clear hbad ht hn hc hf hg
    by_cases h1 : n < -999999999999999
    · have hno := h13 fun m h => by have := HT.out m h; omega
      have e1 := hn13 hno
      unfold wholeP
      rw [e1]
      have HNO : Hid (numTx s = none) := hno
      clear hno e1 hn13 h13
      go_enter Tryz.func42, Tryz.ntmps42
      go_wp2_with fail
      refine Calls.mono hA ?_
      rintro e w1 ⟨rfl, hb⟩
      go_wp2
      go_ret
      exact ⟨rfl, .inl ⟨HNO.out, hb⟩⟩
    by_cases h2 : 999999999999999 < n
    · have hno := h13 fun m h => by have := HT.out m h; omega
      have e1 := hn13 hno
      unfold wholeP
      rw [e1]
      have HNO : Hid (numTx s = none) := hno
      clear hno e1 hn13 h13
      go_enter Tryz.func42, Tryz.ntmps42
      go_wp2_with fail
      refine Calls.mono hA ?_
      rintro e w1 ⟨rfl, hb⟩
      go_wp2
      go_ret
      exact ⟨rfl, .inl ⟨HNO.out, hb⟩⟩
    have hI := fun W (hb : Below w.heap.size w W) => itoa_any n (by omega) (by omega) W (HTB.out.below hb).tab
    have hq : ((sb (Lib.itoa n)).toList == (sb s).toList) = decide (Lib.itoa n = s) := sb_beq _ _
    by_cases h3 : Lib.itoa n = s
    · rw [decide_eq_true h3] at hq
      have hsm : numTx s = some n := HU.out (by omega) (by omega) h3
      have e1 : numTE s = 0 := by unfold numTE; rw [hsm]; rfl
      unfold wholeP
      rw [e1]
      have HSM : Hid (numTx s = some n) := hsm
      have hI : ∀ W, Below w.heap.size w W → Calls Tryz.prog 87 #[.int .i64 n] W fun e w' => e = .returned (.string (sb (Lib.itoa n))) ∧ Below W.heap.size W w' := hI
      clear hsm e1 hn13 h13 h3
      generalize Lib.itoa n = x at *
      go_enter Tryz.func42, Tryz.ntmps42
      go_wp2_with fail
      refine Calls.mono hA ?_
      rintro e w1 ⟨rfl, hb⟩
      go_wp2_with fail
      refine Calls.mono (hI w1 hb) ?_
      rintro e w2 ⟨rfl, hb2⟩
      have hb3 := hb.trans (hb2.mono hb.size)
      have hc : w2.cell? ⟨g, i, none⟩ = some v0 := by rw [hb3.cell HC.out.1]; exact HC.out.2.1
      have hf : w2.frozen? ⟨g, i, none⟩ = false := by rw [hb3.frozen HC.out.1]; exact HC.out.2.2
      have HB3 : Hid (Below w.heap.size w w2) := hb3
      clear hb hb2 hb3 hI hA
      go_wp2
      go_ret
      exact ⟨rfl, .inr ⟨n, w2, HSM.out, HB3.out, rfl⟩⟩
    · rw [decide_eq_false h3] at hq
      have hno := h13 fun m h => by have := HT.out m h; exact h3 this.2.2.2
      have e1 := hn13 hno
      unfold wholeP
      rw [e1]
      have HNO : Hid (numTx s = none) := hno
      have hI : ∀ W, Below w.heap.size w W → Calls Tryz.prog 87 #[.int .i64 n] W fun e w' => e = .returned (.string (sb (Lib.itoa n))) ∧ Below W.heap.size W w' := hI
      clear hno e1 hn13 h13 h3
      generalize Lib.itoa n = x at *
      go_enter Tryz.func42, Tryz.ntmps42
      go_wp2_with fail
      refine Calls.mono hA ?_
      rintro e w1 ⟨rfl, hb⟩
      go_wp2_with fail
      refine Calls.mono (hI w1 hb) ?_
      rintro e w2 ⟨rfl, hb2⟩
      have hb3 := hb.trans (hb2.mono hb.size)
      clear hb hb2 hI hA
      go_wp2
      go_ret
      exact ⟨rfl, .inl ⟨HNO.out, hb3⟩⟩
  · have hA := atoi_bad s (fun n h => hok ⟨n, h⟩) (by omega) w ht
    have hno : numTx s = none := by
      cases h : numTx s with
      | none => rfl
      | some n => exact absurd ⟨n, ((whole_iff s n).1 h).1⟩ hok
    have e1 : numTE s = 13 := by unfold numTE; rw [hno]; rfl
    unfold wholeP
    rw [e1]
    have HNO : Hid (numTx s = none) := hno
    clear hbad hok hc hf ht hno e1
    go_enter Tryz.func42, Tryz.ntmps42
    go_wp2_with fail
    refine Calls.mono hA ?_
    rintro e w1 ⟨⟨n, t, N, rfl⟩, hb⟩
    have hne := neq_err
    go_wp2
    go_ret
    exact ⟨rfl, .inl ⟨HNO.out, hb⟩⟩
end Go.Proofs.YtmlfekbmbnfkjabGreatDoor

/-
  What take and Parse come to.
-/
namespace Go.Proofs.YtmlfekbmbnfkjabGreatDoor
set_option maxRecDepth 100000
open Go.RowKit

/-- What taking a part leaves: the call, if there is no error. -/
def takeP (g : Nat) (c : Cl) (p : UInt8) (s : List UInt8) (w w' : World) (e : Ending) : Prop :=
  e = .returned (.int .i64 (takeE p s)) ∧ Bt g w w' ∧ (takeE p s = 0 → w'.heap[g]? = some (.cells (clc (takeC c p s)) 38 (0, 0)))
theorem take_text {g i : Nat} {c c' : Cl} {z : Int} {p : UInt8} {s : List UInt8} {w w' : World} {e : Ending} (h : textP g i s z w w' e) (hz : takeE p s = z) (hc : takeC c p s = c')
    (hs : (w.setCell ⟨g, i, none⟩ (.string (sb s))).heap[g]? = some (.cells (clc c') 38 (0, 0))) : takeP g c p s w w' e := by
  obtain ⟨h1, h2⟩ := h
  unfold takeP
  rw [hz, hc]
  rcases h2 with ⟨h3, rfl⟩ | ⟨h3, rfl⟩
  · exact ⟨h1, Bt.of_below (Below.refl _ _), fun h => absurd h h3⟩
  · exact ⟨h1, Bt.set g i w _, fun _ => hs⟩
theorem take_whole {g i : Nat} {c : Cl} {c' : Int → Cl} {p : UInt8} {s : List UInt8} {w w' : World} {e : Ending} (h : wholeP g i s w w' e) (hz : takeE p s = numTE s) (hc : takeC c p s = c' ((numTx s).getD 0))
    (hg : w.heap[g]? = some (.cells (clc c) 38 (0, 0)))
    (hs : ∀ (W : World) (n : Int), W.heap[g]? = some (.cells (clc c) 38 (0, 0)) → (W.setCell ⟨g, i, none⟩ (.int .i64 n)).heap[g]? = some (.cells (clc (c' n)) 38 (0, 0))) : takeP g c p s w w' e := by
  obtain ⟨h1, h2⟩ := h
  unfold takeP
  rw [hz, hc]
  have hlt : g < w.heap.size := (Array.getElem?_eq_some_iff.1 hg).1
  rcases h2 with ⟨h3, hb⟩ | ⟨n, W, h3, hb, rfl⟩
  · refine ⟨h1, Bt.of_below hb, fun h => ?_⟩
    unfold numTE at h; rw [h3] at h; exact absurd h (by decide)
  · rw [h3]
    exact ⟨h1, (Bt.of_below hb).trans (Bt.set g i W _), fun _ => hs W n (by rw [hb.block g hlt]; exact hg)⟩
set_option maxHeartbeats 1000000 in
theorem ctake_any (g : Nat) (c : Cl) (p : UInt8) (s : List UInt8) (w : World) (hg : w.heap[g]? = some (.cells (clc c) 38 (0, 0))) (hs : s.length ≤ 1000) (ht : Tb w) :
    Calls Tryz.prog 23 #[.pointer (some ⟨g, 0, none⟩), .int .u8 (p.toNat : Int), .string (sb s)] w fun e w' => takeP g c p s w w' e := by
  have hlt : g < w.heap.size := (Array.getElem?_eq_some_iff.1 hg).1
  have hpn : ∀ q : UInt8, p ≠ q → p.toNat ≠ q.toNat := fun q h e => h (UInt8.toNat_inj.1 e)
  have hc : ∀ i, i < 6 → ∃ v, w.cell? ⟨g, i, none⟩ = some v := fun i hi => by rw [cell_of_row w g i _ _ _ hg]; exact ⟨_, Array.getElem?_eq_getElem hi⟩
  have hf : ∀ i, w.frozen? ⟨g, i, none⟩ = false := fun i => frozen_of_row w g i _ _ hg
  by_cases h1 : p = 107
  · subst h1
    obtain ⟨v0, hv0⟩ := hc 1 (by decide)
    have hT := takekey_any g 1 s w v0 hv0 (hf 1)
    have FIN : ∀ e w', textP g 1 s (keyTE s) w w' e → takeP g c 107 s w w' e := fun e w' h => take_text h rfl rfl (cl_set1 hg s)
    have FIN : Hid _ := FIN
    clear hc hf hg hv0 hpn ht
    show Calls Tryz.prog 23 #[.pointer (some ⟨g, 0, none⟩), .int .u8 107, .string (sb s)] w _
    go_enter Tryz.func23, Tryz.ntmps23
    go_wp2_with fail
    refine Calls.mono hT ?_
    intro e w1 hP
    have hP2 := FIN.out e w1 hP
    obtain ⟨rfl, -⟩ := hP
    have HP2 : Hid _ := hP2
    clear hP2
    go_wp2
    go_ret
    exact HP2.out
  by_cases h2 : p = 102
  · subst h2
    obtain ⟨v0, hv0⟩ := hc 2 (by decide)
    have hT := taketx_any g 2 s w v0 hv0 (hf 2)
    have FIN : ∀ e w', textP g 2 s (textE s) w w' e → takeP g c 102 s w w' e := fun e w' h => take_text h rfl rfl (cl_set2 hg s)
    have FIN : Hid _ := FIN
    clear hc hf hg hv0 hpn ht
    show Calls Tryz.prog 23 #[.pointer (some ⟨g, 0, none⟩), .int .u8 102, .string (sb s)] w _
    go_enter Tryz.func23, Tryz.ntmps23
    go_wp2_with fail
    refine Calls.mono hT ?_
    intro e w1 hP
    have hP2 := FIN.out e w1 hP
    obtain ⟨rfl, -⟩ := hP
    have HP2 : Hid _ := hP2
    clear hP2
    go_wp2
    go_ret
    exact HP2.out
  by_cases h3 : p = 118
  · subst h3
    obtain ⟨v0, hv0⟩ := hc 3 (by decide)
    have hT := taketx_any g 3 s w v0 hv0 (hf 3)
    have FIN : ∀ e w', textP g 3 s (textE s) w w' e → takeP g c 118 s w w' e := fun e w' h => take_text h rfl rfl (cl_set3 hg s)
    have FIN : Hid _ := FIN
    clear hc hf hg hv0 hpn ht
    show Calls Tryz.prog 23 #[.pointer (some ⟨g, 0, none⟩), .int .u8 118, .string (sb s)] w _
    go_enter Tryz.func23, Tryz.ntmps23
    go_wp2_with fail
    refine Calls.mono hT ?_
    intro e w1 hP
    have hP2 := FIN.out e w1 hP
    obtain ⟨rfl, -⟩ := hP
    have HP2 : Hid _ := hP2
    clear hP2
    go_wp2
    go_ret
    exact HP2.out
  have ez : takeE p s = numTE s := by unfold takeE; rw [if_neg h1, if_neg (by rintro (h | h); exact h2 h; exact h3 h)]
  by_cases h4 : p = 110
  · obtain ⟨v0, hv0⟩ := hc 4 (by decide)
    have hT := takewhole_any g 4 s w v0 hlt hv0 (hf 4) hs ht
    have FIN : ∀ e w', wholeP g 4 s w w' e → takeP g c p s w w' e := fun e w' h => take_whole (c' := fun n => { c with n := n }) h ez (by rw [h4]; rfl) hg (fun W n hW => cl_set4 hW n)
    have FIN : Hid _ := FIN
    clear hc hf hg hv0 hpn ht ez h1 h2 h3
    subst h4
    show Calls Tryz.prog 23 #[.pointer (some ⟨g, 0, none⟩), .int .u8 110, .string (sb s)] w _
    go_enter Tryz.func23, Tryz.ntmps23
    go_wp2_with fail
    refine Calls.mono hT ?_
    intro e w1 hP
    have hP2 := FIN.out e w1 hP
    obtain ⟨rfl, -⟩ := hP
    have HP2 : Hid _ := hP2
    clear hP2
    go_wp2
    go_ret
    exact HP2.out
  · obtain ⟨v0, hv0⟩ := hc 5 (by decide)
    have hT := takewhole_any g 5 s w v0 hlt hv0 (hf 5) hs ht
    have FIN : ∀ e w', wholeP g 5 s w w' e → takeP g c p s w w' e := fun e w' h => take_whole (c' := fun n => { c with m := n }) h ez (by unfold takeC; rw [if_neg h1, if_neg h2, if_neg h3, if_neg h4]) hg (fun W n hW => cl_set5 hW n)
    have FIN : Hid _ := FIN
    have n1 : ¬ ((p.toNat : Int) = 107) := fun e => hpn 107 h1 (by have : (107 : UInt8).toNat = 107 := rfl; omega)
    have n2 : ¬ ((p.toNat : Int) = 102) := fun e => hpn 102 h2 (by have : (102 : UInt8).toNat = 102 := rfl; omega)
    have n3 : ¬ ((p.toNat : Int) = 118) := fun e => hpn 118 h3 (by have : (118 : UInt8).toNat = 118 := rfl; omega)
    have n4 : ¬ ((p.toNat : Int) = 110) := fun e => hpn 110 h4 (by have : (110 : UInt8).toNat = 110 := rfl; omega)
    clear hc hf hg hv0 hpn ht ez h1 h2 h3 h4
    have q1 : ((p.toNat : Int) == 107) = false := by simpa using n1
    have q2 : ((p.toNat : Int) == 102) = false := by simpa using n2
    have q3 : ((p.toNat : Int) == 118) = false := by simpa using n3
    have q4 : ((p.toNat : Int) == 110) = false := by simpa using n4
    go_enter Tryz.func23, Tryz.ntmps23
    go_wp2_with fail
    refine Calls.mono hT ?_
    intro e w1 hP
    have hP2 := FIN.out e w1 hP
    obtain ⟨rfl, -⟩ := hP
    have HP2 : Hid _ := hP2
    clear hP2
    go_wp2
    go_ret
    exact HP2.out
end Go.Proofs.YtmlfekbmbnfkjabGreatDoor

/-
  What Parse comes to.
-/
namespace Go.Proofs.YtmlfekbmbnfkjabGreatDoor
set_option maxRecDepth 100000
open Go.RowKit

theorem clc_one (c : Cl) : (clc c).all (·.oneCell') = true := by simp [clc, Value.oneCell']
theorem clc_size (c : Cl) : (clc c).size = 6 := rfl
/-- A text among the arguments. -/
theorem arg_at {w : World} {ao : Option Addr} {m c : Nat} {A : List (List UInt8)} (h : T21.Txts w ao m c (A.map sb)) {j : Nat} (hj : j < m) :
    ∃ b off, ao = some ⟨b, off, none⟩ ∧ w.cell? ⟨b, off + j, none⟩ = some (.string (sb (A.getD j []))) := by
  rcases h.norm with ⟨h1, -⟩ | ⟨b, off, hao, -, hc⟩
  · omega
  · refine ⟨b, off, hao, ?_⟩
    rw [hc j hj]
    have hl := h.len
    rw [List.length_map] at hl
    congr 2
    rw [List.getD_eq_getElem?_getD, List.getElem?_map, List.getD_eq_getElem?_getD, List.getElem?_eq_getElem (by omega)]
    rfl
/-- What Parse has laid. -/
structure Pl22 (w : World) (gr : Nat) (r : Rw22) (c : Cl) (wr : World) : Prop where
  res : wr.heap[w.heap.size]? = some (.cells (clc clz) 38 (0, 0))
  row : wr.heap[gr]? = some (.cells (rwc r).toArray 62 (0, 0))
  cl : wr.heap[gr + 1]? = some (.cells (clc c) 38 (0, 0))
  be : Below w.heap.size w wr
  lt : w.heap.size < gr
theorem fin_cl {w wr : World} {cs : Array Value} (hc : cs.size = 6) (h1 : cs.all (·.oneCell') = true) (hr : wr.heap[w.heap.size]? = some (.cells (clc clz) 38 (0, 0))) (hb : Below w.heap.size w wr) :
    ∃ W, (storeVar 38 ⟨w.heap.size, 0, none⟩ (.agg cs)).run Tryz.prog wr = .ok () W ∧ W.heap[w.heap.size]? = some (.cells cs 38 (0, 0)) ∧ Below w.heap.size w W :=
  ⟨_, storeVar_cl hr hc rfl h1, setRow_heap wr w.heap.size _ cs _ _ hr, below_setRow hb (Nat.le_refl _) _⟩
theorem bt_drew {g B : Nat} {wr w4 : World} (h : Bt g wr.drew w4) (hg : B ≤ g) (hB : B ≤ wr.heap.size) : Below B wr w4 := (((Below.refl wr.heap.size wr).drew).mono hB).trans (h.below hg hB)
theorem pl_on {w wr w4 : World} {gr : Nat} {r : Rw22} {cl cl' : Cl} (h : Pl22 w gr r cl wr) (hB : Bt (gr + 1) wr.drew w4) (hc : w4.heap[gr + 1]? = some (.cells (clc cl') 38 (0, 0))) : Pl22 w gr r cl' w4 := by
  have hb : Below w.heap.size wr w4 := bt_drew hB (by have := h.lt; omega) h.be.size
  refine ⟨?_, ?_, hc, h.be.trans hb, h.lt⟩
  · rw [hB.block w.heap.size (Array.getElem?_eq_some_iff.1 h.res).1 (by have := h.lt; omega)]; exact h.res
  · rw [hB.block gr (Array.getElem?_eq_some_iff.1 h.row).1 (by omega)]; exact h.row
set_option maxHeartbeats 4000000 in
theorem parse_any (ao : Option Addr) (m c : Nat) (A : List (List UInt8)) (w : World) (hT : T21.Txts w ao m c (A.map sb)) (hs : ∀ s ∈ A, s.length ≤ 1000) (ht : Tb w) (hm : m ≤ 1000) :
    Calls Tryz.prog 12 #[.slice ao m c] w fun e w' => e = .returned (.tuple #[.agg (clc (parseE A).1), .int .i64 (parseE A).2]) ∧ Below w.heap.size w w' := by
  obtain ⟨R, hR⟩ : ∃ R, w.heap.size = R := ⟨_, rfl⟩
  have hs0 : (w.alloc (.cells (clc clz) 38)).heap.size = R + 1 := by rw [← hR]; simp
  have hz0 : (w.alloc (.cells (clc clz) 38)).heap[w.heap.size]? = some (.cells (clc clz) 38) := heap_alloc_new w _
  have hb0 : Below w.heap.size w (w.alloc (.cells (clc clz) 38)) := (Below.refl _ w).alloc (Nat.le_refl _) _
  have hT0 := hT.below hb0 (Nat.le_refl _)
  have ht0 := ht.below hb0
  have hlen := hT.len
  rw [List.length_map] at hlen
  cases A with
  | nil =>
    simp only [List.length_nil] at hlen
    subst hlen
    obtain ⟨W, hst, hg, hb⟩ := fin_cl (clc_size clz) (clc_one clz) hz0 hb0
    have FIN : Hid (Below w.heap.size w W) := hb
    clear hz0 hb0 hT0 ht0 hT ht hb hs0
    rw [hR] at hst hg
    go_enter Tryz.func12, Tryz.ntmps12
    go_wp2_with (first
      | (refine wpList_storeR (ty := 38) (x := .tmp 2) (y := .tmp 12) (ad := ⟨R, 0, none⟩) (v := .agg (clc clz)) (w' := W) rfl rfl rfl rfl hst ?_))
    refine ret_cl2 rfl rfl rfl rfl hg rfl ?_
    exact ⟨rfl, FIN.out⟩
  | cons a T =>
    rw [List.length_cons] at hlen
    obtain ⟨n, hn⟩ : ∃ n, T.length = n := ⟨_, rfl⟩
    rw [hn] at hlen
    subst hlen
    obtain ⟨b, off, rfl, hcA⟩ := arg_at hT0 (j := 0) (by omega)
    have hc0 : (w.alloc (.cells (clc clz) 38)).cell? ⟨b, off, none⟩ = some (.string (sb a)) := hcA
    clear hcA
    have hm0 : ¬ ((n : Int) + 1 = 0) := by omega
    have hCap := fun W => capitals_any a W (Nat.le_trans (hs a (by simp)) (by decide))
    have hRo := fun W => rowof_any (upE a) W
    have HP : Hid (parseE (a :: T) = (match rowN (upE a) with | none => (clz, 14) | some w => if n = w.takes.length then takesE { clz with name := w.name } w.takes T else (clz, 12))) := by rw [← hn]; rfl
    have HA : Aside (T21.Txts (w.alloc (.cells (clc clz) 38)) (some ⟨b, off, none⟩) (n + 1) c ((a :: T).map sb) ∧ Tb (w.alloc (.cells (clc clz) 38)) ∧ (w.alloc (.cells (clc clz) 38)).heap[w.heap.size]? = some (.cells (clc clz) 38) ∧ Below w.heap.size w (w.alloc (.cells (clc clz) 38)) ∧ (w.alloc (.cells (clc clz) 38)).heap.size = w.heap.size + 1) := ⟨hT0, ht0, hz0, hb0, by simp⟩
    have HA0 : Aside (T21.Txts w (some ⟨b, off, none⟩) (n + 1) c ((a :: T).map sb) ∧ Tb w) := ⟨hT, ht⟩
    have HS : Hid ((∀ s ∈ T, s.length ≤ 1000) ∧ T.length = n ∧ w.heap.size = R ∧ n + 1 ≤ 1000) := ⟨fun s h => hs s (by simp [h]), hn, hR, hm⟩
    clear hz0 hb0 hT0 ht0 hT ht hs hn hs0
    obtain ⟨W0, hW0⟩ : ∃ W0, w.alloc (.cells (clc clz) 38) = W0 := ⟨_, rfl⟩
    rw [hW0] at HA hc0
    have hW0 : w.alloc (.cells #[.string ⟨#[]⟩, .string ⟨#[]⟩, .string ⟨#[]⟩, .string ⟨#[]⟩, .int .i64 0, .int .i64 0] 38) = W0 := hW0
    go_enter Tryz.func12, Tryz.ntmps12
    go_wp2_with fail
    refine Calls.mono (hCap _) ?_
    rintro e w1 ⟨rfl, hb1⟩
    go_wp2_with fail
    refine Calls.mono (hRo _) ?_
    rintro e w2 ⟨rfl, hb2⟩
    have hb02 := hb1.trans (hb2.mono hb1.size)
    have H2 : Aside (T21.Txts w2 (some ⟨b, off, none⟩) (n + 1) c ((a :: T).map sb) ∧ Tb w2 ∧ w2.heap[w.heap.size]? = some (.cells (clc clz) 38 (0, 0)) ∧ Below w.heap.size w w2 ∧ w.heap.size < w2.heap.size) :=
      ⟨HA.out.1.below hb02 (Nat.le_refl _), HA.out.2.1.below hb02, by rw [hb02.block _ (by have := HA.out.2.2.2.2; omega)]; exact HA.out.2.2.1, HA.out.2.2.2.1.trans (hb02.mono HA.out.2.2.2.1.size), by have := HA.out.2.2.2.2; have := hb02.size; omega⟩
    obtain ⟨gr, hgr⟩ : ∃ gr, w2.heap.size = gr := ⟨_, rfl⟩
    clear hb1 hb2 hb02 HA hc0 hW0 hCap hRo
    have hnew := heap_alloc_new w2 (.cells rwz 62)
    have hs2 : (w2.alloc (.cells rwz 62)).heap.size = gr + 1 := by rw [← hgr]; simp
    have hba : Below w2.heap.size w2 (w2.alloc (.cells rwz 62)) := (Below.refl _ w2).alloc (Nat.le_refl _) _
    rw [hgr] at hnew hba
    cases hrn : rowN (upE a) with
    | none =>
      rw [hrn] at HP
      have hst := storeVar_rw (cs := rwz) hnew rfl rfl (by simp [rwz, Value.oneCell'])
      have hb3 : Below gr w2 ((w2.alloc (.cells rwz 62)).setRow gr rwz) := below_setRow hba (Nat.le_refl _) _
      generalize (w2.alloc (.cells rwz 62)).setRow gr rwz = W3 at *
      obtain ⟨W4, hst4, hg4, hb4⟩ := fin_cl (clc_size clz) (clc_one clz) (by rw [hb3.block _ (by have := H2.out.2.2.2.2; omega)]; exact H2.out.2.2.1) (H2.out.2.2.2.1.trans (hb3.mono (by have := H2.out.2.2.2.2; omega)))
      rw [hR] at hst4 hg4
      have FIN : Hid (Below w.heap.size w W4) := hb4
      clear hnew hs2 hba hb3 hb4 H2
      have e1 : rowV none = .agg rwz := rfl
      have HR : Hid (w.heap.size = R) := hR
      clear hR hrn
      go_wp2_with (first
        | (refine wpList_storeR (ty := 62) (x := .tmp 4) (y := .tmp 19) (ad := ⟨gr, 0, none⟩) (v := .agg rwz) (w' := W3) rfl rfl rfl rfl hst ?_)
        | (refine wpList_storeR (ty := 38) (x := .tmp 2) (y := .tmp 23) (ad := ⟨R, 0, none⟩) (v := .agg (clc clz)) (w' := W4) rfl rfl rfl rfl hst4 ?_))
      refine ret_cl2 rfl rfl rfl rfl hg4 rfl ?_
      rw [HP.out]
      exact ⟨rfl, FIN.out⟩
    | some r =>
      rw [hrn] at HP
      have hst := storeVar_rw (cs := (rwc r).toArray) hnew rfl rfl (rwc_one r)
      have hg3 := setRow_heap (w2.alloc (.cells rwz 62)) gr _ (rwc r).toArray _ _ hnew
      have hb3 : Below gr w2 ((w2.alloc (.cells rwz 62)).setRow gr (rwc r).toArray) := below_setRow hba (Nat.le_refl _) _
      have hs3 : ((w2.alloc (.cells rwz 62)).setRow gr (rwc r).toArray).heap.size = gr + 1 := by rw [← hs2]; simp [World.setRow]
      generalize (w2.alloc (.cells rwz 62)).setRow gr (rwc r).toArray = W3 at *
      have hres : W3.heap[w.heap.size]? = some (.cells (clc clz) 38 (0, 0)) := by rw [hb3.block _ (by have := H2.out.2.2.2.2; omega)]; exact H2.out.2.2.1
      have hbw : Below w.heap.size w W3 := H2.out.2.2.2.1.trans (hb3.mono (by have := H2.out.2.2.2.2; omega))
      have hcA := cell_of_row _ gr 0 _ _ _ hg3
      have hcB := cell_of_row _ gr 1 _ _ _ hg3
      have hc0 : W3.cell? ⟨gr, 0, none⟩ = some (.string (sb r.name)) := hcA
      have hc1 : W3.cell? ⟨gr, 1, none⟩ = some (.string (sb r.takes)) := hcB
      have e1 : rowV (some r) = .agg (rwc r).toArray := rfl
      have hsz : (sb r.takes).size = r.takes.length := size_sb r.takes
      have H3 : Aside (T21.Txts W3 (some ⟨b, off, none⟩) (n + 1) c ((a :: T).map sb) ∧ Tb W3 ∧ w.heap.size < gr) := ⟨H2.out.1.below hb3 (by omega), H2.out.2.1.below (by rw [hgr]; exact hb3), by have := H2.out.2.2.2.2; omega⟩
      clear hcA hcB hnew hs2 hba hb3 H2
      obtain ⟨q, hq⟩ : ∃ q, r.takes.length = q := ⟨_, rfl⟩
      rw [hq] at hsz
      by_cases hnq : n = q
      · subst hnq
        have hnew4 := heap_alloc_new W3 (.cells (clc clz) 38)
        rw [hs3] at hnew4
        have hst4 := storeVar_cl (cs := clc { clz with name := r.name }) hnew4 rfl rfl (clc_one _)
        have hg4 := setRow_heap (W3.alloc (.cells (clc clz) 38)) (gr + 1) _ (clc { clz with name := r.name }) _ _ hnew4
        have hb4 : Below (gr + 1) W3 ((W3.alloc (.cells (clc clz) 38)).setRow (gr + 1) (clc { clz with name := r.name })) := below_setRow ((Below.refl _ W3).alloc (by omega) _) (Nat.le_refl _) _
        generalize (W3.alloc (.cells (clc clz) 38)).setRow (gr + 1) (clc { clz with name := r.name }) = W4 at *
        have hc4 : W4.cell? ⟨gr, 1, none⟩ = some (.string (sb r.takes)) := by rw [hb4.cell (Nat.lt_succ_self gr)]; exact hc1
        have hgw : w.heap.size < gr := H3.out.2.2
        have H4 : Aside (Pl22 w gr r { clz with name := r.name } W4 ∧ takesE { clz with name := r.name } (r.takes.drop 0) (T.drop 0) = takesE { clz with name := r.name } r.takes T ∧ T21.Txts W4 (some ⟨b, off, none⟩) (n + 1) c ((a :: T).map sb) ∧ Tb W4) :=
          ⟨⟨by rw [hb4.block _ (by omega)]; exact hres, by rw [hb4.block _ (Nat.lt_succ_self gr)]; exact hg3, hg4, hbw.trans (hb4.mono (by omega)), hgw⟩, rfl, H3.out.1.below hb4 (by omega), H3.out.2.1.below (by rw [hs3]; exact hb4)⟩
        have HR : Hid (w.heap.size = R) := hR
        have HQ : Hid (r.takes.length = n) := hq
        have HI : Hid (W3.heap.size = gr + 1) := hs3
        have hW4 : (storeVar 38 ⟨W3.heap.size, 0, none⟩ (.agg (clc { clz with name := r.name }))).run Tryz.prog (W3.alloc (.cells (clc clz) 38)) = .ok () W4 := by rw [hs3]; exact hst4
        clear hnew4 hg4 hb4 hres hg3 hbw hR hrn hq H3 hgw hst4
        go_wp2_with (first
          | (refine wpList_storeR (ty := 62) (x := .tmp 4) (y := .tmp 19) (ad := ⟨gr, 0, none⟩) (v := .agg (rwc r).toArray) (w' := W3) rfl rfl rfl rfl hst ?_)
          | (refine wpList_storeR (ty := 38) (x := .tmp 6) (y := .tmp 34) (ad := ⟨gr + 1, 0, none⟩) (v := .agg (clc { clz with name := r.name })) (w' := W4) rfl rfl rfl rfl (by rw [← HI.out]; exact hW4) ?_))
        go_loopw [38] (fun cv wr => ∃ (k : Nat) (cl : Cl), k ≤ n ∧ cv = .int .i64 (k : Int) ∧ Aside (Pl22 w gr r cl wr ∧ takesE cl (r.takes.drop k) (T.drop k) = takesE { clz with name := r.name } r.takes T ∧ T21.Txts wr (some ⟨b, off, none⟩) (n + 1) c ((a :: T).map sb) ∧ Tb wr)) (fun cv _ => n - (intOf cv).toNat)
        case atStart => exact ⟨0, _, Nat.zero_le _, rfl, H4⟩
        case round =>
          clear H4
          obtain ⟨k, cl, hk, rfl, HX⟩ := hrel
          by_cases hkn : k < n
          · have hkn' : (k : Int) < (n : Int) := by omega
            obtain ⟨p, hp⟩ : ∃ p, r.takes[k]? = some p := ⟨_, List.getElem?_eq_getElem (by rw [HQ.out]; exact hkn)⟩
            obtain ⟨s, hs⟩ : ∃ s, T[k]? = some s := ⟨_, List.getElem?_eq_getElem (by rw [HS.out.2.1]; exact hkn)⟩
            have hstep := HX.out.2.1
            rw [takesE_step hp hs] at hstep
            have harg : wr.cell? ⟨b, off + (k + 1), none⟩ = some (.string (sb s)) := by
              obtain ⟨b', off', e, harg⟩ := arg_at HX.out.2.2.1 (j := k + 1) (by omega)
              cases e
              rw [harg, List.getD_cons_succ, List.getD_eq_getElem?_getD, hs, Option.getD_some]
            have hct : wr.cell? ⟨gr, 1, none⟩ = some (.string (sb r.takes)) := cell_of_row _ gr 1 _ _ _ HX.out.1.row
            have hix : ∀ h, (sb r.takes)[k]'h = p := fun h => (T21.tx_get r.takes k h).trans (by rw [List.getD_eq_getElem?_getD, hp, Option.getD_some])
            have hTk := ctake_any (gr + 1) cl p s wr.drew HX.out.1.cl (HS.out.1 s (List.mem_of_getElem? hs)) (HX.out.2.2.2.below (Below.refl _ wr).drew)
            unfold takeP at hTk
            have hn1 : (n : Int) ≤ 1000 := by omega
            have hk0 : (0 : Int) ≤ (k : Int) + 1 := by omega
            have hk1 : (k : Int) + 1 < (n : Int) + 1 := by omega
            have hk2 : ((k : Int) + 1).toNat = k + 1 := by omega
            have hkw : IntKind.i64.wrap ((k : Int) + 1) = (k : Int) + 1 := by simp [IntKind.wrap, IntKind.signed, IntKind.bits]; omega
            by_cases hz : takeE p s = 0
            · rw [if_pos hz] at hstep
              have HZ : Aside (takesE (takeC cl p s) (r.takes.drop (k + 1)) (T.drop (k + 1)) = takesE { clz with name := r.name } r.takes T ∧ Pl22 w gr r cl wr ∧ T21.Txts wr (some ⟨b, off, none⟩) (n + 1) c ((a :: T).map sb) ∧ Tb wr) := ⟨hstep, HX.out.1, HX.out.2.2⟩
              rw [hz] at hTk
              clear hstep HX hz hp hs
              go_wp2_with fail
              go_region_with (go_at_call 23; refine Calls.mono hTk ?_; rintro e w4 ⟨rfl, hB, hcl⟩)
              all_goals
                have hbw4 : Below w.heap.size wr w4 := bt_drew hB (by have := HZ.out.2.1.lt; omega) HZ.out.2.1.be.size
                have H5 : Aside (Pl22 w gr r (takeC cl p s) w4 ∧ takesE (takeC cl p s) (r.takes.drop (k + 1)) (T.drop (k + 1)) = takesE { clz with name := r.name } r.takes T ∧ T21.Txts w4 (some ⟨b, off, none⟩) (n + 1) c ((a :: T).map sb) ∧ Tb w4) :=
                  ⟨pl_on HZ.out.2.1 hB (hcl (by simp)), HZ.out.1, HA0.out.1.below (HZ.out.2.1.be.trans hbw4) (Nat.le_refl _), HA0.out.2.below (HZ.out.2.1.be.trans hbw4)⟩
                clear HZ hbw4 hcl hB hTk harg hct hix
                go_wp2
                go_roundw
                case rel => exact ⟨k + 1, _, by omega, by go_num, H5⟩
                case measure => simp [intOf]; omega
            · rw [if_neg hz] at hstep
              have HZ : Aside ((clz, takeE p s) = takesE { clz with name := r.name } r.takes T ∧ Pl22 w gr r cl wr) := ⟨hstep, HX.out.1⟩
              have hzb : (takeE p s == 0) = false := by simpa using hz
              clear hstep HX hp hs
              generalize takeE p s = z at *
              go_wp2_with fail
              go_region_with (go_at_call 23; refine Calls.mono hTk ?_; rintro e w4 ⟨rfl, hB, hcl⟩)
              all_goals
                have hbw4 : Below w.heap.size wr w4 := bt_drew hB (by have := HZ.out.2.lt; omega) HZ.out.2.be.size
                have hres4 : w4.heap[w.heap.size]? = some (.cells (clc clz) 38 (0, 0)) := by
                  have h1 := HZ.out.2.res
                  have h2 := (Array.getElem?_eq_some_iff.1 h1).1
                  rw [(hB : Bt (gr + 1) wr.drew w4).block w.heap.size h2 (by have := HZ.out.2.lt; omega)]
                  exact h1
                obtain ⟨W5, hst5, hg5, hb5⟩ := fin_cl (clc_size clz) (clc_one clz) hres4 (HZ.out.2.be.trans hbw4)
                rw [HR.out] at hst5 hg5
                have FIN : Hid (Below w.heap.size w W5 ∧ (clz, z) = takesE { clz with name := r.name } r.takes T) := ⟨hb5, HZ.out.1⟩
                clear HZ hbw4 hcl hB hTk harg hct hix hres4 hb5
                go_wp2_with (first
                  | (refine wpList_storeR (ty := 38) (x := .tmp 2) (y := .tmp 53) (ad := ⟨R, 0, none⟩) (v := .agg (clc clz)) (w' := W5) rfl rfl rfl rfl hst5 ?_))
                refine ret_cl2 rfl rfl rfl rfl hg5 rfl ?_
                rw [HP.out]
                simp only [if_pos HQ.out.symm]
                rw [← FIN.out.2]
                exact ⟨rfl, FIN.out.1⟩
          · have hkn' : ¬ (k : Int) < (n : Int) := by omega
            have hend := HX.out.2.1
            rw [takesE_end (by rw [HQ.out]; omega)] at hend
            have hcl5 := HX.out.1.cl
            have hld := loadVar_cl hcl5 (clc_size cl)
            obtain ⟨W5, hst5, hg5, hb5⟩ := fin_cl (clc_size cl) (clc_one cl) HX.out.1.res HX.out.1.be
            rw [HR.out] at hst5 hg5
            have FIN : Hid (Below w.heap.size w W5 ∧ (cl, 0) = takesE { clz with name := r.name } r.takes T) := ⟨hb5, hend⟩
            clear hend hcl5 HX hb5
            go_wp2_with (first
              | (refine wpList_loadR (ty := 38) (x := .tmp 6) (ad := ⟨gr + 1, 0, none⟩) (v := .agg (clc cl)) rfl rfl rfl hld ?_)
              | (refine wpList_storeR (ty := 38) (x := .tmp 2) (y := .tmp 56) (ad := ⟨R, 0, none⟩) (v := .agg (clc cl)) (w' := W5) rfl rfl rfl rfl hst5 ?_))
            refine ret_cl2 rfl rfl rfl rfl hg5 rfl ?_
            rw [HP.out]
            simp only [if_pos HQ.out.symm]
            rw [← FIN.out.2]
            exact ⟨rfl, FIN.out.1⟩
      · obtain ⟨W4, hst4, hg4, hb4⟩ := fin_cl (clc_size clz) (clc_one clz) hres hbw
        rw [hR] at hst4 hg4
        have FIN : Hid (Below w.heap.size w W4) := hb4
        have HN : Hid (n ≠ r.takes.length) := by rw [hq]; exact hnq
        have hn1 : (((n + 1 : Nat) : Int) - 1 == (q : Int)) = false := by simp; omega
        have HR : Hid (w.heap.size = R) := hR
        have HQ : Hid (r.takes.length = q) := hq
        clear hb4 H3 hres hbw hR hrn hq hs3 hg3
        go_wp2_with (first
          | (refine wpList_storeR (ty := 62) (x := .tmp 4) (y := .tmp 19) (ad := ⟨gr, 0, none⟩) (v := .agg (rwc r).toArray) (w' := W3) rfl rfl rfl rfl hst ?_)
          | (refine wpList_storeR (ty := 38) (x := .tmp 2) (y := .tmp 31) (ad := ⟨R, 0, none⟩) (v := .agg (clc clz)) (w' := W4) rfl rfl rfl rfl hst4 ?_))
        refine ret_cl2 rfl rfl rfl rfl hg4 rfl ?_
        rw [HP.out]
        simp only [if_neg HN.out]
        exact ⟨rfl, FIN.out⟩
end Go.Proofs.YtmlfekbmbnfkjabGreatDoor

/-
  awake and small.
-/
namespace Go.Proofs.YtmlfekbmbnfkjabGreatDoor
set_option maxRecDepth 100000
open Go.RowKit

def awA : List (List UInt8) := [[105, 110, 99, 114, 98, 121], [107], [45, 53]]
def awC : Cl := ⟨[73, 78, 67, 82, 66, 89], [107], [], [], -5, 0⟩
theorem aw_parse : parseE awA = (awC, 0) := by decide +kernel
theorem aw_err : errE 13 = [69, 82, 82, 32, 105, 110, 116] := by decide
set_option maxHeartbeats 2000000 in
theorem cawake_any (w : World) (ht : Tb w) : Calls Tryz.prog 5 #[] w fun e w' => e = .returned (.bool true) ∧ Below w.heap.size w w' := by
  have hb0 : Below w.heap.size w (w.alloc (.cells #[.string ⟨#[105, 110, 99, 114, 98, 121]⟩, .string ⟨#[107]⟩, .string ⟨#[45, 53]⟩] 9)) := (Below.refl _ w).alloc (Nat.le_refl _) _
  have hT : T21.Txts (w.alloc (.cells #[.string ⟨#[105, 110, 99, 114, 98, 121]⟩, .string ⟨#[107]⟩, .string ⟨#[45, 53]⟩] 9)) (some ⟨w.heap.size, 0, none⟩) 3 3 (awA.map sb) := by
    refine ⟨rfl, Nat.le_refl _, (fun h => by cases h), fun ad had j s hs => ?_, fun s hs => ?_⟩
    · obtain rfl := Option.some.inj had
      rw [Addr.add_lit, Nat.zero_add, World.cell?_alloc_mark]
      match j, hs with
      | 0, hs => cases hs; rfl
      | 1, hs => cases hs; rfl
      | 2, hs => cases hs; rfl
    · have h9 : ∀ x ∈ awA, x.length ≤ 9 := by decide
      obtain ⟨x, hx, rfl⟩ := List.mem_map.1 hs
      have := h9 x hx
      rw [size_sb]
      unfold maxLen
      omega
  have hP := parse_any (some ⟨w.heap.size, 0, none⟩) 3 3 awA _ hT (by decide) (ht.below hb0) (by decide)
  rw [aw_parse] at hP
  have HB0 : Hid _ := hb0
  clear hb0 hT
  go_enter Tryz.func5, Tryz.ntmps5
  go_wp2_with fail
  refine Calls.mono hP ?_
  rintro e w1 ⟨rfl, hb1⟩
  have hb2 : Below w.heap.size w w1 := HB0.out.trans (hb1.mono HB0.out.size)
  have hnew := heap_alloc_new w1 (.cells (clc clz) 38)
  have hst : (storeVar 38 ⟨w1.heap.size, 0, none⟩ (.agg #[.string ⟨#[73, 78, 67, 82, 66, 89]⟩, .string ⟨#[107]⟩, .string ⟨#[]⟩, .string ⟨#[]⟩, .int .i64 (-5), .int .i64 0])).run Tryz.prog (w1.alloc (.cells (clc clz) 38)) = .ok () ((w1.alloc (.cells (clc clz) 38)).setRow w1.heap.size (clc awC)) := storeVar_cl (cs := clc awC) hnew rfl rfl (clc_one _)
  have hg := setRow_heap (w1.alloc (.cells (clc clz) 38)) w1.heap.size _ (clc awC) _ _ hnew
  have hb3 : Below w1.heap.size w1 ((w1.alloc (.cells (clc clz) 38)).setRow w1.heap.size (clc awC)) := below_setRow ((Below.refl _ w1).alloc (Nat.le_refl _) _) (Nat.le_refl _) _
  generalize (w1.alloc (.cells (clc clz) 38)).setRow w1.heap.size (clc awC) = W2 at *
  have hld : (loadVar 38 ⟨w1.heap.size, 0, none⟩).run Tryz.prog W2 = .ok (.agg #[.string ⟨#[73, 78, 67, 82, 66, 89]⟩, .string ⟨#[107]⟩, .string ⟨#[]⟩, .string ⟨#[]⟩, .int .i64 (-5), .int .i64 0]) W2 := loadVar_cl hg (clc_size awC)
  have hR := fun W => refuse_any 13 W
  rw [aw_err] at hR
  have hR : ∀ W, Calls Tryz.prog 13 #[.int .i64 13] W fun x w' => x = .returned (.agg #[.int .i64 2, .string ⟨#[69, 82, 82, 32, 105, 110, 116]⟩, .int .i64 0, .slice none 0 0]) ∧ Below W.heap.size W w' := hR
  have FIN : Hid (Below w.heap.size w W2) := hb2.trans (hb3.mono hb2.size)
  have hec : (Value.agg (clc awC)) = .agg #[.string ⟨#[73, 78, 67, 82, 66, 89]⟩, .string ⟨#[107]⟩, .string ⟨#[]⟩, .string ⟨#[]⟩, .int .i64 (-5), .int .i64 0] := rfl
  clear hb1 hb2 hb3 hg hnew hP HB0
  go_wp2_with (first
    | (refine wpList_storeR (ty := 38) (x := .tmp 1) (y := .tmp 6) (ad := ⟨w1.heap.size, 0, none⟩) (v := .agg #[.string ⟨#[73, 78, 67, 82, 66, 89]⟩, .string ⟨#[107]⟩, .string ⟨#[]⟩, .string ⟨#[]⟩, .int .i64 (-5), .int .i64 0]) (w' := W2) rfl rfl rfl rfl hst ?_)
    | (refine wpList_loadW (ty := 38) (x := .tmp 1) (ad := ⟨w1.heap.size, 0, none⟩) (v := .agg #[.string ⟨#[73, 78, 67, 82, 66, 89]⟩, .string ⟨#[107]⟩, .string ⟨#[]⟩, .string ⟨#[]⟩, .int .i64 (-5), .int .i64 0]) (by first | rfl | kernel_rfl) rfl rfl hld ?_))
  refine Calls.mono (hR _) ?_
  rintro e w3 ⟨rfl, hb4⟩
  have FIN2 : Hid (Below w.heap.size w w3) := FIN.out.trans (hb4.mono FIN.out.size)
  clear hb4 hR hld hst
  have hf : (Instr.field 30 (.agg #[.int .i64 2, .string ⟨#[69, 82, 82, 32, 105, 110, 116]⟩, .int .i64 0, .slice none 0 0]) 1).run Tryz.prog w3 = .ok (.string ⟨#[69, 82, 82, 32, 105, 110, 116]⟩) w3 := by kernel_rfl
  go_wp2
  go_ret
  exact ⟨rfl, FIN2.out⟩
end Go.Proofs.YtmlfekbmbnfkjabGreatDoor

/-
  A text ahead of a list of texts; and what is laid for a call.
-/
namespace Go.Proofs.YtmlfekbmbnfkjabGreatDoor
set_option maxRecDepth 100000
open Go.RowKit

theorem below_alloc22 (w : World) (o : Obj) : Below w.heap.size w (w.alloc o) := (Below.refl _ w).alloc (Nat.le_refl _) _
theorem y_alloc22 {o : Oper} {a : Act} {w w' : World} {K : Act → World → Prop} {Q : Exit → Act → World → Prop} {ty : TypeId} {v : Value} (ho : o.op = .alloc ty) (hr : (Instr.alloc ty true (.tuple #[])).run Tryz.prog w = .ok v w') (h : K (a.put o.dst v) w') : o.wp Tryz.prog a w K Q := by
  unfold Oper.wp execOp
  simp only [ho, Sem.run_bind, Sem.run_pure, Result.andThen_ok, hr]
  exact h
theorem heap_lt22 {w : World} {x : Nat} {o : Obj} (h : w.heap[x]? = some o) : x < w.heap.size := (Array.getElem?_eq_some_iff.1 h).1
end Go.Proofs.YtmlfekbmbnfkjabGreatDoor

