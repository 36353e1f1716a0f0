/-
  What takeText, takeKey, takeWhole and take come to.
-/
import Derived.Test.YtmlfekbmbnfkjaaGreatDoorQ27
import Derived.Test.YtmlfekbmbnfkjaaGreatDoorQ33
import Derived.Test.YtmlfekbmbnfkjaaGreatDoorQ18
namespace Go.Proofs.YtmlfekbmbnfkjaaGreatDoor
set_option maxRecDepth 100000
open Go.RowKit

/-- The call in a block, behind one part's store. -/
theorem cl_set1 {w : World} {g : Nat} {c : Cl} (h : w.heap[g]? = some (.cells (clc c) 26 (0, 0))) (s : List UInt8) : (w.setCell ⟨g, 1, none⟩ (.string (sb s))).heap[g]? = some (.cells (clc { c with key := s }) 26 (0, 0)) := by
  rw [heap_setCell_same w g 1 _ _ _ h]; rfl
theorem cl_set2 {w : World} {g : Nat} {c : Cl} (h : w.heap[g]? = some (.cells (clc c) 26 (0, 0))) (s : List UInt8) : (w.setCell ⟨g, 2, none⟩ (.string (sb s))).heap[g]? = some (.cells (clc { c with field := s }) 26 (0, 0)) := by
  rw [heap_setCell_same w g 2 _ _ _ h]; rfl
theorem cl_set3 {w : World} {g : Nat} {c : Cl} (h : w.heap[g]? = some (.cells (clc c) 26 (0, 0))) (s : List UInt8) : (w.setCell ⟨g, 3, none⟩ (.string (sb s))).heap[g]? = some (.cells (clc { c with value := s }) 26 (0, 0)) := by
  rw [heap_setCell_same w g 3 _ _ _ h]; rfl
theorem cl_set4 {w : World} {g : Nat} {c : Cl} (h : w.heap[g]? = some (.cells (clc c) 26 (0, 0))) (n : Int) : (w.setCell ⟨g, 4, none⟩ (.int .i64 n)).heap[g]? = some (.cells (clc { c with n := n }) 26 (0, 0)) := by
  rw [heap_setCell_same w g 4 _ _ _ h]; rfl
theorem cl_set5 {w : World} {g : Nat} {c : Cl} (h : w.heap[g]? = some (.cells (clc c) 26 (0, 0))) (n : Int) : (w.setCell ⟨g, 5, none⟩ (.int .i64 n)).heap[g]? = some (.cells (clc { c with m := n }) 26 (0, 0)) := by
  rw [heap_setCell_same w g 5 _ _ _ h]; rfl
/-- Block g alone may have turned. -/
structure Bt (g : Nat) (w w' : World) : Prop where
  os : w'.os = w.os
  tape : w'.tape = w.tape
  output : w'.output = w.output
  size : w.heap.size ≤ w'.heap.size
  block : ∀ k, k < w.heap.size → k ≠ g → w'.heap[k]? = w.heap[k]?
theorem Bt.of_below {g : Nat} {w w' : World} (h : Below w.heap.size w w') : Bt g w w' := ⟨h.os, h.tape, h.output, h.size, fun k hk _ => h.block k hk⟩
theorem Bt.set (g i : Nat) (w : World) (v : Value) : Bt g w (w.setCell ⟨g, i, none⟩ v) := by
  have h := T21.grown_set w g i v
  exact ⟨h.os, h.tape, h.output, h.size, fun k hk hg => h.block k hk (by simpa using hg)⟩
theorem Bt.trans {g : Nat} {a b c : World} (h : Bt g a b) (k : Bt g b c) : Bt g a c :=
  ⟨k.os.trans h.os, k.tape.trans h.tape, k.output.trans h.output, Nat.le_trans h.size k.size, fun i hi hg => (k.block i (Nat.lt_of_lt_of_le hi h.size) hg).trans (h.block i hi hg)⟩
theorem Bt.below {g B : Nat} {w w' : World} (h : Bt g w w') (hg : B ≤ g) (hB : B ≤ w.heap.size) : Below B w w' := ⟨h.os, h.tape, h.output, h.size, fun k hk => h.block k (by omega) (by omega)⟩
/-- What a part's taking leaves: the error's number, and the store, if there is none. -/
def textP (g i : Nat) (s : List UInt8) (z : Int) (w w' : World) (e : Ending) : Prop :=
  e = .returned (.int .i64 z) ∧ ((z ≠ 0 ∧ w' = w) ∨ (z = 0 ∧ w' = w.setCell ⟨g, i, none⟩ (.string (sb s))))
theorem taketx_any (g i : Nat) (s : List UInt8) (w : World) (v0 : Value) (hc : w.cell? ⟨g, i, none⟩ = some v0) (hf : w.frozen? ⟨g, i, none⟩ = false) :
    Calls Tryz.prog 64 #[.pointer (some ⟨g, i, none⟩), .string (sb s)] w fun e w' => textP g i s (textE s) w w' e := by
  have hsz : (sb s).size = s.length := size_sb s
  by_cases h : 64 < s.length
  · have e1 : textE s = 4 := if_pos h
    rw [e1]
    have hz : (64 : Int) < (s.length : Int) := by omega
    go_enter Tryz.func64, Tryz.ntmps64
    go_wp2
    go_ret
    exact ⟨rfl, .inl ⟨by decide, rfl⟩⟩
  · have e1 : textE s = 0 := if_neg h
    rw [e1]
    have hz : ¬ (64 : Int) < (s.length : Int) := by omega
    go_enter Tryz.func64, Tryz.ntmps64
    go_wp2
    go_ret
    exact ⟨rfl, .inr ⟨rfl, rfl⟩⟩
theorem sb_empty (s : List UInt8) : (sb s).toList.isEmpty = decide (s = []) := by
  rw [ByteArray.toList_eq]
  cases s <;> simp [sb]
theorem takekey_any (g i : Nat) (s : List UInt8) (w : World) (v0 : Value) (hc : w.cell? ⟨g, i, none⟩ = some v0) (hf : w.frozen? ⟨g, i, none⟩ = false) :
    Calls Tryz.prog 63 #[.pointer (some ⟨g, i, none⟩), .string (sb s)] w fun e w' => textP g i s (keyTE s) w w' e := by
  have hq := sb_empty s
  by_cases h : s = []
  · have e1 : keyTE s = 1 := if_pos h
    rw [e1]
    rw [decide_eq_true h] at hq
    clear h e1
    go_enter Tryz.func63, Tryz.ntmps63
    go_wp2
    go_ret
    exact ⟨rfl, .inl ⟨by decide, rfl⟩⟩
  · have e1 : keyTE s = textE s := if_neg h
    rw [e1]
    rw [decide_eq_false h] at hq
    clear h e1
    have hT := taketx_any g i s w v0 hc hf
    clear hc hf
    go_enter Tryz.func63, Tryz.ntmps63
    go_wp2_with fail
    refine Calls.mono hT ?_
    rintro e w1 ⟨rfl, hw⟩
    go_wp2
    go_ret
    exact ⟨rfl, hw⟩
theorem neq_err (W : World) (t : TypeId) (N : Nat) : (binOp .neq 164 (.iface t (.pointer (some ⟨N, 0, none⟩))) .nilIface).run Tryz.prog W = .ok (.bool true) W := by kernel_rfl
theorem numE_wide {s : List UInt8} {n : Int} (h : numTx s = some n) : -999999999999999 ≤ n ∧ n ≤ 999999999999999 := ⟨((whole_iff s n).1 h).2.1, ((whole_iff s n).1 h).2.2.1⟩
def wholeP (g i : Nat) (s : List UInt8) (w w' : World) (e : Ending) : Prop :=
  e = .returned (.int .i64 (numTE s)) ∧ ((numTx s = none ∧ Below w.heap.size w w') ∨ ∃ n W, numTx s = some n ∧ Below w.heap.size w W ∧ w' = W.setCell ⟨g, i, none⟩ (.int .i64 n))
set_option maxHeartbeats 1000000 in
theorem takewhole_any (g i : Nat) (s : List UInt8) (w : World) (v0 : Value) (hg : g < w.heap.size) (hc : w.cell? ⟨g, i, none⟩ = some v0) (hf : w.frozen? ⟨g, i, none⟩ = false) (hs : s.length ≤ 1000) (ht : Tb w) :
    Calls Tryz.prog 65 #[.pointer (some ⟨g, i, none⟩), .string (sb s)] w fun e w' => wholeP g i s w w' e := by
  have hbad : numTx s = none → ∀ n, Lib.atoiAll s = .ok n → -999999999999999 ≤ n → n ≤ 999999999999999 → Lib.itoa n ≠ s := fun h n h1 h2 h3 h4 => by
    rw [(whole_iff s n).2 ⟨h1, h2, h3, h4⟩] at h; cases h
  by_cases hok : ∃ n, Lib.atoiAll s = .ok n
  · obtain ⟨n, hn⟩ := hok
    have hA := atoi_ok s n hn (by omega) w
    have HS : Hid (numTx s = none → -999999999999999 ≤ n → n ≤ 999999999999999 → Lib.itoa n ≠ s) := fun h => hbad h n hn
    have HT : Hid (∀ m, numTx s = some m → m = n ∧ -999999999999999 ≤ n ∧ n ≤ 999999999999999 ∧ Lib.itoa n = s) := fun m h => by
      obtain ⟨h1, h2, h3, h4⟩ := (whole_iff s m).1 h
      rw [hn] at h1
      injection h1 with h1
      subst h1
      exact ⟨rfl, h2, h3, h4⟩
    have HU : Hid (-999999999999999 ≤ n → n ≤ 999999999999999 → Lib.itoa n = s → numTx s = some n) := fun h1 h2 h3 => (whole_iff s n).2 ⟨hn, h1, h2, h3⟩
    have HTB : Hid (Tb w) := ht
    have HC : Aside (g < w.heap.size ∧ w.cell? ⟨g, i, none⟩ = some v0 ∧ w.frozen? ⟨g, i, none⟩ = false) := ⟨hg, hc, hf⟩
    have hn13 : numTx s = none → numTE s = 13 := fun h => by unfold numTE; rw [h]; rfl
    have h13 : (∀ m, numTx s ≠ some m) → numTx s = none := fun h => by
      cases h' : numTx s with
      | none => rfl
      | some m => exact absurd h' (h m)
    clear hbad ht hn hc hf hg
    by_cases h1 : n < -999999999999999
    · have hno := h13 fun m h => by have := HT.out m h; omega
      have e1 := hn13 hno
      unfold wholeP
      rw [e1]
      have HNO : Hid (numTx s = none) := hno
      clear hno e1 hn13 h13
      go_enter Tryz.func65, Tryz.ntmps65
      go_wp2_with fail
      refine Calls.mono hA ?_
      rintro e w1 ⟨rfl, hb⟩
      go_wp2
      go_ret
      exact ⟨rfl, .inl ⟨HNO.out, hb⟩⟩
    by_cases h2 : 999999999999999 < n
    · have hno := h13 fun m h => by have := HT.out m h; omega
      have e1 := hn13 hno
      unfold wholeP
      rw [e1]
      have HNO : Hid (numTx s = none) := hno
      clear hno e1 hn13 h13
      go_enter Tryz.func65, Tryz.ntmps65
      go_wp2_with fail
      refine Calls.mono hA ?_
      rintro e w1 ⟨rfl, hb⟩
      go_wp2
      go_ret
      exact ⟨rfl, .inl ⟨HNO.out, hb⟩⟩
    have hI := fun W (hb : Below w.heap.size w W) => itoa_any n (by omega) (by omega) W (HTB.out.below hb).tab
    have hq : ((sb (Lib.itoa n)).toList == (sb s).toList) = decide (Lib.itoa n = s) := sb_beq _ _
    by_cases h3 : Lib.itoa n = s
    · rw [decide_eq_true h3] at hq
      have hsm : numTx s = some n := HU.out (by omega) (by omega) h3
      have e1 : numTE s = 0 := by unfold numTE; rw [hsm]; rfl
      unfold wholeP
      rw [e1]
      have HSM : Hid (numTx s = some n) := hsm
      have hI : ∀ W, Below w.heap.size w W → Calls Tryz.prog 123 #[.int .i64 n] W fun e w' => e = .returned (.string (sb (Lib.itoa n))) ∧ Below W.heap.size W w' := hI
      clear hsm e1 hn13 h13 h3
      generalize Lib.itoa n = x at *
      go_enter Tryz.func65, Tryz.ntmps65
      go_wp2_with fail
      refine Calls.mono hA ?_
      rintro e w1 ⟨rfl, hb⟩
      go_wp2_with fail
      refine Calls.mono (hI w1 hb) ?_
      rintro e w2 ⟨rfl, hb2⟩
      have hb3 := hb.trans (hb2.mono hb.size)
      have hc : w2.cell? ⟨g, i, none⟩ = some v0 := by rw [hb3.cell HC.out.1]; exact HC.out.2.1
      have hf : w2.frozen? ⟨g, i, none⟩ = false := by rw [hb3.frozen HC.out.1]; exact HC.out.2.2
      have HB3 : Hid (Below w.heap.size w w2) := hb3
      clear hb hb2 hb3 hI hA
      go_wp2
      go_ret
      exact ⟨rfl, .inr ⟨n, w2, HSM.out, HB3.out, rfl⟩⟩
    · rw [decide_eq_false h3] at hq
      have hno := h13 fun m h => by have := HT.out m h; exact h3 this.2.2.2
      have e1 := hn13 hno
      unfold wholeP
      rw [e1]
      have HNO : Hid (numTx s = none) := hno
      have hI : ∀ W, Below w.heap.size w W → Calls Tryz.prog 123 #[.int .i64 n] W fun e w' => e = .returned (.string (sb (Lib.itoa n))) ∧ Below W.heap.size W w' := hI
      clear hno e1 hn13 h13 h3
      generalize Lib.itoa n = x at *
      go_enter Tryz.func65, Tryz.ntmps65
      go_wp2_with fail
      refine Calls.mono hA ?_
      rintro e w1 ⟨rfl, hb⟩
      go_wp2_with fail
      refine Calls.mono (hI w1 hb) ?_
      rintro e w2 ⟨rfl, hb2⟩
      have hb3 := hb.trans (hb2.mono hb.size)
      clear hb hb2 hI hA
      go_wp2
      go_ret
      exact ⟨rfl, .inl ⟨HNO.out, hb3⟩⟩
  · have hA := atoi_bad s (fun n h => hok ⟨n, h⟩) (by omega) w ht
    have hno : numTx s = none := by
      cases h : numTx s with
      | none => rfl
      | some n => exact absurd ⟨n, ((whole_iff s n).1 h).1⟩ hok
    have e1 : numTE s = 13 := by unfold numTE; rw [hno]; rfl
    unfold wholeP
    rw [e1]
    have HNO : Hid (numTx s = none) := hno
    clear hbad hok hc hf ht hno e1
    go_enter Tryz.func65, Tryz.ntmps65
    go_wp2_with fail
    refine Calls.mono hA ?_
    rintro e w1 ⟨⟨n, t, N, rfl⟩, hb⟩
    have hne := neq_err
    go_wp2
    go_ret
    exact ⟨rfl, .inl ⟨HNO.out, hb⟩⟩
end Go.Proofs.YtmlfekbmbnfkjaaGreatDoor

/-
  What take and Parse come to.
-/
namespace Go.Proofs.YtmlfekbmbnfkjaaGreatDoor
set_option maxRecDepth 100000
open Go.RowKit

/-- What taking a part leaves: the call, if there is no error. -/
def takeP (g : Nat) (c : Cl) (p : UInt8) (s : List UInt8) (w w' : World) (e : Ending) : Prop :=
  e = .returned (.int .i64 (takeE p s)) ∧ Bt g w w' ∧ (takeE p s = 0 → w'.heap[g]? = some (.cells (clc (takeC c p s)) 26 (0, 0)))
theorem take_text {g i : Nat} {c c' : Cl} {z : Int} {p : UInt8} {s : List UInt8} {w w' : World} {e : Ending} (h : textP g i s z w w' e) (hz : takeE p s = z) (hc : takeC c p s = c')
    (hs : (w.setCell ⟨g, i, none⟩ (.string (sb s))).heap[g]? = some (.cells (clc c') 26 (0, 0))) : takeP g c p s w w' e := by
  obtain ⟨h1, h2⟩ := h
  unfold takeP
  rw [hz, hc]
  rcases h2 with ⟨h3, rfl⟩ | ⟨h3, rfl⟩
  · exact ⟨h1, Bt.of_below (Below.refl _ _), fun h => absurd h h3⟩
  · exact ⟨h1, Bt.set g i w _, fun _ => hs⟩
theorem take_whole {g i : Nat} {c : Cl} {c' : Int → Cl} {p : UInt8} {s : List UInt8} {w w' : World} {e : Ending} (h : wholeP g i s w w' e) (hz : takeE p s = numTE s) (hc : takeC c p s = c' ((numTx s).getD 0))
    (hg : w.heap[g]? = some (.cells (clc c) 26 (0, 0)))
    (hs : ∀ (W : World) (n : Int), W.heap[g]? = some (.cells (clc c) 26 (0, 0)) → (W.setCell ⟨g, i, none⟩ (.int .i64 n)).heap[g]? = some (.cells (clc (c' n)) 26 (0, 0))) : takeP g c p s w w' e := by
  obtain ⟨h1, h2⟩ := h
  unfold takeP
  rw [hz, hc]
  have hlt : g < w.heap.size := (Array.getElem?_eq_some_iff.1 hg).1
  rcases h2 with ⟨h3, hb⟩ | ⟨n, W, h3, hb, rfl⟩
  · refine ⟨h1, Bt.of_below hb, fun h => ?_⟩
    unfold numTE at h; rw [h3] at h; exact absurd h (by decide)
  · rw [h3]
    exact ⟨h1, (Bt.of_below hb).trans (Bt.set g i W _), fun _ => hs W n (by rw [hb.block g hlt]; exact hg)⟩
set_option maxHeartbeats 1000000 in
theorem ctake_any (g : Nat) (c : Cl) (p : UInt8) (s : List UInt8) (w : World) (hg : w.heap[g]? = some (.cells (clc c) 26 (0, 0))) (hs : s.length ≤ 1000) (ht : Tb w) :
    Calls Tryz.prog 28 #[.pointer (some ⟨g, 0, none⟩), .int .u8 (p.toNat : Int), .string (sb s)] w fun e w' => takeP g c p s w w' e := by
  have hlt : g < w.heap.size := (Array.getElem?_eq_some_iff.1 hg).1
  have hpn : ∀ q : UInt8, p ≠ q → p.toNat ≠ q.toNat := fun q h e => h (UInt8.toNat_inj.1 e)
  have hc : ∀ i, i < 6 → ∃ v, w.cell? ⟨g, i, none⟩ = some v := fun i hi => by rw [cell_of_row w g i _ _ _ hg]; exact ⟨_, Array.getElem?_eq_getElem hi⟩
  have hf : ∀ i, w.frozen? ⟨g, i, none⟩ = false := fun i => frozen_of_row w g i _ _ hg
  by_cases h1 : p = 107
  · subst h1
    obtain ⟨v0, hv0⟩ := hc 1 (by decide)
    have hT := takekey_any g 1 s w v0 hv0 (hf 1)
    have FIN : ∀ e w', textP g 1 s (keyTE s) w w' e → takeP g c 107 s w w' e := fun e w' h => take_text h rfl rfl (cl_set1 hg s)
    have FIN : Hid _ := FIN
    clear hc hf hg hv0 hpn ht
    show Calls Tryz.prog 28 #[.pointer (some ⟨g, 0, none⟩), .int .u8 107, .string (sb s)] w _
    go_enter Tryz.func28, Tryz.ntmps28
    go_wp2_with fail
    refine Calls.mono hT ?_
    intro e w1 hP
    have hP2 := FIN.out e w1 hP
    obtain ⟨rfl, -⟩ := hP
    have HP2 : Hid _ := hP2
    clear hP2
    go_wp2
    go_ret
    exact HP2.out
  by_cases h2 : p = 102
  · subst h2
    obtain ⟨v0, hv0⟩ := hc 2 (by decide)
    have hT := taketx_any g 2 s w v0 hv0 (hf 2)
    have FIN : ∀ e w', textP g 2 s (textE s) w w' e → takeP g c 102 s w w' e := fun e w' h => take_text h rfl rfl (cl_set2 hg s)
    have FIN : Hid _ := FIN
    clear hc hf hg hv0 hpn ht
    show Calls Tryz.prog 28 #[.pointer (some ⟨g, 0, none⟩), .int .u8 102, .string (sb s)] w _
    go_enter Tryz.func28, Tryz.ntmps28
    go_wp2_with fail
    refine Calls.mono hT ?_
    intro e w1 hP
    have hP2 := FIN.out e w1 hP
    obtain ⟨rfl, -⟩ := hP
    have HP2 : Hid _ := hP2
    clear hP2
    go_wp2
    go_ret
    exact HP2.out
  by_cases h3 : p = 118
  · subst h3
    obtain ⟨v0, hv0⟩ := hc 3 (by decide)
    have hT := taketx_any g 3 s w v0 hv0 (hf 3)
    have FIN : ∀ e w', textP g 3 s (textE s) w w' e → takeP g c 118 s w w' e := fun e w' h => take_text h rfl rfl (cl_set3 hg s)
    have FIN : Hid _ := FIN
    clear hc hf hg hv0 hpn ht
    show Calls Tryz.prog 28 #[.pointer (some ⟨g, 0, none⟩), .int .u8 118, .string (sb s)] w _
    go_enter Tryz.func28, Tryz.ntmps28
    go_wp2_with fail
    refine Calls.mono hT ?_
    intro e w1 hP
    have hP2 := FIN.out e w1 hP
    obtain ⟨rfl, -⟩ := hP
    have HP2 : Hid _ := hP2
    clear hP2
    go_wp2
    go_ret
    exact HP2.out
  have ez : takeE p s = numTE s := by unfold takeE; rw [if_neg h1, if_neg (by rintro (h | h); exact h2 h; exact h3 h)]
  by_cases h4 : p = 110
  · obtain ⟨v0, hv0⟩ := hc 4 (by decide)
    have hT := takewhole_any g 4 s w v0 hlt hv0 (hf 4) hs ht
    have FIN : ∀ e w', wholeP g 4 s w w' e → takeP g c p s w w' e := fun e w' h => take_whole (c' := fun n => { c with n := n }) h ez (by rw [h4]; rfl) hg (fun W n hW => cl_set4 hW n)
    have FIN : Hid _ := FIN
    clear hc hf hg hv0 hpn ht ez h1 h2 h3
    subst h4
    show Calls Tryz.prog 28 #[.pointer (some ⟨g, 0, none⟩), .int .u8 110, .string (sb s)] w _
    go_enter Tryz.func28, Tryz.ntmps28
    go_wp2_with fail
    refine Calls.mono hT ?_
    intro e w1 hP
    have hP2 := FIN.out e w1 hP
    obtain ⟨rfl, -⟩ := hP
    have HP2 : Hid _ := hP2
    clear hP2
    go_wp2
    go_ret
    exact HP2.out
  · obtain ⟨v0, hv0⟩ := hc 5 (by decide)
    have hT := takewhole_any g 5 s w v0 hlt hv0 (hf 5) hs ht
    have FIN : ∀ e w', wholeP g 5 s w w' e → takeP g c p s w w' e := fun e w' h => take_whole (c' := fun n => { c with m := n }) h ez (by unfold takeC; rw [if_neg h1, if_neg h2, if_neg h3, if_neg h4]) hg (fun W n hW => cl_set5 hW n)
    have FIN : Hid _ := FIN
    have n1 : ¬ ((p.toNat : Int) = 107) := fun e => hpn 107 h1 (by have : (107 : UInt8).toNat = 107 := rfl; omega)
    have n2 : ¬ ((p.toNat : Int) = 102) := fun e => hpn 102 h2 (by have : (102 : UInt8).toNat = 102 := rfl; omega)
    have n3 : ¬ ((p.toNat : Int) = 118) := fun e => hpn 118 h3 (by have : (118 : UInt8).toNat = 118 := rfl; omega)
    have n4 : ¬ ((p.toNat : Int) = 110) := fun e => hpn 110 h4 (by have : (110 : UInt8).toNat = 110 := rfl; omega)
    clear hc hf hg hv0 hpn ht ez h1 h2 h3 h4
    have q1 : ((p.toNat : Int) == 107) = false := by simpa using n1
    have q2 : ((p.toNat : Int) == 102) = false := by simpa using n2
    have q3 : ((p.toNat : Int) == 118) = false := by simpa using n3
    have q4 : ((p.toNat : Int) == 110) = false := by simpa using n4
    go_enter Tryz.func28, Tryz.ntmps28
    go_wp2_with fail
    refine Calls.mono hT ?_
    intro e w1 hP
    have hP2 := FIN.out e w1 hP
    obtain ⟨rfl, -⟩ := hP
    have HP2 : Hid _ := hP2
    clear hP2
    go_wp2
    go_ret
    exact HP2.out
end Go.Proofs.YtmlfekbmbnfkjaaGreatDoor

/-
  What Parse comes to.
-/
namespace Go.Proofs.YtmlfekbmbnfkjaaGreatDoor
set_option maxRecDepth 100000
open Go.RowKit

theorem texts_map (S : List ByteArray) : ∃ A : List (List UInt8), S = A.map sb :=
  ⟨S.map fun s => s.data.toList, by rw [List.map_map]; exact (List.map_id' _).symm.trans (List.map_congr_left fun s _ => by cases s; simp [sb])⟩
theorem clc_one (c : Cl) : (clc c).all (·.oneCell') = true := by simp [clc, Value.oneCell']
theorem clc_size (c : Cl) : (clc c).size = 6 := rfl
/-- A text among the arguments. -/
theorem arg_at {w : World} {ao : Option Addr} {m c : Nat} {A : List (List UInt8)} (h : T21.Txts w ao m c (A.map sb)) {j : Nat} (hj : j < m) :
    ∃ b off, ao = some ⟨b, off, none⟩ ∧ w.cell? ⟨b, off + j, none⟩ = some (.string (sb (A.getD j []))) := by
  rcases h.norm with ⟨h1, -⟩ | ⟨b, off, hao, -, hc⟩
  · omega
  · refine ⟨b, off, hao, ?_⟩
    rw [hc j hj]
    have hl := h.len
    rw [List.length_map] at hl
    congr 2
    rw [List.getD_eq_getElem?_getD, List.getElem?_map, List.getD_eq_getElem?_getD, List.getElem?_eq_getElem (by omega)]
    rfl
/-- What Parse has laid. -/
structure Pl22 (w : World) (gr : Nat) (r : Rw22) (c : Cl) (wr : World) : Prop where
  res : wr.heap[w.heap.size]? = some (.cells (clc clz) 26 (0, 0))
  row : wr.heap[gr]? = some (.cells (rwc r).toArray 77 (0, 0))
  cl : wr.heap[gr + 1]? = some (.cells (clc c) 26 (0, 0))
  be : Below w.heap.size w wr
  lt : w.heap.size < gr
theorem fin_cl {w wr : World} {cs : Array Value} (hc : cs.size = 6) (h1 : cs.all (·.oneCell') = true) (hr : wr.heap[w.heap.size]? = some (.cells (clc clz) 26 (0, 0))) (hb : Below w.heap.size w wr) :
    ∃ W, (storeVar 26 ⟨w.heap.size, 0, none⟩ (.agg cs)).run Tryz.prog wr = .ok () W ∧ W.heap[w.heap.size]? = some (.cells cs 26 (0, 0)) ∧ Below w.heap.size w W :=
  ⟨_, storeVar_cl hr hc rfl h1, setRow_heap wr w.heap.size _ cs _ _ hr, below_setRow hb (Nat.le_refl _) _⟩
theorem bt_drew {g B : Nat} {wr w4 : World} (h : Bt g wr.drew w4) (hg : B ≤ g) (hB : B ≤ wr.heap.size) : Below B wr w4 := (((Below.refl wr.heap.size wr).drew).mono hB).trans (h.below hg hB)
theorem pl_on {w wr w4 : World} {gr : Nat} {r : Rw22} {cl cl' : Cl} (h : Pl22 w gr r cl wr) (hB : Bt (gr + 1) wr.drew w4) (hc : w4.heap[gr + 1]? = some (.cells (clc cl') 26 (0, 0))) : Pl22 w gr r cl' w4 := by
  have hb : Below w.heap.size wr w4 := bt_drew hB (by have := h.lt; omega) h.be.size
  refine ⟨?_, ?_, hc, h.be.trans hb, h.lt⟩
  · rw [hB.block w.heap.size (Array.getElem?_eq_some_iff.1 h.res).1 (by have := h.lt; omega)]; exact h.res
  · rw [hB.block gr (Array.getElem?_eq_some_iff.1 h.row).1 (by omega)]; exact h.row
set_option maxHeartbeats 4000000 in
theorem parse_any (ao : Option Addr) (m c : Nat) (A : List (List UInt8)) (w : World) (hT : T21.Txts w ao m c (A.map sb)) (hs : ∀ s ∈ A, s.length ≤ 1000) (ht : Tb w) (hm : m ≤ 1000) :
    Calls Tryz.prog 11 #[.slice ao m c] w fun e w' => e = .returned (.tuple #[.agg (clc (parseE A).1), .int .i64 (parseE A).2]) ∧ Below w.heap.size w w' := by
  obtain ⟨R, hR⟩ : ∃ R, w.heap.size = R := ⟨_, rfl⟩
  have hs0 : (w.alloc (.cells (clc clz) 26)).heap.size = R + 1 := by rw [← hR]; simp
  have hz0 : (w.alloc (.cells (clc clz) 26)).heap[w.heap.size]? = some (.cells (clc clz) 26) := heap_alloc_new w _
  have hb0 : Below w.heap.size w (w.alloc (.cells (clc clz) 26)) := (Below.refl _ w).alloc (Nat.le_refl _) _
  have hT0 := hT.below hb0 (Nat.le_refl _)
  have ht0 := ht.below hb0
  have hlen := hT.len
  rw [List.length_map] at hlen
  cases A with
  | nil =>
    simp only [List.length_nil] at hlen
    subst hlen
    obtain ⟨W, hst, hg, hb⟩ := fin_cl (clc_size clz) (clc_one clz) hz0 hb0
    have FIN : Hid (Below w.heap.size w W) := hb
    clear hz0 hb0 hT0 ht0 hT ht hb hs0
    rw [hR] at hst hg
    go_enter Tryz.func11, Tryz.ntmps11
    go_wp2_with (first
      | (refine wpList_storeR (ty := 26) (x := .tmp 2) (y := .tmp 12) (ad := ⟨R, 0, none⟩) (v := .agg (clc clz)) (w' := W) rfl rfl rfl rfl hst ?_))
    refine ret_cl2 rfl rfl rfl rfl hg rfl ?_
    exact ⟨rfl, FIN.out⟩
  | cons a T =>
    rw [List.length_cons] at hlen
    obtain ⟨n, hn⟩ : ∃ n, T.length = n := ⟨_, rfl⟩
    rw [hn] at hlen
    subst hlen
    obtain ⟨b, off, rfl, hcA⟩ := arg_at hT0 (j := 0) (by omega)
    have hc0 : (w.alloc (.cells (clc clz) 26)).cell? ⟨b, off, none⟩ = some (.string (sb a)) := hcA
    clear hcA
    have hm0 : ¬ ((n : Int) + 1 = 0) := by omega
    have hCap := fun W => capitals_any a W (Nat.le_trans (hs a (by simp)) (by decide))
    have hRo := fun W => rowof_any (upE a) W
    have HP : Hid (parseE (a :: T) = (match rowN (upE a) with | none => (clz, 14) | some w => if n = w.takes.length then takesE { clz with name := w.name } w.takes T else (clz, 12))) := by rw [← hn]; rfl
    have HA : Aside (T21.Txts (w.alloc (.cells (clc clz) 26)) (some ⟨b, off, none⟩) (n + 1) c ((a :: T).map sb) ∧ Tb (w.alloc (.cells (clc clz) 26)) ∧ (w.alloc (.cells (clc clz) 26)).heap[w.heap.size]? = some (.cells (clc clz) 26) ∧ Below w.heap.size w (w.alloc (.cells (clc clz) 26)) ∧ (w.alloc (.cells (clc clz) 26)).heap.size = w.heap.size + 1) := ⟨hT0, ht0, hz0, hb0, by simp⟩
    have HA0 : Aside (T21.Txts w (some ⟨b, off, none⟩) (n + 1) c ((a :: T).map sb) ∧ Tb w) := ⟨hT, ht⟩
    have HS : Hid ((∀ s ∈ T, s.length ≤ 1000) ∧ T.length = n ∧ w.heap.size = R ∧ n + 1 ≤ 1000) := ⟨fun s h => hs s (by simp [h]), hn, hR, hm⟩
    clear hz0 hb0 hT0 ht0 hT ht hs hn hs0
    obtain ⟨W0, hW0⟩ : ∃ W0, w.alloc (.cells (clc clz) 26) = W0 := ⟨_, rfl⟩
    rw [hW0] at HA hc0
    have hW0 : w.alloc (.cells #[.string ⟨#[]⟩, .string ⟨#[]⟩, .string ⟨#[]⟩, .string ⟨#[]⟩, .int .i64 0, .int .i64 0] 26) = W0 := hW0
    go_enter Tryz.func11, Tryz.ntmps11
    go_wp2_with fail
    refine Calls.mono (hCap _) ?_
    rintro e w1 ⟨rfl, hb1⟩
    go_wp2_with fail
    refine Calls.mono (hRo _) ?_
    rintro e w2 ⟨rfl, hb2⟩
    have hb02 := hb1.trans (hb2.mono hb1.size)
    have H2 : Aside (T21.Txts w2 (some ⟨b, off, none⟩) (n + 1) c ((a :: T).map sb) ∧ Tb w2 ∧ w2.heap[w.heap.size]? = some (.cells (clc clz) 26 (0, 0)) ∧ Below w.heap.size w w2 ∧ w.heap.size < w2.heap.size) :=
      ⟨HA.out.1.below hb02 (Nat.le_refl _), HA.out.2.1.below hb02, by rw [hb02.block _ (by have := HA.out.2.2.2.2; omega)]; exact HA.out.2.2.1, HA.out.2.2.2.1.trans (hb02.mono HA.out.2.2.2.1.size), by have := HA.out.2.2.2.2; have := hb02.size; omega⟩
    obtain ⟨gr, hgr⟩ : ∃ gr, w2.heap.size = gr := ⟨_, rfl⟩
    clear hb1 hb2 hb02 HA hc0 hW0 hCap hRo
    have hnew := heap_alloc_new w2 (.cells rwz 77)
    have hs2 : (w2.alloc (.cells rwz 77)).heap.size = gr + 1 := by rw [← hgr]; simp
    have hba : Below w2.heap.size w2 (w2.alloc (.cells rwz 77)) := (Below.refl _ w2).alloc (Nat.le_refl _) _
    rw [hgr] at hnew hba
    cases hrn : rowN (upE a) with
    | none =>
      rw [hrn] at HP
      have hst := storeVar_rw (cs := rwz) hnew rfl rfl (by simp [rwz, Value.oneCell'])
      have hb3 : Below gr w2 ((w2.alloc (.cells rwz 77)).setRow gr rwz) := below_setRow hba (Nat.le_refl _) _
      generalize (w2.alloc (.cells rwz 77)).setRow gr rwz = W3 at *
      obtain ⟨W4, hst4, hg4, hb4⟩ := fin_cl (clc_size clz) (clc_one clz) (by rw [hb3.block _ (by have := H2.out.2.2.2.2; omega)]; exact H2.out.2.2.1) (H2.out.2.2.2.1.trans (hb3.mono (by have := H2.out.2.2.2.2; omega)))
      rw [hR] at hst4 hg4
      have FIN : Hid (Below w.heap.size w W4) := hb4
      clear hnew hs2 hba hb3 hb4 H2
      have e1 : rowV none = .agg rwz := rfl
      have HR : Hid (w.heap.size = R) := hR
      clear hR hrn
      go_wp2_with (first
        | (refine wpList_storeR (ty := 77) (x := .tmp 4) (y := .tmp 19) (ad := ⟨gr, 0, none⟩) (v := .agg rwz) (w' := W3) rfl rfl rfl rfl hst ?_)
        | (refine wpList_storeR (ty := 26) (x := .tmp 2) (y := .tmp 23) (ad := ⟨R, 0, none⟩) (v := .agg (clc clz)) (w' := W4) rfl rfl rfl rfl hst4 ?_))
      refine ret_cl2 rfl rfl rfl rfl hg4 rfl ?_
      rw [HP.out]
      exact ⟨rfl, FIN.out⟩
    | some r =>
      rw [hrn] at HP
      have hst := storeVar_rw (cs := (rwc r).toArray) hnew rfl rfl (rwc_one r)
      have hg3 := setRow_heap (w2.alloc (.cells rwz 77)) gr _ (rwc r).toArray _ _ hnew
      have hb3 : Below gr w2 ((w2.alloc (.cells rwz 77)).setRow gr (rwc r).toArray) := below_setRow hba (Nat.le_refl _) _
      have hs3 : ((w2.alloc (.cells rwz 77)).setRow gr (rwc r).toArray).heap.size = gr + 1 := by rw [← hs2]; simp [World.setRow]
      generalize (w2.alloc (.cells rwz 77)).setRow gr (rwc r).toArray = W3 at *
      have hres : W3.heap[w.heap.size]? = some (.cells (clc clz) 26 (0, 0)) := by rw [hb3.block _ (by have := H2.out.2.2.2.2; omega)]; exact H2.out.2.2.1
      have hbw : Below w.heap.size w W3 := H2.out.2.2.2.1.trans (hb3.mono (by have := H2.out.2.2.2.2; omega))
      have hcA := cell_of_row _ gr 0 _ _ _ hg3
      have hcB := cell_of_row _ gr 1 _ _ _ hg3
      have hc0 : W3.cell? ⟨gr, 0, none⟩ = some (.string (sb r.name)) := hcA
      have hc1 : W3.cell? ⟨gr, 1, none⟩ = some (.string (sb r.takes)) := hcB
      have e1 : rowV (some r) = .agg (rwc r).toArray := rfl
      have hsz : (sb r.takes).size = r.takes.length := size_sb r.takes
      have H3 : Aside (T21.Txts W3 (some ⟨b, off, none⟩) (n + 1) c ((a :: T).map sb) ∧ Tb W3 ∧ w.heap.size < gr) := ⟨H2.out.1.below hb3 (by omega), H2.out.2.1.below (by rw [hgr]; exact hb3), by have := H2.out.2.2.2.2; omega⟩
      clear hcA hcB hnew hs2 hba hb3 H2
      obtain ⟨q, hq⟩ : ∃ q, r.takes.length = q := ⟨_, rfl⟩
      rw [hq] at hsz
      by_cases hnq : n = q
      · subst hnq
        have hnew4 := heap_alloc_new W3 (.cells (clc clz) 26)
        rw [hs3] at hnew4
        have hst4 := storeVar_cl (cs := clc { clz with name := r.name }) hnew4 rfl rfl (clc_one _)
        have hg4 := setRow_heap (W3.alloc (.cells (clc clz) 26)) (gr + 1) _ (clc { clz with name := r.name }) _ _ hnew4
        have hb4 : Below (gr + 1) W3 ((W3.alloc (.cells (clc clz) 26)).setRow (gr + 1) (clc { clz with name := r.name })) := below_setRow ((Below.refl _ W3).alloc (by omega) _) (Nat.le_refl _) _
        generalize (W3.alloc (.cells (clc clz) 26)).setRow (gr + 1) (clc { clz with name := r.name }) = W4 at *
        have hc4 : W4.cell? ⟨gr, 1, none⟩ = some (.string (sb r.takes)) := by rw [hb4.cell (Nat.lt_succ_self gr)]; exact hc1
        have hgw : w.heap.size < gr := H3.out.2.2
        have H4 : Aside (Pl22 w gr r { clz with name := r.name } W4 ∧ takesE { clz with name := r.name } (r.takes.drop 0) (T.drop 0) = takesE { clz with name := r.name } r.takes T ∧ T21.Txts W4 (some ⟨b, off, none⟩) (n + 1) c ((a :: T).map sb) ∧ Tb W4) :=
          ⟨⟨by rw [hb4.block _ (by omega)]; exact hres, by rw [hb4.block _ (Nat.lt_succ_self gr)]; exact hg3, hg4, hbw.trans (hb4.mono (by omega)), hgw⟩, rfl, H3.out.1.below hb4 (by omega), H3.out.2.1.below (by rw [hs3]; exact hb4)⟩
        have HR : Hid (w.heap.size = R) := hR
        have HQ : Hid (r.takes.length = n) := hq
        have HI : Hid (W3.heap.size = gr + 1) := hs3
        have hW4 : (storeVar 26 ⟨W3.heap.size, 0, none⟩ (.agg (clc { clz with name := r.name }))).run Tryz.prog (W3.alloc (.cells (clc clz) 26)) = .ok () W4 := by rw [hs3]; exact hst4
        clear hnew4 hg4 hb4 hres hg3 hbw hR hrn hq H3 hgw hst4
        go_wp2_with (first
          | (refine wpList_storeR (ty := 77) (x := .tmp 4) (y := .tmp 19) (ad := ⟨gr, 0, none⟩) (v := .agg (rwc r).toArray) (w' := W3) rfl rfl rfl rfl hst ?_)
          | (refine wpList_storeR (ty := 26) (x := .tmp 6) (y := .tmp 34) (ad := ⟨gr + 1, 0, none⟩) (v := .agg (clc { clz with name := r.name })) (w' := W4) rfl rfl rfl rfl (by rw [← HI.out]; exact hW4) ?_))
        go_loopw [38] (fun cv wr => ∃ (k : Nat) (cl : Cl), k ≤ n ∧ cv = .int .i64 (k : Int) ∧ Aside (Pl22 w gr r cl wr ∧ takesE cl (r.takes.drop k) (T.drop k) = takesE { clz with name := r.name } r.takes T ∧ T21.Txts wr (some ⟨b, off, none⟩) (n + 1) c ((a :: T).map sb) ∧ Tb wr)) (fun cv _ => n - (intOf cv).toNat)
        case atStart => exact ⟨0, _, Nat.zero_le _, rfl, H4⟩
        case round =>
          clear H4
          obtain ⟨k, cl, hk, rfl, HX⟩ := hrel
          by_cases hkn : k < n
          · have hkn' : (k : Int) < (n : Int) := by omega
            obtain ⟨p, hp⟩ : ∃ p, r.takes[k]? = some p := ⟨_, List.getElem?_eq_getElem (by rw [HQ.out]; exact hkn)⟩
            obtain ⟨s, hs⟩ : ∃ s, T[k]? = some s := ⟨_, List.getElem?_eq_getElem (by rw [HS.out.2.1]; exact hkn)⟩
            have hstep := HX.out.2.1
            rw [takesE_step hp hs] at hstep
            have harg : wr.cell? ⟨b, off + (k + 1), none⟩ = some (.string (sb s)) := by
              obtain ⟨b', off', e, harg⟩ := arg_at HX.out.2.2.1 (j := k + 1) (by omega)
              cases e
              rw [harg, List.getD_cons_succ, List.getD_eq_getElem?_getD, hs, Option.getD_some]
            have hct : wr.cell? ⟨gr, 1, none⟩ = some (.string (sb r.takes)) := cell_of_row _ gr 1 _ _ _ HX.out.1.row
            have hix : ∀ h, (sb r.takes)[k]'h = p := fun h => (T21.tx_get r.takes k h).trans (by rw [List.getD_eq_getElem?_getD, hp, Option.getD_some])
            have hTk := ctake_any (gr + 1) cl p s wr.drew HX.out.1.cl (HS.out.1 s (List.mem_of_getElem? hs)) (HX.out.2.2.2.below (Below.refl _ wr).drew)
            unfold takeP at hTk
            have hn1 : (n : Int) ≤ 1000 := by omega
            have hk0 : (0 : Int) ≤ (k : Int) + 1 := by omega
            have hk1 : (k : Int) + 1 < (n : Int) + 1 := by omega
            have hk2 : ((k : Int) + 1).toNat = k + 1 := by omega
            have hkw : IntKind.i64.wrap ((k : Int) + 1) = (k : Int) + 1 := by simp [IntKind.wrap, IntKind.signed, IntKind.bits]; omega
            by_cases hz : takeE p s = 0
            · rw [if_pos hz] at hstep
              have HZ : Aside (takesE (takeC cl p s) (r.takes.drop (k + 1)) (T.drop (k + 1)) = takesE { clz with name := r.name } r.takes T ∧ Pl22 w gr r cl wr ∧ T21.Txts wr (some ⟨b, off, none⟩) (n + 1) c ((a :: T).map sb) ∧ Tb wr) := ⟨hstep, HX.out.1, HX.out.2.2⟩
              rw [hz] at hTk
              clear hstep HX hz hp hs
              go_wp2_with fail
              go_region_with (go_at_call 28; refine Calls.mono hTk ?_; rintro e w4 ⟨rfl, hB, hcl⟩)
              all_goals
                have hbw4 : Below w.heap.size wr w4 := bt_drew hB (by have := HZ.out.2.1.lt; omega) HZ.out.2.1.be.size
                have H5 : Aside (Pl22 w gr r (takeC cl p s) w4 ∧ takesE (takeC cl p s) (r.takes.drop (k + 1)) (T.drop (k + 1)) = takesE { clz with name := r.name } r.takes T ∧ T21.Txts w4 (some ⟨b, off, none⟩) (n + 1) c ((a :: T).map sb) ∧ Tb w4) :=
                  ⟨pl_on HZ.out.2.1 hB (hcl (by simp)), HZ.out.1, HA0.out.1.below (HZ.out.2.1.be.trans hbw4) (Nat.le_refl _), HA0.out.2.below (HZ.out.2.1.be.trans hbw4)⟩
                clear HZ hbw4 hcl hB hTk harg hct hix
                go_wp2
                go_roundw
                case rel => exact ⟨k + 1, _, by omega, by go_num, H5⟩
                case measure => simp [intOf]; omega
            · rw [if_neg hz] at hstep
              have HZ : Aside ((clz, takeE p s) = takesE { clz with name := r.name } r.takes T ∧ Pl22 w gr r cl wr) := ⟨hstep, HX.out.1⟩
              have hzb : (takeE p s == 0) = false := by simpa using hz
              clear hstep HX hp hs
              generalize takeE p s = z at *
              go_wp2_with fail
              go_region_with (go_at_call 28; refine Calls.mono hTk ?_; rintro e w4 ⟨rfl, hB, hcl⟩)
              all_goals
                have hbw4 : Below w.heap.size wr w4 := bt_drew hB (by have := HZ.out.2.lt; omega) HZ.out.2.be.size
                have hres4 : w4.heap[w.heap.size]? = some (.cells (clc clz) 26 (0, 0)) := by
                  have h1 := HZ.out.2.res
                  have h2 := (Array.getElem?_eq_some_iff.1 h1).1
                  rw [(hB : Bt (gr + 1) wr.drew w4).block w.heap.size h2 (by have := HZ.out.2.lt; omega)]
                  exact h1
                obtain ⟨W5, hst5, hg5, hb5⟩ := fin_cl (clc_size clz) (clc_one clz) hres4 (HZ.out.2.be.trans hbw4)
                rw [HR.out] at hst5 hg5
                have FIN : Hid (Below w.heap.size w W5 ∧ (clz, z) = takesE { clz with name := r.name } r.takes T) := ⟨hb5, HZ.out.1⟩
                clear HZ hbw4 hcl hB hTk harg hct hix hres4 hb5
                go_wp2_with (first
                  | (refine wpList_storeR (ty := 26) (x := .tmp 2) (y := .tmp 53) (ad := ⟨R, 0, none⟩) (v := .agg (clc clz)) (w' := W5) rfl rfl rfl rfl hst5 ?_))
                refine ret_cl2 rfl rfl rfl rfl hg5 rfl ?_
                rw [HP.out]
                simp only [if_pos HQ.out.symm]
                rw [← FIN.out.2]
                exact ⟨rfl, FIN.out.1⟩
          · have hkn' : ¬ (k : Int) < (n : Int) := by omega
            have hend := HX.out.2.1
            rw [takesE_end (by rw [HQ.out]; omega)] at hend
            have hcl5 := HX.out.1.cl
            have hld := loadVar_cl hcl5 (clc_size cl)
            obtain ⟨W5, hst5, hg5, hb5⟩ := fin_cl (clc_size cl) (clc_one cl) HX.out.1.res HX.out.1.be
            rw [HR.out] at hst5 hg5
            have FIN : Hid (Below w.heap.size w W5 ∧ (cl, 0) = takesE { clz with name := r.name } r.takes T) := ⟨hb5, hend⟩
            clear hend hcl5 HX hb5
            go_wp2_with (first
              | (refine wpList_loadR (ty := 26) (x := .tmp 6) (ad := ⟨gr + 1, 0, none⟩) (v := .agg (clc cl)) rfl rfl rfl hld ?_)
              | (refine wpList_storeR (ty := 26) (x := .tmp 2) (y := .tmp 56) (ad := ⟨R, 0, none⟩) (v := .agg (clc cl)) (w' := W5) rfl rfl rfl rfl hst5 ?_))
            refine ret_cl2 rfl rfl rfl rfl hg5 rfl ?_
            rw [HP.out]
            simp only [if_pos HQ.out.symm]
            rw [← FIN.out.2]
            exact ⟨rfl, FIN.out.1⟩
      · obtain ⟨W4, hst4, hg4, hb4⟩ := fin_cl (clc_size clz) (clc_one clz) hres hbw
        rw [hR] at hst4 hg4
        have FIN : Hid (Below w.heap.size w W4) := hb4
        have HN : Hid (n ≠ r.takes.length) := by rw [hq]; exact hnq
        have hn1 : (((n + 1 : Nat) : Int) - 1 == (q : Int)) = false := by simp; omega
        have HR : Hid (w.heap.size = R) := hR
        have HQ : Hid (r.takes.length = q) := hq
        clear hb4 H3 hres hbw hR hrn hq hs3 hg3
        go_wp2_with (first
          | (refine wpList_storeR (ty := 77) (x := .tmp 4) (y := .tmp 19) (ad := ⟨gr, 0, none⟩) (v := .agg (rwc r).toArray) (w' := W3) rfl rfl rfl rfl hst ?_)
          | (refine wpList_storeR (ty := 26) (x := .tmp 2) (y := .tmp 31) (ad := ⟨R, 0, none⟩) (v := .agg (clc clz)) (w' := W4) rfl rfl rfl rfl hst4 ?_))
        refine ret_cl2 rfl rfl rfl rfl hg4 rfl ?_
        rw [HP.out]
        simp only [if_neg HN.out]
        exact ⟨rfl, FIN.out⟩
end Go.Proofs.YtmlfekbmbnfkjaaGreatDoor

/-
  The reference's upper.
-/
namespace Go.Proofs.YtmlfekbmbnfkjaaGreatDoor
set_option maxRecDepth 100000
open Go.RowKit

theorem sb_append (a b : List UInt8) : sb a ++ sb b = sb (a ++ b) := by
  apply ByteArray.ext
  simp [sb]
theorem conv_one (w : World) (c : UInt8) (x : Int) (hx : x = (c.toNat : Int)) : (convert 67 9 (.slice (some ⟨w.heap.size, 0, none⟩) 1 1)).run Tryz.prog (w.alloc (.cells #[.int .u8 x] 5)) = .ok (.string (sb [c])) (w.alloc (.cells #[.int .u8 x] 5)) := by
  subst hx
  refine run_convert_bytes_back _ 67 9 5 ⟨w.heap.size, 0, none⟩ 1 [c] Tryz.underlying67 Tryz.underlying5 Tryz.underlying9 ?_
  intro j hj
  have h0 : j = 0 := by simpa using hj
  subst h0
  rw [Addr.add_lit, Nat.zero_add]
  exact World.cell?_alloc_mark w #[.int .u8 (c.toNat : Int)] 5 (0, 0) 0
set_option maxHeartbeats 1000000 in
theorem rupper_any (l : List UInt8) (w : World) (hl : l.length ≤ 1000) :
    Calls Tryz.prog 29 #[.string (sb l)] w fun e w' => e = .returned (.string (sb (upE l))) ∧ Below w.heap.size w w' := by
  obtain ⟨n, hn⟩ : ∃ n, l.length = n := ⟨_, rfl⟩
  have hsz : (sb l).size = n := (size_sb l).trans hn
  have HN : Hid (l.length = n) := hn
  have hU : ∀ k c, l[k]? = some c → (upE l).take (k + 1) = (upE l).take k ++ [upC c] := fun k c h => by
    rw [List.take_add_one, upE, List.getElem?_map, h]; rfl
  have hE : (upE l).take n = upE l := List.take_of_length_le (by rw [upE_len]; omega)
  rw [hn] at hl
  have HU : Hid _ := hU
  have HE : Hid _ := hE
  clear hn hU hE
  generalize upE l = U at *
  go_enter Tryz.func29, Tryz.ntmps29
  go_wp2_with fail
  go_loopw [3, 4] (fun o cv wr => ∃ k : Nat, k ≤ n ∧ cv = .int .i64 (k : Int) ∧ o = .string (sb (U.take k)) ∧ Hid (Below w.heap.size w wr)) (fun _ cv _ => n - (intOf cv).toNat)
  case atStart => exact ⟨0, Nat.zero_le _, rfl, rfl, Below.refl _ _⟩
  case round =>
    obtain ⟨k, hk, rfl, rfl, HB⟩ := hrel
    by_cases hkn : k < n
    · have hkn' : (k : Int) < (n : Int) := by omega
      obtain ⟨c, hc⟩ : ∃ c, l[k]? = some c := ⟨_, List.getElem?_eq_getElem (by rw [HN.out]; exact hkn)⟩
      have hix : ∀ h, (sb l)[k]'h = c := fun h => (T21.tx_get l k h).trans (by rw [List.getD_eq_getElem?_getD, hc, Option.getD_some])
      have HT : Hid (U.take (k + 1) = U.take k ++ [upC c]) := HU.out k c hc
      have hap := sb_append (U.take k) [upC c]
      rw [← HT.out] at hap
      have hs1 : (sb (U.take k)).size ≤ 1000 := by rw [size_sb, List.length_take]; omega
      have hs2 : (sb [upC c]).size = 1 := size_sb _
      have hxb : c.toNat < 256 := UInt8.toNat_lt _
      have HX : Hid (upC c = if 97 ≤ c.toNat ∧ c.toNat ≤ 122 then UInt8.ofNat (c.toNat - 32) else c) := rfl
      have HB2 : ∀ o, Hid (Below w.heap.size w (wr.alloc o)) := fun o => HB.out.alloc HB.out.size _
      by_cases h12 : 97 ≤ c.toNat ∧ c.toNat ≤ 122
      · have hz1 : (97 : Int) ≤ (c.toNat : Int) := by omega
        have hz2 : (c.toNat : Int) ≤ 122 := by omega
        have hcv := conv_one wr (upC c) ((c.toNat : Int) - 97 + 65) (by
          rw [HX.out, if_pos h12, UInt8.toNat_ofNat']; omega)
        clear hc HX
        generalize upC c = uc at *
        go_wp2
        go_roundw
        case rel => exact ⟨k + 1, by omega, by go_num, rfl, HB2 _⟩
        case measure => simp [intOf]; omega
      · have hcv := conv_one wr (upC c) (c.toNat : Int) (by rw [HX.out, if_neg h12])
        clear hc HX
        generalize upC c = uc at *
        by_cases h1 : 97 ≤ c.toNat
        · have hz1 : (97 : Int) ≤ (c.toNat : Int) := by omega
          have hz2 : ¬ (c.toNat : Int) ≤ 122 := by omega
          go_wp2
          go_roundw
          case rel => exact ⟨k + 1, by omega, by go_num, rfl, HB2 _⟩
          case measure => simp [intOf]; omega
        · have hz1 : ¬ (97 : Int) ≤ (c.toNat : Int) := by omega
          go_wp2
          go_roundw
          case rel => exact ⟨k + 1, by omega, by go_num, rfl, HB2 _⟩
          case measure => simp [intOf]; omega
    · have hkn' : ¬ (k : Int) < (n : Int) := by omega
      have hk2 : k = n := by omega
      subst hk2
      rw [HE.out]
      go_wp2
      go_ret
      exact ⟨rfl, HB.out⟩
end Go.Proofs.YtmlfekbmbnfkjaaGreatDoor

/-
  The reference's Number.
-/
namespace Go.Proofs.YtmlfekbmbnfkjaaGreatDoor
set_option maxRecDepth 100000
open Go.RowKit

def numV (o : Option Int) : Value := .tuple #[.int .i64 (o.getD 0), .bool o.isSome]
theorem numF_none {neg : Bool} {m : List UInt8} (h : m = [] ∨ 15 < m.length ∨ (m.head? = some 48 ∧ (1 < m.length ∨ neg = true)) ∨ m.all isDig = false) : numF neg m = none := if_pos h
theorem numF_some {neg : Bool} {m : List UInt8} (h1 : m ≠ []) (h2 : m.length ≤ 15) (h3 : ¬ (m.head? = some 48 ∧ (1 < m.length ∨ neg = true))) (h4 : m.all isDig = true) : numF neg m = some (if neg then -(digV 0 m : Int) else (digV 0 m : Int)) := by
  unfold numF
  refine if_neg ?_
  rintro (h | h | h | h)
  · exact h1 h
  · omega
  · exact h3 h
  · rw [h4] at h; cases h
theorem digV_small (m : List UInt8) : ∀ (acc : Nat), m.all isDig = true → digV acc m < (acc + 1) * 10 ^ m.length := by
  induction m with
  | nil => intro acc _; show acc < (acc + 1) * 10 ^ 0; rw [Nat.pow_zero]; omega
  | cons c r ih =>
    intro acc h
    rw [List.all_cons, Bool.and_eq_true] at h
    have hc : 48 ≤ c.toNat ∧ c.toNat ≤ 57 := by simpa [isDig] using h.1
    refine Nat.lt_of_lt_of_le (ih (10 * acc + (c.toNat - 48)) h.2) ?_
    rw [List.length_cons, Nat.pow_succ, Nat.mul_comm (10 ^ r.length) 10, ← Nat.mul_assoc]
    have h10 : 10 * acc + (c.toNat - 48) + 1 ≤ (acc + 1) * 10 := by omega
    exact Nat.mul_le_mul_right _ h10
theorem digV_lt {m : List UInt8} (h : m.all isDig = true) {n : Nat} (hl : m.length ≤ n) : digV 0 m < 10 ^ n := by
  have h2 := digV_small m 0 h
  have : 10 ^ m.length ≤ 10 ^ n := Nat.pow_le_pow_right (by decide) hl
  omega
theorem all_take {m : List UInt8} {k : Nat} {c : UInt8} (h : m[k]? = some c) (ha : (m.take k).all isDig = true) (hc : isDig c = true) : (m.take (k + 1)).all isDig = true := by
  rw [List.take_add_one, h, List.all_append, ha]; simp [hc]
theorem not_all {m : List UInt8} {k : Nat} {c : UInt8} (h : m[k]? = some c) (hc : isDig c = false) : m.all isDig = false := by
  cases hh : m.all isDig with
  | false => rfl
  | true => rw [List.all_eq_true.1 hh c (List.mem_of_getElem? h)] at hc; cases hc
theorem digV_take {m : List UInt8} {k : Nat} {c : UInt8} (h : m[k]? = some c) : digV 0 (m.take (k + 1)) = 10 * digV 0 (m.take k) + (c.toNat - 48) := by
  rw [List.take_add_one, h]; exact digV_snoc _ c 0
set_option maxHeartbeats 2000000 in
theorem rnumber_any (l : List UInt8) (w : World) (hl : l.length ≤ 1000) :
    Calls Tryz.prog 31 #[.string (sb l)] w fun e w' => e = .returned (numV (numTx l)) ∧ w' = w := by
  have hel := sb_empty l
  by_cases hl0 : l = []
  · subst hl0
    have e1 : numV (numTx []) = .tuple #[.int .i64 0, .bool false] := rfl
    have E1 : Hid _ := e1
    clear e1
    go_enter Tryz.func31, Tryz.ntmps31
    go_wp2
    go_ret2
    exact ⟨congrArg Ending.returned E1.out.symm, rfl⟩
  · rw [decide_eq_false hl0] at hel
    obtain ⟨c0, t, rfl⟩ : ∃ c0 t, l = c0 :: t := by cases l with | nil => exact absurd rfl hl0 | cons a b => exact ⟨a, b, rfl⟩
    clear hl0
    have hszl : (sb (c0 :: t)).size = t.length + 1 := size_sb _
    have hf0 : ∀ h, (sb (c0 :: t))[0]'h = c0 := fun h => T21.tx_get _ 0 h
    by_cases hneg : c0 = 45
    · have HE : Hid (numTx (c0 :: t) = numF true t) := by rw [hneg]; rfl
      have hcn : (c0.toNat : Int) = 45 := by rw [hneg]; rfl
      have hex : (sb (c0 :: t)).extract 1 (t.length + 1) = sb t := by
        rw [T21.ext_tx]
        show sb _ = sb _
        congr 1
        simp [sb]
      rw [List.length_cons] at hl
      clear hneg
      generalize t = m at *
      have hem := sb_empty m
      have hszm : (sb m).size = m.length := size_sb m
      by_cases b1 : m = []
      · rw [decide_eq_true b1] at hem
        have E1 : Hid (numV (numTx (c0 :: m)) = .tuple #[.int .i64 0, .bool false]) := by rw [Hid, HE.out, numF_none (.inl b1)]; rfl
        clear b1 HE
        go_enter Tryz.func31, Tryz.ntmps31
        go_wp2
        go_ret2
        exact ⟨congrArg Ending.returned E1.out.symm, rfl⟩
      rw [decide_eq_false b1] at hem
      obtain ⟨q, hq⟩ : ∃ q, m.length = q := ⟨_, rfl⟩
      rw [hq] at hszm hszl hex
      have HQ : Hid (m.length = q) := hq
      have HB1 : Hid (m ≠ []) := b1
      have hq1 : 0 < q := by rw [← hq]; exact List.length_pos_iff.2 b1
      have HHD : Hid (∃ c, m.head? = some c ∧ ∀ h, (sb m)[0]'h = c) := by
        cases m with
        | nil => exact absurd rfl b1
        | cons a b => exact ⟨a, rfl, fun h => T21.tx_get _ 0 h⟩
      clear hq b1
      by_cases b2 : 15 < q
      · have hz2 : (15 : Int) < (q : Int) := by omega
        have E1 : Hid (numV (numTx (c0 :: m)) = .tuple #[.int .i64 0, .bool false]) := by rw [Hid, HE.out, numF_none (.inr (.inl (by rw [HQ.out]; exact b2)))]; rfl
        go_enter Tryz.func31, Tryz.ntmps31
        go_wp2
        go_ret2
        exact ⟨congrArg Ending.returned E1.out.symm, rfl⟩
      have hz2 : ¬ (15 : Int) < (q : Int) := by omega
      obtain ⟨c, hc, hi0⟩ := HHD.out
      by_cases b3 : c = 48 ∧ (1 < q ∨ true = true)
      · have hc48 : (c.toNat : Int) = 48 := by rw [b3.1]; rfl
        have E1 : Hid (numV (numTx (c0 :: m)) = .tuple #[.int .i64 0, .bool false]) := by rw [Hid, HE.out, numF_none (.inr (.inr (.inl ⟨by rw [hc, b3.1], by rw [HQ.out]; exact b3.2⟩)))]; rfl
        have b31 := b3.2
        clear b3 hc HE
        by_cases b4 : 1 < q
        · have hz4 : (1 : Int) < (q : Int) := by omega
          clear b31
          go_enter Tryz.func31, Tryz.ntmps31
          go_wp2
          go_ret2
          exact ⟨congrArg Ending.returned E1.out.symm, rfl⟩
        · have hz4 : ¬ (1 : Int) < (q : Int) := by omega
          clear b31
          go_enter Tryz.func31, Tryz.ntmps31
          go_wp2
          go_ret2
          exact ⟨congrArg Ending.returned E1.out.symm, rfl⟩
      have HM : Hid (m ≠ [] ∧ m.length = q ∧ m.head? = some c ∧ ¬ (c = 48 ∧ (1 < q ∨ true = true))) := ⟨HB1.out, HQ.out, hc, b3⟩
      have hway : ((c.toNat : Int) == 48) = false ∨ (((c.toNat : Int) = 48) ∧ ¬ (1 : Int) < (q : Int) ∧ False) := by
        by_cases h48 : c = 48
        · refine .inr ⟨by rw [h48]; rfl, ?_⟩
          exact absurd ⟨h48, .inr rfl⟩ b3
        · left
          have : c.toNat ≠ 48 := fun e => h48 (UInt8.toNat_inj.1 e)
          simp; omega
      clear hc b3
      rcases hway with hz3 | ⟨hz3, hz4, hF⟩
      · go_enter Tryz.func31, Tryz.ntmps31
        go_wp2_with fail
        go_loopw [5, 6] (fun nv cv wr => ∃ k : Nat, k ≤ q ∧ cv = .int .i64 (k : Int) ∧ nv = .int .i64 (digV 0 (m.take k) : Int) ∧ wr = w ∧ Hid ((m.take k).all isDig = true)) (fun _ cv _ => q - (intOf cv).toNat)
        case atStart => exact ⟨0, Nat.zero_le _, rfl, by rw [List.take_zero]; rfl, rfl, by rw [Hid, List.take_zero]; rfl⟩
        case round =>
          obtain ⟨k, hk, rfl, rfl, hwr, HD⟩ := hrel
          subst hwr
          by_cases hkn : k < q
          · have hkn' : (k : Int) < (q : Int) := by omega
            obtain ⟨d, hd⟩ : ∃ d, m[k]? = some d := ⟨_, List.getElem?_eq_getElem (by rw [HM.out.2.1]; exact hkn)⟩
            have hix : ∀ h, (sb m)[k]'h = d := fun h => (T21.tx_get m k h).trans (by rw [List.getD_eq_getElem?_getD, hd, Option.getD_some])
            by_cases hdig : isDig d = true
            · have hb : 48 ≤ d.toNat ∧ d.toNat ≤ 57 := by simpa [isDig] using hdig
              have hz5 : ¬ (d.toNat : Int) < 48 := by omega
              have hz6 : ¬ (57 : Int) < (d.toNat : Int) := by omega
              have hz7 : (48 : Int) ≤ (d.toNat : Int) := by omega
              have hz8 : (d.toNat : Int) ≤ 57 := by omega
              have hsm : digV 0 (m.take k) < 100000000000000 := digV_lt (n := 14) HD.out (by rw [List.length_take]; omega)
              have HN : Hid ((digV 0 (m.take (k + 1)) : Int) = 10 * (digV 0 (m.take k) : Int) + ((d.toNat : Int) - 48) ∧ (m.take (k + 1)).all isDig = true) := ⟨by rw [digV_take hd]; omega, all_take hd HD.out hdig⟩
              clear hd hdig HD hb
              generalize digV 0 (m.take k) = y at *
              have hy1 : (y : Int) < 100000000000000 := by omega
              have hy0 : (0 : Int) ≤ (y : Int) := by omega
              go_wp2
              go_roundw
              case rel => exact ⟨k + 1, by omega, by go_num, by rw [HN.out.1], by simp, HN.out.2⟩
              case measure => simp [intOf]; omega
            · have hno : isDig d = false := by simpa using hdig
              have E1 : Hid (numV (numTx (c0 :: m)) = .tuple #[.int .i64 0, .bool false]) := by rw [Hid, HE.out, numF_none (.inr (.inr (.inr (not_all hd hno))))]; rfl
              have hb : ¬ (48 ≤ d.toNat ∧ d.toNat ≤ 57) := by simpa [isDig] using hno
              clear hd hdig HD hno HE
              generalize digV 0 (m.take k) = y at *
              by_cases h5 : d.toNat < 48
              · have hz5 : (d.toNat : Int) < 48 := by omega
                go_wp2
                go_ret2
                exact ⟨congrArg Ending.returned E1.out.symm, rfl⟩
              · have hz5 : ¬ (d.toNat : Int) < 48 := by omega
                have hz6 : (57 : Int) < (d.toNat : Int) := by omega
                go_wp2
                go_ret2
                exact ⟨congrArg Ending.returned E1.out.symm, rfl⟩
          · have hkn' : ¬ (k : Int) < (q : Int) := by omega
            have e1 : m.take k = m := List.take_of_length_le (by rw [HM.out.2.1]; omega)
            have hd := HD.out
            rw [e1] at hd ⊢
            have hsm : digV 0 m < 1000000000000000 := digV_lt (n := 15) hd (by rw [HM.out.2.1]; omega)
            have E1 : Hid (numV (numTx (c0 :: m)) = .tuple #[.int .i64 (-(digV 0 m : Int)), .bool true]) := by
              rw [Hid, HE.out, numF_some HM.out.1 (by rw [HM.out.2.1]; omega) (by rw [HM.out.2.2.1, HM.out.2.1]; rintro ⟨h1, h2⟩; refine HM.out.2.2.2 ⟨Option.some.inj h1, ?_⟩; first | exact h2 | simp) hd]; rfl
            clear hd e1 HD HE
            generalize digV 0 m = y at *
            have hy1 : (y : Int) < 1000000000000000 := by omega
            have hy0 : (0 : Int) ≤ (y : Int) := by omega
            go_wp2
            go_ret2
            exact ⟨congrArg Ending.returned E1.out.symm, rfl⟩
      · exact hF.elim
    · have hcn : ((c0.toNat : Int) == 45) = false := by
        have : c0.toNat ≠ 45 := fun e => hneg (UInt8.toNat_inj.1 e)
        simp; omega
      have HE : Hid (numTx (c0 :: t) = numF false (c0 :: t)) := by
        have hn : negB (c0 :: t) = false := decide_eq_false (by simpa using hneg)
        unfold numTx magL
        rw [hn]; rfl
      obtain ⟨m, hm⟩ : ∃ m, c0 :: t = m := ⟨_, rfl⟩
      have hl1 : m.length = t.length + 1 := by rw [← hm]; rfl
      rw [hm] at hel hszl hf0 HE hl ⊢
      clear hneg
      have hem := sb_empty m
      have hszm : (sb m).size = m.length := size_sb m
      by_cases b1 : m = []
      · exact absurd b1 (by rw [← hm]; simp)
      rw [decide_eq_false b1] at hem
      obtain ⟨q, hq⟩ : ∃ q, m.length = q := ⟨_, rfl⟩
      rw [hq] at hszm
      have HQ : Hid (m.length = q) := hq
      have HB1 : Hid (m ≠ []) := b1
      have hq1 : 0 < q := by rw [← hq]; exact List.length_pos_iff.2 b1
      have HHD : Hid (∃ c, m.head? = some c ∧ ∀ h, (sb m)[0]'h = c) := by
        cases m with
        | nil => exact absurd rfl b1
        | cons a b => exact ⟨a, rfl, fun h => T21.tx_get _ 0 h⟩
      have HCC : Hid (m.head? = some c0) := by rw [Hid, ← hm]; rfl
      clear hl1 hm hszl hel
      clear hq b1
      by_cases b2 : 15 < q
      · have hz2 : (15 : Int) < (q : Int) := by omega
        have E1 : Hid (numV (numTx m) = .tuple #[.int .i64 0, .bool false]) := by rw [Hid, HE.out, numF_none (.inr (.inl (by rw [HQ.out]; exact b2)))]; rfl
        go_enter Tryz.func31, Tryz.ntmps31
        go_wp2
        go_ret2
        exact ⟨congrArg Ending.returned E1.out.symm, rfl⟩
      have hz2 : ¬ (15 : Int) < (q : Int) := by omega
      obtain ⟨c, hc, hi0⟩ := HHD.out
      have hcc : c = c0 := Option.some.inj (hc.symm.trans HCC.out)
      subst hcc
      clear hf0
      by_cases b3 : c = 48 ∧ (1 < q ∨ false = true)
      · have hc48 : (c.toNat : Int) = 48 := by rw [b3.1]; rfl
        have E1 : Hid (numV (numTx m) = .tuple #[.int .i64 0, .bool false]) := by rw [Hid, HE.out, numF_none (.inr (.inr (.inl ⟨by rw [hc, b3.1], by rw [HQ.out]; exact b3.2⟩)))]; rfl
        have b31 := b3.2
        clear b3 hc HE
        by_cases b4 : 1 < q
        · have hz4 : (1 : Int) < (q : Int) := by omega
          clear b31
          go_enter Tryz.func31, Tryz.ntmps31
          go_wp2
          go_ret2
          exact ⟨congrArg Ending.returned E1.out.symm, rfl⟩
        · have hz4 : ¬ (1 : Int) < (q : Int) := by omega
          exact absurd (b31.resolve_left b4) (by decide)
      have HM : Hid (m ≠ [] ∧ m.length = q ∧ m.head? = some c ∧ ¬ (c = 48 ∧ (1 < q ∨ false = true))) := ⟨HB1.out, HQ.out, hc, b3⟩
      have hway : ((c.toNat : Int) == 48) = false ∨ (((c.toNat : Int) = 48) ∧ ¬ (1 : Int) < (q : Int)) := by
        by_cases h48 : c = 48
        · refine .inr ⟨by rw [h48]; rfl, ?_⟩
          intro h; exact b3 ⟨h48, .inl (by omega)⟩
        · left
          have : c.toNat ≠ 48 := fun e => h48 (UInt8.toNat_inj.1 e)
          simp; omega
      clear hc b3
      rcases hway with hz3 | ⟨hz3, hz4⟩
      · go_enter Tryz.func31, Tryz.ntmps31
        go_wp2_with fail
        go_loopw [5, 6] (fun nv cv wr => ∃ k : Nat, k ≤ q ∧ cv = .int .i64 (k : Int) ∧ nv = .int .i64 (digV 0 (m.take k) : Int) ∧ wr = w ∧ Hid ((m.take k).all isDig = true)) (fun _ cv _ => q - (intOf cv).toNat)
        case atStart => exact ⟨0, Nat.zero_le _, rfl, by rw [List.take_zero]; rfl, rfl, by rw [Hid, List.take_zero]; rfl⟩
        case round =>
          obtain ⟨k, hk, rfl, rfl, hwr, HD⟩ := hrel
          subst hwr
          by_cases hkn : k < q
          · have hkn' : (k : Int) < (q : Int) := by omega
            obtain ⟨d, hd⟩ : ∃ d, m[k]? = some d := ⟨_, List.getElem?_eq_getElem (by rw [HM.out.2.1]; exact hkn)⟩
            have hix : ∀ h, (sb m)[k]'h = d := fun h => (T21.tx_get m k h).trans (by rw [List.getD_eq_getElem?_getD, hd, Option.getD_some])
            by_cases hdig : isDig d = true
            · have hb : 48 ≤ d.toNat ∧ d.toNat ≤ 57 := by simpa [isDig] using hdig
              have hz5 : ¬ (d.toNat : Int) < 48 := by omega
              have hz6 : ¬ (57 : Int) < (d.toNat : Int) := by omega
              have hz7 : (48 : Int) ≤ (d.toNat : Int) := by omega
              have hz8 : (d.toNat : Int) ≤ 57 := by omega
              have hsm : digV 0 (m.take k) < 100000000000000 := digV_lt (n := 14) HD.out (by rw [List.length_take]; omega)
              have HN : Hid ((digV 0 (m.take (k + 1)) : Int) = 10 * (digV 0 (m.take k) : Int) + ((d.toNat : Int) - 48) ∧ (m.take (k + 1)).all isDig = true) := ⟨by rw [digV_take hd]; omega, all_take hd HD.out hdig⟩
              clear hd hdig HD hb
              generalize digV 0 (m.take k) = y at *
              have hy1 : (y : Int) < 100000000000000 := by omega
              have hy0 : (0 : Int) ≤ (y : Int) := by omega
              go_wp2
              go_roundw
              case rel => exact ⟨k + 1, by omega, by go_num, by rw [HN.out.1], by simp, HN.out.2⟩
              case measure => simp [intOf]; omega
            · have hno : isDig d = false := by simpa using hdig
              have E1 : Hid (numV (numTx m) = .tuple #[.int .i64 0, .bool false]) := by rw [Hid, HE.out, numF_none (.inr (.inr (.inr (not_all hd hno))))]; rfl
              have hb : ¬ (48 ≤ d.toNat ∧ d.toNat ≤ 57) := by simpa [isDig] using hno
              clear hd hdig HD hno HE
              generalize digV 0 (m.take k) = y at *
              by_cases h5 : d.toNat < 48
              · have hz5 : (d.toNat : Int) < 48 := by omega
                go_wp2
                go_ret2
                exact ⟨congrArg Ending.returned E1.out.symm, rfl⟩
              · have hz5 : ¬ (d.toNat : Int) < 48 := by omega
                have hz6 : (57 : Int) < (d.toNat : Int) := by omega
                go_wp2
                go_ret2
                exact ⟨congrArg Ending.returned E1.out.symm, rfl⟩
          · have hkn' : ¬ (k : Int) < (q : Int) := by omega
            have e1 : m.take k = m := List.take_of_length_le (by rw [HM.out.2.1]; omega)
            have hd := HD.out
            rw [e1] at hd ⊢
            have hsm : digV 0 m < 1000000000000000 := digV_lt (n := 15) hd (by rw [HM.out.2.1]; omega)
            have E1 : Hid (numV (numTx m) = .tuple #[.int .i64 ((digV 0 m : Int)), .bool true]) := by
              rw [Hid, HE.out, numF_some HM.out.1 (by rw [HM.out.2.1]; omega) (by rw [HM.out.2.2.1, HM.out.2.1]; rintro ⟨h1, h2⟩; refine HM.out.2.2.2 ⟨Option.some.inj h1, ?_⟩; first | exact h2 | simp) hd]; rfl
            clear hd e1 HD HE
            generalize digV 0 m = y at *
            have hy1 : (y : Int) < 1000000000000000 := by omega
            have hy0 : (0 : Int) ≤ (y : Int) := by omega
            go_wp2
            go_ret2
            exact ⟨congrArg Ending.returned E1.out.symm, rfl⟩
      · go_enter Tryz.func31, Tryz.ntmps31
        go_wp2_with fail
        go_loopw [5, 6] (fun nv cv wr => ∃ k : Nat, k ≤ q ∧ cv = .int .i64 (k : Int) ∧ nv = .int .i64 (digV 0 (m.take k) : Int) ∧ wr = w ∧ Hid ((m.take k).all isDig = true)) (fun _ cv _ => q - (intOf cv).toNat)
        case atStart => exact ⟨0, Nat.zero_le _, rfl, by rw [List.take_zero]; rfl, rfl, by rw [Hid, List.take_zero]; rfl⟩
        case round =>
          obtain ⟨k, hk, rfl, rfl, hwr, HD⟩ := hrel
          subst hwr
          by_cases hkn : k < q
          · have hkn' : (k : Int) < (q : Int) := by omega
            obtain ⟨d, hd⟩ : ∃ d, m[k]? = some d := ⟨_, List.getElem?_eq_getElem (by rw [HM.out.2.1]; exact hkn)⟩
            have hix : ∀ h, (sb m)[k]'h = d := fun h => (T21.tx_get m k h).trans (by rw [List.getD_eq_getElem?_getD, hd, Option.getD_some])
            by_cases hdig : isDig d = true
            · have hb : 48 ≤ d.toNat ∧ d.toNat ≤ 57 := by simpa [isDig] using hdig
              have hz5 : ¬ (d.toNat : Int) < 48 := by omega
              have hz6 : ¬ (57 : Int) < (d.toNat : Int) := by omega
              have hz7 : (48 : Int) ≤ (d.toNat : Int) := by omega
              have hz8 : (d.toNat : Int) ≤ 57 := by omega
              have hsm : digV 0 (m.take k) < 100000000000000 := digV_lt (n := 14) HD.out (by rw [List.length_take]; omega)
              have HN : Hid ((digV 0 (m.take (k + 1)) : Int) = 10 * (digV 0 (m.take k) : Int) + ((d.toNat : Int) - 48) ∧ (m.take (k + 1)).all isDig = true) := ⟨by rw [digV_take hd]; omega, all_take hd HD.out hdig⟩
              clear hd hdig HD hb
              generalize digV 0 (m.take k) = y at *
              have hy1 : (y : Int) < 100000000000000 := by omega
              have hy0 : (0 : Int) ≤ (y : Int) := by omega
              go_wp2
              go_roundw
              case rel => exact ⟨k + 1, by omega, by go_num, by rw [HN.out.1], by simp, HN.out.2⟩
              case measure => simp [intOf]; omega
            · have hno : isDig d = false := by simpa using hdig
              have E1 : Hid (numV (numTx m) = .tuple #[.int .i64 0, .bool false]) := by rw [Hid, HE.out, numF_none (.inr (.inr (.inr (not_all hd hno))))]; rfl
              have hb : ¬ (48 ≤ d.toNat ∧ d.toNat ≤ 57) := by simpa [isDig] using hno
              clear hd hdig HD hno HE
              generalize digV 0 (m.take k) = y at *
              by_cases h5 : d.toNat < 48
              · have hz5 : (d.toNat : Int) < 48 := by omega
                go_wp2
                go_ret2
                exact ⟨congrArg Ending.returned E1.out.symm, rfl⟩
              · have hz5 : ¬ (d.toNat : Int) < 48 := by omega
                have hz6 : (57 : Int) < (d.toNat : Int) := by omega
                go_wp2
                go_ret2
                exact ⟨congrArg Ending.returned E1.out.symm, rfl⟩
          · have hkn' : ¬ (k : Int) < (q : Int) := by omega
            have e1 : m.take k = m := List.take_of_length_le (by rw [HM.out.2.1]; omega)
            have hd := HD.out
            rw [e1] at hd ⊢
            have hsm : digV 0 m < 1000000000000000 := digV_lt (n := 15) hd (by rw [HM.out.2.1]; omega)
            have E1 : Hid (numV (numTx m) = .tuple #[.int .i64 ((digV 0 m : Int)), .bool true]) := by
              rw [Hid, HE.out, numF_some HM.out.1 (by rw [HM.out.2.1]; omega) (by rw [HM.out.2.2.1, HM.out.2.1]; rintro ⟨h1, h2⟩; refine HM.out.2.2.2 ⟨Option.some.inj h1, ?_⟩; first | exact h2 | simp) hd]; rfl
            clear hd e1 HD HE
            generalize digV 0 m = y at *
            have hy1 : (y : Int) < 1000000000000000 := by omega
            have hy0 : (0 : Int) ≤ (y : Int) := by omega
            go_wp2
            go_ret2
            exact ⟨congrArg Ending.returned E1.out.symm, rfl⟩
end Go.Proofs.YtmlfekbmbnfkjaaGreatDoor

/-
  The reference's Form.
-/
namespace Go.Proofs.YtmlfekbmbnfkjaaGreatDoor
set_option maxRecDepth 100000
open Go.RowKit

/-- A row's type in the reference: -1, if the command asks for none. -/
def formT (r : Rw22) : Int := if r.is = 0 then -1 else r.is
def nmsA : Array Value := (TB.map fun r => Value.string (sb r.name)).toArray
def fmsA : Array Value := (TB.map fun r => Value.string (sb r.takes)).toArray
def tysA : Array Value := (TB.map fun r => Value.int .i64 (formT r)).toArray
def formV (o : Option Rw22) : Value := match o with | some r => .tuple #[.string (sb r.takes), .int .i64 (formT r), .bool true] | none => .tuple #[.string ⟨#[]⟩, .int .i64 0, .bool false]
theorem nmsA_at {i : Nat} {r : Rw22} (h : TB[i]? = some r) : nmsA[i]? = some (.string (sb r.name)) := by unfold nmsA; rw [List.getElem?_toArray, List.getElem?_map, h]; rfl
theorem fmsA_at {i : Nat} {r : Rw22} (h : TB[i]? = some r) : fmsA[i]? = some (.string (sb r.takes)) := by unfold fmsA; rw [List.getElem?_toArray, List.getElem?_map, h]; rfl
theorem tysA_at {i : Nat} {r : Rw22} (h : TB[i]? = some r) : tysA[i]? = some (.int .i64 (formT r)) := by unfold tysA; rw [List.getElem?_toArray, List.getElem?_map, h]; rfl
structure Fl (w wr : World) : Prop where
  a : wr.heap[w.heap.size]? = some (.cells nmsA 9 (0, 0))
  b : wr.heap[w.heap.size + 1]? = some (.cells fmsA 9 (0, 0))
  c : wr.heap[w.heap.size + 2]? = some (.cells tysA 3 (0, 0))
  be : Below w.heap.size w wr
set_option maxHeartbeats 2000000 in
theorem rform_any (l : List UInt8) (w : World) :
    Calls Tryz.prog 30 #[.string (sb l)] w fun e w' => e = .returned (formV (rowN l)) ∧ Below w.heap.size w w' := by
  obtain ⟨R, hR⟩ : ∃ R, w.heap.size = R := ⟨_, rfl⟩
  have s1 : (w.alloc (.cells nmsA 9)).heap.size = R + 1 := by rw [← hR]; simp
  have s2 : ((w.alloc (.cells nmsA 9)).alloc (.cells fmsA 9)).heap.size = R + 2 := by rw [← hR]; simp
  have a1 := heap_alloc_new w (.cells nmsA 9)
  have a2 := heap_alloc_new (w.alloc (.cells nmsA 9)) (.cells fmsA 9)
  have a3 := heap_alloc_new ((w.alloc (.cells nmsA 9)).alloc (.cells fmsA 9)) (.cells tysA 3)
  rw [hR] at a1
  rw [s1] at a2
  rw [s2] at a3
  have H0 : Aside (Fl w (((w.alloc (.cells nmsA 9)).alloc (.cells fmsA 9)).alloc (.cells tysA 3)) ∧ ∀ x ∈ TB.take 0, x.name ≠ l) := by
    refine ⟨⟨?_, ?_, ?_, ?_⟩, by simp⟩
    · rw [hR, Below.heap_alloc _ _ _ (by omega), Below.heap_alloc _ _ _ (by omega)]; exact a1
    · rw [hR, Below.heap_alloc _ _ _ (by omega)]; exact a2
    · rw [hR]; exact a3
    · exact (((Below.refl _ w).alloc (Nat.le_refl _) _).alloc (by omega) _).alloc (by omega) _
  have HR : Hid (w.heap.size = R) := hR
  clear s1 s2 a1 a2 a3
  go_enter Tryz.func30, Tryz.ntmps30
  go_wp2_with fail
  go_loopw [14] (fun cv wr => ∃ k : Nat, k ≤ 25 ∧ cv = .int .i64 (k : Int) ∧ Aside (Fl w wr ∧ ∀ x ∈ TB.take k, x.name ≠ l)) (fun cv _ => 25 - (intOf cv).toNat)
  case atStart => exact ⟨0, Nat.zero_le _, rfl, H0⟩
  case round =>
    clear H0
    obtain ⟨k, hk, rfl, HX⟩ := hrel
    by_cases hkn : k < 25
    · have hkn' : (k : Int) < 25 := by omega
      obtain ⟨r, hr⟩ : ∃ r, TB[k]? = some r := ⟨_, List.getElem?_eq_getElem (by rw [tb_len]; exact hkn)⟩
      have ha : wr.heap[R]? = some (.cells nmsA 9 (0, 0)) := by rw [← hR]; exact HX.out.1.a
      have hb : wr.heap[R + 1]? = some (.cells fmsA 9 (0, 0)) := by rw [← hR]; exact HX.out.1.b
      have hc : wr.heap[R + 1 + 1]? = some (.cells tysA 3 (0, 0)) := by rw [← hR]; exact HX.out.1.c
      have c1 : wr.cell? ⟨R, k, none⟩ = some (.string (sb r.name)) := by rw [cell_of_row wr R k _ _ _ ha]; exact nmsA_at hr
      have c2 : wr.cell? ⟨R + 1, k, none⟩ = some (.string (sb r.takes)) := by rw [cell_of_row wr (R + 1) k _ _ _ hb]; exact fmsA_at hr
      have c3 : wr.cell? ⟨R + 1 + 1, k, none⟩ = some (.int .i64 (formT r)) := by rw [cell_of_row wr (R + 1 + 1) k _ _ _ hc]; exact tysA_at hr
      have hq : ((sb r.name).toList == (sb l).toList) = decide (r.name = l) := sb_beq _ _
      clear ha hb hc
      by_cases hn : r.name = l
      · rw [decide_eq_true hn] at hq
        have hfin := rowN_some HX.out.2 hr hn
        have FIN : Hid (formV (rowN l) = .tuple #[.string (sb r.takes), .int .i64 (formT r), .bool true] ∧ Below w.heap.size w wr) := ⟨by rw [hfin]; rfl, HX.out.1.be⟩
        clear HX hfin hn hr
        generalize formT r = t at *
        generalize r.takes = ts at *
        generalize r.name = nm at *
        clear hR
        go_wp2_with fail
        go_quiet (fail)
        go_wp2
        go_ret3
        exact ⟨congrArg Ending.returned FIN.out.1.symm, Below.drewN FIN.out.2 nq⟩
      · rw [decide_eq_false hn] at hq
        have HN : Aside (Fl w wr ∧ ∀ x ∈ TB.take (k + 1), x.name ≠ l) := ⟨HX.out.1, fun x hx => by
          rw [List.take_add_one, hr] at hx
          rcases List.mem_append.1 hx with h1 | h1
          · exact HX.out.2 x h1
          · have h2 : x ∈ [r] := by simpa using h1
            rw [List.mem_singleton.1 h2]; exact hn⟩
        clear HX c2 c3
        go_wp2
        go_roundw
        case rel => exact ⟨k + 1, by omega, by go_num, HN⟩
        case measure => simp [intOf]; omega
    · have hkn' : ¬ (k : Int) < 25 := by omega
      have hfin : rowN l = none := rowN_none (by have := HX.out.2; rw [List.take_of_length_le (by rw [tb_len]; omega)] at this; exact this)
      have FIN : Hid (formV (rowN l) = .tuple #[.string ⟨#[]⟩, .int .i64 0, .bool false] ∧ Below w.heap.size w wr) := ⟨by rw [hfin]; rfl, HX.out.1.be⟩
      clear HX hfin hR
      go_wp2
      go_ret3
      exact ⟨congrArg Ending.returned FIN.out.1.symm, FIN.out.2⟩
end Go.Proofs.YtmlfekbmbnfkjaaGreatDoor

/-
  The reference's Parse.
-/
namespace Go.Proofs.YtmlfekbmbnfkjaaGreatDoor
set_option maxRecDepth 100000
open Go.RowKit

theorem rcl_set {w : World} {g i : Nat} {c c' : Cl} {v : Value} (h : w.heap[g]? = some (.cells (clc c) 30 (0, 0))) (e : (clc c).setIfInBounds i v = clc c') : (w.setCell ⟨g, i, none⟩ v).heap[g]? = some (.cells (clc c') 30 (0, 0)) := by
  rw [heap_setCell_same w g i _ _ _ h, e]
theorem fin_rcl {w wr : World} {cs : Array Value} (hc : cs.size = 6) (h1 : cs.all (·.oneCell') = true) (hr : wr.heap[w.heap.size]? = some (.cells (clc clz) 30 (0, 0))) (hb : Below w.heap.size w wr) :
    ∃ W, (storeVar 30 ⟨w.heap.size, 0, none⟩ (.agg cs)).run Tryz.prog wr = .ok () W ∧ W.heap[w.heap.size]? = some (.cells cs 30 (0, 0)) ∧ Below w.heap.size w W :=
  ⟨_, storeVar_rcl hr hc rfl h1, setRow_heap wr w.heap.size _ cs _ _ hr, below_setRow hb (Nat.le_refl _) _⟩
/-- What the reference's Parse has laid. -/
structure Ql (w : World) (gr : Nat) (c : Cl) (wr : World) : Prop where
  res : wr.heap[w.heap.size]? = some (.cells (clc clz) 30 (0, 0))
  cl : wr.heap[gr]? = some (.cells (clc c) 30 (0, 0))
  be : Below w.heap.size w wr
  lt : w.heap.size < gr
theorem ql_set {w wr : World} {gr i : Nat} {c c' : Cl} {v : Value} (h : Ql w gr c wr) (e : (clc c).setIfInBounds i v = clc c') : Ql w gr c' (wr.setCell ⟨gr, i, none⟩ v) :=
  ⟨by rw [heap_setCell_other wr ⟨gr, i, none⟩ _ v (by show w.heap.size ≠ gr; have := h.lt; omega)]; exact h.res, rcl_set h.cl e, h.be.setCell (p := ⟨gr, i, none⟩) (by show w.heap.size ≤ gr; have := h.lt; omega) v, h.lt⟩
theorem rowN_long {l : List UInt8} (h : 9 < l.length) : rowN l = none := rowN_none fun r hr e => by
  have := (tb_takes r hr).2.1
  rw [e] at this
  omega
set_option maxHeartbeats 8000000 in
theorem rparse_any (ao : Option Addr) (m c : Nat) (A : List (List UInt8)) (w : World) (hT : T21.Txts w ao m c (A.map sb)) (hs : ∀ s ∈ A, s.length ≤ 1000) (hm : m ≤ 1000) :
    Calls Tryz.prog 12 #[.slice ao m c] w fun e w' => e = .returned (.tuple #[.agg (clc (parseE A).1), .int .i64 (parseE A).2]) ∧ Below w.heap.size w w' := by
  obtain ⟨R, hR⟩ : ∃ R, w.heap.size = R := ⟨_, rfl⟩
  have hs0 : (w.alloc (.cells (clc clz) 30)).heap.size = R + 1 := by rw [← hR]; simp
  have hz0 : (w.alloc (.cells (clc clz) 30)).heap[w.heap.size]? = some (.cells (clc clz) 30) := heap_alloc_new w _
  have hb0 : Below w.heap.size w (w.alloc (.cells (clc clz) 30)) := (Below.refl _ w).alloc (Nat.le_refl _) _
  have hT0 := hT.below hb0 (Nat.le_refl _)
  have hlen := hT.len
  rw [List.length_map] at hlen
  cases A with
  | nil =>
    simp only [List.length_nil] at hlen
    subst hlen
    obtain ⟨W, hst, hg, hb⟩ := fin_rcl (clc_size clz) (clc_one clz) hz0 hb0
    have FIN : Hid (Below w.heap.size w W) := hb
    clear hz0 hb0 hT0 hT hb hs0
    rw [hR] at hst hg
    go_enter Tryz.func12, Tryz.ntmps12
    go_wp2_with (first
      | (refine wpList_storeR (ty := 30) (x := .tmp 2) (y := .tmp 15) (ad := ⟨R, 0, none⟩) (v := .agg (clc clz)) (w' := W) rfl rfl rfl rfl hst ?_))
    refine ret_rcl2 rfl rfl rfl rfl hg rfl ?_
    exact ⟨rfl, FIN.out⟩
  | cons a T =>
    rw [List.length_cons] at hlen
    obtain ⟨n, hn⟩ : ∃ n, T.length = n := ⟨_, rfl⟩
    rw [hn] at hlen
    subst hlen
    obtain ⟨b, off, rfl, hcA⟩ := arg_at hT0 (j := 0) (by omega)
    have hc0 : (w.alloc (.cells (clc clz) 30)).cell? ⟨b, off, none⟩ = some (.string (sb a)) := hcA
    clear hcA
    have hm0 : ¬ ((n : Int) + 1 = 0) := by omega
    have hCap := fun W => rupper_any a W (hs a (by simp))
    have hRo := fun W => rform_any (upE a) W
    have hsa : (sb a).size = a.length := size_sb a
    have HP : Hid (parseE (a :: T) = (match rowN (upE a) with | none => (clz, 14) | some w => if n = w.takes.length then takesE { clz with name := w.name } w.takes T else (clz, 12))) := by rw [← hn]; rfl
    have HA : Aside (T21.Txts (w.alloc (.cells (clc clz) 30)) (some ⟨b, off, none⟩) (n + 1) c ((a :: T).map sb) ∧ (w.alloc (.cells (clc clz) 30)).heap[w.heap.size]? = some (.cells (clc clz) 30) ∧ Below w.heap.size w (w.alloc (.cells (clc clz) 30)) ∧ (w.alloc (.cells (clc clz) 30)).heap.size = w.heap.size + 1) := ⟨hT0, hz0, hb0, by simp⟩
    have HA0 : Aside (T21.Txts w (some ⟨b, off, none⟩) (n + 1) c ((a :: T).map sb)) := hT
    have HS : Hid ((∀ s ∈ T, s.length ≤ 1000) ∧ T.length = n ∧ w.heap.size = R ∧ n + 1 ≤ 1000) := ⟨fun s h => hs s (by simp [h]), hn, hR, hm⟩
    have HU : Hid ((upE a).length = a.length) := upE_len a
    clear hz0 hb0 hT0 hT hs hn hs0
    obtain ⟨W0, hW0⟩ : ∃ W0, w.alloc (.cells (clc clz) 30) = W0 := ⟨_, rfl⟩
    rw [hW0] at HA hc0
    have hW0 : w.alloc (.cells #[.string ⟨#[]⟩, .string ⟨#[]⟩, .string ⟨#[]⟩, .string ⟨#[]⟩, .int .i64 0, .int .i64 0] 30) = W0 := hW0
    obtain ⟨la, hla⟩ : ∃ la, a.length = la := ⟨_, rfl⟩
    rw [hla] at hsa HU
    clear hla
    by_cases hlong : 20 < la
    · have hz : (20 : Int) < (la : Int) := by omega
      obtain ⟨W4, hst4, hg4, hb4⟩ := fin_rcl (clc_size clz) (clc_one clz) HA.out.2.1 HA.out.2.2.1
      rw [hR] at hst4 hg4
      have FIN : Hid (Below w.heap.size w W4 ∧ parseE (a :: T) = (clz, 14)) := ⟨hb4, by rw [HP.out, rowN_long (by have := HU.out; omega)]⟩
      clear hb4 HA HP hCap hRo
      go_enter Tryz.func12, Tryz.ntmps12
      go_wp2_with (first
        | (refine wpList_storeR (ty := 30) (x := .tmp 2) (y := .tmp 21) (ad := ⟨R, 0, none⟩) (v := .agg (clc clz)) (w' := W4) rfl rfl rfl rfl hst4 ?_))
      refine ret_rcl2 rfl rfl rfl rfl hg4 rfl ?_
      rw [FIN.out.2]
      exact ⟨rfl, FIN.out.1⟩
    have hz : ¬ (20 : Int) < (la : Int) := by omega
    go_enter Tryz.func12, Tryz.ntmps12
    go_wp2_with fail
    refine Calls.mono (hCap _) ?_
    rintro e w1 ⟨rfl, hb1⟩
    have H1 : Aside (w1.heap[w.heap.size]? = some (.cells (clc clz) 30 (0, 0)) ∧ Below w.heap.size w w1 ∧ w.heap.size < w1.heap.size) :=
      ⟨by rw [hb1.block _ (by have := HA.out.2.2.2; omega)]; exact HA.out.2.1, HA.out.2.2.1.trans (hb1.mono HA.out.2.2.1.size), by have := HA.out.2.2.2; have := hb1.size; omega⟩
    clear hb1 HA hc0 hW0 hCap
    obtain ⟨gr, hgr⟩ : ∃ gr, w1.heap.size = gr := ⟨_, rfl⟩
    have hnew4 := heap_alloc_new w1 (.cells (clc clz) 30)
    rw [hgr] at hnew4
    have hst4 := storeVar_rcl (cs := clc { clz with name := upE a }) hnew4 rfl rfl (clc_one _)
    have hg4 := setRow_heap (w1.alloc (.cells (clc clz) 30)) gr _ (clc { clz with name := upE a }) _ _ hnew4
    have hb4 : Below gr w1 ((w1.alloc (.cells (clc clz) 30)).setRow gr (clc { clz with name := upE a })) := below_setRow ((Below.refl _ w1).alloc (by omega) _) (Nat.le_refl _) _
    generalize (w1.alloc (.cells (clc clz) 30)).setRow gr (clc { clz with name := upE a }) = W4 at *
    have hcA := cell_of_row _ gr 0 _ _ _ hg4
    have hcn : W4.cell? ⟨gr, 0, none⟩ = some (.string (sb (upE a))) := hcA
    have HQ4 : Aside (Ql w gr { clz with name := upE a } W4) := ⟨by rw [hb4.block _ (by have := H1.out.2.2; omega)]; exact H1.out.1, hg4, H1.out.2.1.trans (hb4.mono (by have := H1.out.2.2; omega)), by have := H1.out.2.2; omega⟩
    clear hcA hnew4 hg4 hb4 H1
    go_wp2_with (first
      | (refine wpList_storeR (ty := 30) (x := .tmp 4) (y := .tmp 26) (ad := ⟨gr, 0, none⟩) (v := .agg (clc { clz with name := upE a })) (w' := W4) rfl rfl rfl rfl hst4 ?_))
    refine Calls.mono (hRo _) ?_
    rintro e w5 ⟨rfl, hb5⟩
    have HQ5 : Aside (Ql w gr { clz with name := upE a } w5) := ⟨by rw [hb5.block _ (Array.getElem?_eq_some_iff.1 HQ4.out.res).1]; exact HQ4.out.res, by rw [hb5.block _ (Array.getElem?_eq_some_iff.1 HQ4.out.cl).1]; exact HQ4.out.cl, HQ4.out.be.trans (hb5.mono HQ4.out.be.size), HQ4.out.lt⟩
    clear hb5 HQ4 hst4 hcn hRo hgr
    cases hrn : rowN (upE a) with
    | none =>
      rw [hrn] at HP
      obtain ⟨W6, hst6, hg6, hb6⟩ := fin_rcl (clc_size clz) (clc_one clz) HQ5.out.res HQ5.out.be
      rw [hR] at hst6 hg6
      have FIN : Hid (Below w.heap.size w W6) := hb6
      have e1 : formV none = .tuple #[.string ⟨#[]⟩, .int .i64 0, .bool false] := rfl
      clear hb6 HQ5 hrn hR
      go_wp2_with (first
        | (refine wpList_storeR (ty := 30) (x := .tmp 2) (y := .tmp 36) (ad := ⟨R, 0, none⟩) (v := .agg (clc clz)) (w' := W6) rfl rfl rfl rfl hst6 ?_))
      refine ret_rcl2 rfl rfl rfl rfl hg6 rfl ?_
      rw [HP.out]
      exact ⟨rfl, FIN.out⟩
    | some r =>
      rw [hrn] at HP
      have hnm : upE a = r.name := (rowN_mem hrn).2.symm
      have HPS : Hid (∀ p ∈ r.takes, p = 107 ∨ p = 102 ∨ p = 118 ∨ p = 110 ∨ p = 109) := (tb_takes r (rowN_mem hrn).1).2.2
      have hq3 : r.takes.length ≤ 3 := (tb_takes r (rowN_mem hrn).1).1
      have e1 : formV (some r) = .tuple #[.string (sb r.takes), .int .i64 (formT r), .bool true] := rfl
      have hsz : (sb r.takes).size = r.takes.length := size_sb r.takes
      have HQ5 : Aside (Ql w gr { clz with name := r.name } w5) := by rw [← hnm]; exact HQ5
      obtain ⟨q, hq⟩ : ∃ q, r.takes.length = q := ⟨_, rfl⟩
      rw [hq] at hsz hq3
      have HQQ : Hid (r.takes.length = q) := hq
      clear hnm hrn hq
      by_cases hnq : n = q
      · subst hnq
        have H6 : Aside (Ql w gr { clz with name := r.name } w5 ∧ takesE { clz with name := r.name } (r.takes.drop 0) (T.drop 0) = takesE { clz with name := r.name } r.takes T) := ⟨HQ5.out, rfl⟩
        have HR : Hid (w.heap.size = R) := hR
        clear HQ5 hR
        have hne1 : ((n : Int) + 1 != 1 + (n : Int)) = false := by rw [Int.add_comm]; simp
        go_wp2_with fail
        go_loopw [8] (fun cv wr => ∃ (k : Nat) (cl : Cl), k ≤ n ∧ cv = .int .i64 (k : Int) ∧ Aside (Ql w gr cl wr ∧ takesE cl (r.takes.drop k) (T.drop k) = takesE { clz with name := r.name } r.takes T)) (fun cv _ => n - (intOf cv).toNat)
        case atStart => exact ⟨0, _, Nat.zero_le _, rfl, H6⟩
        case round =>
          clear H6
          obtain ⟨k, cl, hk, rfl, HX⟩ := hrel
          by_cases hkn : k < n
          · have hkn' : (k : Int) < (n : Int) := by omega
            obtain ⟨p, hp⟩ : ∃ p, r.takes[k]? = some p := ⟨_, List.getElem?_eq_getElem (by rw [HQQ.out]; exact hkn)⟩
            obtain ⟨s, hs⟩ : ∃ s, T[k]? = some s := ⟨_, List.getElem?_eq_getElem (by rw [HS.out.2.1]; exact hkn)⟩
            have hstep := HX.out.2
            rw [takesE_step hp hs] at hstep
            have harg : wr.cell? ⟨b, off + (k + 1), none⟩ = some (.string (sb s)) := by
              obtain ⟨b', off', e, harg⟩ := arg_at (HA0.out.below HX.out.1.be (Nat.le_refl _)) (j := k + 1) (by omega)
              cases e
              rw [harg, List.getD_cons_succ, List.getD_eq_getElem?_getD, hs, Option.getD_some]
            have hix : ∀ h, (sb r.takes)[k]'h = p := fun h => (T21.tx_get r.takes k h).trans (by rw [List.getD_eq_getElem?_getD, hp, Option.getD_some])
            have hpp := HPS.out p (List.mem_of_getElem? hp)
            have hn1 : (n : Int) ≤ 1000 := by omega
            have hk0 : (0 : Int) ≤ (k : Int) + 1 := by omega
            have hk1 : (k : Int) + 1 < (n : Int) + 1 := by omega
            have hk2 : ((k : Int) + 1).toNat = k + 1 := by omega
            have hss : (sb s).size = s.length := size_sb s
            have hse := sb_empty s
            have hsl : s.length ≤ 1000 := HS.out.1 s (List.mem_of_getElem? hs)
            have hfz : ∀ i, wr.frozen? ⟨gr, i, none⟩ = false := fun i => frozen_of_row wr gr i _ _ HX.out.1.cl
            have hcc : ∀ i v, (clc cl)[i]? = some v → wr.cell? ⟨gr, i, none⟩ = some v := fun i v h => by rw [cell_of_row wr gr i _ _ _ HX.out.1.cl]; exact h
            have HE : Aside (takesE { clz with name := r.name } r.takes T = (if takeE p s = 0 then takesE (takeC cl p s) (r.takes.drop (k + 1)) (T.drop (k + 1)) else (clz, takeE p s)) ∧ Ql w gr cl wr) := ⟨hstep.symm, HX.out.1⟩
            have FAIL : Hid (∀ z, takeE p s = z → z ≠ 0 → ∃ W, (storeVar 30 ⟨R, 0, none⟩ (.agg (clc clz))).run Tryz.prog wr = .ok () W ∧ W.heap[R]? = some (.cells (clc clz) 30 (0, 0)) ∧ Hid (Below w.heap.size w W ∧ takesE { clz with name := r.name } r.takes T = (clz, z))) := fun z hz hz0 => by
              obtain ⟨W, h1, h2, h3⟩ := fin_rcl (clc_size clz) (clc_one clz) HE.out.2.res HE.out.2.be
              rw [HR.out] at h1 h2
              refine ⟨W, h1, h2, h3, ?_⟩
              have := HE.out.1
              rw [hz, if_neg hz0] at this
              exact this
            have NEXT : Hid (∀ i v, takeE p s = 0 → (clc cl).setIfInBounds i v = clc (takeC cl p s) → Aside (Ql w gr (takeC cl p s) (wr.setCell ⟨gr, i, none⟩ v) ∧ takesE (takeC cl p s) (r.takes.drop (k + 1)) (T.drop (k + 1)) = takesE { clz with name := r.name } r.takes T)) := fun i v hz hv => by
              refine ⟨ql_set HE.out.2 hv, ?_⟩
              have := HE.out.1
              rw [hz, if_pos rfl] at this
              exact this.symm
            clear hstep HX hp hs HE
            rcases hpp with rfl | rfl | rfl | rfl | rfl
            · have hlb := hsl
              by_cases h0 : s = []
              · rw [decide_eq_true h0] at hse
                have hk1E : takeE 107 s = 1 := by unfold takeE; rw [if_pos rfl]; exact if_pos h0
                clear h0
                obtain ⟨W6, hst6, hg6, FIN⟩ := FAIL.out 1 (by exact hk1E) (by decide)
                clear FAIL NEXT hcc
                go_wp2_with (first
                  | (refine wpList_storeR (ty := 30) (x := .tmp 2) (y := .tmp 89) (ad := ⟨R, 0, none⟩) (v := .agg (clc clz)) (w' := W6) rfl rfl rfl rfl hst6 ?_))
                refine ret_rcl2 rfl rfl rfl rfl hg6 rfl ?_
                rw [HP.out]
                simp only [if_pos HQQ.out.symm]
                rw [FIN.out.2]
                exact ⟨rfl, FIN.out.1⟩
              rw [decide_eq_false h0] at hse
              by_cases h64 : 64 < s.length
              · have hz64 : (64 : Int) < (s.length : Int) := by omega
                have hk4E : takeE 107 s = 4 := by unfold takeE keyTE; rw [if_pos rfl, if_neg h0]; exact if_pos h64
                obtain ⟨W6, hst6, hg6, FIN⟩ := FAIL.out 4 (by exact hk4E) (by decide)
                clear FAIL NEXT hcc
                go_wp2_with (first
                  | (refine wpList_storeR (ty := 30) (x := .tmp 2) (y := .tmp 93) (ad := ⟨R, 0, none⟩) (v := .agg (clc clz)) (w' := W6) rfl rfl rfl rfl hst6 ?_))
                refine ret_rcl2 rfl rfl rfl rfl hg6 rfl ?_
                rw [HP.out]
                simp only [if_pos HQQ.out.symm]
                rw [FIN.out.2]
                exact ⟨rfl, FIN.out.1⟩
              · have hz64 : ¬ (64 : Int) < (s.length : Int) := by omega
                have hk0E : takeE 107 s = 0 := by unfold takeE keyTE; rw [if_pos rfl, if_neg h0]; exact if_neg h64
                have NX := NEXT.out 1 (.string (sb s)) (by exact hk0E) rfl
                have hci := hcc 1 _ rfl
                have hfi := hfz 1
                clear FAIL NEXT hcc hfz
                go_wp2
                go_roundw
                case rel => exact ⟨k + 1, _, by omega, by go_num, NX⟩
                case measure => simp [intOf]; omega
            · have hlb := hsl
              by_cases h64 : 64 < s.length
              · have hz64 : (64 : Int) < (s.length : Int) := by omega
                have hk4E : takeE 102 s = 4 := by unfold takeE; rw [if_neg (by decide), if_pos (by decide)]; exact if_pos h64
                obtain ⟨W6, hst6, hg6, FIN⟩ := FAIL.out 4 (by exact hk4E) (by decide)
                clear FAIL NEXT hcc
                go_wp2_with (first
                  | (refine wpList_storeR (ty := 30) (x := .tmp 2) (y := .tmp 93) (ad := ⟨R, 0, none⟩) (v := .agg (clc clz)) (w' := W6) rfl rfl rfl rfl hst6 ?_))
                refine ret_rcl2 rfl rfl rfl rfl hg6 rfl ?_
                rw [HP.out]
                simp only [if_pos HQQ.out.symm]
                rw [FIN.out.2]
                exact ⟨rfl, FIN.out.1⟩
              · have hz64 : ¬ (64 : Int) < (s.length : Int) := by omega
                have hk0E : takeE 102 s = 0 := by unfold takeE; rw [if_neg (by decide), if_pos (by decide)]; exact if_neg h64
                have NX := NEXT.out 2 (.string (sb s)) (by exact hk0E) rfl
                have hci := hcc 2 _ rfl
                have hfi := hfz 2
                clear FAIL NEXT hcc hfz
                go_wp2
                go_roundw
                case rel => exact ⟨k + 1, _, by omega, by go_num, NX⟩
                case measure => simp [intOf]; omega
            · have hlb := hsl
              by_cases h64 : 64 < s.length
              · have hz64 : (64 : Int) < (s.length : Int) := by omega
                have hk4E : takeE 118 s = 4 := by unfold takeE; rw [if_neg (by decide), if_pos (by decide)]; exact if_pos h64
                obtain ⟨W6, hst6, hg6, FIN⟩ := FAIL.out 4 (by exact hk4E) (by decide)
                clear FAIL NEXT hcc
                go_wp2_with (first
                  | (refine wpList_storeR (ty := 30) (x := .tmp 2) (y := .tmp 93) (ad := ⟨R, 0, none⟩) (v := .agg (clc clz)) (w' := W6) rfl rfl rfl rfl hst6 ?_))
                refine ret_rcl2 rfl rfl rfl rfl hg6 rfl ?_
                rw [HP.out]
                simp only [if_pos HQQ.out.symm]
                rw [FIN.out.2]
                exact ⟨rfl, FIN.out.1⟩
              · have hz64 : ¬ (64 : Int) < (s.length : Int) := by omega
                have hk0E : takeE 118 s = 0 := by unfold takeE; rw [if_neg (by decide), if_pos (by decide)]; exact if_neg h64
                have NX := NEXT.out 3 (.string (sb s)) (by exact hk0E) rfl
                have hci := hcc 3 _ rfl
                have hfi := hfz 3
                clear FAIL NEXT hcc hfz
                go_wp2
                go_roundw
                case rel => exact ⟨k + 1, _, by omega, by go_num, NX⟩
                case measure => simp [intOf]; omega
            · have hNm := rnumber_any s wr hsl
              have hke : takeE 110 s = numTE s := rfl
              cases hnu : numTx s with
              | none =>
                have hk13 : takeE 110 s = 13 := by rw [hke]; unfold numTE; rw [hnu]; rfl
                have hNm : Calls Tryz.prog 31 #[.string (sb s)] wr fun e w' => e = .returned (.tuple #[.int .i64 0, .bool false]) ∧ w' = wr := by rw [hnu] at hNm; exact hNm
                obtain ⟨W6, hst6, hg6, FIN⟩ := FAIL.out 13 hk13 (by decide)
                clear FAIL NEXT hcc hnu hke
                go_wp2_with fail
                refine Calls.mono hNm ?_
                rintro e w7 ⟨rfl, rfl⟩
                clear hNm
                go_wp2_with (first
                  | (refine wpList_storeR (ty := 30) (x := .tmp 2) (y := .tmp 72) (ad := ⟨R, 0, none⟩) (v := .agg (clc clz)) (w' := W6) rfl rfl rfl rfl hst6 ?_))
                refine ret_rcl2 rfl rfl rfl rfl hg6 rfl ?_
                rw [HP.out]
                simp only [if_pos HQQ.out.symm]
                rw [FIN.out.2]
                exact ⟨rfl, FIN.out.1⟩
              | some x =>
                have hk0 : takeE 110 s = 0 := by rw [hke]; unfold numTE; rw [hnu]; rfl
                have hNm : Calls Tryz.prog 31 #[.string (sb s)] wr fun e w' => e = .returned (.tuple #[.int .i64 x, .bool true]) ∧ w' = wr := by rw [hnu] at hNm; exact hNm
                have NX := NEXT.out 4 (.int .i64 x) hk0 (by unfold takeC; rw [hnu]; rfl)
                have hci := hcc 4 _ rfl
                have hfi := hfz 4
                clear FAIL NEXT hcc hfz hnu hke
                go_wp2_with fail
                refine Calls.mono hNm ?_
                rintro e w7 ⟨rfl, rfl⟩
                clear hNm
                go_wp2
                go_roundw
                case rel => exact ⟨k + 1, _, by omega, by go_num, NX⟩
                case measure => simp [intOf]; omega
            · have hNm := rnumber_any s wr hsl
              have hke : takeE 109 s = numTE s := rfl
              cases hnu : numTx s with
              | none =>
                have hk13 : takeE 109 s = 13 := by rw [hke]; unfold numTE; rw [hnu]; rfl
                have hNm : Calls Tryz.prog 31 #[.string (sb s)] wr fun e w' => e = .returned (.tuple #[.int .i64 0, .bool false]) ∧ w' = wr := by rw [hnu] at hNm; exact hNm
                obtain ⟨W6, hst6, hg6, FIN⟩ := FAIL.out 13 hk13 (by decide)
                clear FAIL NEXT hcc hnu hke
                go_wp2_with fail
                refine Calls.mono hNm ?_
                rintro e w7 ⟨rfl, rfl⟩
                clear hNm
                go_wp2_with (first
                  | (refine wpList_storeR (ty := 30) (x := .tmp 2) (y := .tmp 72) (ad := ⟨R, 0, none⟩) (v := .agg (clc clz)) (w' := W6) rfl rfl rfl rfl hst6 ?_))
                refine ret_rcl2 rfl rfl rfl rfl hg6 rfl ?_
                rw [HP.out]
                simp only [if_pos HQQ.out.symm]
                rw [FIN.out.2]
                exact ⟨rfl, FIN.out.1⟩
              | some x =>
                have hk0 : takeE 109 s = 0 := by rw [hke]; unfold numTE; rw [hnu]; rfl
                have hNm : Calls Tryz.prog 31 #[.string (sb s)] wr fun e w' => e = .returned (.tuple #[.int .i64 x, .bool true]) ∧ w' = wr := by rw [hnu] at hNm; exact hNm
                have NX := NEXT.out 5 (.int .i64 x) hk0 (by unfold takeC; rw [hnu]; rfl)
                have hci := hcc 5 _ rfl
                have hfi := hfz 5
                clear FAIL NEXT hcc hfz hnu hke
                go_wp2_with fail
                refine Calls.mono hNm ?_
                rintro e w7 ⟨rfl, rfl⟩
                clear hNm
                go_wp2
                go_roundw
                case rel => exact ⟨k + 1, _, by omega, by go_num, NX⟩
                case measure => simp [intOf]; omega
          · have hkn' : ¬ (k : Int) < (n : Int) := by omega
            have hend := HX.out.2
            rw [takesE_end (by rw [HQQ.out]; omega)] at hend
            have hld := loadVar_rcl HX.out.1.cl (clc_size cl)
            obtain ⟨W5, hst5, hg5, hb5⟩ := fin_rcl (clc_size cl) (clc_one cl) HX.out.1.res HX.out.1.be
            rw [HR.out] at hst5 hg5
            have FIN : Hid (Below w.heap.size w W5 ∧ (cl, 0) = takesE { clz with name := r.name } r.takes T) := ⟨hb5, hend⟩
            clear hend HX hb5
            go_wp2_with (first
              | (refine wpList_loadR (ty := 30) (x := .tmp 4) (ad := ⟨gr, 0, none⟩) (v := .agg (clc cl)) rfl rfl rfl hld ?_)
              | (refine wpList_storeR (ty := 30) (x := .tmp 2) (y := .tmp 109) (ad := ⟨R, 0, none⟩) (v := .agg (clc cl)) (w' := W5) rfl rfl rfl rfl hst5 ?_))
            refine ret_rcl2 rfl rfl rfl rfl hg5 rfl ?_
            rw [HP.out]
            simp only [if_pos HQQ.out.symm]
            rw [← FIN.out.2]
            exact ⟨rfl, FIN.out.1⟩
      · obtain ⟨W6, hst6, hg6, hb6⟩ := fin_rcl (clc_size clz) (clc_one clz) HQ5.out.res HQ5.out.be
        rw [hR] at hst6 hg6
        have FIN : Hid (Below w.heap.size w W6) := hb6
        have HN : Hid (n ≠ r.takes.length) := by rw [Hid, HQQ.out]; exact hnq
        have hn1 : ((n : Int) + 1 == 1 + (q : Int)) = false := by simp; omega
        clear hb6 HQ5 hR
        go_wp2_with (first
          | (refine wpList_storeR (ty := 30) (x := .tmp 2) (y := .tmp 43) (ad := ⟨R, 0, none⟩) (v := .agg (clc clz)) (w' := W6) rfl rfl rfl rfl hst6 ?_))
        refine ret_rcl2 rfl rfl rfl rfl hg6 rfl ?_
        rw [HP.out]
        simp only [if_neg HN.out]
        exact ⟨rfl, FIN.out⟩
end Go.Proofs.YtmlfekbmbnfkjaaGreatDoor

