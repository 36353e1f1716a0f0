/-
  What lists of nothing come to: sorted, gathered, told.
-/
import Derived.Test.YtmlfekbmbnfkjaaGreatDoorQ09
import Derived.Laws.IdiomRangeMap
namespace Go.Proofs.YtmlfekbmbnfkjaaGreatDoor
set_option maxRecDepth 100000
open Go.RowKit

theorem tsum_e (ao : Option Addr) (c : Nat) (w : World) : Calls Tryz.prog 194 #[.slice ao 0 c] w fun e w' => e = .returned (.int .i64 0) ∧ w' = w := by
  go_enter Tryz.func194, Tryz.ntmps194
  go_wp2_with fail
  go_loopw [3, 8] (fun v i wr => v = .int .i64 0 ∧ i = .int .i64 0 ∧ wr = w) (fun _ _ _ => 0)
  case atStart => exact ⟨rfl, rfl, rfl⟩
  case round =>
    obtain ⟨rfl, rfl, rfl⟩ := hrel
    go_wp2
    go_ret
    exact ⟨rfl, rfl⟩
theorem texts_e (ao bo : Option Addr) (c d : Nat) (w : World) : Calls Tryz.prog 32 #[.slice ao 0 c, .slice bo 0 d] w fun e w' => e = .returned (.bool true) ∧ w' = w := by
  go_enter Tryz.func32, Tryz.ntmps32
  go_wp2_with fail
  go_loopw [13] (fun i wr => i = .int .i64 0 ∧ wr = w) (fun _ _ => 0)
  case atStart => exact ⟨rfl, rfl⟩
  case round =>
    obtain ⟨rfl, rfl⟩ := hrel
    go_wp2
    go_ret
    exact ⟨rfl, rfl⟩
theorem len64_e (w : World) : Calls Tryz.prog 289 #[.int .u64 0] w fun e w' => (∃ k, e = .returned (.int .i64 k)) ∧ w' = w := by
  go_enter Tryz.func289, Tryz.ntmps289
  go_wp2
  go_ret
  exact ⟨⟨_, rfl⟩, rfl⟩
theorem len_e (w : World) : Calls Tryz.prog 271 #[.int .u64 0] w fun e w' => (∃ k, e = .returned (.int .i64 k)) ∧ w' = w := by
  go_enter Tryz.func271, Tryz.ntmps271
  go_wp2_with fail
  refine Calls.mono (len64_e w) ?_
  rintro e w1 ⟨⟨k, rfl⟩, hw⟩
  obtain rfl := hw.symm
  go_wp2
  go_ret
  exact ⟨⟨_, rfl⟩, rfl⟩
theorem ins_e (ao : Option Addr) (c : Nat) (w : World) : Calls Tryz.prog 297 #[.slice ao 0 c, .int .i64 0, .int .i64 0] w fun e w' => e = .returned (.tuple #[]) ∧ w' = w := by
  go_enter Tryz.func297, Tryz.ntmps297
  go_wp2_with fail
  go_loopw [6] (fun i wr => i = .int .i64 1 ∧ wr = w) (fun _ _ => 0)
  case atStart => exact ⟨rfl, rfl⟩
  case round =>
    obtain ⟨rfl, rfl⟩ := hrel
    go_wp2
    go_end0
    exact ⟨rfl, rfl⟩
theorem pdq_e (ao : Option Addr) (c : Nat) (k : Int) (w : World) : Calls Tryz.prog 270 #[.slice ao 0 c, .int .i64 0, .int .i64 0, .int .i64 k] w fun e w' => e = .returned (.tuple #[]) ∧ w' = w := by
  go_enter Tryz.func270, Tryz.ntmps270
  go_wp2_with fail
  go_loopw [1, 2] (fun i j wr => i = .int .i64 0 ∧ j = .int .i64 0 ∧ wr = w) (fun _ _ _ => 0)
  case atStart => exact ⟨rfl, rfl, rfl⟩
  case round =>
    obtain ⟨rfl, rfl, rfl⟩ := hrel
    go_wp2_with fail
    refine Calls.mono (ins_e ao c wr) ?_
    rintro e w1 ⟨rfl, hw⟩
    obtain rfl := hw.symm
    go_wp2
    refine bodyPost_ret (results_none rfl _ _ _) rfl ?_
    exact ⟨rfl, rfl⟩
theorem sort_e (ao : Option Addr) (c : Nat) (w : World) : Calls Tryz.prog 235 #[.slice ao 0 c] w fun e w' => e = .returned (.tuple #[]) ∧ w' = w := by
  go_enter Tryz.func235, Tryz.ntmps235
  go_wp2_with fail
  refine Calls.mono (len_e w) ?_
  rintro e w1 ⟨⟨k, rfl⟩, hw⟩
  obtain rfl := hw.symm
  go_wp2_with fail
  refine Calls.mono (pdq_e ao c k _) ?_
  rintro e w2 ⟨rfl, hw⟩
  obtain rfl := hw.symm
  go_wp2
  go_end0
  exact ⟨rfl, rfl⟩
theorem insp_e (ao : Option Addr) (c : Nat) (f : Value) (w : World) : Calls Tryz.prog 308 #[.slice ao 0 c, .int .i64 0, .int .i64 0, f] w fun e w' => e = .returned (.tuple #[]) ∧ w' = w := by
  go_enter Tryz.func308, Tryz.ntmps308
  go_wp2_with fail
  go_loopw [8] (fun i wr => i = .int .i64 1 ∧ wr = w) (fun _ _ => 0)
  case atStart => exact ⟨rfl, rfl⟩
  case round =>
    obtain ⟨rfl, rfl⟩ := hrel
    go_wp2
    go_end0
    exact ⟨rfl, rfl⟩
theorem pdqp_e (ao : Option Addr) (c : Nat) (k : Int) (f : Value) (w : World) : Calls Tryz.prog 275 #[.slice ao 0 c, .int .i64 0, .int .i64 0, .int .i64 k, f] w fun e w' => e = .returned (.tuple #[]) ∧ w' = w := by
  go_enter Tryz.func275, Tryz.ntmps275
  go_wp2_with fail
  go_loopw [1, 2] (fun i j wr => i = .int .i64 0 ∧ j = .int .i64 0 ∧ wr = w) (fun _ _ _ => 0)
  case atStart => exact ⟨rfl, rfl, rfl⟩
  case round =>
    obtain ⟨rfl, rfl, rfl⟩ := hrel
    go_wp2_with fail
    refine Calls.mono (insp_e ao c f wr) ?_
    rintro e w1 ⟨rfl, hw⟩
    obtain rfl := hw.symm
    go_wp2
    refine bodyPost_ret (results_none rfl _ _ _) rfl ?_
    exact ⟨rfl, rfl⟩
theorem sortp_e (ao : Option Addr) (c : Nat) (f : Value) (w : World) : Calls Tryz.prog 240 #[.slice ao 0 c, f] w fun e w' => e = .returned (.tuple #[]) ∧ w' = w := by
  go_enter Tryz.func240, Tryz.ntmps240
  go_wp2_with fail
  refine Calls.mono (len_e w) ?_
  rintro e w1 ⟨⟨k, rfl⟩, hw⟩
  obtain rfl := hw.symm
  go_wp2_with fail
  refine Calls.mono (pdqp_e ao c k f _) ?_
  rintro e w2 ⟨rfl, hw⟩
  obtain rfl := hw.symm
  go_wp2
  go_end0
  exact ⟨rfl, rfl⟩
/-- A map of nothing that a call has made, ranged over. -/
theorem range_e (w : World) (t k e : TypeId) (ht : Tryz.prog.underlying t = some (.map k e)) (bm clock : Nat) (hb : w.heap[bm]? = some (.map #[] clock)) :
    (Instr.range t (.map (some bm))).run Tryz.prog w = .ok (.pointer (some ⟨w.heap.size, 0, none⟩)) (w.alloc (.mapIter (some bm) clock #[] clock)) ∧
    ∀ ty, (Instr.next (.pointer (some ⟨w.heap.size, 0, none⟩)) false ty).run Tryz.prog (w.alloc (.mapIter (some bm) clock #[] clock)) = .ok (.tuple #[.bool false]) (w.alloc (.mapIter (some bm) clock #[] clock)) := by
  refine ⟨run_range_map w t k e bm #[] clock ht hb, fun ty => ?_⟩
  rcases run_next_map (P := Tryz.prog) w ty bm clock clock #[] #[] clock hb (by simp) (Nat.le_refl _) with ⟨-, h⟩ | ⟨x, hx, -⟩
  · exact h
  · simp [leftOf] at hx
set_option maxHeartbeats 1000000 in
theorem mall_e (ao : Option Addr) (c : Nat) (w : World) : Calls Tryz.prog 196 #[.slice ao 0 c] w fun e w' => e = .returned (.slice none 0 0) ∧ Below w.heap.size w w' := by
  have hbl : Below w.heap.size w (w.alloc (.map #[] 0)) := (Below.refl _ w).alloc (Nat.le_refl _) _
  have hx := heap_alloc_new w (.map #[] 0)
  have hmm := @run_makeMap Tryz.prog 253 w
  obtain ⟨W, hW⟩ : ∃ W, W = w.alloc (.map #[] 0) := ⟨_, rfl⟩
  rw [← hW] at hbl hx hmm
  obtain ⟨b, hb⟩ : ∃ b, b = w.heap.size := ⟨_, rfl⟩
  rw [← hb] at hx hmm
  obtain ⟨hr, hn⟩ := range_e W 253 _ _ Tryz.underlying253 b 0 hx
  have hb2 : Below w.heap.size w (W.alloc (.mapIter (some b) 0 #[] 0)) := hbl.alloc hbl.size _
  generalize W.alloc (.mapIter (some b) 0 #[] 0) = W2 at *
  have FIN : Hid (Below w.heap.size w W2) := hb2
  clear hb2 hbl hx hW hb
  go_enter Tryz.func196, Tryz.ntmps196
  go_wp2_with fail
  go_loopw [11] (fun i wr => i = .int .i64 0 ∧ wr = W) (fun _ _ => 0)
  case atStart => exact ⟨rfl, rfl⟩
  case round =>
    obtain ⟨rfl, rfl⟩ := hrel
    go_wp2_with fail
    go_loopw [6] (fun v wq => v = .slice none 0 0 ∧ wq = W2) (fun _ _ => 0)
    case atStart => exact ⟨rfl, rfl⟩
    case round =>
      obtain ⟨rfl, rfl⟩ := hrel
      have hn' := hn
      go_wp2_with fail
      refine Calls.mono (sort_e none 0 _) ?_
      rintro e w1 ⟨rfl, hw⟩
      obtain rfl := hw.symm
      go_wp2
      go_ret
      exact ⟨rfl, FIN.out⟩
theorem fby_e (ao : Option Addr) (c : Nat) (w : World) : Calls Tryz.prog 236 #[.slice ao 0 c] w fun e w' => e = .returned (.map (some w.heap.size)) ∧ w' = w.alloc (.map #[] 0) := by
  have hmm := @run_makeMap Tryz.prog 256 w
  obtain ⟨W, hW⟩ : ∃ W, W = w.alloc (.map #[] 0) := ⟨_, rfl⟩
  rw [← hW] at hmm ⊢
  clear hW
  go_enter Tryz.func236, Tryz.ntmps236
  go_wp2_with fail
  go_loopw [9] (fun i wr => i = .int .i64 0 ∧ wr = W) (fun _ _ => 0)
  case atStart => exact ⟨rfl, rfl⟩
  case round =>
    obtain ⟨rfl, rfl⟩ := hrel
    go_wp2
    go_ret
    exact ⟨rfl, rfl⟩
theorem fna_e (b clock : Nat) (w : World) (hx : w.heap[b]? = some (.map #[] clock)) : Calls Tryz.prog 237 #[.map (some b)] w fun e w' => e = .returned (.slice none 0 0) ∧ Below w.heap.size w w' := by
  obtain ⟨hr, hn⟩ := range_e w 256 _ _ Tryz.underlying256 b clock hx
  have hb2 : Below w.heap.size w (w.alloc (.mapIter (some b) clock #[] clock)) := (Below.refl _ w).alloc (Nat.le_refl _) _
  generalize w.alloc (.mapIter (some b) clock #[] clock) = W2 at *
  have FIN : Hid (Below w.heap.size w W2) := hb2
  clear hb2 hx
  go_enter Tryz.func237, Tryz.ntmps237
  go_wp2_with fail
  go_loopw [3] (fun v wq => v = .slice none 0 0 ∧ wq = W2) (fun _ _ => 0)
  case atStart => exact ⟨rfl, rfl⟩
  case round =>
    obtain ⟨rfl, rfl⟩ := hrel
    have hn' := hn
    go_wp2_with fail
    refine Calls.mono (sort_e none 0 _) ?_
    rintro e w1 ⟨rfl, hw⟩
    obtain rfl := hw.symm
    go_wp2
    go_ret
    exact ⟨rfl, FIN.out⟩
theorem fall_e (ao : Option Addr) (c : Nat) (w : World) : Calls Tryz.prog 199 #[.slice ao 0 c] w fun e w' => e = .returned (.slice none 0 0) ∧ Below w.heap.size w w' := by
  have C1 := fby_e ao c w
  have hb1 : Below w.heap.size w (w.alloc (.map #[] 0)) := (Below.refl _ w).alloc (Nat.le_refl _) _
  have C2 := fna_e w.heap.size 0 _ (heap_alloc_new w (.map #[] 0))
  obtain ⟨W, hW⟩ : ∃ W, W = w.alloc (.map #[] 0) := ⟨_, rfl⟩
  rw [← hW] at C1 C2 hb1
  clear hW
  obtain ⟨b, hb⟩ : ∃ b, b = w.heap.size := ⟨_, rfl⟩
  rw [← hb] at C1 C2
  have HB : Hid (b = w.heap.size) := hb
  have H1 : Hid (Below w.heap.size w W) := hb1
  clear hb hb1
  go_enter Tryz.func199, Tryz.ntmps199
  go_wp2_with fail
  refine Calls.mono C1 ?_
  rintro e w1 ⟨rfl, hw⟩
  obtain rfl := hw.symm
  clear C1
  go_wp2_with fail
  refine Calls.mono C2 ?_
  rintro e w2 ⟨rfl, hb2⟩
  have FIN : Hid (Below w.heap.size w w2) := H1.out.trans (hb2.mono H1.out.size)
  clear C2 hb2
  go_wp2_with fail
  go_loopw [4, 14] (fun v i wq => v = .slice none 0 0 ∧ i = .int .i64 0 ∧ wq = w2) (fun _ _ _ => 0)
  case atStart => exact ⟨rfl, rfl, rfl⟩
  case round =>
    obtain ⟨rfl, rfl, rfl⟩ := hrel
    go_wp2
    go_ret
    exact ⟨rfl, FIN.out⟩
theorem zlatest_e (ao : Option Addr) (c : Nat) (w : World) : Calls Tryz.prog 239 #[.slice ao 0 c] w fun e w' => e = .returned (.map (some w.heap.size)) ∧ w' = w.alloc (.map #[] 0) := by
  have hmm := @run_makeMap Tryz.prog 259 w
  obtain ⟨W, hW⟩ : ∃ W, W = w.alloc (.map #[] 0) := ⟨_, rfl⟩
  rw [← hW] at hmm ⊢
  clear hW
  go_enter Tryz.func239, Tryz.ntmps239
  go_wp2_with fail
  go_loopw [11] (fun i wr => i = .int .i64 0 ∧ wr = W) (fun _ _ => 0)
  case atStart => exact ⟨rfl, rfl⟩
  case round =>
    obtain ⟨rfl, rfl⟩ := hrel
    go_wp2
    go_ret
    exact ⟨rfl, rfl⟩
set_option maxHeartbeats 1000000 in
theorem zall_e (ao : Option Addr) (c : Nat) (w : World) : Calls Tryz.prog 202 #[.slice ao 0 c] w fun e w' => e = .returned (.slice none 0 0) ∧ Below w.heap.size w w' := by
  have C1 := zlatest_e ao c w
  have hbl : Below w.heap.size w (w.alloc (.map #[] 0)) := (Below.refl _ w).alloc (Nat.le_refl _) _
  have hx := heap_alloc_new w (.map #[] 0)
  obtain ⟨W, hW⟩ : ∃ W, W = w.alloc (.map #[] 0) := ⟨_, rfl⟩
  rw [← hW] at hbl hx C1
  obtain ⟨b, hb⟩ : ∃ b, b = w.heap.size := ⟨_, rfl⟩
  rw [← hb] at hx C1
  obtain ⟨hr, hn⟩ := range_e W 259 _ _ Tryz.underlying259 b 0 hx
  have hb2 : Below w.heap.size w (W.alloc (.mapIter (some b) 0 #[] 0)) := hbl.alloc hbl.size _
  generalize W.alloc (.mapIter (some b) 0 #[] 0) = W2 at *
  have FIN : Hid (Below w.heap.size w W2) := hb2
  clear hb2 hbl hx hW hb
  go_enter Tryz.func202, Tryz.ntmps202
  go_wp2_with fail
  refine Calls.mono C1 ?_
  rintro e w1 ⟨rfl, hw⟩
  obtain rfl := hw.symm
  go_wp2_with fail
  go_loopw [3] (fun v wq => v = .slice none 0 0 ∧ wq = W2) (fun _ _ => 0)
  case atStart => exact ⟨rfl, rfl⟩
  case round =>
    obtain ⟨rfl, rfl⟩ := hrel
    have hn' := hn
    go_wp2_with fail
    refine Calls.mono (sortp_e none 0 _ _) ?_
    rintro e w1 ⟨rfl, hw⟩
    obtain rfl := hw.symm
    go_wp2
    go_ret
    exact ⟨rfl, FIN.out⟩
theorem idxs_e (ao : Option Addr) (c : Nat) (f : Value) (w : World) : Calls Tryz.prog 252 #[.slice ao 0 c, f] w fun e w' => e = .returned (.int .i64 (-1)) ∧ w' = w := by
  go_enter Tryz.func252, Tryz.ntmps252
  go_wp2_with fail
  go_loopw [8] (fun i wr => i = .int .i64 0 ∧ wr = w) (fun _ _ => 0)
  case atStart => exact ⟨rfl, rfl⟩
  case round =>
    obtain ⟨rfl, rfl⟩ := hrel
    go_wp2
    go_ret
    exact ⟨rfl, rfl⟩
theorem dels_e (ao : Option Addr) (c : Nat) (f : Value) (w : World) : Calls Tryz.prog 209 #[.slice ao 0 c, f] w fun e w' => e = .returned (.slice ao 0 c) ∧ w' = w := by
  go_enter Tryz.func209, Tryz.ntmps209
  go_wp2_with fail
  refine Calls.mono (idxs_e ao c f w) ?_
  rintro e w1 ⟨rfl, hw⟩
  obtain rfl := hw.symm
  go_wp2
  go_ret
  exact ⟨rfl, rfl⟩
end Go.Proofs.YtmlfekbmbnfkjaaGreatDoor

