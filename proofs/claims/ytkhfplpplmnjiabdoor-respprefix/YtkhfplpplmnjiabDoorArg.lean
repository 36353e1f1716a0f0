/-
  What resp.takeArgument comes to.
-/
import Derived.Test.YtkhfplpplmnjiabDoorCnt
namespace Go.Proofs.YtkhfplpplmnjiabDoor
set_option maxRecDepth 100000
open Go.RowKit

theorem count_yes (ao : Option Addr) (m c : Nat) (l : List UInt8) (a p n k : Nat) (sg : UInt8) (lo hi : Nat) (w : World) (hb : Bytes w ao m c l) (ha : a ≤ m) (hm : m ≤ 1048576) (h : Rs.cntR sg lo hi (l.drop a) = .ok (n, k)) (hp : a + k = p) :
    Calls Tryd.prog 18 #[.slice ao m c, .int .i64 (a : Int), .string ⟨#[sg]⟩, .int .i64 (lo : Int), .int .i64 (hi : Int)] w fun e w' => e = .returned (.tuple #[.int .i64 (n : Int), .int .i64 (p : Int), .int .i64 0]) ∧ Below w.heap.size w w' := by
  have := count_any ao m c l a sg lo hi w hb ha hm
  rw [h, rN, rP, rE] at this
  dsimp only at this
  rw [hp] at this
  exact this
theorem count_not (ao : Option Addr) (m c : Nat) (l : List UInt8) (a E : Nat) (sg : UInt8) (lo hi : Nat) (w : World) (hb : Bytes w ao m c l) (ha : a ≤ m) (hm : m ≤ 1048576) (h : Rs.cntR sg lo hi (l.drop a) = .error E) :
    Calls Tryd.prog 18 #[.slice ao m c, .int .i64 (a : Int), .string ⟨#[sg]⟩, .int .i64 (lo : Int), .int .i64 (hi : Int)] w fun e w' => e = .returned (.tuple #[.int .i64 0, .int .i64 0, .int .i64 (E : Int)]) ∧ Below w.heap.size w w' := by
  have := count_any ao m c l a sg lo hi w hb ha hm
  rw [h] at this
  exact this

theorem conv_at {w : World} {ad : Addr} {n c : Nat} {l : List UInt8} (h : Bytes w (some ad) n c l) : (convert 25 9 (.slice (some ad) n c)).run Tryd.prog w = .ok (.string (tx l)) w := by
  have hl := h.len
  subst hl
  refine run_convert_bytes_back w 25 9 5 ad c l Tryd.underlying25 Tryd.underlying5 Tryd.underlying9 ?_
  intro j hj
  refine h.cells ad rfl j _ ?_
  simp [bs, hj]

def argT (r : Except Nat (List UInt8 × Nat)) : ByteArray := match r with | .ok x => tx x.1 | .error _ => ByteArray.empty
theorem arg_one {d : List UInt8} {E : Nat} (h : Rs.cntR 36 0 64 d = .error E) : Rs.argR d = .error E := by rw [Rs.argR, h]; rfl
theorem arg_two {d : List UInt8} {n k : Nat} (h : Rs.cntR 36 0 64 d = .ok (n, k)) (h2 : d.length - k < n) : Rs.argR d = .error 2 := by rw [Rs.argR, h, Rs.thenE_ok rfl, if_pos h2]
theorem arg_three {d : List UInt8} {n k E : Nat} (h : Rs.cntR 36 0 64 d = .ok (n, k)) (h2 : ¬ d.length - k < n) (h3 : Rs.passE Rs.crlf (d.drop (k + n)) = E) (hE : E ≠ 0) : Rs.argR d = .error E := by
  rw [Rs.argR, h, Rs.thenE_ok rfl, if_neg h2, h3, Rs.chk_no hE]; rfl
theorem arg_four {d : List UInt8} {n k : Nat} (h : Rs.cntR 36 0 64 d = .ok (n, k)) (h2 : ¬ d.length - k < n) (h3 : Rs.passE Rs.crlf (d.drop (k + n)) = 0) : Rs.argR d = .ok ((d.drop k).take n, k + n + 2) := by
  rw [Rs.argR, h, Rs.thenE_ok rfl, if_neg h2, h3, Rs.thenE_chk0]

set_option maxHeartbeats 2000000 in
theorem argument_any (ao : Option Addr) (m c : Nat) (l : List UInt8) (a : Nat) (w : World) (hb : Bytes w ao m c l) (ha : a ≤ m) (hm : m ≤ 1048576) (hc : c ≤ maxLen) :
    Calls Tryd.prog 19 #[.slice ao m c, .int .i64 (a : Int)] w fun e w' => e = .returned (.tuple #[.string (argT (Rs.argR (l.drop a))), .int .i64 (rP a (Rs.argR (l.drop a)) : Int), .int .i64 (rE (Rs.argR (l.drop a)) : Int)]) ∧ Below w.heap.size w w' := by
  have hlen := hb.len
  have hroom := hb.room
  unfold maxLen at hc
  cases h1 : Rs.cntR 36 0 64 (l.drop a) with
  | error E =>
    have hE := bad_pos (Rs.bad_cnt _ _ _ _) h1
    have HE : Hid _ := arg_one h1
    have C1 : Hid _ := count_not ao m c l a E 36 0 64 w hb ha hm h1
    have hE0 := ne_zero hE.1
    clear h1
    go_enter Tryd.func19, Tryd.ntmps19
    go_wp2_with fail
    refine Calls.mono C1.out ?_
    rintro e w1 ⟨rfl, hb1⟩
    go_wp2
    go_ret3
    rw [HE.out]
    exact ⟨rfl, hb1⟩
  | ok r =>
    obtain ⟨n, k⟩ := r
    obtain ⟨hk3, hkl, -, hn⟩ := Rs.cnt_len h1
    rw [List.length_drop] at hkl
    dsimp only at hk3 hkl hn
    obtain ⟨p, hp⟩ : ∃ p, p = a + k := ⟨_, rfl⟩
    have C1 : Hid _ := count_yes ao m c l a p n k 36 0 64 w hb ha hm h1 hp.symm
    have hpm : p ≤ m := by omega
    by_cases h2 : m - p < n
    · have HE : Hid _ := arg_two h1 (by rw [List.length_drop]; omega)
      have h2' : (m : Int) - (p : Int) < (n : Int) := by omega
      clear h1 hp hkl hk3
      go_enter Tryd.func19, Tryd.ntmps19
      go_wp2_with fail
      refine Calls.mono C1.out ?_
      rintro e w1 ⟨rfl, hb1⟩
      go_wp2
      go_ret3
      rw [HE.out]
      exact ⟨rfl, hb1⟩
    · have h2' : ¬ (m : Int) - (p : Int) < (n : Int) := by omega
      have hq : p + n ≤ m := by omega
      have hdq : (l.drop a).drop (k + n) = l.drop (p + n) := by rw [List.drop_drop, hp]; congr 1; omega
      by_cases h3 : Rs.passE Rs.crlf (l.drop (p + n)) = 0
      · have hl3 := Rs.pass_len _ _ h3
        simp only [Rs.crlf, List.length_cons, List.length_nil, List.length_drop] at hl3
        obtain ⟨z, hz⟩ : ∃ z, z = p + n + 2 := ⟨_, rfl⟩
        have C2 := fun (w : World) (hb : Bytes w ao m c l) => pass_yes ao m c l (p + n) z ⟨#[13, 10]⟩ w hb hq hm (by decide) h3 hz.symm
        simp only [Int.natCast_add] at C2
        have C2 : Hid _ := C2
        have HE := arg_four h1 (by rw [List.length_drop]; omega) (by rw [hdq]; exact h3)
        rw [List.drop_drop, show a + k = p by omega] at HE
        have hzk : a + (k + n + 2) = z := by omega
        have fin : ∀ w', Below w.heap.size w w' → Ending.returned (.tuple #[.string (tx ((l.drop p).take n)), .int .i64 (z : Int), .int .i64 0]) = .returned (.tuple #[.string (argT (Rs.argR (l.drop a))), .int .i64 (rP a (Rs.argR (l.drop a)) : Int), .int .i64 (rE (Rs.argR (l.drop a)) : Int)]) ∧ Below w.heap.size w w' := fun w' h => ⟨by rw [HE, argT, rP, rE]; dsimp only; rw [hzk]; rfl, h⟩
        rcases hb.norm with ⟨h0, -⟩ | ⟨b, off, hao, -, -⟩
        · omega
        subst hao
        have fin : Hid _ := fin
        have hzp : Hid (p + n + 2 ≤ m) := by rw [Hid]; omega
        have CV := fun (w : World) (hb : Bytes w (some ⟨b, off, none⟩) m c l) => conv_at ((hb.drop p hpm).take n (by omega))
        have CV : Hid _ := CV
        clear h1 hp hkl hk3 hz hzk hl3 HE h3 hdq
        have hpc : (p : Int) < (c : Int) := by have := hzp.out; omega
        go_enter Tryd.func19, Tryd.ntmps19
        go_wp2_with fail
        refine Calls.mono C1.out ?_
        rintro e w1 ⟨rfl, hb1⟩
        have hbb1 := hb.below hb1 (Nat.le_refl _)
        go_wp2_with fail
        refine Calls.mono (C2.out w1 hbb1) ?_
        rintro e w2 ⟨rfl, hb2⟩
        have hbb2 := hbb1.below hb2 (Nat.le_refl _)
        have hb12 := hb1.trans (hb2.mono hb1.size)
        have cv := CV.out w2 hbb2
        rw [Addr.add_lit] at cv
        clear hbb1 hbb2
        go_wp2
        go_ret3
        exact fin.out _ hb12
      · obtain ⟨E, hE⟩ : ∃ E, E = Rs.passE Rs.crlf (l.drop (p + n)) := ⟨_, rfl⟩
        have HE : Hid _ := arg_three h1 (by rw [List.length_drop]; omega) (by rw [hdq, ← hE]) (by rw [hE]; exact h3)
        have C2 := fun (w : World) (hb : Bytes w ao m c l) => pass_not ao m c l (p + n) E ⟨#[13, 10]⟩ w hb hq hm (by decide) hE.symm (by rw [hE]; exact h3)
        simp only [Int.natCast_add] at C2
        have C2 : Hid _ := C2
        have hE4 := pass_le Rs.crlf (l.drop (p + n))
        rw [← hE] at h3 hE4
        have hE0 := ne_zero h3
        clear h1 hp hkl hk3 hE hdq
        go_enter Tryd.func19, Tryd.ntmps19
        go_wp2_with fail
        refine Calls.mono C1.out ?_
        rintro e w1 ⟨rfl, hb1⟩
        have hbb1 := hb.below hb1 (Nat.le_refl _)
        go_wp2_with fail
        refine Calls.mono (C2.out w1 hbb1) ?_
        rintro e w2 ⟨rfl, hb2⟩
        have hb12 := hb1.trans (hb2.mono hb1.size)
        go_wp2
        go_ret3
        rw [HE.out]
        exact ⟨rfl, hb12⟩
end Go.Proofs.YtkhfplpplmnjiabDoor
