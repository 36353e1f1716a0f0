/-
  What the stable sort's rotation comes to: two pieces side by side change places.
-/
import Derived.Test.YtagjgamigldjnaaSsw
namespace Go.Proofs.Ytagjgamigldjnaa
open Go.Shelf Go.RowKit Go.Lib Go.Sort

section
variable {P : Program} {k : Nat} {α : Type} [Inhabited α]
theorem StAt.esw (L : StAt P k) : ∀ args w, (callFunc 66 args).run P w = .ok (.enter 66 args) w := enters_of L.fsw (by kernel_rfl) rfl
theorem StAt.ero (L : StAt P k) : ∀ args w, (callFunc 63 args).run P w = .ok (.enter 63 args) w := enters_of L.fro (by kernel_rfl) rfl
theorem StAt.esy (L : StAt P k) : ∀ args w, (callFunc 60 args).run P w = .ok (.enter 60 args) w := enters_of L.fsy (by kernel_rfl) rfl
theorem StAt.est (L : StAt P k) : ∀ args w, (callFunc 54 args).run P w = .ok (.enter 54 args) w := enters_of L.fst (by kernel_rfl) rfl

set_option maxHeartbeats 4000000 in
set_option maxRecDepth 1000000 in
theorem rotate_at (L : StAt P k) (enc : α → List Value) (fv : Value) (blk off cap a m b : Nat) (d0 d : Array α) (w0 w : World)
    (R : RowK enc k w0 blk off d0) (hs : d0.size = d.size) (S : SWK enc k w0 blk off d w) (ham : a < m) (hmb : m < b) (hb : b ≤ d.size) (hsz : d.size ≤ 1048576) :
    Calls P 63 #[.slice (some ⟨blk, off, none⟩) d.size cap, .int .i64 a, .int .i64 m, .int .i64 b, fv] w fun e w' => e = .returned (.tuple #[]) ∧ ∃ d', SWK enc k w0 blk off d' w' ∧ Rot d d' a m b := by
  have mixed := L.mixed; have t0 := L.t0; have a0 := L.a0; have z0 := L.z0; have v0 := L.v0; have t3 := L.t3; have a3 := L.a3; have z3 := L.z3; have v3 := L.v3; have t4 := L.t4; have a4 := L.a4; have z4 := L.z4; have v4 := L.v4; have t22 := L.ts; have a22 := L.asl; have z22 := L.zs; have v22 := L.vs; have t25 := L.tc; have a25 := L.ac; have z25 := L.zc; have v25 := L.vc
  have FG := L.fro
  have esw := L.esw
  have S0 : Aside (SWK enc k w0 blk off d w) := S
  have HL : Aside (StAt P k) := L
  clear S L
  go_enter FG, Try.ntmps63
  go_wp2
  go_loopg [10, 11] (b - a) (fun kx s10 s11 wr => ∃ (i j : Nat) (dk : Array α), s10 = .int .i64 i ∧ s11 = .int .i64 j ∧ 0 < i ∧ 0 < j ∧ i ≤ m ∧ m + j ≤ d.size ∧ i + j ≤ kx ∧ dk.size = d.size ∧ Aside (SWK enc k w0 blk off dk wr) ∧ Aside (rotF (fun t => dk[t]!) (m - i) m (m + j) = rotF (fun t => d[t]!) a m b))
  case atStart =>
    exact ⟨m - a, b - m, d, by congr 1; omega, by congr 1; omega, by omega, by omega, by omega, by omega, by omega, rfl, S0, (show rotF (fun t => d[t]!) (m - (m - a)) m (m + (b - m)) = _ by rw [show m - (m - a) = a by omega, show m + (b - m) = b by omega])⟩
  case round =>
    clear S0
    obtain ⟨i, j, dk, rfl, rfl, hi0, hj0, him, hjm, hkx, hds, S1, heq⟩ := hrel
    rcases Nat.lt_trichotomy i j with hlt | rfl | hlt
    · have hne : (i : Int) ≠ (j : Int) := by omega
      have hgt : ¬ (j : Int) < (i : Int) := by omega
      have e1 : (m : Int) - (i : Int) = ((m - i : Nat) : Int) := by omega
      have e2 : (m : Int) + (j : Int) - (i : Int) = ((m + j - i : Nat) : Int) := by omega
      have hc := swaprange_at HL.out enc fv blk off cap (m - i) (m + j - i) i d0 dk w0 wr R (by omega) S1.out (by omega) (by omega) (by omega)
      rw [hds] at hc
      have HC : Hid _ := hc
      clear hc
      go_wp2_with fail
      refine Calls.mono HC.out ?_
      rintro e w1 ⟨rfl, d1, S2, hs2, hd1⟩
      have heq2 : Aside (rotF (fun t => d1[t]!) (m - i) m (m + (j - i)) = rotF (fun t => d[t]!) a m b) := by
        show _ = _
        rw [← heq.out, ← rotF_less (fun t => dk[t]!) m i j him hi0 hlt]
        congr 1
        funext t
        exact hd1 t
      have S2' : Aside (SWK enc k w0 blk off d1 w1) := S2
      clear S2 hd1 heq S1 HC
      go_wp2
      go_roundg (i + (j - i))
      case measure => omega
      case rel => exact ⟨i, j - i, d1, rfl, by first | go_num | (congr 1; omega), hi0, by omega, him, by omega, Nat.le_refl _, by omega, S2', heq2⟩
    · have hne : (i : Int) = (i : Int) := rfl
      have e1 : (m : Int) - (i : Int) = ((m - i : Nat) : Int) := by omega
      have hc := swaprange_at HL.out enc fv blk off cap (m - i) m i d0 dk w0 wr R (by omega) S1.out (by omega) (by omega) (by omega)
      rw [hds] at hc
      have HC : Hid _ := hc
      clear hc
      go_wp2_with fail
      refine Calls.mono HC.out ?_
      rintro e w1 ⟨rfl, d1, S2, hs2, hd1⟩
      have hR : Aside (Rot d d1 a m b) := rot_of (by omega) (by omega) (by omega) (fun t => by rw [← heq.out, ← rotF_same (fun t => dk[t]!) m i him]; exact hd1 t)
      have S2' : Aside (SWK enc k w0 blk off d1 w1) := S2
      clear S2 hd1 heq S1 HC
      go_wp2
      go_end0
      exact ⟨rfl, d1, S2'.out, hR.out⟩
    · have hne : (i : Int) ≠ (j : Int) := by omega
      have hgt : (j : Int) < (i : Int) := by omega
      have e1 : (m : Int) - (i : Int) = ((m - i : Nat) : Int) := by omega
      have hc := swaprange_at HL.out enc fv blk off cap (m - i) m j d0 dk w0 wr R (by omega) S1.out (by omega) (by omega) (by omega)
      rw [hds] at hc
      have HC : Hid _ := hc
      clear hc
      go_wp2_with fail
      refine Calls.mono HC.out ?_
      rintro e w1 ⟨rfl, d1, S2, hs2, hd1⟩
      have heq2 : Aside (rotF (fun t => d1[t]!) (m - (i - j)) m (m + j) = rotF (fun t => d[t]!) a m b) := by
        show _ = _
        rw [← heq.out, ← rotF_more (fun t => dk[t]!) m i j him hj0 hlt]
        congr 1
        funext t
        exact hd1 t
      have S2' : Aside (SWK enc k w0 blk off d1 w1) := S2
      clear S2 hd1 heq S1 HC
      go_wp2
      go_roundg (i - j + j)
      case measure => omega
      case rel => exact ⟨i - j, j, d1, by first | go_num | (congr 1; omega), rfl, by omega, hj0, by omega, hjm, Nat.le_refl _, by omega, S2', heq2⟩
end
end Go.Proofs.Ytagjgamigldjnaa
