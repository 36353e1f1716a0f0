/-
  What slices.SortStableFunc comes to: the slice in the stable order.
-/
import Derived.Test.YtagjgamigldjnaaSsm
namespace Go.Proofs.Ytagjgamigldjnaa
open Go.Shelf Go.RowKit Go.Lib Go.Sort

section
variable {α : Type} [Inhabited α] {lt : α → α → Bool}
/-- Blocks of s, each sorted. -/
def Blocks (lt : α → α → Bool) (s N : Nat) (d : Array α) : Prop := ∀ r, SortedIn lt (r * s) (min (r * s + s) N) d
/-- .. up to A. -/
structure Pre (lt : α → α → Bool) (s A : Nat) (d : Array α) : Prop where
  mult : ∃ q, A = q * s
  done : ∀ r, r * s + s ≤ A → SortedIn lt (r * s) (r * s + s) d
theorem Pre.start (s : Nat) (d : Array α) (hs : 0 < s) : Pre lt s 0 d := ⟨⟨0, by simp⟩, fun r h => by omega⟩
theorem Pre.step {s A : Nat} {d d' : Array α} (h : Pre lt s A d) (hm : Stab lt d d' A (A + s)) (ho : SortedIn lt A (A + s) d') : Pre lt s (A + s) d' := by
  obtain ⟨q, hq⟩ := h.mult
  refine ⟨⟨q + 1, by rw [Nat.add_mul, Nat.one_mul, ← hq]⟩, fun r hr => ?_⟩
  by_cases hc : r * s + s ≤ A
  · exact SortedIn.kept (h.done r hc) (fun t _ h2 => hm.out t (.inl (by omega)))
  · have : r = q := by
      rcases Nat.lt_trichotomy r q with h1 | h1 | h1
      · have := Nat.mul_le_mul_right s (show r + 1 ≤ q from h1)
        rw [Nat.add_mul, Nat.one_mul, ← hq] at this
        omega
      · exact h1
      · have := Nat.mul_le_mul_right s (show q + 1 ≤ r from h1)
        rw [Nat.add_mul, Nat.one_mul, ← hq] at this
        have hs0 : s = 0 := by omega
        subst hs0
        omega
    rw [this, ← hq]
    exact ho
theorem Pre.finish {s A N : Nat} {d d' : Array α} (h : Pre lt s A d) (hN : N < A + s) (hA : A ≤ N) (hm : Stab lt d d' A N) (ho : SortedIn lt A N d') : Blocks lt s N d' := by
  obtain ⟨q, hq⟩ := h.mult
  intro r
  by_cases hc : r * s + s ≤ A
  · rw [Nat.min_eq_left (by omega)]
    exact SortedIn.kept (h.done r hc) (fun t _ h2 => hm.out t (.inl (by omega)))
  · rcases Nat.lt_trichotomy r q with h1 | h1 | h1
    · have := Nat.mul_le_mul_right s (show r + 1 ≤ q from h1)
      rw [Nat.add_mul, Nat.one_mul, ← hq] at this
      omega
    · rw [h1, ← hq, Nat.min_eq_right (by omega)]
      exact ho
    · have := Nat.mul_le_mul_right s (show q + 1 ≤ r from h1)
      rw [Nat.add_mul, Nat.one_mul, ← hq] at this
      exact SortedIn.one _ (by have := Nat.min_le_right (r * s + s) N; omega)
/-- Blocks of 2 s up to A, of s from there on. -/
structure Half (lt : α → α → Bool) (s N A : Nat) (d : Array α) : Prop where
  pre : Pre lt (2 * s) A d
  post : ∀ r, A ≤ r * s → SortedIn lt (r * s) (min (r * s + s) N) d
theorem Half.start {s N : Nat} {d : Array α} (hs : 0 < s) (h : Blocks lt s N d) : Half lt s N 0 d := ⟨Pre.start _ _ (by omega), fun r _ => h r⟩
theorem Half.first {s N A : Nat} {d : Array α} (h : Half lt s N A d) : SortedIn lt A (min (A + s) N) d := by
  obtain ⟨q, hq⟩ := h.pre.mult
  have e : (2 * q) * s = A := by rw [hq, Nat.mul_comm 2 q, Nat.mul_assoc]
  have := h.post (2 * q) (by omega)
  rw [e] at this
  exact this
theorem Half.second {s N A : Nat} {d : Array α} (h : Half lt s N A d) : SortedIn lt (A + s) (min (A + s + s) N) d := by
  obtain ⟨q, hq⟩ := h.pre.mult
  have e : (2 * q + 1) * s = A + s := by rw [Nat.add_mul, Nat.one_mul, hq, Nat.mul_comm 2 q, Nat.mul_assoc]
  have := h.post (2 * q + 1) (by omega)
  rw [e] at this
  exact this
theorem Half.step {s N A : Nat} {d d' : Array α} (h : Half lt s N A d) (hm : Stab lt d d' A (A + 2 * s)) (ho : SortedIn lt A (A + 2 * s) d') : Half lt s N (A + 2 * s) d' :=
  ⟨h.pre.step hm ho, fun r hr => SortedIn.kept (h.post r (by omega)) (fun t h1 _ => hm.out t (.inr (by omega)))⟩
end

section
variable {P : Program} {k : Nat} {α : Type} [Inhabited α]
/-- What an insertion comes to. -/
def Inserts (P : Program) (enc : α → List Value) (k : Nat) (cf : α → α → Int) (fv : Value) (blk off cap N : Nat) (w0 : World) : Prop :=
  ∀ (a b : Nat) (d : Array α) (w : World), a ≤ b → b ≤ N → d.size = N → Aside (SWK enc k w0 blk off d w) →
    Calls P 59 #[.slice (some ⟨blk, off, none⟩) N cap, .int .i64 a, .int .i64 b, fv] w fun e w' => e = .returned (.tuple #[]) ∧ ∃ d', Aside (SWK enc k w0 blk off d' w') ∧ Aside (Stab (ltOf cf) d d' a b) ∧ Aside (SortedIn (ltOf cf) a b d')

set_option maxHeartbeats 4000000 in
set_option maxRecDepth 1000000 in
theorem stable_at (L : StAt P k) (ein : ∀ args w, (callFunc 59 args).run P w = .ok (.enter 59 args) w) (enc : α → List Value) (cf : α → α → Int) (fv : Value) (blk off cap N : Nat) (d : Array α) (w0 w : World)
    (hI : Inserts P enc k cf fv blk off cap N w0) (hM : ∀ a m b, a < m → m < b → b ≤ N → Merges P enc k cf fv blk off cap N w0 a m b) (hs : d.size = N) (S : SWK enc k w0 blk off d w) (hsz : N ≤ 1048576) :
    Calls P 54 #[.slice (some ⟨blk, off, none⟩) N cap, .int .i64 N, fv] w fun e w' => e = .returned (.tuple #[]) ∧ ∃ d', SWK enc k w0 blk off d' w' ∧ Stab (ltOf cf) d d' 0 N ∧ SortedIn (ltOf cf) 0 N d' := by
  have mixed := L.mixed; have t0 := L.t0; have a0 := L.a0; have z0 := L.z0; have v0 := L.v0; have t3 := L.t3; have a3 := L.a3; have z3 := L.z3; have v3 := L.v3; have t4 := L.t4; have a4 := L.a4; have z4 := L.z4; have v4 := L.v4; have t22 := L.ts; have a22 := L.asl; have z22 := L.zs; have v22 := L.vs; have t25 := L.tc; have a25 := L.ac; have z25 := L.zc; have v25 := L.vc
  have FG := L.fst
  have esy := L.esy
  have S0 : Aside (SWK enc k w0 blk off d w) := S
  have HI : Aside (Inserts P enc k cf fv blk off cap N w0) := hI
  have HM : Aside (∀ a m b, a < m → m < b → b ≤ N → Merges P enc k cf fv blk off cap N w0 a m b) := hM
  clear S L hI hM
  go_enter FG, Try.ntmps54
  go_wp2
  go_loopg [7, 8] N (fun kx s7 s8 wr => ∃ (A : Nat) (dk : Array α), s7 = .int .i64 A ∧ s8 = .int .i64 ((A : Int) + 20) ∧ A ≤ N ∧ N - A ≤ kx ∧ dk.size = N ∧ Aside (SWK enc k w0 blk off dk wr) ∧ Aside (Pre (ltOf cf) 20 A dk) ∧ Aside (Stab (ltOf cf) d dk 0 N))
  case atStart => exact ⟨0, d, rfl, rfl, Nat.zero_le _, by omega, hs, S0, Pre.start _ _ (by omega), Stab.refl _ _ _⟩
  case round =>
    clear S0
    obtain ⟨A, dk, rfl, rfl, hA, hkx, hds, S1, HP, HS⟩ := hrel
    by_cases hlt : A + 20 ≤ N
    · have hz : (A : Int) + 20 ≤ (N : Int) := by omega
      have ez : (A : Int) + 20 = ((A + 20 : Nat) : Int) := by omega
      have hc := HI.out A (A + 20) dk wr (by omega) hlt hds S1
      rw [← ez] at hc
      have HC : Hid _ := hc
      clear hc ez
      go_wp2_with fail
      refine Calls.mono HC.out ?_
      rintro e w1 ⟨rfl, d1, S2, T1, T2⟩
      have HP2 : Aside (Pre (ltOf cf) 20 (A + 20) d1) := HP.out.step T1.out T2.out
      have HS2 : Aside (Stab (ltOf cf) d d1 0 N) := HS.out.trans (T1.out.widen (by omega) (by omega) hlt)
      have hd1 : d1.size = N := T1.out.size.trans hds
      clear HC S1 T1 T2 HP HS
      go_wp2
      go_roundg (N - (A + 20))
      case measure => omega
      case rel => exact ⟨A + 20, d1, by go_num, by first | rfl | go_num | (congr 1; omega), hlt, Nat.le_refl _, hd1, S2, HP2, HS2⟩
    · have hz : ¬ (A : Int) + 20 ≤ (N : Int) := by omega
      have hc := HI.out A N dk wr hA (Nat.le_refl _) hds S1
      have HC : Hid _ := hc
      clear hc
      go_wp2_with fail
      refine Calls.mono HC.out ?_
      rintro e w1 ⟨rfl, d1, S2, T1, T2⟩
      have HB : Aside (Blocks (ltOf cf) 20 N d1) := HP.out.finish (by omega) hA T1.out T2.out
      have HS2 : Aside (Stab (ltOf cf) d d1 0 N) := HS.out.trans (T1.out.widen (by omega) hA (Nat.le_refl _))
      have hd1 : d1.size = N := T1.out.size.trans hds
      clear HC S1 T1 T2 HP HS
      go_wp2
      go_loopg [6, 7, 8] N (fun kx s6 s7 s8 wr2 => ∃ (s : Nat) (dk : Array α), s6 = .int .i64 s ∧ 0 < s ∧ s ≤ 2 * N + 20 ∧ N - s ≤ kx ∧ dk.size = N ∧ Aside (SWK enc k w0 blk off dk wr2) ∧ Aside (Blocks (ltOf cf) s N dk) ∧ Aside (Stab (ltOf cf) d dk 0 N))
      case atStart => exact ⟨20, d1, rfl, by omega, by omega, by omega, hd1, S2, HB, HS2⟩
      case round =>
        clear S2 HB HS2 hd1 hkx hA hz hlt hds
        obtain ⟨s, dk, rfl, hs0, hs1, hkx, hds, S1, HB, HS⟩ := hrel
        by_cases hlt : s < N
        · have hz : (s : Int) < (N : Int) := by omega
          have HH : Aside (Half (ltOf cf) s N 0 dk) := Half.start hs0 HB.out
          clear HB
          go_wp2
          go_loopg [7, 8] N (fun kx s7 s8 wr3 => ∃ (A : Nat) (dk : Array α), s7 = .int .i64 A ∧ s8 = .int .i64 ((A : Int) + 2 * (s : Int)) ∧ A ≤ N ∧ N - A ≤ kx ∧ dk.size = N ∧ Aside (SWK enc k w0 blk off dk wr3) ∧ Aside (Half (ltOf cf) s N A dk) ∧ Aside (Stab (ltOf cf) d dk 0 N))
          case atStart => exact ⟨0, dk, rfl, by first | rfl | (congr 1; omega), Nat.zero_le _, by omega, hds, S1, HH, HS⟩
          case round =>
            clear S1 HH HS hds
            obtain ⟨A, dj, rfl, rfl, hA, hkx2, hds, S1, HH, HS⟩ := hrel
            by_cases hlt2 : A + 2 * s ≤ N
            · have hz2 : (A : Int) + 2 * (s : Int) ≤ (N : Int) := by omega
              have ez1 : (A : Int) + 2 * (s : Int) = ((A + 2 * s : Nat) : Int) := by omega
              have ez2 : (A : Int) + (s : Int) = ((A + s : Nat) : Int) := by omega
              have o1 := HH.out.first
              have o2 := HH.out.second
              rw [Nat.min_eq_left (by omega)] at o1
              rw [Nat.min_eq_left (by omega), show A + s + s = A + 2 * s by omega] at o2
              have hc := HM.out A (A + s) (A + 2 * s) (by omega) (by omega) hlt2 dj wr hds S1 o1 o2
              rw [← ez1, ← ez2] at hc
              have HC : Hid _ := hc
              clear hc ez1 ez2 o1 o2
              go_wp2_with fail
              refine Calls.mono HC.out ?_
              rintro e w1 ⟨rfl, d1, S2, T1, T2⟩
              have HH2 : Aside (Half (ltOf cf) s N (A + 2 * s) d1) := HH.out.step T1.out T2.out
              have HS2 : Aside (Stab (ltOf cf) d d1 0 N) := HS.out.trans (T1.out.widen (by omega) (by omega) hlt2)
              have hd1 : d1.size = N := T1.out.size.trans hds
              clear HC S1 T1 T2 HH HS
              go_wp2
              go_roundg (N - (A + 2 * s))
              case measure => omega
              case rel => exact ⟨A + 2 * s, d1, by first | rfl | go_num | (congr 1; omega), by first | rfl | go_num | (congr 1; omega), hlt2, Nat.le_refl _, hd1, S2, HH2, HS2⟩
            · have hz2 : ¬ (A : Int) + 2 * (s : Int) ≤ (N : Int) := by omega
              by_cases hlt3 : A + s < N
              · have hz3 : (A : Int) + (s : Int) < (N : Int) := by omega
                have ez2 : (A : Int) + (s : Int) = ((A + s : Nat) : Int) := by omega
                have o1 := HH.out.first
                have o2 := HH.out.second
                rw [Nat.min_eq_left (by omega)] at o1
                rw [Nat.min_eq_right (by omega)] at o2
                have hc := HM.out A (A + s) N (by omega) hlt3 (Nat.le_refl _) dj wr hds S1 o1 o2
                rw [← ez2] at hc
                have HC : Hid _ := hc
                clear hc ez2 o1 o2
                go_wp2_with fail
                refine Calls.mono HC.out ?_
                rintro e w1 ⟨rfl, d1, S2, T1, T2⟩
                have HB2 : Aside (Blocks (ltOf cf) (2 * s) N d1) := HH.out.pre.finish (by omega) hA T1.out T2.out
                have HS2 : Aside (Stab (ltOf cf) d d1 0 N) := HS.out.trans (T1.out.widen (by omega) hA (Nat.le_refl _))
                have hd1 : d1.size = N := T1.out.size.trans hds
                clear HC S1 T1 T2 HH HS
                go_wp2
                go_roundg (N - 2 * s)
                case measure => omega
                case rel => exact ⟨2 * s, d1, by first | rfl | go_num | (congr 1; omega), by omega, by omega, Nat.le_refl _, hd1, S2, HB2, HS2⟩
              · have hz3 : ¬ (A : Int) + (s : Int) < (N : Int) := by omega
                have o1 := HH.out.first
                rw [Nat.min_eq_right (by omega)] at o1
                have HB2 : Aside (Blocks (ltOf cf) (2 * s) N dj) := HH.out.pre.finish (by omega) hA (Stab.refl _ _ _) o1
                clear HH o1
                go_wp2
                go_roundg (N - 2 * s)
                case measure => omega
                case rel => exact ⟨2 * s, dj, by first | rfl | go_num | (congr 1; omega), by omega, by omega, Nat.le_refl _, hds, S1, HB2, HS⟩
        · have hz : ¬ (s : Int) < (N : Int) := by omega
          have o := HB.out 0
          rw [Nat.zero_mul, Nat.zero_add, Nat.min_eq_right (by omega)] at o
          have HO : Aside (SortedIn (ltOf cf) 0 N dk) := o
          clear o HB
          go_wp2
          go_end0
          exact ⟨rfl, dk, S1.out, HS.out, HO.out⟩
end
end Go.Proofs.Ytagjgamigldjnaa
