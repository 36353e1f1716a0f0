/-
  What slices.SortStableFunc comes to: the slice in the stable order.
-/
import Derived.Test.YtmlfekbmbnfkjabGreatDoorR07
import Derived.Test.YtmlfekbmbnfkjabGreatDoorR03
import Derived.Test.YtmlfekbmbnfkjabGreatDoorR04
import Derived.Test.YtmlfekbmbnfkjabGreatDoorR06
namespace Go.Proofs.YtmlfekbmbnfkjabGreatDoor
set_option maxRecDepth 100000
open Go.Shelf Go.RowKit Go.Lib Go.Sort

section
variable {α : Type} [Inhabited α] {lt : α → α → Bool}
/-- Blocks of s, each sorted. -/
def Blocks (lt : α → α → Bool) (s N : Nat) (d : Array α) : Prop := ∀ r, SortedIn lt (r * s) (min (r * s + s) N) d
/-- .. up to A. -/
structure Pre (lt : α → α → Bool) (s A : Nat) (d : Array α) : Prop where
  mult : ∃ q, A = q * s
  done : ∀ r, r * s + s ≤ A → SortedIn lt (r * s) (r * s + s) d
theorem Pre.start (s : Nat) (d : Array α) (hs : 0 < s) : Pre lt s 0 d := ⟨⟨0, by simp⟩, fun r h => by omega⟩
theorem Pre.step {s A : Nat} {d d' : Array α} (h : Pre lt s A d) (hm : Stab lt d d' A (A + s)) (ho : SortedIn lt A (A + s) d') : Pre lt s (A + s) d' := by
  obtain ⟨q, hq⟩ := h.mult
  refine ⟨⟨q + 1, by rw [Nat.add_mul, Nat.one_mul, ← hq]⟩, fun r hr => ?_⟩
  by_cases hc : r * s + s ≤ A
  · exact SortedIn.kept (h.done r hc) (fun t _ h2 => hm.out t (.inl (by omega)))
  · have : r = q := by
      rcases Nat.lt_trichotomy r q with h1 | h1 | h1
      · have := Nat.mul_le_mul_right s (show r + 1 ≤ q from h1)
        rw [Nat.add_mul, Nat.one_mul, ← hq] at this
        omega
      · exact h1
      · have := Nat.mul_le_mul_right s (show q + 1 ≤ r from h1)
        rw [Nat.add_mul, Nat.one_mul, ← hq] at this
        have hs0 : s = 0 := by omega
        subst hs0
        omega
    rw [this, ← hq]
    exact ho
theorem Pre.finish {s A N : Nat} {d d' : Array α} (h : Pre lt s A d) (hN : N < A + s) (hA : A ≤ N) (hm : Stab lt d d' A N) (ho : SortedIn lt A N d') : Blocks lt s N d' := by
  obtain ⟨q, hq⟩ := h.mult
  intro r
  by_cases hc : r * s + s ≤ A
  · rw [Nat.min_eq_left (by omega)]
    exact SortedIn.kept (h.done r hc) (fun t _ h2 => hm.out t (.inl (by omega)))
  · rcases Nat.lt_trichotomy r q with h1 | h1 | h1
    · have := Nat.mul_le_mul_right s (show r + 1 ≤ q from h1)
      rw [Nat.add_mul, Nat.one_mul, ← hq] at this
      omega
    · rw [h1, ← hq, Nat.min_eq_right (by omega)]
      exact ho
    · have := Nat.mul_le_mul_right s (show q + 1 ≤ r from h1)
      rw [Nat.add_mul, Nat.one_mul, ← hq] at this
      exact SortedIn.one _ (by have := Nat.min_le_right (r * s + s) N; omega)
/-- Blocks of 2 s up to A, of s from there on. -/
structure Half (lt : α → α → Bool) (s N A : Nat) (d : Array α) : Prop where
  pre : Pre lt (2 * s) A d
  post : ∀ r, A ≤ r * s → SortedIn lt (r * s) (min (r * s + s) N) d
theorem Half.start {s N : Nat} {d : Array α} (hs : 0 < s) (h : Blocks lt s N d) : Half lt s N 0 d := ⟨Pre.start _ _ (by omega), fun r _ => h r⟩
theorem Half.first {s N A : Nat} {d : Array α} (h : Half lt s N A d) : SortedIn lt A (min (A + s) N) d := by
  obtain ⟨q, hq⟩ := h.pre.mult
  have e : (2 * q) * s = A := by rw [hq, Nat.mul_comm 2 q, Nat.mul_assoc]
  have := h.post (2 * q) (by omega)
  rw [e] at this
  exact this
theorem Half.second {s N A : Nat} {d : Array α} (h : Half lt s N A d) : SortedIn lt (A + s) (min (A + s + s) N) d := by
  obtain ⟨q, hq⟩ := h.pre.mult
  have e : (2 * q + 1) * s = A + s := by rw [Nat.add_mul, Nat.one_mul, hq, Nat.mul_comm 2 q, Nat.mul_assoc]
  have := h.post (2 * q + 1) (by omega)
  rw [e] at this
  exact this
theorem Half.step {s N A : Nat} {d d' : Array α} (h : Half lt s N A d) (hm : Stab lt d d' A (A + 2 * s)) (ho : SortedIn lt A (A + 2 * s) d') : Half lt s N (A + 2 * s) d' :=
  ⟨h.pre.step hm ho, fun r hr => SortedIn.kept (h.post r (by omega)) (fun t h1 _ => hm.out t (.inr (by omega)))⟩
end

section
variable {P : Program} {k : Nat} {α : Type} [Inhabited α]
/-- What an insertion comes to. -/
def Inserts (P : Program) (enc : α → List Value) (k : Nat) (cf : α → α → Int) (fv : Value) (blk off cap N : Nat) (w0 : World) : Prop :=
  ∀ (a b : Nat) (d : Array α) (w : World), a ≤ b → b ≤ N → d.size = N → Aside (SWK enc k w0 blk off d w) →
    Calls P 207 #[.slice (some ⟨blk, off, none⟩) N cap, .int .i64 a, .int .i64 b, fv] w fun e w' => e = .returned (.tuple #[]) ∧ ∃ d', Aside (SWK enc k w0 blk off d' w') ∧ Aside (Stab (ltOf cf) d d' a b) ∧ Aside (SortedIn (ltOf cf) a b d')

set_option maxHeartbeats 4000000 in
set_option maxRecDepth 1000000 in
theorem stable_at (L : StAt P k) (ein : ∀ args w, (callFunc 207 args).run P w = .ok (.enter 207 args) w) (enc : α → List Value) (cf : α → α → Int) (fv : Value) (blk off cap N : Nat) (d : Array α) (w0 w : World)
    (hI : Inserts P enc k cf fv blk off cap N w0) (hM : ∀ a m b, a < m → m < b → b ≤ N → Merges P enc k cf fv blk off cap N w0 a m b) (hs : d.size = N) (S : SWK enc k w0 blk off d w) (hsz : N ≤ 1048576) :
    Calls P 168 #[.slice (some ⟨blk, off, none⟩) N cap, .int .i64 N, fv] w fun e w' => e = .returned (.tuple #[]) ∧ ∃ d', SWK enc k w0 blk off d' w' ∧ Stab (ltOf cf) d d' 0 N ∧ SortedIn (ltOf cf) 0 N d' := by
  have mixed := L.mixed; have t0 := L.t0; have a0 := L.a0; have z0 := L.z0; have v0 := L.v0; have t3 := L.t3; have a3 := L.a3; have z3 := L.z3; have v3 := L.v3; have t4 := L.t4; have a4 := L.a4; have z4 := L.z4; have v4 := L.v4; have t22 := L.ts; have a22 := L.asl; have z22 := L.zs; have v22 := L.vs; have t25 := L.tc; have a25 := L.ac; have z25 := L.zc; have v25 := L.vc
  have FG := L.fst
  have esy := L.esy
  have S0 : Aside (SWK enc k w0 blk off d w) := S
  have HI : Aside (Inserts P enc k cf fv blk off cap N w0) := hI
  have HM : Aside (∀ a m b, a < m → m < b → b ≤ N → Merges P enc k cf fv blk off cap N w0 a m b) := hM
  clear S L hI hM
  go_enter FG, Tryz.ntmps168
  go_wp2
  go_loopg [7, 8] N (fun kx s7 s8 wr => ∃ (A : Nat) (dk : Array α), s7 = .int .i64 A ∧ s8 = .int .i64 ((A : Int) + 20) ∧ A ≤ N ∧ N - A ≤ kx ∧ dk.size = N ∧ Aside (SWK enc k w0 blk off dk wr) ∧ Aside (Pre (ltOf cf) 20 A dk) ∧ Aside (Stab (ltOf cf) d dk 0 N))
  case atStart => exact ⟨0, d, rfl, rfl, Nat.zero_le _, by omega, hs, S0, Pre.start _ _ (by omega), Stab.refl _ _ _⟩
  case round =>
    clear S0
    obtain ⟨A, dk, rfl, rfl, hA, hkx, hds, S1, HP, HS⟩ := hrel
    by_cases hlt : A + 20 ≤ N
    · have hz : (A : Int) + 20 ≤ (N : Int) := by omega
      have ez : (A : Int) + 20 = ((A + 20 : Nat) : Int) := by omega
      have hc := HI.out A (A + 20) dk wr (by omega) hlt hds S1
      rw [← ez] at hc
      have HC : Hid _ := hc
      clear hc ez
      go_wp2_with fail
      refine Calls.mono HC.out ?_
      rintro e w1 ⟨rfl, d1, S2, T1, T2⟩
      have HP2 : Aside (Pre (ltOf cf) 20 (A + 20) d1) := HP.out.step T1.out T2.out
      have HS2 : Aside (Stab (ltOf cf) d d1 0 N) := HS.out.trans (T1.out.widen (by omega) (by omega) hlt)
      have hd1 : d1.size = N := T1.out.size.trans hds
      clear HC S1 T1 T2 HP HS
      go_wp2
      go_roundg (N - (A + 20))
      case measure => omega
      case rel => exact ⟨A + 20, d1, by go_num, by first | rfl | go_num | (congr 1; omega), hlt, Nat.le_refl _, hd1, S2, HP2, HS2⟩
    · have hz : ¬ (A : Int) + 20 ≤ (N : Int) := by omega
      have hc := HI.out A N dk wr hA (Nat.le_refl _) hds S1
      have HC : Hid _ := hc
      clear hc
      go_wp2_with fail
      refine Calls.mono HC.out ?_
      rintro e w1 ⟨rfl, d1, S2, T1, T2⟩
      have HB : Aside (Blocks (ltOf cf) 20 N d1) := HP.out.finish (by omega) hA T1.out T2.out
      have HS2 : Aside (Stab (ltOf cf) d d1 0 N) := HS.out.trans (T1.out.widen (by omega) hA (Nat.le_refl _))
      have hd1 : d1.size = N := T1.out.size.trans hds
      clear HC S1 T1 T2 HP HS
      go_wp2
      go_loopg [6, 7, 8] N (fun kx s6 s7 s8 wr2 => ∃ (s : Nat) (dk : Array α), s6 = .int .i64 s ∧ 0 < s ∧ s ≤ 2 * N + 20 ∧ N - s ≤ kx ∧ dk.size = N ∧ Aside (SWK enc k w0 blk off dk wr2) ∧ Aside (Blocks (ltOf cf) s N dk) ∧ Aside (Stab (ltOf cf) d dk 0 N))
      case atStart => exact ⟨20, d1, rfl, by omega, by omega, by omega, hd1, S2, HB, HS2⟩
      case round =>
        clear S2 HB HS2 hd1 hkx hA hz hlt hds
        obtain ⟨s, dk, rfl, hs0, hs1, hkx, hds, S1, HB, HS⟩ := hrel
        by_cases hlt : s < N
        · have hz : (s : Int) < (N : Int) := by omega
          have HH : Aside (Half (ltOf cf) s N 0 dk) := Half.start hs0 HB.out
          clear HB
          go_wp2
          go_loopg [7, 8] N (fun kx s7 s8 wr3 => ∃ (A : Nat) (dk : Array α), s7 = .int .i64 A ∧ s8 = .int .i64 ((A : Int) + 2 * (s : Int)) ∧ A ≤ N ∧ N - A ≤ kx ∧ dk.size = N ∧ Aside (SWK enc k w0 blk off dk wr3) ∧ Aside (Half (ltOf cf) s N A dk) ∧ Aside (Stab (ltOf cf) d dk 0 N))
          case atStart => exact ⟨0, dk, rfl, by first | rfl | (congr 1; omega), Nat.zero_le _, by omega, hds, S1, HH, HS⟩
          case round =>
            clear S1 HH HS hds
            obtain ⟨A, dj, rfl, rfl, hA, hkx2, hds, S1, HH, HS⟩ := hrel
            by_cases hlt2 : A + 2 * s ≤ N
            · have hz2 : (A : Int) + 2 * (s : Int) ≤ (N : Int) := by omega
              have ez1 : (A : Int) + 2 * (s : Int) = ((A + 2 * s : Nat) : Int) := by omega
              have ez2 : (A : Int) + (s : Int) = ((A + s : Nat) : Int) := by omega
              have o1 := HH.out.first
              have o2 := HH.out.second
              rw [Nat.min_eq_left (by omega)] at o1
              rw [Nat.min_eq_left (by omega), show A + s + s = A + 2 * s by omega] at o2
              have hc := HM.out A (A + s) (A + 2 * s) (by omega) (by omega) hlt2 dj wr hds S1 o1 o2
              rw [← ez1, ← ez2] at hc
              have HC : Hid _ := hc
              clear hc ez1 ez2 o1 o2
              go_wp2_with fail
              refine Calls.mono HC.out ?_
              rintro e w1 ⟨rfl, d1, S2, T1, T2⟩
              have HH2 : Aside (Half (ltOf cf) s N (A + 2 * s) d1) := HH.out.step T1.out T2.out
              have HS2 : Aside (Stab (ltOf cf) d d1 0 N) := HS.out.trans (T1.out.widen (by omega) (by omega) hlt2)
              have hd1 : d1.size = N := T1.out.size.trans hds
              clear HC S1 T1 T2 HH HS
              go_wp2
              go_roundg (N - (A + 2 * s))
              case measure => omega
              case rel => exact ⟨A + 2 * s, d1, by first | rfl | go_num | (congr 1; omega), by first | rfl | go_num | (congr 1; omega), hlt2, Nat.le_refl _, hd1, S2, HH2, HS2⟩
            · have hz2 : ¬ (A : Int) + 2 * (s : Int) ≤ (N : Int) := by omega
              by_cases hlt3 : A + s < N
              · have hz3 : (A : Int) + (s : Int) < (N : Int) := by omega
                have ez2 : (A : Int) + (s : Int) = ((A + s : Nat) : Int) := by omega
                have o1 := HH.out.first
                have o2 := HH.out.second
                rw [Nat.min_eq_left (by omega)] at o1
                rw [Nat.min_eq_right (by omega)] at o2
                have hc := HM.out A (A + s) N (by omega) hlt3 (Nat.le_refl _) dj wr hds S1 o1 o2
                rw [← ez2] at hc
                have HC : Hid _ := hc
                clear hc ez2 o1 o2
                go_wp2_with fail
                refine Calls.mono HC.out ?_
                rintro e w1 ⟨rfl, d1, S2, T1, T2⟩
                have HB2 : Aside (Blocks (ltOf cf) (2 * s) N d1) := HH.out.pre.finish (by omega) hA T1.out T2.out
                have HS2 : Aside (Stab (ltOf cf) d d1 0 N) := HS.out.trans (T1.out.widen (by omega) hA (Nat.le_refl _))
                have hd1 : d1.size = N := T1.out.size.trans hds
                clear HC S1 T1 T2 HH HS
                go_wp2
                go_roundg (N - 2 * s)
                case measure => omega
                case rel => exact ⟨2 * s, d1, by first | rfl | go_num | (congr 1; omega), by omega, by omega, Nat.le_refl _, hd1, S2, HB2, HS2⟩
              · have hz3 : ¬ (A : Int) + (s : Int) < (N : Int) := by omega
                have o1 := HH.out.first
                rw [Nat.min_eq_right (by omega)] at o1
                have HB2 : Aside (Blocks (ltOf cf) (2 * s) N dj) := HH.out.pre.finish (by omega) hA (Stab.refl _ _ _) o1
                clear HH o1
                go_wp2
                go_roundg (N - 2 * s)
                case measure => omega
                case rel => exact ⟨2 * s, dj, by first | rfl | go_num | (congr 1; omega), by omega, by omega, Nat.le_refl _, hds, S1, HB2, HS⟩
        · have hz : ¬ (s : Int) < (N : Int) := by omega
          have o := HB.out 0
          rw [Nat.zero_mul, Nat.zero_add, Nat.min_eq_right (by omega)] at o
          have HO : Aside (SortedIn (ltOf cf) 0 N dk) := o
          clear o HB
          go_wp2
          go_end0
          exact ⟨rfl, dk, S1.out, HS.out, HO.out⟩
end

end Go.Proofs.YtmlfekbmbnfkjabGreatDoor

/-
  What byTime and slices.SortStableFunc by it come to: a row of events in the stable order of their times.
-/
namespace Go.Proofs.YtmlfekbmbnfkjabGreatDoor
set_option maxRecDepth 100000
set_option maxRecDepth 100000
open Go.Shelf Go.RowKit Go.Lib Go.Sort

set_option maxHeartbeats 400000 in
theorem later_grow (b a : Ev) (w : World) : Calls Tryz.prog 169 #[.agg (evc b), .agg (evc a)] w fun e w' => e = .returned (.bool (laterE b a)) ∧ w' = (w.alloc (.cells (evc b) 47)).alloc (.cells (evc a) 47) := by
  obtain ⟨hb, ha, hB⟩ := boxedEE w b a
  have b0 := hb.c0
  have b1 := hb.c1
  have b2 := hb.c2
  have a0 := ha.c0
  have a1 := ha.c1
  have a2 := ha.c2
  clear ha hb hB
  unfold laterE
  go_enter Tryz.func169, Tryz.ntmps169
  go_wp2
  all_goals
    go_ret
    refine ⟨?_, rfl⟩
    simp_all

def cfE (x y : Ev) : Int := if laterE x y then 1 else if laterE y x then -1 else 0
set_option maxHeartbeats 1000000 in
theorem bytime_any (x y : Ev) (lx : x.deps.length = 16) (ly : y.deps.length = 16) (w : World) : Calls Tryz.prog 133 #[.agg (evc x), .agg (evc y)] w fun e w' => e = .returned (.int .i64 (cfE x y)) ∧ ∃ q os', w' = grow (w.drewN q) os' := by
  obtain ⟨hx, hy, hB⟩ := boxedEE w x y
  obtain ⟨W, hW⟩ : ∃ W, (w.alloc (.cells (evc x) 47)).alloc (.cells (evc y) 47) = W := ⟨_, rfl⟩
  rw [hW] at hx hy hB
  have hg : Hid (∃ os', W = grow w os') := ⟨_, by rw [← hW, alloc_eq_grow, alloc_eq_grow, grow_grow]⟩
  have HW : Hid ((w.alloc (.cells (evc x) 47)).alloc (.cells (evc y) 47) = W) := hW
  have hx2 := (hx.alloc (.cells (evc x) 47)).alloc (.cells (evc y) 47)
  have hy2 := (hy.alloc (.cells (evc x) 47)).alloc (.cells (evc y) 47)
  clear hB
  go_enter Tryz.func133, Tryz.ntmps133
  go_wp2_with (first | refine load_ev rfl rfl rfl hx lx ?_ | refine load_ev rfl rfl rfl hy ly ?_)
  refine (later_grow x y _).mono ?_
  rintro e w1 ⟨rfl, hw1⟩
  have hg1 : Hid (∃ os', w1 = grow w os') := by
    obtain ⟨os, ho⟩ := hg.out
    exact ⟨_, by rw [hw1, alloc_eq_grow, alloc_eq_grow, ho, grow_grow, grow_grow]⟩
  rw [← hw1] at hx2 hy2
  clear hw1 hx hy hW HW hg
  rcases Bool.eq_false_or_eq_true (laterE x y) with h1 | h1
  · have HC : Hid (cfE x y = 1) := by show _ = _; rw [cfE, h1]; rfl
    go_wp2
    go_ret
    obtain ⟨os, ho⟩ := hg1.out
    exact ⟨by rw [HC.out]; rfl, 0, os, ho⟩
  · go_wp2_with (first | refine load_ev rfl rfl rfl hx2 lx ?_ | refine load_ev rfl rfl rfl hy2 ly ?_)
    refine (later_grow y x _).mono ?_
    rintro e w2 ⟨rfl, hw2⟩
    have hg2 : Hid (∃ os', w2 = grow w os') := by
      obtain ⟨os, ho⟩ := hg1.out
      exact ⟨_, by rw [hw2, alloc_eq_grow, alloc_eq_grow, ho, grow_grow, grow_grow]⟩
    clear hw2 hx2 hy2 hg1
    rcases Bool.eq_false_or_eq_true (laterE y x) with h2 | h2
    · have HC : Hid (cfE x y = -1) := by show _ = _; rw [cfE, h1, h2]; rfl
      go_wp2
      go_ret
      obtain ⟨os, ho⟩ := hg2.out
      exact ⟨by rw [HC.out]; rfl, 0, os, ho⟩
    · have HC : Hid (cfE x y = 0) := by show _ = _; rw [cfE, h1, h2]; rfl
      go_wp2
      go_ret
      obtain ⟨os, ho⟩ := hg2.out
      exact ⟨by rw [HC.out]; rfl, 0, os, ho⟩

/-- Events as wide as the type. -/
abbrev E16 := { e : Ev // e.deps.length = 16 }
instance : Inhabited E16 := ⟨⟨zv, rfl⟩⟩
def en (e : E16) : List Value := evl e.1
theorem en_len (x : E16) : (en x).length = 26 := evl_length x.1 x.2
theorem en_one (x : E16) : ∀ v ∈ en x, v.oneCell' = true := by
  have := evc_one x.1
  rw [Array.all_eq_true_iff_forall_mem] at this
  intro v hv
  exact this v (by simpa [evc, en] using hv)
def cf16 (x y : E16) : Int := cfE x.1 y.1
theorem cf16_lt (x y : E16) : ltOf cf16 x y = ltE x.1 y.1 := by
  unfold ltOf cf16 cfE ltE
  rcases Bool.eq_false_or_eq_true (laterE x.1 y.1) with h1 | h1 <;> rcases Bool.eq_false_or_eq_true (laterE y.1 x.1) with h2 | h2 <;> rw [h1, h2] <;> simp
  exact later_both h2 h1
theorem cf16_swo : SWO (ltOf cf16) where
  irrefl x := by rw [cf16_lt]; exact ltE_swo.irrefl _
  trans x y z h1 h2 := by rw [cf16_lt] at *; exact ltE_swo.trans _ _ _ h1 h2
  ntrans x y z h1 h2 := by rw [cf16_lt] at *; exact ltE_swo.ntrans _ _ _ h1 h2
theorem cf16_eqv (x y : E16) : eqv (ltOf cf16) x y = eqv ltE x.1 y.1 := by unfold eqv; rw [cf16_lt, cf16_lt]

theorem stAt : StAt Tryz.prog 26 where
  mixed := by kernel_rfl
  fsw := Tryz.func272
  fro := Tryz.func235
  fsy := Tryz.func208
  fst := Tryz.func168
  fss := Tryz.func132
  t0 := Tryz.underlying0
  a0 := Tryz.isAgg0
  z0 := Tryz.sizeOf0
  v0 := Tryz.zeroValue0
  t3 := Tryz.underlying3
  a3 := Tryz.isAgg3
  z3 := Tryz.sizeOf3
  v3 := Tryz.zeroValue3
  t4 := Tryz.underlying4
  a4 := Tryz.isAgg4
  z4 := Tryz.sizeOf4
  v4 := Tryz.zeroValue4
  tu := Tryz.underlying239
  au := Tryz.isAgg239
  zu := Tryz.sizeOf239
  vu := Tryz.zeroValue239
  ts := Tryz.underlying22
  asl := Tryz.isAgg22
  zs := Tryz.sizeOf22
  vs := Tryz.zeroValue22
  tc := Tryz.underlying169
  ac := Tryz.isAgg169
  zc := Tryz.sizeOf169
  vc := Tryz.zeroValue169
  aE := Tryz.isAgg47
  zE := Tryz.sizeOf47
def insRen : Go.Shelf.Ren := ⟨fun
    | 20 => 207
    | n => n, fun
    | 22 => 22
    | 24 => 47
    | 25 => 169
    | n => n, fun
    | n => n⟩
theorem insLaid : Go.Proofs.SlLaysF0.n20 Tryz.prog insRen :=
  { mixed := by kernel_rfl,
    f20 := ⟨Tryz.f207.name, by decide, Tryz.func207.trans (congrArg some (by kernel_rfl))⟩,
    t0 := Tryz.underlying0, a0 := Tryz.isAgg0, z0 := Tryz.sizeOf0, v0 := Tryz.zeroValue0,
    t3 := Tryz.underlying3, a3 := Tryz.isAgg3, z3 := Tryz.sizeOf3, v3 := Tryz.zeroValue3,
    t4 := Tryz.underlying4, a4 := Tryz.isAgg4, z4 := Tryz.sizeOf4, v4 := Tryz.zeroValue4,
    t22 := Tryz.underlying22, a22 := Tryz.isAgg22, z22 := Tryz.sizeOf22, v22 := Tryz.zeroValue22,
    t25 := Tryz.underlying169, a25 := Tryz.isAgg169, z25 := Tryz.sizeOf169, v25 := Tryz.zeroValue169 }
theorem bytime_enters : ∀ args w, (callFunc 133 args).run Tryz.prog w = .ok (.enter 133 args) w := enters_of Tryz.func133 (by kernel_rfl) rfl
theorem bytime_lays (blk off N : Nat) (W : World) : CmpLays Tryz.prog 133 #[] en 26 cf16 blk off N W := fun _ _ _ _ x y => bytime_any x.1 y.1 x.2 y.2 _
theorem ins_any (blk off cap N : Nat) (d0 : Array E16) (w0 : World) (R : RowK en 26 w0 blk off d0) (hs : d0.size = N) (hsz : N ≤ 1048576) : Inserts Tryz.prog en 26 cf16 (.func (.func 133) #[] #[]) blk off cap N w0 := by
  intro a b d w hab hb hd S
  subst hd
  have hH : HoldsK en 26 w blk off d := S.out.holds R.hblk R.hH hs.symm
  have hcon := AnyQ.insertionSortCmpFunc insLaid 26 Tryz.isAgg47 Tryz.sizeOf47 en en_len en_one cf16 133 #[] blk off cap a b d w bytime_enters (bytime_lays _ _ _ _) hH (S.out.lt R.hblk) hab hb (by omega)
  change Calls Tryz.prog 207 _ _ _ at hcon
  refine hcon.mono ?_
  rintro e w' ⟨he, n, os, rfl⟩
  obtain ⟨h1, h2⟩ := ins_stab cf16_swo d a b hab hb
  exact ⟨he, _, S.out.on R.hblk n _ os h1.size, h1, h2⟩

theorem flat_evs (d : Array E16) : (flatK en 26 d).toList = evs (d.toList.map (·.1)) := by
  have hw : ∀ e ∈ d.toList.map (·.1), e.deps.length = 16 := fun e he => by
    obtain ⟨x, -, rfl⟩ := List.mem_map.1 he
    exact x.2
  apply List.ext_getElem?
  intro t
  have hlen : (evs (d.toList.map (·.1))).length = d.size * 26 := by
    have : ∀ E : List Ev, (∀ e ∈ E, e.deps.length = 16) → (evs E).length = E.length * 26 := fun E => by
      induction E with
      | nil => intro _; rfl
      | cons e E ih =>
        intro h
        rw [show evs (e :: E) = evl e ++ evs E by simp [evs], List.length_append, ih (fun x hx => h x (by simp [hx])), evl_length e (h e (by simp)), List.length_cons]; omega
    rw [this _ hw]; simp
  by_cases ht : t < d.size * 26
  · have hk : t / 26 < d.size := by omega
    have hat : ∀ E : List Ev, (∀ e ∈ E, e.deps.length = 16) → ∀ (i : Nat) (e : Ev), E[i]? = some e → ∀ (j : Nat) (v : Value), (evl e)[j]? = some v → (evs E)[i * 26 + j]? = some v := fun E => by
      induction E with
      | nil => intro _ i e hi; simp at hi
      | cons x E ih =>
        intro h i e hi j v hv
        have h1 := evl_length x (h x (by simp))
        have e1 : evs (x :: E) = evl x ++ evs E := by simp [evs]
        cases i with
        | zero =>
          have : x = e := by simpa using hi
          subst this
          have hj : j < 26 := by have := (List.getElem?_eq_some_iff.1 hv).1; omega
          rw [e1, Nat.zero_mul, Nat.zero_add, List.getElem?_append_left (by omega)]
          exact hv
        | succ i =>
          rw [e1, List.getElem?_append_right (by omega), h1, show (i + 1) * 26 + j - 26 = i * 26 + j by omega]
          exact ih (fun y hy => h y (by simp [hy])) i e (by simpa using hi) j v hv
    have hi : (d.toList.map (·.1))[t / 26]? = some d[t / 26].1 := by simp [hk]
    have hm : t % 26 < (evl d[t / 26].1).length := by rw [evl_length _ d[t / 26].2]; omega
    obtain ⟨v, hv⟩ : ∃ v, (evl d[t / 26].1)[t % 26]? = some v := ⟨_, List.getElem?_eq_getElem hm⟩
    have h1 := hat _ hw (t / 26) _ hi (t % 26) v hv
    rw [show t / 26 * 26 + t % 26 = t by omega] at h1
    have hsz : t < (flatK en 26 d).size := by rw [size_flatK]; exact ht
    have h2 := get_flatK en 26 d t ht
    rw [getElem!_pos _ t hsz, getElem!_pos d _ hk] at h2
    rw [h1, Array.getElem?_toList, Array.getElem?_eq_getElem hsz, h2]
    obtain ⟨h3, h4⟩ := List.getElem?_eq_some_iff.1 hv
    have h5 : (en d[t / 26])[t % 26]! = v := by
      show (evl d[t / 26].1)[t % 26]! = v
      rw [getElem!_pos _ (t % 26) h3, h4]
    rw [h5]
  · rw [List.getElem?_eq_none (by rw [Array.length_toList, size_flatK]; omega), List.getElem?_eq_none (by omega)]
theorem holds_evs {w : World} {g : Nat} {cur : Array Value} {e : TypeId} {d : Array E16} (hb : w.heap[g]? = some (.cells cur e (0, 0))) (ht : cur.toList.take (d.size * 26) = evs (d.toList.map (·.1))) : HoldsK en 26 w g 0 d := by
  intro j hj
  have hj' : j < d.size * 26 := by rw [size_flatK] at hj; exact hj
  refine ⟨?_, by simp [World.frozen?, hb]⟩
  have h1 : (cur.toList.take (d.size * 26))[j]? = (flatK en 26 d).toList[j]? := by rw [ht, flat_evs]
  rw [List.getElem?_take_of_lt hj', Array.getElem?_toList, Array.getElem?_toList, Array.getElem?_eq_getElem hj] at h1
  simp only [World.cell?, hb, Nat.zero_add]
  simp only [Option.isSome_none, Bool.false_eq_true, if_false]
  rw [h1, getElem!_pos _ j hj]
  rfl
theorem heap_sortedE {w : World} {g n : Nat} {os : Array Obj} {cur : Array Value} {e : TypeId} {fr : Nat × Nat} (d : Array E16) (hb : w.heap[g]? = some (.cells cur e fr)) :
    (sortWorldK en 26 w g 0 n d os).heap[g]? = some (.cells (putCells id 0 (flatK en 26 d) cur) e fr) := by
  have hg : g < w.heap.size := (Array.getElem?_eq_some_iff.1 hb).1
  unfold sortWorldK putRowK
  rw [heap_grow_old _ _ (by simpa using hg)]
  simp [putRow, mapBlock, Sort.ahead, Array.getElem?_modify, hb, onCells]
theorem grownBy_sortedE {w : World} {g n : Nat} {os : Array Obj} (d : Array E16) : w.grownBy (sortWorldK en 26 w g 0 n d os) (some g) := by
  unfold sortWorldK putRowK
  refine ⟨rfl, rfl, rfl, by simp, fun k hk hne => ?_⟩
  rw [heap_grow_old _ _ (by simpa using hk)]
  have : g ≠ k := fun e => hne (by rw [e])
  simp [putRow, mapBlock, Sort.ahead, Array.getElem?_modify, this]
theorem take_putCellsE (cur : Array Value) (d : Array E16) (h : d.size * 26 ≤ cur.size) : (putCells id 0 (flatK en 26 d) cur).toList.take (d.size * 26) = evs (d.toList.map (·.1)) := by
  rw [← flat_evs]
  apply List.ext_getElem?
  intro j
  by_cases hj : j < d.size * 26
  · have hj2 : j < (flatK en 26 d).size := by rw [size_flatK]; exact hj
    rw [List.getElem?_take_of_lt hj, Array.getElem?_toList, Array.getElem?_toList, Array.getElem?_eq_getElem hj2]
    simp [putCells, hj, show j < cur.size by omega]
  · rw [List.getElem?_take_eq_none (by omega), List.getElem?_eq_none (by rw [Array.length_toList, size_flatK]; omega)]
theorem filter_sub (d : List E16) (x : E16) : (d.map (·.1)).filter (eqv ltE x.1) = (d.filter (eqv (ltOf cf16) x)).map (·.1) := by
  induction d with
  | nil => rfl
  | cons y d ih =>
    rw [List.map_cons, List.filter_cons, List.filter_cons, cf16_eqv, ih]
    split <;> rfl
theorem sorted_is {d d' : Array E16} (h1 : Stab (ltOf cf16) d d' 0 d.size) (h2 : SortedIn (ltOf cf16) 0 d.size d') : d'.toList.map (·.1) = srtE (d.toList.map (·.1)) := by
  have hs := h1.size
  refine IsSt.uniq ⟨?_, fun x => ?_⟩ (srt_st _)
  · rw [List.pairwise_iff_getElem]
    intro i j hi hj hij
    have hi' : i < d'.size := by simpa using hi
    have hj' : j < d'.size := by simpa using hj
    have := h2 i j (Nat.zero_le _) hij (by omega)
    rw [getElem!_pos d' j hj', getElem!_pos d' i hi', cf16_lt] at this
    simpa using this
  · have key : ∀ y : E16, (d'.toList.map (·.1)).filter (eqv ltE y.1) = (d.toList.map (·.1)).filter (eqv ltE y.1) := fun y => by
      rw [filter_sub, filter_sub]
      have := h1.same y
      rw [show seg d' 0 d.size = d'.toList by rw [← hs]; exact seg_all d', seg_all d] at this
      rw [this]
    have hx := key ⟨{ x with deps := zeros }, rfl⟩
    exact hx
theorem to16 (E : List Ev) (h : ∀ e ∈ E, Wide e) : ∃ d : Array E16, d.toList.map (·.1) = E ∧ d.size = E.length :=
  ⟨(E.pmap (fun e he => (⟨e, he⟩ : E16)) (fun e he => (h e he).1)).toArray, by simp [List.map_pmap], by simp⟩

set_option maxHeartbeats 1000000 in
theorem insort_none (v0 : Value) (w : World) : Calls Tryz.prog 207 #[.slice none 0 0, .int .i64 0, .int .i64 0, v0] w fun e w' => e = .returned (.tuple #[]) ∧ w' = w := by
  go_enter Tryz.func207, Tryz.ntmps207
  go_wp2
  go_loopg [8] 0 (fun _ s8 wr => s8 = .int .i64 1 ∧ wr = w)
  case atStart => exact ⟨rfl, rfl⟩
  case round =>
    obtain ⟨rfl, rfl⟩ := hrel
    go_wp2
    go_end0
    exact ⟨rfl, rfl⟩
set_option maxHeartbeats 1000000 in
theorem stable_none (v0 : Value) (w : World) : Calls Tryz.prog 168 #[.slice none 0 0, .int .i64 0, v0] w fun e w' => e = .returned (.tuple #[]) ∧ w' = w := by
  go_enter Tryz.func168, Tryz.ntmps168
  go_wp2
  go_loopg [7, 8] 0 (fun _ s7 s8 wr => s7 = .int .i64 0 ∧ s8 = .int .i64 20 ∧ wr = w)
  case atStart => exact ⟨rfl, rfl, rfl⟩
  case round =>
    obtain ⟨rfl, rfl, rfl⟩ := hrel
    go_wp2_with fail
    refine (insort_none v0 _).mono ?_
    rintro e w1 ⟨rfl, rfl⟩
    go_wp2
    go_loopg [6, 7, 8] 0 (fun _ s6 s7 s8 wr => s6 = .int .i64 20 ∧ wr = w1)
    case atStart => exact ⟨rfl, rfl⟩
    case round =>
      obtain ⟨rfl, rfl⟩ := hrel
      go_wp2
      go_end0
      exact ⟨rfl, rfl⟩
set_option maxHeartbeats 1000000 in
/-- slices.SortStableFunc by byTime. -/
theorem sortst_any (v : Value) (E : List Ev) (base : Nat) (w : World) (hrow : Row w base v E) (hw : ∀ e ∈ E, Wide e) (hl : E.length ≤ 1048576) :
    Calls Tryz.prog 132 #[v, .func (.func 133) #[] #[]] w fun e w' => e = .returned (.tuple #[]) ∧ Row w' base v (srtE E) ∧ w.grownBy w' v.ownBlock := by
  rcases hrow.2 with ⟨rfl, h0⟩ | ⟨g, cap, cur, rfl, hbg, hg, hn, hc, hcs, htk⟩
  · have hL : E = [] := List.eq_nil_of_length_eq_zero h0
    subst hL
    have HR : Hid (Row w base (.slice none 0 0) []) := hrow
    clear hrow
    go_enter Tryz.func132, Tryz.ntmps132
    go_wp2_with fail
    refine (stable_none _ _).mono ?_
    rintro e w1 ⟨rfl, rfl⟩
    go_wp2
    go_end0
    exact ⟨rfl, HR.out, World.grownBy.refl _ _⟩
  · have hgl : g < w.heap.size := (Array.getElem?_eq_some_iff.1 hg).1
    obtain ⟨d, hd, hds⟩ := to16 E hw
    have R : RowK en 26 w g 0 d := ⟨en_len, en_one, holds_evs hg (by rw [hd, hds]; exact htk), hgl⟩
    have hcon := stable_at stAt (enters_of Tryz.func207 (by kernel_rfl) rfl) en cf16 (.func (.func 133) #[] #[]) g 0 cap E.length d w w (ins_any g 0 cap E.length d w R hds hl)
      (fun a m b h1 h2 h3 => sym_any stAt en cf16 cf16_swo 133 #[] bytime_enters g 0 cap E.length d w (bytime_lays _ _ _ _) R hds hl _ a m b (Nat.le_refl _) h1 h2 h3) hds (SWK.start R.hH) hl
    have HC : Hid _ := hcon
    have fin : Hid (∀ w', (∃ d', SWK en 26 w g 0 d' w' ∧ Stab (ltOf cf16) d d' 0 E.length ∧ SortedIn (ltOf cf16) 0 E.length d') → Row w' base (.slice (some ⟨g, 0, none⟩) E.length cap) (srtE E) ∧ w.grownBy w' (some g)) := by
      show ∀ w', _ → _
      rintro w' ⟨d', ⟨n, os, rfl⟩, h1, h2⟩
      rw [← hds] at h1 h2
      have hs := sorted_is h1 h2
      rw [hd] at hs
      have hsz := h1.size
      have hl2 : (srtE E).length = E.length := srt_length E
      refine ⟨⟨?_, .inr ⟨g, cap, _, by rw [hl2], hbg, heap_sortedE d' hg, by omega, hc, by simp [putCells, hcs], ?_⟩⟩, grownBy_sortedE d'⟩
      · exact evs_length (fun e he => hw e (srt_mem.1 he))
      · have := take_putCellsE cur d' (by rw [hcs, hsz, hds]; omega)
        rw [hs, hsz, hds] at this
        rw [hl2]
        exact this
    clear hcon hrow htk hcs hg R hd
    go_enter Tryz.func132, Tryz.ntmps132
    go_wp2_with fail
    refine Calls.mono HC.out ?_
    rintro e w1 ⟨rfl, h1⟩
    have h2 : Hid _ := fin.out w1 h1
    clear h1 fin HC
    go_wp2
    go_end0
    exact ⟨rfl, h2.out⟩
end Go.Proofs.YtmlfekbmbnfkjabGreatDoor

/-
  What All comes to: the live events in the stable order of their times.
-/
namespace Go.Proofs.YtmlfekbmbnfkjabGreatDoor
set_option maxRecDepth 100000
set_option maxRecDepth 100000
open Go.RowKit

theorem Row.own {w : World} {base : Nat} {v : Value} {E : List Ev} (h : Row w base v E) : ∀ k, v.ownBlock = some k → base ≤ k := by
  intro k hk
  rcases h.2 with ⟨rfl, -⟩ | ⟨g, cap, cur, rfl, hbg, -⟩
  · cases hk
  · simp only [Value.ownBlock, Option.some.injEq] at hk
    omega
theorem build_ev1 {ops : Array Oper} {rest : List Oper} {o : Oper} {a : Act} {w : World} {Q : Exit → Act → World → Prop} {x : Operand} {u : Ev} (hw : Region.wanted o (yielded ops a.tmps) = true) (ho : o.op = .buildSlice 22 1 #[(0, x)]) (hx : a.eval x = .agg (evc u)) (hu : u.deps.length = 16)
    (h : wpList Tryz.prog ops Q rest (a.put o.dst (.slice (some ⟨w.heap.size, 0, none⟩) 1 1)) (w.alloc (.cells (evc u) 47))) : wpList Tryz.prog ops Q (o :: rest) a w :=
  wpList_step fun K hK => by
    rw [if_pos hw]
    have hr := run_build1 w u hu
    unfold Oper.wp execOp
    simp only [ho, List.map_toArray, List.map_cons, List.map_nil, hx, Sem.run_bind, Sem.run_pure, Result.andThen_ok, hr]
    exact hK _ _ h
def liveTo (E : List Ev) (i : Nat) : List Ev := (E.take i).filter (isLive E)
theorem liveTo_succ {E : List Ev} {i : Nat} {u : Ev} (h : E[i]? = some u) : liveTo E (i + 1) = if isLive E u then liveTo E i ++ [u] else liveTo E i := by
  unfold liveTo
  rw [take_snoc h, List.filter_append, List.filter_cons, List.filter_nil]
  split <;> simp
theorem liveTo_all {E : List Ev} {m : Nat} (h : E.length ≤ m) : liveTo E m = liveE E := by
  unfold liveTo liveE
  rw [List.take_of_length_le h]
theorem liveTo_len (E : List Ev) (i : Nat) : (liveTo E i).length ≤ i := by
  unfold liveTo
  have := List.length_filter_le (isLive E) (E.take i)
  have := List.length_take_le i E
  omega
theorem live_is {E : List Ev} {u : Ev} (h : addsE u.kind = true) : isLive E u = !(hasv (seenF E (wholeE u.key)) u.r u.n || hasv (seenF E (aimAtE u)) u.r u.n) := by
  unfold isLive
  rw [ended_is E u h, h, Bool.true_and]

set_option maxHeartbeats 4000000 in
theorem all_any (ao : Option Addr) (m c : Nat) (E : List Ev) (w : World) (hE : Evs w ao m c E) (hm : m ≤ 1000) :
    Calls Tryz.prog 89 #[.slice ao m c] w fun e w' => ∃ v, e = .returned v ∧ Row w' w.heap.size v (allE E) ∧ Below w.heap.size w w' := by
  have hlen := hE.len
  have hwide : Hid (∀ e ∈ E, Wide e) := hE.wide
  go_enter Tryz.func89, Tryz.ntmps89
  go_wp2_with fail
  refine (seenby_any ao m c E w hE (by omega)).mono ?_
  rintro e w1 ⟨rfl, hMap, hb1⟩
  have HE : Aside (Evs w1 ao m c E) := hE.below hb1 (Nat.le_refl _)
  have HM : Aside (Mpa w1 w.heap.size (seenF E)) := hMap
  have HB1 : Hid (Below w.heap.size w w1) := hb1
  have hs1 : w.heap.size < w1.heap.size := hMap.lt
  clear hE hb1 hMap
  have H0 : Aside (Row w1 w1.heap.size (.slice none 0 0) (liveTo E 0) ∧ Below w1.heap.size w1 w1) := ⟨row_nil _ _, Below.refl _ _⟩
  go_wp2
  go_loopg [4, 11] m (fun kx s4 s11 wr => ∃ i : Nat, s11 = .int .i64 i ∧ i ≤ m ∧ m - i ≤ kx ∧ Aside (Row wr w1.heap.size s4 (liveTo E i) ∧ Below w1.heap.size w1 wr))
  case atStart => exact ⟨0, rfl, Nat.zero_le _, by omega, H0⟩
  case round =>
    clear H0
    obtain ⟨i, rfl, him, hkx, HS⟩ := hrel
    by_cases hlt : i < m
    · have hltz : (i : Int) < (m : Int) := by omega
      obtain ⟨b, off, u, rfl, hui, hu, hr, hbl⟩ := (HE.out.below HS.out.2 (Nat.le_refl _)).at hlt
      have hu16 := hu.1
      have hix := fun W : World => index_ev W (b := b) (off := off) (k := i) (m := m) (c := c) hlt
      have hsz : w1.heap.size ≤ wr.heap.size := HS.out.2.size
      have hz := liesE_new wr zv
      have hE1 : LiesE ((wr.alloc (.cells (evc zv) 47)).setRow wr.heap.size (evc u)) wr.heap.size u := hz.row u
      have hB1 : Below wr.heap.size wr ((wr.alloc (.cells (evc zv) 47)).setRow wr.heap.size (evc u)) := below_setRow ((Below.refl _ _).alloc (Nat.le_refl _) _) (Nat.le_refl _) _
      have HS1 : Aside (Row ((wr.alloc (.cells (evc zv) 47)).setRow wr.heap.size (evc u)) w1.heap.size u4 (liveTo E i) ∧ Below w1.heap.size w1 ((wr.alloc (.cells (evc zv) 47)).setRow wr.heap.size (evc u)) ∧ LiesE ((wr.alloc (.cells (evc zv) 47)).setRow wr.heap.size (evc u)) wr.heap.size u) :=
        ⟨HS.out.1.below hB1 (Nat.le_refl _), HS.out.2.trans (hB1.mono hsz), hE1⟩
      clear hB1
      go_upto_region 6 with (first | refine load_ev_mid rfl rfl rfl hr hu16 ?_ | refine store_ev rfl rfl rfl rfl hz hu16 rfl ?_)
      change Code.wp _ _ _ _ ((wr.alloc (.cells (evc zv) 47)).setRow wr.heap.size (evc u))
      clear hE1 hz hr hix HS hbl
      generalize (wr.alloc (.cells (evc zv) 47)).setRow wr.heap.size (evc u) = W at HS1 ⊢
      generalize wr.heap.size = D at *
      have hE1 := HS1.out.2.2
      have c19 := hE1.c19 hu16
      have HSN : Hid (liveTo E (i + 1) = if isLive E u then liveTo E i ++ [u] else liveTo E i) := liveTo_succ hui
      go_wp2_with fail
      refine (adds_any u.kind W).mono ?_
      rintro e wx ⟨rfl, hwx⟩
      obtain rfl := hwx.symm
      clear hwx c19
      rcases Bool.eq_false_or_eq_true (addsE u.kind) with ha | ha
      · have hlive : Hid (isLive E u = !(hasv (seenF E (wholeE u.key)) u.r u.n || hasv (seenF E (aimAtE u)) u.r u.n)) := live_is ha
        rw [ha]
        go_wp2_with (refine load_ev rfl rfl rfl hE1 hu16 ?_)
        refine (ended_any u hu16 w.heap.size (seenF E) W (HM.out.below HS1.out.2.1 hs1)).mono ?_
        rintro e w3 ⟨rfl, hb3⟩
        have HS3 : Aside (Row w3 w1.heap.size u4 (liveTo E i) ∧ Below w1.heap.size w1 w3 ∧ LiesE w3 D u) := ⟨HS1.out.1.below hb3 (Nat.le_refl _), HS1.out.2.1.trans (hb3.mono HS1.out.2.1.size), hE1.below hb3 hE1.lt⟩
        clear hb3 hE1 HS1
        generalize (hasv (seenF E (wholeE u.key)) u.r u.n || hasv (seenF E (aimAtE u)) u.r u.n) = t at *
        cases t with
        | true =>
          have HS4 : Aside (Row w3 w1.heap.size u4 (liveTo E (i + 1)) ∧ Below w1.heap.size w1 w3) := ⟨by rw [HSN.out, hlive.out]; exact HS3.out.1, HS3.out.2.1⟩
          clear HS3 HSN hlive
          go_wp2
          go_roundg (m - (i + 1))
          case measure => omega
          case rel => exact ⟨i + 1, by go_num, by omega, Nat.le_refl _, HS4⟩
        | false =>
          have hE3 := HS3.out.2.2
          have hRow : Row (w3.alloc (.cells (evc u) 47)) w1.heap.size u4 (liveTo E i) := HS3.out.1.below ((Below.refl _ _).alloc (Nat.le_refl _) _) (Nat.le_refl _)
          have hF : Evs (w3.alloc (.cells (evc u) 47)) (some ⟨w3.heap.size, 0, none⟩) 1 1 [u] := evs_single _ _ u hu (liesE_new w3 u)
          have hll := liveTo_len E i
          have hle : w1.heap.size ≤ (w3.alloc (.cells (evc u) 47)).heap.size := by have := HS3.out.2.1.size; simp; omega
          have HB3 : Hid (Below w1.heap.size w1 (w3.alloc (.cells (evc u) 47))) := HS3.out.2.1.alloc HS3.out.2.1.size _
          clear HS3
          go_wp2_with (first | refine load_ev rfl rfl rfl hE3 hu16 ?_ | refine build_ev1 rfl rfl rfl hu16 ?_ | refine wpList_appE rfl _ _ rfl w1.heap.size _ (liveTo E i) rfl hRow _ 1 1 [u] rfl hF (by omega) hle ?_)
          intro v4 w4 hR4 hg4 ho4
          have HS4 : Aside (Row w4 w1.heap.size v4 (liveTo E (i + 1)) ∧ Below w1.heap.size w1 w4) := ⟨by rw [HSN.out, hlive.out]; exact hR4, HB3.out.grown hg4 hle hRow.own⟩
          clear hR4 hg4 ho4 hRow hF hE3 HB3 HSN hlive hll hle
          go_wp2
          go_roundg (m - (i + 1))
          case measure => omega
          case rel => exact ⟨i + 1, by go_num, by omega, Nat.le_refl _, HS4⟩
      · have HS4 : Aside (Row W w1.heap.size u4 (liveTo E (i + 1)) ∧ Below w1.heap.size w1 W) := ⟨by rw [HSN.out, isLive, ha]; exact HS1.out.1, HS1.out.2.1⟩
        clear HS1 HSN hE1
        rw [ha]
        go_wp2
        go_roundg (m - (i + 1))
        case measure => omega
        case rel => exact ⟨i + 1, by go_num, by omega, Nat.le_refl _, HS4⟩
    · obtain rfl : i = m := by omega
      have HR : Aside (Row wr w1.heap.size u4 (liveE E) ∧ Below w1.heap.size w1 wr) := by
        have := HS.out
        rw [liveTo_all (by omega)] at this
        exact this
      clear HS
      go_wp2_with fail
      refine (sortst_any u4 (liveE E) w1.heap.size wr HR.out.1 (fun e he => hwide.out e (List.mem_filter.1 he).1) (by have : (liveE E).length ≤ E.length := List.length_filter_le _ _; omega)).mono ?_
      rintro e w5 ⟨rfl, hR5, hg5⟩
      have H5 : Hid (Row w5 w.heap.size u4 (allE E) ∧ Below w.heap.size w w5) := by
        have hb5 : Below w1.heap.size w1 w5 := HR.out.2.grown hg5 HR.out.2.size HR.out.1.own
        exact ⟨hR5.lower (by omega), HB1.out.trans (hb5.mono (by omega))⟩
      clear hR5 hg5 HR
      go_wp2
      go_ret
      exact ⟨_, rfl, H5.out⟩
end Go.Proofs.YtmlfekbmbnfkjabGreatDoor

