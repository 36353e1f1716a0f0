/-
  What the stable sort's merging comes to, whole.
-/
import Derived.Test.YtmlfekbmbnfkjabGreatDoorQ15
import Derived.Deep.CutRange
namespace Go.Proofs.YtmlfekbmbnfkjabGreatDoor
set_option maxRecDepth 100000
open Go.Shelf Go.RowKit Go.Lib Go.Sort

section
variable {P : Program} {k : Nat} {α : Type} [Inhabited α]
/-- What a merge of two pieces comes to. -/
def Merges (P : Program) (enc : α → List Value) (k : Nat) (cf : α → α → Int) (fv : Value) (blk off cap N : Nat) (w0 : World) (a m b : Nat) : Prop :=
  ∀ (d : Array α) (w : World), d.size = N → Aside (SWK enc k w0 blk off d w) → SortedIn (ltOf cf) a m d → SortedIn (ltOf cf) m b d →
    Calls P 208 #[.slice (some ⟨blk, off, none⟩) N cap, .int .i64 a, .int .i64 m, .int .i64 b, fv] w fun e w' => e = .returned (.tuple #[]) ∧ ∃ d', Aside (SWK enc k w0 blk off d' w') ∧ Aside (Stab (ltOf cf) d d' a b) ∧ Aside (SortedIn (ltOf cf) a b d')
set_option maxHeartbeats 4000000 in
set_option maxRecDepth 1000000 in
theorem sym_many (L : StAt P k) (enc : α → List Value) (cf : α → α → Int) (hS : SWO (ltOf cf)) (g : Nat) (cb : Array Value) (eg : ∀ args w, (callFunc g args).run P w = .ok (.enter g args) w) (blk off cap a m b : Nat) (d0 d : Array α) (w0 w : World)
    (hcmp : CmpLays P g cb enc k cf blk off d0.size w0) (R : RowK enc k w0 blk off d0) (hs : d0.size = d.size) (S : SWK enc k w0 blk off d w) (hb : b ≤ d.size) (ham : a + 1 < m) (hmb : m + 1 < b) (o1 : SortedIn (ltOf cf) a m d) (o2 : SortedIn (ltOf cf) m b d) (hsz : d.size ≤ 1048576)
    (IH : ∀ a' m' b', b' - a' < b - a → a' < m' → m' < b' → b' ≤ d.size → Merges P enc k cf (.func (.func g) #[] cb) blk off cap d.size w0 a' m' b'):
    Calls P 208 #[.slice (some ⟨blk, off, none⟩) d.size cap, .int .i64 (a : Nat), .int .i64 (m : Nat), .int .i64 (b : Nat), .func (.func g) #[] cb] w fun e w' => e = .returned (.tuple #[]) ∧ ∃ d', SWK enc k w0 blk off d' w' ∧ Stab (ltOf cf) d d' (a) (b) ∧ SortedIn (ltOf cf) (a) (b) d' := by
  have mixed := L.mixed; have t0 := L.t0; have a0 := L.a0; have z0 := L.z0; have v0 := L.v0; have t3 := L.t3; have a3 := L.a3; have z3 := L.z3; have v3 := L.v3; have t4 := L.t4; have a4 := L.a4; have z4 := L.z4; have v4 := L.v4; have t22 := L.ts; have a22 := L.asl; have z22 := L.zs; have v22 := L.vs; have t25 := L.tc; have a25 := L.ac; have z25 := L.zc; have v25 := L.vc; have aE := L.aE; have zE := L.zE; have tu := L.tu; have au := L.au; have zu := L.zu; have vu := L.vu
  have FG := L.fsy
  have S0 : Aside (SWK enc k w0 blk off d w) := S
  have HC : Aside _ := hcmp
  have ema : ((m : Int) - (a : Int) == 1) = false := beq_false_of_ne (by omega)
  have ebm : ((b : Int) - (m : Int) == 1) = false := beq_false_of_ne (by omega)
  have esy := L.esy
  have ero := L.ero
  have HL : Aside (StAt P k) := L
  have HIH : Aside (∀ a' m' b', b' - a' < b - a → a' < m' → m' < b' → b' ≤ d.size → Merges P enc k cf (.func (.func g) #[] cb) blk off cap d.size w0 a' m' b') := IH
  have O1 : Aside (SortedIn (ltOf cf) a m d) := o1
  have O2 : Aside (SortedIn (ltOf cf) m b d) := o2
  obtain ⟨mid, hmid⟩ : ∃ h, (a + b) / 2 = h := ⟨_, rfl⟩
  have ez0 : ((a : Int) + (b : Int)) / 2 = (mid : Int) := by rw [halfz, hmid]
  have hm1 : 2 * mid ≤ a + b := by omega
  have hm2 : a + b < 2 * mid + 2 := by omega
  obtain ⟨p, hp⟩ : ∃ p, mid + m = p + 1 := ⟨mid + m - 1, by omega⟩
  have ep : (mid : Int) + (m : Int) = (p : Int) + 1 := by omega
  have ep1 : (p : Int) + 1 - 1 = (p : Int) := by omega
  have hp1 : mid + m ≤ p + 1 := by omega
  have hp2 : p + 1 ≤ mid + m := by omega
  clear hp
  clear hmid S hcmp L IH o1 o2
  go_enter FG, Tryz.ntmps208
  go_upto_if 140 with (fail)
  go_cut [20, 21] from 129 (fun s20 s21 w' => ∃ lo hi : Nat, s20 = .int .i64 lo ∧ s21 = .int .i64 hi ∧ a ≤ lo ∧ lo ≤ hi ∧ hi ≤ m ∧ hi ≤ mid ∧ p + 1 ≤ b + lo ∧ (lo = a ∨ p + 1 = lo + b) ∧ (hi = m ∨ hi = mid) ∧ Aside (SWK enc k w0 blk off d w'))
  case first =>
    by_cases hmm : mid < m
    · have hz : (mid : Int) < (m : Int) := by omega
      go_wp2
      go_meet
      case rel => exact ⟨p + 1 - b, mid, by congr 1; omega, rfl, by omega, by omega, by omega, Nat.le_refl _, by omega, .inr (by omega), .inr rfl, S0⟩
    · have hz : ¬ (mid : Int) < (m : Int) := by omega
      go_wp2
      go_meet
      case rel => exact ⟨a, m, rfl, rfl, Nat.le_refl _, by omega, Nat.le_refl _, by omega, by omega, .inl rfl, .inl rfl, S0⟩
  case rest =>
  obtain ⟨lo, hi, rfl, rfl, l1, l2, l3, l4, l5, l6, l7, S1⟩ := hcut
  clear S0
  go_wp2
  go_loopg [20, 21] (hi - lo) (fun kx s20 s21 wr => ∃ (s r : Nat), s20 = .int .i64 s ∧ s21 = .int .i64 r ∧ lo ≤ s ∧ s ≤ r ∧ r ≤ hi ∧ r - s ≤ kx ∧ Aside (SWK enc k w0 blk off d wr) ∧ Aside (s = lo ∨ ltOf cf d[p - (s - 1)]! d[s - 1]! = false) ∧ Aside (r = hi ∨ ltOf cf d[p - r]! d[r]! = true))
  case atStart => exact ⟨lo, hi, rfl, rfl, Nat.le_refl _, l2, Nat.le_refl _, Nat.le_refl _, S1, .inl rfl, .inl rfl⟩
  case round =>
    clear S1
    obtain ⟨s, r, rfl, rfl, hi1, hsr, hrh, hkx, S1, HI, HJ⟩ := hrel
    by_cases hlt : s < r
    · have hltz : (s : Int) < (r : Int) := by omega
      obtain ⟨c, hh⟩ : ∃ h, (s + r) / 2 = h := ⟨_, rfl⟩
      have ez : ((s : Int) + (r : Int)) / 2 = (c : Int) := by rw [halfz, hh]
      have h1 : s ≤ c := by omega
      have h2 : c < r := by omega
      clear hh
      obtain ⟨z, hz⟩ : ∃ z, p - c = z := ⟨_, rfl⟩
      have ezz : (p : Int) - (c : Int) = (z : Int) := by omega
      have hzd : z < d.size := by omega
      have HZ : Aside (p - c = z) := hz
      clear hz
      cases hlv : ltOf cf d[z]! d[c]! with
      | true =>
        have HJ2 : Aside (c = hi ∨ ltOf cf d[p - c]! d[c]! = true) := .inr (by rw [HZ.out]; exact hlv)
        have ea : ((z : Int)).toNat = z := by omega
        have pa : (0 : Int) ≤ (z : Int) := by omega
        have ba : (z : Int) < (d.size : Int) := by omega
        have ra : IntKind.i64.wrap ((z : Int)) = (z : Int) := by rw [IntKind.wrap_i64]; omega
        have ec : ((c : Int)).toNat = c := by omega
        have pc : (0 : Int) ≤ (c : Int) := by omega
        have bc : (c : Int) < (d.size : Int) := by omega
        have rc : IntKind.i64.wrap ((c : Int)) = (c : Int) := by rw [IntKind.wrap_i64]; omega
        obtain ⟨x, hx⟩ : ∃ x, x = d[z]! := ⟨_, rfl⟩
        obtain ⟨y, hy⟩ : ∃ y, y = d[c]! := ⟨_, rfl⟩
        have la := S1.out.ld R (by omega) P (z) (by omega)
        have lb := S1.out.ld R (by omega) P (c) (by omega)
        rw [← hx] at la
        rw [← hy] at lb
        have hc := S1.out.cmp HC.out (by omega) x y
        have hv : cf x y < 0 := by rw [hx, hy]; exact of_decide_eq_true hlv
        have hd : decide (cf x y < 0) = true := decide_eq_true hv
        clear hx hy
        go_wp2_with fail
        go_quiet_grown (first | (go_at_fn g; refine Calls.grown_of (hc _ _)))
        have S2 : Aside (SWK enc k w0 blk off d (grow (wr.drewN nq) osq)) := S1.out.grown nq osq
        clear la lb hc S1
        generalize grow (wr.drewN nq) osq = w2 at S2 ⊢
        clear nq osq
        go_wp2
        go_roundg (c - s)
        case measure => omega
        case rel => exact ⟨s, c, rfl, rfl, hi1, h1, by omega, Nat.le_refl _, S2, HI, HJ2⟩
      | false =>
        have HI2 : Aside (c + 1 = lo ∨ ltOf cf d[p - (c + 1 - 1)]! d[c + 1 - 1]! = false) := .inr (by rw [Nat.add_sub_cancel, HZ.out]; exact hlv)
        have ea : ((z : Int)).toNat = z := by omega
        have pa : (0 : Int) ≤ (z : Int) := by omega
        have ba : (z : Int) < (d.size : Int) := by omega
        have ra : IntKind.i64.wrap ((z : Int)) = (z : Int) := by rw [IntKind.wrap_i64]; omega
        have ec : ((c : Int)).toNat = c := by omega
        have pc : (0 : Int) ≤ (c : Int) := by omega
        have bc : (c : Int) < (d.size : Int) := by omega
        have rc : IntKind.i64.wrap ((c : Int)) = (c : Int) := by rw [IntKind.wrap_i64]; omega
        obtain ⟨x, hx⟩ : ∃ x, x = d[z]! := ⟨_, rfl⟩
        obtain ⟨y, hy⟩ : ∃ y, y = d[c]! := ⟨_, rfl⟩
        have la := S1.out.ld R (by omega) P (z) (by omega)
        have lb := S1.out.ld R (by omega) P (c) (by omega)
        rw [← hx] at la
        rw [← hy] at lb
        have hc := S1.out.cmp HC.out (by omega) x y
        have hv : ¬ cf x y < 0 := by rw [hx, hy]; exact of_decide_eq_false hlv
        have hd : decide (cf x y < 0) = false := decide_eq_false hv
        clear hx hy
        go_wp2_with fail
        go_quiet_grown (first | (go_at_fn g; refine Calls.grown_of (hc _ _)))
        have S2 : Aside (SWK enc k w0 blk off d (grow (wr.drewN nq) osq)) := S1.out.grown nq osq
        clear la lb hc S1
        generalize grow (wr.drewN nq) osq = w2 at S2 ⊢
        clear nq osq
        go_wp2
        go_roundg (r - (c + 1))
        case measure => omega
        case rel => exact ⟨c + 1, r, by go_num, rfl, by omega, by omega, hrh, Nat.le_refl _, S2, HI2, HJ⟩
    · obtain rfl : s = r := by omega
      have hltz : ¬ (s : Int) < (s : Int) := by omega
      obtain ⟨e, he⟩ : ∃ e, p + 1 = s + e := ⟨p + 1 - s, by omega⟩
      have ee : (p : Int) + 1 - (s : Int) = (e : Int) := by omega
      have q1 : m ≤ e := by omega
      have q2 : e ≤ b := by omega
      have q3 : mid ≤ s + (e - m) := by omega
      have q4 : s + (e - m) ≤ mid := by omega
      have he1 : p + 1 ≤ s + e := by omega
      have he2 : s + e ≤ p + 1 := by omega
      clear he
      have K1 : Aside (s = a ∨ e = b ∨ ltOf cf d[e]! d[s - 1]! = false) := by
        rcases HI.out with h | h
        · rcases l6 with h6 | h6
          · exact .inl (by omega)
          · exact .inr (.inl (by omega))
        · by_cases h0 : s = lo
          · rcases l6 with h6 | h6
            · exact .inl (by omega)
            · exact .inr (.inl (by omega))
          · rw [show p - (s - 1) = e by omega] at h
            exact .inr (.inr h)
      have K2 : Aside (s = m ∨ e = m ∨ ltOf cf d[e - 1]! d[s]! = true) := by
        rcases HJ.out with h | h
        · rcases l7 with h7 | h7
          · exact .inl (by omega)
          · exact .inr (.inl (by omega))
        · rw [show p - s = e - 1 by omega] at h
          exact .inr (.inr h)
      clear HI HJ
      go_upto_region 39 with (fail)
      go_cut [185] from 178 to 185 (fun sx wx => ∃ t : Bool, sx = .bool t ∧ Aside (t = true ↔ s < m ∧ m < e) ∧ Aside (SWK enc k w0 blk off d wx))
      case first =>
        by_cases z1 : s < m
        · have z1' : (s : Int) < (m : Int) := by omega
          by_cases z2 : m < e
          · have z2' : (m : Int) < (e : Int) := by omega
            go_wp2
            go_meet
            case rel => exact ⟨true, rfl, ⟨fun _ => ⟨z1, z2⟩, fun _ => rfl⟩, S1⟩
          · have z2' : ¬ (m : Int) < (e : Int) := by omega
            go_wp2
            go_meet
            case rel => exact ⟨false, rfl, ⟨fun h => (Bool.false_ne_true h).elim, fun h => (z2 h.2).elim⟩, S1⟩
        · have z1' : ¬ (s : Int) < (m : Int) := by omega
          go_wp2
          go_meet
          case rel => exact ⟨false, rfl, ⟨fun h => (Bool.false_ne_true h).elim, fun h => (z1 h.1).elim⟩, S1⟩
      case rest =>
      obtain ⟨t, rfl, HT, S1x⟩ := hcut
      clear S1
      have S1 := S1x
      clear S1x
      go_upto_if 185 with (fail)
      go_cut [] from 25 (fun w' => ∃ d1, Aside (SWK enc k w0 blk off d1 w') ∧ Aside (Rot d d1 s m e))
      case first =>
        cases t with
        | true =>
          have hr : s < m ∧ m < e := HT.out.1 rfl
          clear HT
          have hc := rotate_at HL.out enc (.func (.func g) #[] cb) blk off cap s m e d0 d w0 _ R hs S1.out hr.1 hr.2 (by omega) hsz
          have HCC : Hid _ := hc
          clear hc
          go_wp2_with fail
          refine Calls.mono HCC.out ?_
          rintro e1 w1 ⟨rfl, d1, S2, hR⟩
          have S2' : Aside (SWK enc k w0 blk off d1 w1) := S2
          have HR : Aside (Rot d d1 s m e) := hR
          clear S2 hR HCC S1
          go_wp2
          go_meet
          case rel => exact ⟨d1, S2', HR⟩
        | false =>
          have hr : ¬ (s < m ∧ m < e) := fun h => Bool.false_ne_true (HT.out.2 h)
          clear HT
          have HR : Aside (Rot d d s m e) := Rot.triv d (by omega) q1 (by omega)
          go_wp2
          go_meet
          case rel => exact ⟨d, S1, HR⟩
      case rest =>
      obtain ⟨d1, S2, HR⟩ := hcut
      clear S1 HT t
      have hd1 : d1.size = d.size := HR.out.size
      have HP : Aside (SortedIn (ltOf cf) a s d1 ∧ SortedIn (ltOf cf) s mid d1 ∧ SortedIn (ltOf cf) mid e d1 ∧ SortedIn (ltOf cf) e b d1) := merge_parts (by omega) (by omega) q1 q2 (by omega) O1.out O2.out HR.out
      go_upto_region 41 with (fail)
      go_cut [199] from 192 to 199 (fun sx wx => ∃ t : Bool, sx = .bool t ∧ Aside (t = true ↔ a < s ∧ s < mid) ∧ Aside (SWK enc k w0 blk off d1 wx))
      case first =>
        by_cases z1 : a < s
        · have z1' : (a : Int) < (s : Int) := by omega
          by_cases z2 : s < mid
          · have z2' : (s : Int) < (mid : Int) := by omega
            go_wp2
            go_meet
            case rel => exact ⟨true, rfl, ⟨fun _ => ⟨z1, z2⟩, fun _ => rfl⟩, S2⟩
          · have z2' : ¬ (s : Int) < (mid : Int) := by omega
            go_wp2
            go_meet
            case rel => exact ⟨false, rfl, ⟨fun h => (Bool.false_ne_true h).elim, fun h => (z2 h.2).elim⟩, S2⟩
        · have z1' : ¬ (a : Int) < (s : Int) := by omega
          go_wp2
          go_meet
          case rel => exact ⟨false, rfl, ⟨fun h => (Bool.false_ne_true h).elim, fun h => (z1 h.1).elim⟩, S2⟩
      case rest =>
      obtain ⟨t, rfl, HT, S2x⟩ := hcut
      clear S2
      have S2 := S2x
      clear S2x
      go_upto_if 199 with (fail)
      go_cut [] from 25 (fun w' => ∃ d2, Aside (SWK enc k w0 blk off d2 w') ∧ Aside (Stab (ltOf cf) d1 d2 a mid) ∧ Aside (SortedIn (ltOf cf) a mid d2))
      case first =>
        cases t with
        | true =>
          have hr : a < s ∧ s < mid := HT.out.1 rfl
          clear HT
          have hc := HIH.out a s mid (by omega) hr.1 hr.2 (by omega) d1 _ hd1 S2 HP.out.1 HP.out.2.1
          have HCC : Hid _ := hc
          clear hc
          go_wp2_with fail
          refine Calls.mono HCC.out ?_
          rintro e1 w1 ⟨rfl, d2, T1, T2, T3⟩
          clear HCC S2
          go_wp2
          go_meet
          case rel => exact ⟨d2, T1, T2, T3⟩
        | false =>
          have hr : ¬ (a < s ∧ s < mid) := fun h => Bool.false_ne_true (HT.out.2 h)
          clear HT
          have T2 : Aside (Stab (ltOf cf) d1 d1 a mid) := Stab.refl _ _ _
          have T3 : Aside (SortedIn (ltOf cf) a mid d1) := by
            by_cases z1 : a < s
            · have : s = mid := by omega
              rw [← this]; exact HP.out.1
            · have : a = s := by omega
              rw [this]; exact HP.out.2.1
          go_wp2
          go_meet
          case rel => exact ⟨d1, S2, T2, T3⟩
      case rest =>
      obtain ⟨d2, S3, T2, T3⟩ := hcut
      clear S2 HT t
      have hd2 : d2.size = d.size := T2.out.size.trans hd1
      have HP2 : Aside (SortedIn (ltOf cf) mid e d2 ∧ SortedIn (ltOf cf) e b d2) := ⟨SortedIn.kept HP.out.2.2.1 (fun t h1 _ => T2.out.out t (.inr h1)), SortedIn.kept HP.out.2.2.2 (fun t h1 _ => T2.out.out t (.inr (by omega)))⟩
      have key : Aside (∀ d3, Stab (ltOf cf) d2 d3 mid b → SortedIn (ltOf cf) mid b d3 → Stab (ltOf cf) d d3 a b ∧ SortedIn (ltOf cf) a b d3) := fun d3 m2 s2 =>
        merge_step hS (by omega) (by omega) q1 q2 (by omega) O1.out O2.out K1.out K2.out HR.out T2.out T3.out m2 s2
      by_cases hr : mid < e ∧ e < b
      · have z1 : (mid : Int) < (e : Int) := by omega
        have z2 : (e : Int) < (b : Int) := by omega
        have hc := HIH.out mid e b (by omega) hr.1 hr.2 (by omega) d2 _ hd2 S3 HP2.out.1 HP2.out.2
        have HCC : Hid _ := hc
        clear hc
        go_wp2_with fail
        refine Calls.mono HCC.out ?_
        rintro e1 w1 ⟨rfl, d3, X1, X2, X3⟩
        clear HCC S3
        go_wp2
        go_end0
        exact ⟨rfl, d3, X1.out, key.out d3 X2.out X3.out⟩
      · have X3 : Aside (SortedIn (ltOf cf) mid b d2) := by
          by_cases z1 : mid < e
          · have : e = b := by omega
            rw [← this]; exact HP2.out.1
          · have : mid = e := by omega
            rw [this]; exact HP2.out.2
        by_cases z1 : mid < e
        · have z1' : (mid : Int) < (e : Int) := by omega
          have z2' : ¬ (e : Int) < (b : Int) := by omega
          go_wp2
          go_end0
          exact ⟨rfl, d2, S3.out, key.out d2 (Stab.refl _ _ _) X3.out⟩
        · have z1' : ¬ (mid : Int) < (e : Int) := by omega
          go_wp2
          go_end0
          exact ⟨rfl, d2, S3.out, key.out d2 (Stab.refl _ _ _) X3.out⟩

theorem sym_any (L : StAt P k) (enc : α → List Value) (cf : α → α → Int) (hS : SWO (ltOf cf)) (g : Nat) (cb : Array Value) (eg : ∀ args w, (callFunc g args).run P w = .ok (.enter g args) w) (blk off cap N : Nat) (d0 : Array α) (w0 : World)
    (hcmp : CmpLays P g cb enc k cf blk off d0.size w0) (R : RowK enc k w0 blk off d0) (hs : d0.size = N) (hsz : N ≤ 1048576) :
    ∀ (q a m b : Nat), b - a ≤ q → a < m → m < b → b ≤ N → Merges P enc k cf (.func (.func g) #[] cb) blk off cap N w0 a m b
  | 0, a, m, b, hq, h1, h2, h3 => by omega
  | q + 1, a, m, b, hq, h1, h2, h3 => by
    intro d w hd S o1 o2
    subst hd
    have fin : ∀ {e : Ending} {w' : World}, (e = .returned (.tuple #[]) ∧ ∃ d', SWK enc k w0 blk off d' w' ∧ Stab (ltOf cf) d d' a b ∧ SortedIn (ltOf cf) a b d') → e = .returned (.tuple #[]) ∧ ∃ d', Aside (SWK enc k w0 blk off d' w') ∧ Aside (Stab (ltOf cf) d d' a b) ∧ Aside (SortedIn (ltOf cf) a b d') := fun h => h
    by_cases c1 : m = a + 1
    · exact (sym_first L enc cf hS g cb eg blk off cap a m b d0 d w0 w hcmp R hs S.out c1 h3 (by omega) (by rw [← c1]; exact o2) hsz).mono fun _ _ h => fin h
    · by_cases c2 : b = m + 1
      · exact (sym_last L enc cf hS g cb eg blk off cap a m b d0 d w0 w hcmp R hs S.out c2 (by omega) (by omega) o1 hsz).mono fun _ _ h => fin h
      · exact (sym_many L enc cf hS g cb eg blk off cap a m b d0 d w0 w hcmp R hs S.out h3 (by omega) (by omega) o1 o2 hsz
          (fun a' m' b' g1 g2 g3 g4 => sym_any L enc cf hS g cb eg blk off cap d.size d0 w0 hcmp R hs hsz q a' m' b' (by omega) g2 g3 g4)).mono fun _ _ h => fin h
end
end Go.Proofs.YtmlfekbmbnfkjabGreatDoor

/-
  What slices.SortStableFunc comes to: the slice in the stable order.
-/
namespace Go.Proofs.YtmlfekbmbnfkjabGreatDoor
set_option maxRecDepth 100000
open Go.Shelf Go.RowKit Go.Lib Go.Sort

section
variable {α : Type} [Inhabited α] {lt : α → α → Bool}
/-- Blocks of s, each sorted. -/
def Blocks (lt : α → α → Bool) (s N : Nat) (d : Array α) : Prop := ∀ r, SortedIn lt (r * s) (min (r * s + s) N) d
/-- .. up to A. -/
structure Pre (lt : α → α → Bool) (s A : Nat) (d : Array α) : Prop where
  mult : ∃ q, A = q * s
  done : ∀ r, r * s + s ≤ A → SortedIn lt (r * s) (r * s + s) d
theorem Pre.start (s : Nat) (d : Array α) (hs : 0 < s) : Pre lt s 0 d := ⟨⟨0, by simp⟩, fun r h => by omega⟩
theorem Pre.step {s A : Nat} {d d' : Array α} (h : Pre lt s A d) (hm : Stab lt d d' A (A + s)) (ho : SortedIn lt A (A + s) d') : Pre lt s (A + s) d' := by
  obtain ⟨q, hq⟩ := h.mult
  refine ⟨⟨q + 1, by rw [Nat.add_mul, Nat.one_mul, ← hq]⟩, fun r hr => ?_⟩
  by_cases hc : r * s + s ≤ A
  · exact SortedIn.kept (h.done r hc) (fun t _ h2 => hm.out t (.inl (by omega)))
  · have : r = q := by
      rcases Nat.lt_trichotomy r q with h1 | h1 | h1
      · have := Nat.mul_le_mul_right s (show r + 1 ≤ q from h1)
        rw [Nat.add_mul, Nat.one_mul, ← hq] at this
        omega
      · exact h1
      · have := Nat.mul_le_mul_right s (show q + 1 ≤ r from h1)
        rw [Nat.add_mul, Nat.one_mul, ← hq] at this
        have hs0 : s = 0 := by omega
        subst hs0
        omega
    rw [this, ← hq]
    exact ho
theorem Pre.finish {s A N : Nat} {d d' : Array α} (h : Pre lt s A d) (hN : N < A + s) (hA : A ≤ N) (hm : Stab lt d d' A N) (ho : SortedIn lt A N d') : Blocks lt s N d' := by
  obtain ⟨q, hq⟩ := h.mult
  intro r
  by_cases hc : r * s + s ≤ A
  · rw [Nat.min_eq_left (by omega)]
    exact SortedIn.kept (h.done r hc) (fun t _ h2 => hm.out t (.inl (by omega)))
  · rcases Nat.lt_trichotomy r q with h1 | h1 | h1
    · have := Nat.mul_le_mul_right s (show r + 1 ≤ q from h1)
      rw [Nat.add_mul, Nat.one_mul, ← hq] at this
      omega
    · rw [h1, ← hq, Nat.min_eq_right (by omega)]
      exact ho
    · have := Nat.mul_le_mul_right s (show q + 1 ≤ r from h1)
      rw [Nat.add_mul, Nat.one_mul, ← hq] at this
      exact SortedIn.one _ (by have := Nat.min_le_right (r * s + s) N; omega)
/-- Blocks of 2 s up to A, of s from there on. -/
structure Half (lt : α → α → Bool) (s N A : Nat) (d : Array α) : Prop where
  pre : Pre lt (2 * s) A d
  post : ∀ r, A ≤ r * s → SortedIn lt (r * s) (min (r * s + s) N) d
theorem Half.start {s N : Nat} {d : Array α} (hs : 0 < s) (h : Blocks lt s N d) : Half lt s N 0 d := ⟨Pre.start _ _ (by omega), fun r _ => h r⟩
theorem Half.first {s N A : Nat} {d : Array α} (h : Half lt s N A d) : SortedIn lt A (min (A + s) N) d := by
  obtain ⟨q, hq⟩ := h.pre.mult
  have e : (2 * q) * s = A := by rw [hq, Nat.mul_comm 2 q, Nat.mul_assoc]
  have := h.post (2 * q) (by omega)
  rw [e] at this
  exact this
theorem Half.second {s N A : Nat} {d : Array α} (h : Half lt s N A d) : SortedIn lt (A + s) (min (A + s + s) N) d := by
  obtain ⟨q, hq⟩ := h.pre.mult
  have e : (2 * q + 1) * s = A + s := by rw [Nat.add_mul, Nat.one_mul, hq, Nat.mul_comm 2 q, Nat.mul_assoc]
  have := h.post (2 * q + 1) (by omega)
  rw [e] at this
  exact this
theorem Half.step {s N A : Nat} {d d' : Array α} (h : Half lt s N A d) (hm : Stab lt d d' A (A + 2 * s)) (ho : SortedIn lt A (A + 2 * s) d') : Half lt s N (A + 2 * s) d' :=
  ⟨h.pre.step hm ho, fun r hr => SortedIn.kept (h.post r (by omega)) (fun t h1 _ => hm.out t (.inr (by omega)))⟩
end

section
variable {P : Program} {k : Nat} {α : Type} [Inhabited α]
/-- What an insertion comes to. -/
def Inserts (P : Program) (enc : α → List Value) (k : Nat) (cf : α → α → Int) (fv : Value) (blk off cap N : Nat) (w0 : World) : Prop :=
  ∀ (a b : Nat) (d : Array α) (w : World), a ≤ b → b ≤ N → d.size = N → Aside (SWK enc k w0 blk off d w) →
    Calls P 207 #[.slice (some ⟨blk, off, none⟩) N cap, .int .i64 a, .int .i64 b, fv] w fun e w' => e = .returned (.tuple #[]) ∧ ∃ d', Aside (SWK enc k w0 blk off d' w') ∧ Aside (Stab (ltOf cf) d d' a b) ∧ Aside (SortedIn (ltOf cf) a b d')

set_option maxHeartbeats 4000000 in
set_option maxRecDepth 1000000 in
theorem stable_at (L : StAt P k) (ein : ∀ args w, (callFunc 207 args).run P w = .ok (.enter 207 args) w) (enc : α → List Value) (cf : α → α → Int) (fv : Value) (blk off cap N : Nat) (d : Array α) (w0 w : World)
    (hI : Inserts P enc k cf fv blk off cap N w0) (hM : ∀ a m b, a < m → m < b → b ≤ N → Merges P enc k cf fv blk off cap N w0 a m b) (hs : d.size = N) (S : SWK enc k w0 blk off d w) (hsz : N ≤ 1048576) :
    Calls P 168 #[.slice (some ⟨blk, off, none⟩) N cap, .int .i64 N, fv] w fun e w' => e = .returned (.tuple #[]) ∧ ∃ d', SWK enc k w0 blk off d' w' ∧ Stab (ltOf cf) d d' 0 N ∧ SortedIn (ltOf cf) 0 N d' := by
  have mixed := L.mixed; have t0 := L.t0; have a0 := L.a0; have z0 := L.z0; have v0 := L.v0; have t3 := L.t3; have a3 := L.a3; have z3 := L.z3; have v3 := L.v3; have t4 := L.t4; have a4 := L.a4; have z4 := L.z4; have v4 := L.v4; have t22 := L.ts; have a22 := L.asl; have z22 := L.zs; have v22 := L.vs; have t25 := L.tc; have a25 := L.ac; have z25 := L.zc; have v25 := L.vc
  have FG := L.fst
  have esy := L.esy
  have S0 : Aside (SWK enc k w0 blk off d w) := S
  have HI : Aside (Inserts P enc k cf fv blk off cap N w0) := hI
  have HM : Aside (∀ a m b, a < m → m < b → b ≤ N → Merges P enc k cf fv blk off cap N w0 a m b) := hM
  clear S L hI hM
  go_enter FG, Tryz.ntmps168
  go_wp2
  go_loopg [7, 8] N (fun kx s7 s8 wr => ∃ (A : Nat) (dk : Array α), s7 = .int .i64 A ∧ s8 = .int .i64 ((A : Int) + 20) ∧ A ≤ N ∧ N - A ≤ kx ∧ dk.size = N ∧ Aside (SWK enc k w0 blk off dk wr) ∧ Aside (Pre (ltOf cf) 20 A dk) ∧ Aside (Stab (ltOf cf) d dk 0 N))
  case atStart => exact ⟨0, d, rfl, rfl, Nat.zero_le _, by omega, hs, S0, Pre.start _ _ (by omega), Stab.refl _ _ _⟩
  case round =>
    clear S0
    obtain ⟨A, dk, rfl, rfl, hA, hkx, hds, S1, HP, HS⟩ := hrel
    by_cases hlt : A + 20 ≤ N
    · have hz : (A : Int) + 20 ≤ (N : Int) := by omega
      have ez : (A : Int) + 20 = ((A + 20 : Nat) : Int) := by omega
      have hc := HI.out A (A + 20) dk wr (by omega) hlt hds S1
      rw [← ez] at hc
      have HC : Hid _ := hc
      clear hc ez
      go_wp2_with fail
      refine Calls.mono HC.out ?_
      rintro e w1 ⟨rfl, d1, S2, T1, T2⟩
      have HP2 : Aside (Pre (ltOf cf) 20 (A + 20) d1) := HP.out.step T1.out T2.out
      have HS2 : Aside (Stab (ltOf cf) d d1 0 N) := HS.out.trans (T1.out.widen (by omega) (by omega) hlt)
      have hd1 : d1.size = N := T1.out.size.trans hds
      clear HC S1 T1 T2 HP HS
      go_wp2
      go_roundg (N - (A + 20))
      case measure => omega
      case rel => exact ⟨A + 20, d1, by go_num, by first | rfl | go_num | (congr 1; omega), hlt, Nat.le_refl _, hd1, S2, HP2, HS2⟩
    · have hz : ¬ (A : Int) + 20 ≤ (N : Int) := by omega
      have hc := HI.out A N dk wr hA (Nat.le_refl _) hds S1
      have HC : Hid _ := hc
      clear hc
      go_wp2_with fail
      refine Calls.mono HC.out ?_
      rintro e w1 ⟨rfl, d1, S2, T1, T2⟩
      have HB : Aside (Blocks (ltOf cf) 20 N d1) := HP.out.finish (by omega) hA T1.out T2.out
      have HS2 : Aside (Stab (ltOf cf) d d1 0 N) := HS.out.trans (T1.out.widen (by omega) hA (Nat.le_refl _))
      have hd1 : d1.size = N := T1.out.size.trans hds
      clear HC S1 T1 T2 HP HS
      go_wp2
      go_loopg [6, 7, 8] N (fun kx s6 s7 s8 wr2 => ∃ (s : Nat) (dk : Array α), s6 = .int .i64 s ∧ 0 < s ∧ s ≤ 2 * N + 20 ∧ N - s ≤ kx ∧ dk.size = N ∧ Aside (SWK enc k w0 blk off dk wr2) ∧ Aside (Blocks (ltOf cf) s N dk) ∧ Aside (Stab (ltOf cf) d dk 0 N))
      case atStart => exact ⟨20, d1, rfl, by omega, by omega, by omega, hd1, S2, HB, HS2⟩
      case round =>
        clear S2 HB HS2 hd1 hkx hA hz hlt hds
        obtain ⟨s, dk, rfl, hs0, hs1, hkx, hds, S1, HB, HS⟩ := hrel
        by_cases hlt : s < N
        · have hz : (s : Int) < (N : Int) := by omega
          have HH : Aside (Half (ltOf cf) s N 0 dk) := Half.start hs0 HB.out
          clear HB
          go_wp2
          go_loopg [7, 8] N (fun kx s7 s8 wr3 => ∃ (A : Nat) (dk : Array α), s7 = .int .i64 A ∧ s8 = .int .i64 ((A : Int) + 2 * (s : Int)) ∧ A ≤ N ∧ N - A ≤ kx ∧ dk.size = N ∧ Aside (SWK enc k w0 blk off dk wr3) ∧ Aside (Half (ltOf cf) s N A dk) ∧ Aside (Stab (ltOf cf) d dk 0 N))
          case atStart => exact ⟨0, dk, rfl, by first | rfl | (congr 1; omega), Nat.zero_le _, by omega, hds, S1, HH, HS⟩
          case round =>
            clear S1 HH HS hds
            obtain ⟨A, dj, rfl, rfl, hA, hkx2, hds, S1, HH, HS⟩ := hrel
            by_cases hlt2 : A + 2 * s ≤ N
            · have hz2 : (A : Int) + 2 * (s : Int) ≤ (N : Int) := by omega
              have ez1 : (A : Int) + 2 * (s : Int) = ((A + 2 * s : Nat) : Int) := by omega
              have ez2 : (A : Int) + (s : Int) = ((A + s : Nat) : Int) := by omega
              have o1 := HH.out.first
              have o2 := HH.out.second
              rw [Nat.min_eq_left (by omega)] at o1
              rw [Nat.min_eq_left (by omega), show A + s + s = A + 2 * s by omega] at o2
              have hc := HM.out A (A + s) (A + 2 * s) (by omega) (by omega) hlt2 dj wr hds S1 o1 o2
              rw [← ez1, ← ez2] at hc
              have HC : Hid _ := hc
              clear hc ez1 ez2 o1 o2
              go_wp2_with fail
              refine Calls.mono HC.out ?_
              rintro e w1 ⟨rfl, d1, S2, T1, T2⟩
              have HH2 : Aside (Half (ltOf cf) s N (A + 2 * s) d1) := HH.out.step T1.out T2.out
              have HS2 : Aside (Stab (ltOf cf) d d1 0 N) := HS.out.trans (T1.out.widen (by omega) (by omega) hlt2)
              have hd1 : d1.size = N := T1.out.size.trans hds
              clear HC S1 T1 T2 HH HS
              go_wp2
              go_roundg (N - (A + 2 * s))
              case measure => omega
              case rel => exact ⟨A + 2 * s, d1, by first | rfl | go_num | (congr 1; omega), by first | rfl | go_num | (congr 1; omega), hlt2, Nat.le_refl _, hd1, S2, HH2, HS2⟩
            · have hz2 : ¬ (A : Int) + 2 * (s : Int) ≤ (N : Int) := by omega
              by_cases hlt3 : A + s < N
              · have hz3 : (A : Int) + (s : Int) < (N : Int) := by omega
                have ez2 : (A : Int) + (s : Int) = ((A + s : Nat) : Int) := by omega
                have o1 := HH.out.first
                have o2 := HH.out.second
                rw [Nat.min_eq_left (by omega)] at o1
                rw [Nat.min_eq_right (by omega)] at o2
                have hc := HM.out A (A + s) N (by omega) hlt3 (Nat.le_refl _) dj wr hds S1 o1 o2
                rw [← ez2] at hc
                have HC : Hid _ := hc
                clear hc ez2 o1 o2
                go_wp2_with fail
                refine Calls.mono HC.out ?_
                rintro e w1 ⟨rfl, d1, S2, T1, T2⟩
                have HB2 : Aside (Blocks (ltOf cf) (2 * s) N d1) := HH.out.pre.finish (by omega) hA T1.out T2.out
                have HS2 : Aside (Stab (ltOf cf) d d1 0 N) := HS.out.trans (T1.out.widen (by omega) hA (Nat.le_refl _))
                have hd1 : d1.size = N := T1.out.size.trans hds
                clear HC S1 T1 T2 HH HS
                go_wp2
                go_roundg (N - 2 * s)
                case measure => omega
                case rel => exact ⟨2 * s, d1, by first | rfl | go_num | (congr 1; omega), by omega, by omega, Nat.le_refl _, hd1, S2, HB2, HS2⟩
              · have hz3 : ¬ (A : Int) + (s : Int) < (N : Int) := by omega
                have o1 := HH.out.first
                rw [Nat.min_eq_right (by omega)] at o1
                have HB2 : Aside (Blocks (ltOf cf) (2 * s) N dj) := HH.out.pre.finish (by omega) hA (Stab.refl _ _ _) o1
                clear HH o1
                go_wp2
                go_roundg (N - 2 * s)
                case measure => omega
                case rel => exact ⟨2 * s, dj, by first | rfl | go_num | (congr 1; omega), by omega, by omega, Nat.le_refl _, hds, S1, HB2, HS⟩
        · have hz : ¬ (s : Int) < (N : Int) := by omega
          have o := HB.out 0
          rw [Nat.zero_mul, Nat.zero_add, Nat.min_eq_right (by omega)] at o
          have HO : Aside (SortedIn (ltOf cf) 0 N dk) := o
          clear o HB
          go_wp2
          go_end0
          exact ⟨rfl, dk, S1.out, HS.out, HO.out⟩
end
end Go.Proofs.YtmlfekbmbnfkjabGreatDoor

