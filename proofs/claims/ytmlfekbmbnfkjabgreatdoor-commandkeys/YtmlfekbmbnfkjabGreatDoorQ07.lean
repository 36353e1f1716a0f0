/-
  What the stable sort's merging comes to: two sorted pieces side by side are one, and what is alike stays in order.
-/
import Derived.Test.YtmlfekbmbnfkjabGreatDoorQ06
import Derived.Shelf.SlSortCmp.QuietGrown
import Derived.Deep.CutRange
namespace Go.Proofs.YtmlfekbmbnfkjabGreatDoor
set_option maxRecDepth 100000
open Go.Shelf Go.RowKit Go.Lib Go.Sort

section
variable {P : Program} {k : Nat} {α : Type} [Inhabited α]
theorem halfz (i j : Nat) : ((i : Int) + (j : Int)) / 2 = (((i + j) / 2 : Nat) : Int) := by omega
set_option maxHeartbeats 4000000 in
set_option maxRecDepth 1000000 in
theorem sym_first (L : StAt P k) (enc : α → List Value) (cf : α → α → Int) (hS : SWO (ltOf cf)) (g : Nat) (cb : Array Value) (eg : ∀ args w, (callFunc g args).run P w = .ok (.enter g args) w) (blk off cap a m b : Nat) (d0 d : Array α) (w0 w : World)
    (hcmp : CmpLays P g cb enc k cf blk off d0.size w0) (R : RowK enc k w0 blk off d0) (hs : d0.size = d.size) (S : SWK enc k w0 blk off d w) (hm : m = a + 1) (hb : b ≤ d.size) (hab : a + 1 < b) (o2 : SortedIn (ltOf cf) (a + 1) b d) (hsz : d.size ≤ 1048576):
    Calls P 208 #[.slice (some ⟨blk, off, none⟩) d.size cap, .int .i64 (a : Nat), .int .i64 (m : Nat), .int .i64 (b : Nat), .func (.func g) #[] cb] w fun e w' => e = .returned (.tuple #[]) ∧ ∃ d', SWK enc k w0 blk off d' w' ∧ Stab (ltOf cf) d d' (a) (b) ∧ SortedIn (ltOf cf) (a) (b) d' := by
  have mixed := L.mixed; have t0 := L.t0; have a0 := L.a0; have z0 := L.z0; have v0 := L.v0; have t3 := L.t3; have a3 := L.a3; have z3 := L.z3; have v3 := L.v3; have t4 := L.t4; have a4 := L.a4; have z4 := L.z4; have v4 := L.v4; have t22 := L.ts; have a22 := L.asl; have z22 := L.zs; have v22 := L.vs; have t25 := L.tc; have a25 := L.ac; have z25 := L.zc; have v25 := L.vc; have aE := L.aE; have zE := L.zE; have tu := L.tu; have au := L.au; have zu := L.zu; have vu := L.vu
  have FG := L.fsy
  have S0 : Aside (SWK enc k w0 blk off d w) := S
  have HC : Aside _ := hcmp
  have ema : (m : Int) - (a : Int) = 1 := by omega
  have HM : Aside (m = a + 1) := hm
  clear hm
  clear S hcmp L
  go_enter FG, Tryz.ntmps208
  go_wp2
  go_loopg [10, 11] (b - a) (fun kx s10 s11 wr => ∃ (i j : Nat), s10 = .int .i64 i ∧ s11 = .int .i64 j ∧ a + 1 ≤ i ∧ i ≤ j ∧ j ≤ b ∧ j - i ≤ kx ∧ Aside (SWK enc k w0 blk off d wr) ∧ Aside (i = a + 1 ∨ ltOf cf d[i - 1]! d[a]! = true) ∧ Aside (j = b ∨ ltOf cf d[j]! d[a]! = false))
  case atStart => exact ⟨a + 1, b, by rw [HM.out], rfl, Nat.le_refl _, by omega, Nat.le_refl _, by omega, S0, .inl rfl, .inl rfl⟩
  case round =>
    clear S0
    obtain ⟨i, j, rfl, rfl, hi, hij, hjb, hkx, S1, HI, HJ⟩ := hrel
    by_cases hlt : i < j
    · have hltz : (i : Int) < (j : Int) := by omega
      obtain ⟨h, hh⟩ : ∃ h, (i + j) / 2 = h := ⟨_, rfl⟩
      have ez : ((i : Int) + (j : Int)) / 2 = (h : Int) := by rw [halfz, hh]
      have h1 : i ≤ h := by omega
      have h2 : h < j := by omega
      clear hh
      cases hlv : ltOf cf d[h]! d[a]! with
      | true =>
        have HI2 : Aside (h + 1 = a + 1 ∨ ltOf cf d[h + 1 - 1]! d[a]! = true) := .inr (by rw [Nat.add_sub_cancel]; exact hlv)
        have ea : ((h : Int)).toNat = h := by omega
        have pa : (0 : Int) ≤ (h : Int) := by omega
        have ba : (h : Int) < (d.size : Int) := by omega
        have ra : IntKind.i64.wrap ((h : Int)) = (h : Int) := by rw [IntKind.wrap_i64]; omega
        have ec : ((a : Int)).toNat = a := by omega
        have pc : (0 : Int) ≤ (a : Int) := by omega
        have bc : (a : Int) < (d.size : Int) := by omega
        have rc : IntKind.i64.wrap ((a : Int)) = (a : Int) := by rw [IntKind.wrap_i64]; omega
        obtain ⟨x, hx⟩ : ∃ x, x = d[h]! := ⟨_, rfl⟩
        obtain ⟨y, hy⟩ : ∃ y, y = d[a]! := ⟨_, rfl⟩
        have la := S1.out.ld R (by omega) P (h) (by omega)
        have lb := S1.out.ld R (by omega) P (a) (by omega)
        rw [← hx] at la
        rw [← hy] at lb
        have hc := S1.out.cmp HC.out (by omega) x y
        have hv : cf x y < 0 := by rw [hx, hy]; exact of_decide_eq_true hlv
        have hd : decide (cf x y < 0) = true := decide_eq_true hv
        clear hx hy
        go_wp2_with fail
        go_quiet_grown (first | (go_at_fn g; refine Calls.grown_of (hc _ _)))
        have S2 : Aside (SWK enc k w0 blk off d (grow (wr.drewN nq) osq)) := S1.out.grown nq osq
        clear la lb hc S1
        generalize grow (wr.drewN nq) osq = w2 at S2 ⊢
        clear nq osq
        go_wp2
        go_roundg (j - (h + 1))
        case measure => omega
        case rel => exact ⟨h + 1, j, by go_num, rfl, by omega, by omega, hjb, Nat.le_refl _, S2, HI2, HJ⟩
      | false =>
        have HJ2 : Aside (h = b ∨ ltOf cf d[h]! d[a]! = false) := .inr hlv
        have ea : ((h : Int)).toNat = h := by omega
        have pa : (0 : Int) ≤ (h : Int) := by omega
        have ba : (h : Int) < (d.size : Int) := by omega
        have ra : IntKind.i64.wrap ((h : Int)) = (h : Int) := by rw [IntKind.wrap_i64]; omega
        have ec : ((a : Int)).toNat = a := by omega
        have pc : (0 : Int) ≤ (a : Int) := by omega
        have bc : (a : Int) < (d.size : Int) := by omega
        have rc : IntKind.i64.wrap ((a : Int)) = (a : Int) := by rw [IntKind.wrap_i64]; omega
        obtain ⟨x, hx⟩ : ∃ x, x = d[h]! := ⟨_, rfl⟩
        obtain ⟨y, hy⟩ : ∃ y, y = d[a]! := ⟨_, rfl⟩
        have la := S1.out.ld R (by omega) P (h) (by omega)
        have lb := S1.out.ld R (by omega) P (a) (by omega)
        rw [← hx] at la
        rw [← hy] at lb
        have hc := S1.out.cmp HC.out (by omega) x y
        have hv : ¬ cf x y < 0 := by rw [hx, hy]; exact of_decide_eq_false hlv
        have hd : decide (cf x y < 0) = false := decide_eq_false hv
        clear hx hy
        go_wp2_with fail
        go_quiet_grown (first | (go_at_fn g; refine Calls.grown_of (hc _ _)))
        have S2 : Aside (SWK enc k w0 blk off d (grow (wr.drewN nq) osq)) := S1.out.grown nq osq
        clear la lb hc S1
        generalize grow (wr.drewN nq) osq = w2 at S2 ⊢
        clear nq osq
        go_wp2
        go_roundg (h - i)
        case measure => omega
        case rel => exact ⟨i, h, rfl, rfl, hi, h1, by omega, Nat.le_refl _, S2, HI, HJ2⟩
    · obtain rfl : i = j := by omega
      have hltz : ¬ (i : Int) < (i : Int) := by omega
      have key : Aside (∀ d1, Rot d d1 a (a + 1) i → Stab (ltOf cf) d d1 a b ∧ SortedIn (ltOf cf) a b d1) := fun d1 hR => merge_first hS hi hjb o2 HI.out HJ.out hR
      clear HI HJ
      go_wp2
      go_loopg [13] (i - a) (fun kx s13 wr2 => ∃ (q : Nat) (dk : Array α), s13 = .int .i64 q ∧ a ≤ q ∧ q + 1 ≤ i ∧ i - q ≤ kx ∧ dk.size = d.size ∧ Aside (SWK enc k w0 blk off dk wr2) ∧ Aside (Rot d dk a (a + 1) (q + 1)))
      case atStart => exact ⟨a, d, rfl, Nat.le_refl _, hi, by omega, rfl, S1, Rot.triv d (by omega) (by omega) (.inr rfl)⟩
      case round =>
        clear S1
        obtain ⟨q, dk, rfl, haq, hqi, hkx2, hds, S1, HR⟩ := hrel
        by_cases hlt2 : q < i - 1
        · have hltz2 : (q : Int) < (i : Int) - 1 := by omega
          have HR2 : Aside (Rot d (swp dk q (q + 1)) a (a + 1) (q + 1 + 1)) := rot_up haq (by omega) HR.out
          have ea : ((q : Int)).toNat = q := by omega
          have pa : (0 : Int) ≤ (q : Int) := by omega
          have ba : (q : Int) < (d.size : Int) := by omega
          have ra : IntKind.i64.wrap ((q : Int)) = (q : Int) := by rw [IntKind.wrap_i64]; omega
          have ec : (((q : Int) + 1)).toNat = q + 1 := by omega
          have pc : (0 : Int) ≤ ((q : Int) + 1) := by omega
          have bc : ((q : Int) + 1) < (d.size : Int) := by omega
          have rc : IntKind.i64.wrap (((q : Int) + 1)) = ((q : Int) + 1) := by rw [IntKind.wrap_i64]; omega
          have S2 : Aside (SWK enc k w0 blk off (swp dk (q) (q + 1)) ((wr.drew.setCells blk (off + (q) * k) (enc dk[q + 1]!)).setCells blk (off + (q + 1) * k) (enc dk[q]!))) := S1.out.swapped R (q) (q + 1) (by omega) (by omega)
          have la := S1.out.ld1 R (by omega) P (q) (by omega)
          have lb := S1.out.ld1 R (by omega) P (q + 1) (by omega)
          have sa := S1.out.st1 R (by omega) P (q) (by omega) dk[q + 1]!
          have sb := S1.out.st2 R (by omega) P (q) (q + 1) (by omega) (by omega) dk[q + 1]! dk[q]!
          have na : (enc dk[q]!).length = k := R.hk _
          have nb : (enc dk[q + 1]!).length = k := R.hk _
          generalize enc dk[q]! = cI at S2 la sb na
          generalize enc dk[q + 1]! = cJ at S2 lb sa sb nb
          clear S1
          go_wp2_with fail
          go_big_region_o
          clear la lb sa sb
          generalize (wr.drew.setCells blk (off + (q) * k) cJ).setCells blk (off + (q + 1) * k) cI = w2 at S2 ⊢
          go_wp2
          go_roundg (i - (q + 1))
          case measure => omega
          case rel => exact ⟨q + 1, swp dk q (q + 1), by go_num, by omega, by omega, Nat.le_refl _, by rw [size_swp']; exact hds, S2, HR2⟩
        · have hltz2 : ¬ (q : Int) < (i : Int) - 1 := by omega
          obtain rfl : i = q + 1 := by omega
          go_wp2
          refine bodyPost_ret (results_none rfl _ _ _) rfl ?_
          exact ⟨rfl, dk, S1.out, key.out dk HR.out⟩
set_option maxHeartbeats 4000000 in
set_option maxRecDepth 1000000 in
theorem sym_last (L : StAt P k) (enc : α → List Value) (cf : α → α → Int) (hS : SWO (ltOf cf)) (g : Nat) (cb : Array Value) (eg : ∀ args w, (callFunc g args).run P w = .ok (.enter g args) w) (blk off cap a m b : Nat) (d0 d : Array α) (w0 w : World)
    (hcmp : CmpLays P g cb enc k cf blk off d0.size w0) (R : RowK enc k w0 blk off d0) (hs : d0.size = d.size) (S : SWK enc k w0 blk off d w) (hm : b = m + 1) (hb : m + 1 ≤ d.size) (ham : a + 1 < m) (o1 : SortedIn (ltOf cf) a m d) (hsz : d.size ≤ 1048576):
    Calls P 208 #[.slice (some ⟨blk, off, none⟩) d.size cap, .int .i64 (a : Nat), .int .i64 (m : Nat), .int .i64 (b : Nat), .func (.func g) #[] cb] w fun e w' => e = .returned (.tuple #[]) ∧ ∃ d', SWK enc k w0 blk off d' w' ∧ Stab (ltOf cf) d d' (a) (b) ∧ SortedIn (ltOf cf) (a) (b) d' := by
  have mixed := L.mixed; have t0 := L.t0; have a0 := L.a0; have z0 := L.z0; have v0 := L.v0; have t3 := L.t3; have a3 := L.a3; have z3 := L.z3; have v3 := L.v3; have t4 := L.t4; have a4 := L.a4; have z4 := L.z4; have v4 := L.v4; have t22 := L.ts; have a22 := L.asl; have z22 := L.zs; have v22 := L.vs; have t25 := L.tc; have a25 := L.ac; have z25 := L.zc; have v25 := L.vc; have aE := L.aE; have zE := L.zE; have tu := L.tu; have au := L.au; have zu := L.zu; have vu := L.vu
  have FG := L.fsy
  have S0 : Aside (SWK enc k w0 blk off d w) := S
  have HC : Aside _ := hcmp
  have ema : ((m : Int) - (a : Int) == 1) = false := beq_false_of_ne (by omega)
  have ebm : (b : Int) - (m : Int) = 1 := by omega
  have HM : Aside (b = m + 1) := hm
  clear hm
  clear S hcmp L
  go_enter FG, Tryz.ntmps208
  go_wp2
  go_loopg [14, 15] (m - a) (fun kx s14 s15 wr => ∃ (i j : Nat), s14 = .int .i64 i ∧ s15 = .int .i64 j ∧ a ≤ i ∧ i ≤ j ∧ j ≤ m ∧ j - i ≤ kx ∧ Aside (SWK enc k w0 blk off d wr) ∧ Aside (i = a ∨ ltOf cf d[m]! d[i - 1]! = false) ∧ Aside (j = m ∨ ltOf cf d[m]! d[j]! = true))
  case atStart => exact ⟨a, m, rfl, rfl, Nat.le_refl _, by omega, Nat.le_refl _, by omega, S0, .inl rfl, .inl rfl⟩
  case round =>
    clear S0
    obtain ⟨i, j, rfl, rfl, hi, hij, hjb, hkx, S1, HI, HJ⟩ := hrel
    by_cases hlt : i < j
    · have hltz : (i : Int) < (j : Int) := by omega
      obtain ⟨h, hh⟩ : ∃ h, (i + j) / 2 = h := ⟨_, rfl⟩
      have ez : ((i : Int) + (j : Int)) / 2 = (h : Int) := by rw [halfz, hh]
      have h1 : i ≤ h := by omega
      have h2 : h < j := by omega
      clear hh
      cases hlv : ltOf cf d[m]! d[h]! with
      | true =>
        have HJ2 : Aside (h = m ∨ ltOf cf d[m]! d[h]! = true) := .inr hlv
        have ea : ((m : Int)).toNat = m := by omega
        have pa : (0 : Int) ≤ (m : Int) := by omega
        have ba : (m : Int) < (d.size : Int) := by omega
        have ra : IntKind.i64.wrap ((m : Int)) = (m : Int) := by rw [IntKind.wrap_i64]; omega
        have ec : ((h : Int)).toNat = h := by omega
        have pc : (0 : Int) ≤ (h : Int) := by omega
        have bc : (h : Int) < (d.size : Int) := by omega
        have rc : IntKind.i64.wrap ((h : Int)) = (h : Int) := by rw [IntKind.wrap_i64]; omega
        obtain ⟨x, hx⟩ : ∃ x, x = d[m]! := ⟨_, rfl⟩
        obtain ⟨y, hy⟩ : ∃ y, y = d[h]! := ⟨_, rfl⟩
        have la := S1.out.ld R (by omega) P (m) (by omega)
        have lb := S1.out.ld R (by omega) P (h) (by omega)
        rw [← hx] at la
        rw [← hy] at lb
        have hc := S1.out.cmp HC.out (by omega) x y
        have hv : cf x y < 0 := by rw [hx, hy]; exact of_decide_eq_true hlv
        have hd : decide (cf x y < 0) = true := decide_eq_true hv
        clear hx hy
        go_wp2_with fail
        go_quiet_grown (first | (go_at_fn g; refine Calls.grown_of (hc _ _)))
        have S2 : Aside (SWK enc k w0 blk off d (grow (wr.drewN nq) osq)) := S1.out.grown nq osq
        clear la lb hc S1
        generalize grow (wr.drewN nq) osq = w2 at S2 ⊢
        clear nq osq
        go_wp2
        go_roundg (h - i)
        case measure => omega
        case rel => exact ⟨i, h, rfl, rfl, hi, h1, by omega, Nat.le_refl _, S2, HI, HJ2⟩
      | false =>
        have HI2 : Aside (h + 1 = a ∨ ltOf cf d[m]! d[h + 1 - 1]! = false) := .inr (by rw [Nat.add_sub_cancel]; exact hlv)
        have ea : ((m : Int)).toNat = m := by omega
        have pa : (0 : Int) ≤ (m : Int) := by omega
        have ba : (m : Int) < (d.size : Int) := by omega
        have ra : IntKind.i64.wrap ((m : Int)) = (m : Int) := by rw [IntKind.wrap_i64]; omega
        have ec : ((h : Int)).toNat = h := by omega
        have pc : (0 : Int) ≤ (h : Int) := by omega
        have bc : (h : Int) < (d.size : Int) := by omega
        have rc : IntKind.i64.wrap ((h : Int)) = (h : Int) := by rw [IntKind.wrap_i64]; omega
        obtain ⟨x, hx⟩ : ∃ x, x = d[m]! := ⟨_, rfl⟩
        obtain ⟨y, hy⟩ : ∃ y, y = d[h]! := ⟨_, rfl⟩
        have la := S1.out.ld R (by omega) P (m) (by omega)
        have lb := S1.out.ld R (by omega) P (h) (by omega)
        rw [← hx] at la
        rw [← hy] at lb
        have hc := S1.out.cmp HC.out (by omega) x y
        have hv : ¬ cf x y < 0 := by rw [hx, hy]; exact of_decide_eq_false hlv
        have hd : decide (cf x y < 0) = false := decide_eq_false hv
        clear hx hy
        go_wp2_with fail
        go_quiet_grown (first | (go_at_fn g; refine Calls.grown_of (hc _ _)))
        have S2 : Aside (SWK enc k w0 blk off d (grow (wr.drewN nq) osq)) := S1.out.grown nq osq
        clear la lb hc S1
        generalize grow (wr.drewN nq) osq = w2 at S2 ⊢
        clear nq osq
        go_wp2
        go_roundg (j - (h + 1))
        case measure => omega
        case rel => exact ⟨h + 1, j, by go_num, rfl, by omega, by omega, hjb, Nat.le_refl _, S2, HI2, HJ⟩
    · obtain rfl : i = j := by omega
      have hltz : ¬ (i : Int) < (i : Int) := by omega
      have key : Aside (∀ d1, Rot d d1 i m (m + 1) → Stab (ltOf cf) d d1 a b ∧ SortedIn (ltOf cf) a b d1) := fun d1 hR => HM.out.symm ▸ merge_last hS hi hjb o1 HI.out HJ.out hR
      clear HI HJ
      go_wp2
      go_loopg [17] (m - i) (fun kx s17 wr2 => ∃ (q : Nat) (dk : Array α), s17 = .int .i64 q ∧ i ≤ q ∧ q ≤ m ∧ q - i ≤ kx ∧ dk.size = d.size ∧ Aside (SWK enc k w0 blk off dk wr2) ∧ Aside (Rot d dk q m (m + 1)))
      case atStart => exact ⟨m, d, rfl, hjb, Nat.le_refl _, by omega, rfl, S1, Rot.triv d (by omega) (by omega) (.inl rfl)⟩
      case round =>
        clear S1
        obtain ⟨q, dk, rfl, hiq, hqm, hkx2, hds, S1, HR⟩ := hrel
        by_cases hlt2 : i < q
        · obtain ⟨p, rfl⟩ : ∃ p, q = p + 1 := ⟨q - 1, by omega⟩
          have hltz2 : (i : Int) < ((p + 1 : Nat) : Int) := by omega
          have HR2 : Aside (Rot d (swp dk (p + 1) p) p m (m + 1)) := rot_down hqm (by omega) HR.out
          have pz : ((p + 1 : Nat) : Int) - 1 = (p : Int) := by omega
          have ea : (((p + 1 : Nat) : Int)).toNat = p + 1 := by omega
          have pa : (0 : Int) ≤ ((p + 1 : Nat) : Int) := by omega
          have ba : ((p + 1 : Nat) : Int) < (d.size : Int) := by omega
          have ra : IntKind.i64.wrap (((p + 1 : Nat) : Int)) = ((p + 1 : Nat) : Int) := by rw [IntKind.wrap_i64]; omega
          have ec : ((p : Int)).toNat = p := by omega
          have pc : (0 : Int) ≤ (p : Int) := by omega
          have bc : (p : Int) < (d.size : Int) := by omega
          have rc : IntKind.i64.wrap ((p : Int)) = (p : Int) := by rw [IntKind.wrap_i64]; omega
          have S2 : Aside (SWK enc k w0 blk off (swp dk (p + 1) (p)) ((wr.drew.setCells blk (off + (p + 1) * k) (enc dk[p]!)).setCells blk (off + (p) * k) (enc dk[p + 1]!))) := S1.out.swapped R (p + 1) (p) (by omega) (by omega)
          have la := S1.out.ld1 R (by omega) P (p + 1) (by omega)
          have lb := S1.out.ld1 R (by omega) P (p) (by omega)
          have sa := S1.out.st1 R (by omega) P (p + 1) (by omega) dk[p]!
          have sb := S1.out.st2 R (by omega) P (p + 1) (p) (by omega) (by omega) dk[p]! dk[p + 1]!
          have na : (enc dk[p + 1]!).length = k := R.hk _
          have nb : (enc dk[p]!).length = k := R.hk _
          generalize enc dk[p + 1]! = cI at S2 la sb na
          generalize enc dk[p]! = cJ at S2 lb sa sb nb
          clear S1
          go_wp2_with fail
          go_big_region_o
          clear la lb sa sb
          generalize (wr.drew.setCells blk (off + (p + 1) * k) cJ).setCells blk (off + (p) * k) cI = w2 at S2 ⊢
          go_wp2
          go_roundg (p - i)
          case measure => omega
          case rel => exact ⟨p, swp dk (p + 1) p, by first | rfl | go_num | (congr 1; omega), by omega, by omega, Nat.le_refl _, by rw [size_swp']; exact hds, S2, HR2⟩
        · have hltz2 : ¬ (i : Int) < (q : Int) := by omega
          obtain rfl : i = q := by omega
          go_wp2
          refine bodyPost_ret (results_none rfl _ _ _) rfl ?_
          exact ⟨rfl, dk, S1.out, key.out dk HR.out⟩
end

end Go.Proofs.YtmlfekbmbnfkjabGreatDoor

/-
  What the stable sort's merging comes to, whole.
-/
namespace Go.Proofs.YtmlfekbmbnfkjabGreatDoor
set_option maxRecDepth 100000
open Go.Shelf Go.RowKit Go.Lib Go.Sort

section
variable {P : Program} {k : Nat} {α : Type} [Inhabited α]
/-- What a merge of two pieces comes to. -/
def Merges (P : Program) (enc : α → List Value) (k : Nat) (cf : α → α → Int) (fv : Value) (blk off cap N : Nat) (w0 : World) (a m b : Nat) : Prop :=
  ∀ (d : Array α) (w : World), d.size = N → Aside (SWK enc k w0 blk off d w) → SortedIn (ltOf cf) a m d → SortedIn (ltOf cf) m b d →
    Calls P 208 #[.slice (some ⟨blk, off, none⟩) N cap, .int .i64 a, .int .i64 m, .int .i64 b, fv] w fun e w' => e = .returned (.tuple #[]) ∧ ∃ d', Aside (SWK enc k w0 blk off d' w') ∧ Aside (Stab (ltOf cf) d d' a b) ∧ Aside (SortedIn (ltOf cf) a b d')
set_option maxHeartbeats 4000000 in
set_option maxRecDepth 1000000 in
theorem sym_many (L : StAt P k) (enc : α → List Value) (cf : α → α → Int) (hS : SWO (ltOf cf)) (g : Nat) (cb : Array Value) (eg : ∀ args w, (callFunc g args).run P w = .ok (.enter g args) w) (blk off cap a m b : Nat) (d0 d : Array α) (w0 w : World)
    (hcmp : CmpLays P g cb enc k cf blk off d0.size w0) (R : RowK enc k w0 blk off d0) (hs : d0.size = d.size) (S : SWK enc k w0 blk off d w) (hb : b ≤ d.size) (ham : a + 1 < m) (hmb : m + 1 < b) (o1 : SortedIn (ltOf cf) a m d) (o2 : SortedIn (ltOf cf) m b d) (hsz : d.size ≤ 1048576)
    (IH : ∀ a' m' b', b' - a' < b - a → a' < m' → m' < b' → b' ≤ d.size → Merges P enc k cf (.func (.func g) #[] cb) blk off cap d.size w0 a' m' b'):
    Calls P 208 #[.slice (some ⟨blk, off, none⟩) d.size cap, .int .i64 (a : Nat), .int .i64 (m : Nat), .int .i64 (b : Nat), .func (.func g) #[] cb] w fun e w' => e = .returned (.tuple #[]) ∧ ∃ d', SWK enc k w0 blk off d' w' ∧ Stab (ltOf cf) d d' (a) (b) ∧ SortedIn (ltOf cf) (a) (b) d' := by
  have mixed := L.mixed; have t0 := L.t0; have a0 := L.a0; have z0 := L.z0; have v0 := L.v0; have t3 := L.t3; have a3 := L.a3; have z3 := L.z3; have v3 := L.v3; have t4 := L.t4; have a4 := L.a4; have z4 := L.z4; have v4 := L.v4; have t22 := L.ts; have a22 := L.asl; have z22 := L.zs; have v22 := L.vs; have t25 := L.tc; have a25 := L.ac; have z25 := L.zc; have v25 := L.vc; have aE := L.aE; have zE := L.zE; have tu := L.tu; have au := L.au; have zu := L.zu; have vu := L.vu
  have FG := L.fsy
  have S0 : Aside (SWK enc k w0 blk off d w) := S
  have HC : Aside _ := hcmp
  have ema : ((m : Int) - (a : Int) == 1) = false := beq_false_of_ne (by omega)
  have ebm : ((b : Int) - (m : Int) == 1) = false := beq_false_of_ne (by omega)
  have esy := L.esy
  have ero := L.ero
  have HL : Aside (StAt P k) := L
  have HIH : Aside (∀ a' m' b', b' - a' < b - a → a' < m' → m' < b' → b' ≤ d.size → Merges P enc k cf (.func (.func g) #[] cb) blk off cap d.size w0 a' m' b') := IH
  have O1 : Aside (SortedIn (ltOf cf) a m d) := o1
  have O2 : Aside (SortedIn (ltOf cf) m b d) := o2
  obtain ⟨mid, hmid⟩ : ∃ h, (a + b) / 2 = h := ⟨_, rfl⟩
  have ez0 : ((a : Int) + (b : Int)) / 2 = (mid : Int) := by rw [halfz, hmid]
  have hm1 : 2 * mid ≤ a + b := by omega
  have hm2 : a + b < 2 * mid + 2 := by omega
  obtain ⟨p, hp⟩ : ∃ p, mid + m = p + 1 := ⟨mid + m - 1, by omega⟩
  have ep : (mid : Int) + (m : Int) = (p : Int) + 1 := by omega
  have ep1 : (p : Int) + 1 - 1 = (p : Int) := by omega
  have hp1 : mid + m ≤ p + 1 := by omega
  have hp2 : p + 1 ≤ mid + m := by omega
  clear hp
  clear hmid S hcmp L IH o1 o2
  go_enter FG, Tryz.ntmps208
  go_upto_if 140 with (fail)
  go_cut [20, 21] from 129 (fun s20 s21 w' => ∃ lo hi : Nat, s20 = .int .i64 lo ∧ s21 = .int .i64 hi ∧ a ≤ lo ∧ lo ≤ hi ∧ hi ≤ m ∧ hi ≤ mid ∧ p + 1 ≤ b + lo ∧ (lo = a ∨ p + 1 = lo + b) ∧ (hi = m ∨ hi = mid) ∧ Aside (SWK enc k w0 blk off d w'))
  case first =>
    by_cases hmm : mid < m
    · have hz : (mid : Int) < (m : Int) := by omega
      go_wp2
      go_meet
      case rel => exact ⟨p + 1 - b, mid, by congr 1; omega, rfl, by omega, by omega, by omega, Nat.le_refl _, by omega, .inr (by omega), .inr rfl, S0⟩
    · have hz : ¬ (mid : Int) < (m : Int) := by omega
      go_wp2
      go_meet
      case rel => exact ⟨a, m, rfl, rfl, Nat.le_refl _, by omega, Nat.le_refl _, by omega, by omega, .inl rfl, .inl rfl, S0⟩
  case rest =>
  obtain ⟨lo, hi, rfl, rfl, l1, l2, l3, l4, l5, l6, l7, S1⟩ := hcut
  clear S0
  go_wp2
  go_loopg [20, 21] (hi - lo) (fun kx s20 s21 wr => ∃ (s r : Nat), s20 = .int .i64 s ∧ s21 = .int .i64 r ∧ lo ≤ s ∧ s ≤ r ∧ r ≤ hi ∧ r - s ≤ kx ∧ Aside (SWK enc k w0 blk off d wr) ∧ Aside (s = lo ∨ ltOf cf d[p - (s - 1)]! d[s - 1]! = false) ∧ Aside (r = hi ∨ ltOf cf d[p - r]! d[r]! = true))
  case atStart => exact ⟨lo, hi, rfl, rfl, Nat.le_refl _, l2, Nat.le_refl _, Nat.le_refl _, S1, .inl rfl, .inl rfl⟩
  case round =>
    clear S1
    obtain ⟨s, r, rfl, rfl, hi1, hsr, hrh, hkx, S1, HI, HJ⟩ := hrel
    by_cases hlt : s < r
    · have hltz : (s : Int) < (r : Int) := by omega
      obtain ⟨c, hh⟩ : ∃ h, (s + r) / 2 = h := ⟨_, rfl⟩
      have ez : ((s : Int) + (r : Int)) / 2 = (c : Int) := by rw [halfz, hh]
      have h1 : s ≤ c := by omega
      have h2 : c < r := by omega
      clear hh
      obtain ⟨z, hz⟩ : ∃ z, p - c = z := ⟨_, rfl⟩
      have ezz : (p : Int) - (c : Int) = (z : Int) := by omega
      have hzd : z < d.size := by omega
      have HZ : Aside (p - c = z) := hz
      clear hz
      cases hlv : ltOf cf d[z]! d[c]! with
      | true =>
        have HJ2 : Aside (c = hi ∨ ltOf cf d[p - c]! d[c]! = true) := .inr (by rw [HZ.out]; exact hlv)
        have ea : ((z : Int)).toNat = z := by omega
        have pa : (0 : Int) ≤ (z : Int) := by omega
        have ba : (z : Int) < (d.size : Int) := by omega
        have ra : IntKind.i64.wrap ((z : Int)) = (z : Int) := by rw [IntKind.wrap_i64]; omega
        have ec : ((c : Int)).toNat = c := by omega
        have pc : (0 : Int) ≤ (c : Int) := by omega
        have bc : (c : Int) < (d.size : Int) := by omega
        have rc : IntKind.i64.wrap ((c : Int)) = (c : Int) := by rw [IntKind.wrap_i64]; omega
        obtain ⟨x, hx⟩ : ∃ x, x = d[z]! := ⟨_, rfl⟩
        obtain ⟨y, hy⟩ : ∃ y, y = d[c]! := ⟨_, rfl⟩
        have la := S1.out.ld R (by omega) P (z) (by omega)
        have lb := S1.out.ld R (by omega) P (c) (by omega)
        rw [← hx] at la
        rw [← hy] at lb
        have hc := S1.out.cmp HC.out (by omega) x y
        have hv : cf x y < 0 := by rw [hx, hy]; exact of_decide_eq_true hlv
        have hd : decide (cf x y < 0) = true := decide_eq_true hv
        clear hx hy
        go_wp2_with fail
        go_quiet_grown (first | (go_at_fn g; refine Calls.grown_of (hc _ _)))
        have S2 : Aside (SWK enc k w0 blk off d (grow (wr.drewN nq) osq)) := S1.out.grown nq osq
        clear la lb hc S1
        generalize grow (wr.drewN nq) osq = w2 at S2 ⊢
        clear nq osq
        go_wp2
        go_roundg (c - s)
        case measure => omega
        case rel => exact ⟨s, c, rfl, rfl, hi1, h1, by omega, Nat.le_refl _, S2, HI, HJ2⟩
      | false =>
        have HI2 : Aside (c + 1 = lo ∨ ltOf cf d[p - (c + 1 - 1)]! d[c + 1 - 1]! = false) := .inr (by rw [Nat.add_sub_cancel, HZ.out]; exact hlv)
        have ea : ((z : Int)).toNat = z := by omega
        have pa : (0 : Int) ≤ (z : Int) := by omega
        have ba : (z : Int) < (d.size : Int) := by omega
        have ra : IntKind.i64.wrap ((z : Int)) = (z : Int) := by rw [IntKind.wrap_i64]; omega
        have ec : ((c : Int)).toNat = c := by omega
        have pc : (0 : Int) ≤ (c : Int) := by omega
        have bc : (c : Int) < (d.size : Int) := by omega
        have rc : IntKind.i64.wrap ((c : Int)) = (c : Int) := by rw [IntKind.wrap_i64]; omega
        obtain ⟨x, hx⟩ : ∃ x, x = d[z]! := ⟨_, rfl⟩
        obtain ⟨y, hy⟩ : ∃ y, y = d[c]! := ⟨_, rfl⟩
        have la := S1.out.ld R (by omega) P (z) (by omega)
        have lb := S1.out.ld R (by omega) P (c) (by omega)
        rw [← hx] at la
        rw [← hy] at lb
        have hc := S1.out.cmp HC.out (by omega) x y
        have hv : ¬ cf x y < 0 := by rw [hx, hy]; exact of_decide_eq_false hlv
        have hd : decide (cf x y < 0) = false := decide_eq_false hv
        clear hx hy
        go_wp2_with fail
        go_quiet_grown (first | (go_at_fn g; refine Calls.grown_of (hc _ _)))
        have S2 : Aside (SWK enc k w0 blk off d (grow (wr.drewN nq) osq)) := S1.out.grown nq osq
        clear la lb hc S1
        generalize grow (wr.drewN nq) osq = w2 at S2 ⊢
        clear nq osq
        go_wp2
        go_roundg (r - (c + 1))
        case measure => omega
        case rel => exact ⟨c + 1, r, by go_num, rfl, by omega, by omega, hrh, Nat.le_refl _, S2, HI2, HJ⟩
    · obtain rfl : s = r := by omega
      have hltz : ¬ (s : Int) < (s : Int) := by omega
      obtain ⟨e, he⟩ : ∃ e, p + 1 = s + e := ⟨p + 1 - s, by omega⟩
      have ee : (p : Int) + 1 - (s : Int) = (e : Int) := by omega
      have q1 : m ≤ e := by omega
      have q2 : e ≤ b := by omega
      have q3 : mid ≤ s + (e - m) := by omega
      have q4 : s + (e - m) ≤ mid := by omega
      have he1 : p + 1 ≤ s + e := by omega
      have he2 : s + e ≤ p + 1 := by omega
      clear he
      have K1 : Aside (s = a ∨ e = b ∨ ltOf cf d[e]! d[s - 1]! = false) := by
        rcases HI.out with h | h
        · rcases l6 with h6 | h6
          · exact .inl (by omega)
          · exact .inr (.inl (by omega))
        · by_cases h0 : s = lo
          · rcases l6 with h6 | h6
            · exact .inl (by omega)
            · exact .inr (.inl (by omega))
          · rw [show p - (s - 1) = e by omega] at h
            exact .inr (.inr h)
      have K2 : Aside (s = m ∨ e = m ∨ ltOf cf d[e - 1]! d[s]! = true) := by
        rcases HJ.out with h | h
        · rcases l7 with h7 | h7
          · exact .inl (by omega)
          · exact .inr (.inl (by omega))
        · rw [show p - s = e - 1 by omega] at h
          exact .inr (.inr h)
      clear HI HJ
      go_upto_region 39 with (fail)
      go_cut [185] from 178 to 185 (fun sx wx => ∃ t : Bool, sx = .bool t ∧ Aside (t = true ↔ s < m ∧ m < e) ∧ Aside (SWK enc k w0 blk off d wx))
      case first =>
        by_cases z1 : s < m
        · have z1' : (s : Int) < (m : Int) := by omega
          by_cases z2 : m < e
          · have z2' : (m : Int) < (e : Int) := by omega
            go_wp2
            go_meet
            case rel => exact ⟨true, rfl, ⟨fun _ => ⟨z1, z2⟩, fun _ => rfl⟩, S1⟩
          · have z2' : ¬ (m : Int) < (e : Int) := by omega
            go_wp2
            go_meet
            case rel => exact ⟨false, rfl, ⟨fun h => (Bool.false_ne_true h).elim, fun h => (z2 h.2).elim⟩, S1⟩
        · have z1' : ¬ (s : Int) < (m : Int) := by omega
          go_wp2
          go_meet
          case rel => exact ⟨false, rfl, ⟨fun h => (Bool.false_ne_true h).elim, fun h => (z1 h.1).elim⟩, S1⟩
      case rest =>
      obtain ⟨t, rfl, HT, S1x⟩ := hcut
      clear S1
      have S1 := S1x
      clear S1x
      go_upto_if 185 with (fail)
      go_cut [] from 25 (fun w' => ∃ d1, Aside (SWK enc k w0 blk off d1 w') ∧ Aside (Rot d d1 s m e))
      case first =>
        cases t with
        | true =>
          have hr : s < m ∧ m < e := HT.out.1 rfl
          clear HT
          have hc := rotate_at HL.out enc (.func (.func g) #[] cb) blk off cap s m e d0 d w0 _ R hs S1.out hr.1 hr.2 (by omega) hsz
          have HCC : Hid _ := hc
          clear hc
          go_wp2_with fail
          refine Calls.mono HCC.out ?_
          rintro e1 w1 ⟨rfl, d1, S2, hR⟩
          have S2' : Aside (SWK enc k w0 blk off d1 w1) := S2
          have HR : Aside (Rot d d1 s m e) := hR
          clear S2 hR HCC S1
          go_wp2
          go_meet
          case rel => exact ⟨d1, S2', HR⟩
        | false =>
          have hr : ¬ (s < m ∧ m < e) := fun h => Bool.false_ne_true (HT.out.2 h)
          clear HT
          have HR : Aside (Rot d d s m e) := Rot.triv d (by omega) q1 (by omega)
          go_wp2
          go_meet
          case rel => exact ⟨d, S1, HR⟩
      case rest =>
      obtain ⟨d1, S2, HR⟩ := hcut
      clear S1 HT t
      have hd1 : d1.size = d.size := HR.out.size
      have HP : Aside (SortedIn (ltOf cf) a s d1 ∧ SortedIn (ltOf cf) s mid d1 ∧ SortedIn (ltOf cf) mid e d1 ∧ SortedIn (ltOf cf) e b d1) := merge_parts (by omega) (by omega) q1 q2 (by omega) O1.out O2.out HR.out
      go_upto_region 41 with (fail)
      go_cut [199] from 192 to 199 (fun sx wx => ∃ t : Bool, sx = .bool t ∧ Aside (t = true ↔ a < s ∧ s < mid) ∧ Aside (SWK enc k w0 blk off d1 wx))
      case first =>
        by_cases z1 : a < s
        · have z1' : (a : Int) < (s : Int) := by omega
          by_cases z2 : s < mid
          · have z2' : (s : Int) < (mid : Int) := by omega
            go_wp2
            go_meet
            case rel => exact ⟨true, rfl, ⟨fun _ => ⟨z1, z2⟩, fun _ => rfl⟩, S2⟩
          · have z2' : ¬ (s : Int) < (mid : Int) := by omega
            go_wp2
            go_meet
            case rel => exact ⟨false, rfl, ⟨fun h => (Bool.false_ne_true h).elim, fun h => (z2 h.2).elim⟩, S2⟩
        · have z1' : ¬ (a : Int) < (s : Int) := by omega
          go_wp2
          go_meet
          case rel => exact ⟨false, rfl, ⟨fun h => (Bool.false_ne_true h).elim, fun h => (z1 h.1).elim⟩, S2⟩
      case rest =>
      obtain ⟨t, rfl, HT, S2x⟩ := hcut
      clear S2
      have S2 := S2x
      clear S2x
      go_upto_if 199 with (fail)
      go_cut [] from 25 (fun w' => ∃ d2, Aside (SWK enc k w0 blk off d2 w') ∧ Aside (Stab (ltOf cf) d1 d2 a mid) ∧ Aside (SortedIn (ltOf cf) a mid d2))
      case first =>
        cases t with
        | true =>
          have hr : a < s ∧ s < mid := HT.out.1 rfl
          clear HT
          have hc := HIH.out a s mid (by omega) hr.1 hr.2 (by omega) d1 _ hd1 S2 HP.out.1 HP.out.2.1
          have HCC : Hid _ := hc
          clear hc
          go_wp2_with fail
          refine Calls.mono HCC.out ?_
          rintro e1 w1 ⟨rfl, d2, T1, T2, T3⟩
          clear HCC S2
          go_wp2
          go_meet
          case rel => exact ⟨d2, T1, T2, T3⟩
        | false =>
          have hr : ¬ (a < s ∧ s < mid) := fun h => Bool.false_ne_true (HT.out.2 h)
          clear HT
          have T2 : Aside (Stab (ltOf cf) d1 d1 a mid) := Stab.refl _ _ _
          have T3 : Aside (SortedIn (ltOf cf) a mid d1) := by
            by_cases z1 : a < s
            · have : s = mid := by omega
              rw [← this]; exact HP.out.1
            · have : a = s := by omega
              rw [this]; exact HP.out.2.1
          go_wp2
          go_meet
          case rel => exact ⟨d1, S2, T2, T3⟩
      case rest =>
      obtain ⟨d2, S3, T2, T3⟩ := hcut
      clear S2 HT t
      have hd2 : d2.size = d.size := T2.out.size.trans hd1
      have HP2 : Aside (SortedIn (ltOf cf) mid e d2 ∧ SortedIn (ltOf cf) e b d2) := ⟨SortedIn.kept HP.out.2.2.1 (fun t h1 _ => T2.out.out t (.inr h1)), SortedIn.kept HP.out.2.2.2 (fun t h1 _ => T2.out.out t (.inr (by omega)))⟩
      have key : Aside (∀ d3, Stab (ltOf cf) d2 d3 mid b → SortedIn (ltOf cf) mid b d3 → Stab (ltOf cf) d d3 a b ∧ SortedIn (ltOf cf) a b d3) := fun d3 m2 s2 =>
        merge_step hS (by omega) (by omega) q1 q2 (by omega) O1.out O2.out K1.out K2.out HR.out T2.out T3.out m2 s2
      by_cases hr : mid < e ∧ e < b
      · have z1 : (mid : Int) < (e : Int) := by omega
        have z2 : (e : Int) < (b : Int) := by omega
        have hc := HIH.out mid e b (by omega) hr.1 hr.2 (by omega) d2 _ hd2 S3 HP2.out.1 HP2.out.2
        have HCC : Hid _ := hc
        clear hc
        go_wp2_with fail
        refine Calls.mono HCC.out ?_
        rintro e1 w1 ⟨rfl, d3, X1, X2, X3⟩
        clear HCC S3
        go_wp2
        go_end0
        exact ⟨rfl, d3, X1.out, key.out d3 X2.out X3.out⟩
      · have X3 : Aside (SortedIn (ltOf cf) mid b d2) := by
          by_cases z1 : mid < e
          · have : e = b := by omega
            rw [← this]; exact HP2.out.1
          · have : mid = e := by omega
            rw [this]; exact HP2.out.2
        by_cases z1 : mid < e
        · have z1' : (mid : Int) < (e : Int) := by omega
          have z2' : ¬ (e : Int) < (b : Int) := by omega
          go_wp2
          go_end0
          exact ⟨rfl, d2, S3.out, key.out d2 (Stab.refl _ _ _) X3.out⟩
        · have z1' : ¬ (mid : Int) < (e : Int) := by omega
          go_wp2
          go_end0
          exact ⟨rfl, d2, S3.out, key.out d2 (Stab.refl _ _ _) X3.out⟩

theorem sym_any (L : StAt P k) (enc : α → List Value) (cf : α → α → Int) (hS : SWO (ltOf cf)) (g : Nat) (cb : Array Value) (eg : ∀ args w, (callFunc g args).run P w = .ok (.enter g args) w) (blk off cap N : Nat) (d0 : Array α) (w0 : World)
    (hcmp : CmpLays P g cb enc k cf blk off d0.size w0) (R : RowK enc k w0 blk off d0) (hs : d0.size = N) (hsz : N ≤ 1048576) :
    ∀ (q a m b : Nat), b - a ≤ q → a < m → m < b → b ≤ N → Merges P enc k cf (.func (.func g) #[] cb) blk off cap N w0 a m b
  | 0, a, m, b, hq, h1, h2, h3 => by omega
  | q + 1, a, m, b, hq, h1, h2, h3 => by
    intro d w hd S o1 o2
    subst hd
    have fin : ∀ {e : Ending} {w' : World}, (e = .returned (.tuple #[]) ∧ ∃ d', SWK enc k w0 blk off d' w' ∧ Stab (ltOf cf) d d' a b ∧ SortedIn (ltOf cf) a b d') → e = .returned (.tuple #[]) ∧ ∃ d', Aside (SWK enc k w0 blk off d' w') ∧ Aside (Stab (ltOf cf) d d' a b) ∧ Aside (SortedIn (ltOf cf) a b d') := fun h => h
    by_cases c1 : m = a + 1
    · exact (sym_first L enc cf hS g cb eg blk off cap a m b d0 d w0 w hcmp R hs S.out c1 h3 (by omega) (by rw [← c1]; exact o2) hsz).mono fun _ _ h => fin h
    · by_cases c2 : b = m + 1
      · exact (sym_last L enc cf hS g cb eg blk off cap a m b d0 d w0 w hcmp R hs S.out c2 (by omega) (by omega) o1 hsz).mono fun _ _ h => fin h
      · exact (sym_many L enc cf hS g cb eg blk off cap a m b d0 d w0 w hcmp R hs S.out h3 (by omega) (by omega) o1 o2 hsz
          (fun a' m' b' g1 g2 g3 g4 => sym_any L enc cf hS g cb eg blk off cap d.size d0 w0 hcmp R hs hsz q a' m' b' (by omega) g2 g3 g4)).mono fun _ _ h => fin h
end

end Go.Proofs.YtmlfekbmbnfkjabGreatDoor

