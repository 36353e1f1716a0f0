/-
  What the stable sort's merging comes to: two sorted pieces side by side are one, and what is alike stays in order.
-/
import Derived.Test.YtagjgamigldjnaaGi
import Derived.Shelf.SlSortCmp.QuietGrown
namespace Go.Proofs.Ytagjgamigldjnaa.J
open Go.Shelf Go.RowKit Go.Lib Go.Sort

section
variable {P : Program} {α : Type} [Inhabited α]
theorem halfz (i j : Nat) : ((i : Int) + (j : Int)) / 2 = (((i + j) / 2 : Nat) : Int) := by omega
set_option maxHeartbeats 4000000 in
set_option maxRecDepth 1000000 in
theorem sym_first (L : StAt P) (enc : α → Value) (cf : α → α → Int) (hS : SWO (ltOf cf)) (g : Nat) (cb : Array Value) (eg : ∀ args w, (callFunc g args).run P w = .ok (.enter g args) w) (blk off cap a m b : Nat) (d0 d : Array α) (w0 w : World)
    (hcmp : CmpLays1 P g cb enc cf blk off d0.size w0) (R : Row1 enc w0 blk off d0) (hs : d0.size = d.size) (S : SW enc w0 blk off d w) (hm : m = a + 1) (hb : b ≤ d.size) (hab : a + 1 < b) (o2 : SortedIn (ltOf cf) (a + 1) b d) (hsz : d.size ≤ 1048576):
    Calls P 57 #[.slice (some ⟨blk, off, none⟩) d.size cap, .int .i64 (a : Nat), .int .i64 (m : Nat), .int .i64 (b : Nat), .func (.func g) #[] cb] w fun e w' => e = .returned (.tuple #[]) ∧ ∃ d', SW enc w0 blk off d' w' ∧ Stab (ltOf cf) d d' (a) (b) ∧ SortedIn (ltOf cf) (a) (b) d' := by
  have mixed := L.mixed; have t0 := L.t0; have a0 := L.a0; have z0 := L.z0; have v0 := L.v0; have t3 := L.t3; have a3 := L.a3; have z3 := L.z3; have v3 := L.v3; have t4 := L.t4; have a4 := L.a4; have z4 := L.z4; have v4 := L.v4; have t22 := L.ts; have a22 := L.asl; have z22 := L.zs; have v22 := L.vs; have t25 := L.tc; have a25 := L.ac; have z25 := L.zc; have v25 := L.vc; have u22 := run_underlying L.ts; have hcl0 := R.hO.cells; have hst := R.hO.store P; have tu := L.tu; have au := L.au; have zu := L.zu; have vu := L.vu
  simp only [Value.cells] at hcl0
  have FG := L.fsy
  have S0 : Aside (SW enc w0 blk off d w) := S
  have HC : Aside _ := hcmp
  have ema : (m : Int) - (a : Int) = 1 := by omega
  have HM : Aside (m = a + 1) := hm
  clear hm
  clear S hcmp L
  go_enter FG, Try.ntmps57
  go_wp2
  go_loopg [10, 11] (b - a) (fun kx s10 s11 wr => ∃ (i j : Nat), s10 = .int .i64 i ∧ s11 = .int .i64 j ∧ a + 1 ≤ i ∧ i ≤ j ∧ j ≤ b ∧ j - i ≤ kx ∧ Aside (SW enc w0 blk off d wr) ∧ Aside (i = a + 1 ∨ ltOf cf d[i - 1]! d[a]! = true) ∧ Aside (j = b ∨ ltOf cf d[j]! d[a]! = false))
  case atStart => exact ⟨a + 1, b, by rw [HM.out], rfl, Nat.le_refl _, by omega, Nat.le_refl _, by omega, S0, .inl rfl, .inl rfl⟩
  case round =>
    clear S0
    obtain ⟨i, j, rfl, rfl, hi, hij, hjb, hkx, S1, HI, HJ⟩ := hrel
    by_cases hlt : i < j
    · have hltz : (i : Int) < (j : Int) := by omega
      obtain ⟨h, hh⟩ : ∃ h, (i + j) / 2 = h := ⟨_, rfl⟩
      have ez : ((i : Int) + (j : Int)) / 2 = (h : Int) := by rw [halfz, hh]
      have h1 : i ≤ h := by omega
      have h2 : h < j := by omega
      clear hh
      cases hlv : ltOf cf d[h]! d[a]! with
      | true =>
        have HI2 : Aside (h + 1 = a + 1 ∨ ltOf cf d[h + 1 - 1]! d[a]! = true) := .inr (by rw [Nat.add_sub_cancel]; exact hlv)
        obtain ⟨iN, hiN⟩ : ∃ zq, zq = h := ⟨_, rfl⟩
        obtain ⟨jN, hjN⟩ : ∃ zq, zq = a := ⟨_, rfl⟩
        have ea : ((h : Int)).toNat = iN := by omega
        have pa : (0 : Int) ≤ (h : Int) := by omega
        have ba : (h : Int) < (d.size : Int) := by omega
        have ra : IntKind.i64.wrap ((h : Int)) = (h : Int) := by rw [IntKind.wrap_i64]; omega
        have ec : ((a : Int)).toNat = jN := by omega
        have pc : (0 : Int) ≤ (a : Int) := by omega
        have bc : (a : Int) < (d.size : Int) := by omega
        have rc : IntKind.i64.wrap ((a : Int)) = (a : Int) := by rw [IntKind.wrap_i64]; omega
        obtain ⟨x, hx⟩ : ∃ x, x = d[h]! := ⟨_, rfl⟩
        obtain ⟨y, hy⟩ : ∃ y, y = d[a]! := ⟨_, rfl⟩
        have la : ∀ (n : Nat) (os : Array Obj), (grow (wr.drewN n) os).cell? ⟨blk, off + iN, none⟩ = some (enc x) := by rw [hiN, hx]; exact S1.out.cl R (by omega) (h) (by omega)
        have lb : ∀ (n : Nat) (os : Array Obj), (grow (wr.drewN n) os).cell? ⟨blk, off + jN, none⟩ = some (enc y) := by rw [hjN, hy]; exact S1.out.cl R (by omega) (a) (by omega)
        have hc := S1.out.cmp HC.out (by omega) x y
        have hv : cf x y < 0 := by rw [hx, hy]; exact of_decide_eq_true hlv
        have hd : decide (cf x y < 0) = true := decide_eq_true hv
        clear hx hy hiN hjN
        go_wp2_with fail
        go_quiet_grown (first | (go_at_fn g; refine Calls.grown_of (hc _ _)))
        have S2 : Aside (SW enc w0 blk off d (grow (wr.drewN nq) osq)) := S1.out.grown nq osq
        clear la lb hc S1
        generalize grow (wr.drewN nq) osq = w2 at S2 ⊢
        clear nq osq
        clear ea ec
        go_wp2
        go_roundg (j - (h + 1))
        case measure => omega
        case rel => exact ⟨h + 1, j, by go_num, rfl, by omega, by omega, hjb, Nat.le_refl _, S2, HI2, HJ⟩
      | false =>
        have HJ2 : Aside (h = b ∨ ltOf cf d[h]! d[a]! = false) := .inr hlv
        obtain ⟨iN, hiN⟩ : ∃ zq, zq = h := ⟨_, rfl⟩
        obtain ⟨jN, hjN⟩ : ∃ zq, zq = a := ⟨_, rfl⟩
        have ea : ((h : Int)).toNat = iN := by omega
        have pa : (0 : Int) ≤ (h : Int) := by omega
        have ba : (h : Int) < (d.size : Int) := by omega
        have ra : IntKind.i64.wrap ((h : Int)) = (h : Int) := by rw [IntKind.wrap_i64]; omega
        have ec : ((a : Int)).toNat = jN := by omega
        have pc : (0 : Int) ≤ (a : Int) := by omega
        have bc : (a : Int) < (d.size : Int) := by omega
        have rc : IntKind.i64.wrap ((a : Int)) = (a : Int) := by rw [IntKind.wrap_i64]; omega
        obtain ⟨x, hx⟩ : ∃ x, x = d[h]! := ⟨_, rfl⟩
        obtain ⟨y, hy⟩ : ∃ y, y = d[a]! := ⟨_, rfl⟩
        have la : ∀ (n : Nat) (os : Array Obj), (grow (wr.drewN n) os).cell? ⟨blk, off + iN, none⟩ = some (enc x) := by rw [hiN, hx]; exact S1.out.cl R (by omega) (h) (by omega)
        have lb : ∀ (n : Nat) (os : Array Obj), (grow (wr.drewN n) os).cell? ⟨blk, off + jN, none⟩ = some (enc y) := by rw [hjN, hy]; exact S1.out.cl R (by omega) (a) (by omega)
        have hc := S1.out.cmp HC.out (by omega) x y
        have hv : ¬ cf x y < 0 := by rw [hx, hy]; exact of_decide_eq_false hlv
        have hd : decide (cf x y < 0) = false := decide_eq_false hv
        clear hx hy hiN hjN
        go_wp2_with fail
        go_quiet_grown (first | (go_at_fn g; refine Calls.grown_of (hc _ _)))
        have S2 : Aside (SW enc w0 blk off d (grow (wr.drewN nq) osq)) := S1.out.grown nq osq
        clear la lb hc S1
        generalize grow (wr.drewN nq) osq = w2 at S2 ⊢
        clear nq osq
        clear ea ec
        go_wp2
        go_roundg (h - i)
        case measure => omega
        case rel => exact ⟨i, h, rfl, rfl, hi, h1, by omega, Nat.le_refl _, S2, HI, HJ2⟩
    · obtain rfl : i = j := by omega
      have hltz : ¬ (i : Int) < (i : Int) := by omega
      have key : Aside (∀ d1, Rot d d1 a (a + 1) i → Stab (ltOf cf) d d1 a b ∧ SortedIn (ltOf cf) a b d1) := fun d1 hR => merge_first hS hi hjb o2 HI.out HJ.out hR
      clear HI HJ
      go_wp2
      go_loopg [13] (i - a) (fun kx s13 wr2 => ∃ (q : Nat) (dk : Array α), s13 = .int .i64 q ∧ a ≤ q ∧ q + 1 ≤ i ∧ i - q ≤ kx ∧ dk.size = d.size ∧ Aside (SW enc w0 blk off dk wr2) ∧ Aside (Rot d dk a (a + 1) (q + 1)))
      case atStart => exact ⟨a, d, rfl, Nat.le_refl _, hi, by omega, rfl, S1, Rot.triv d (by omega) (by omega) (.inr rfl)⟩
      case round =>
        clear S1
        obtain ⟨q, dk, rfl, haq, hqi, hkx2, hds, S1, HR⟩ := hrel
        by_cases hlt2 : q < i - 1
        · have hltz2 : (q : Int) < (i : Int) - 1 := by omega
          have HR2 : Aside (Rot d (swp dk q (q + 1)) a (a + 1) (q + 1 + 1)) := rot_up haq (by omega) HR.out
          obtain ⟨iN, hiN⟩ : ∃ zq, zq = q := ⟨_, rfl⟩
          obtain ⟨jN, hjN⟩ : ∃ zq, zq = q + 1 := ⟨_, rfl⟩
          have ea : ((q : Int)).toNat = iN := by omega
          have pa : (0 : Int) ≤ (q : Int) := by omega
          have ba : (q : Int) < (d.size : Int) := by omega
          have ra : IntKind.i64.wrap ((q : Int)) = (q : Int) := by rw [IntKind.wrap_i64]; omega
          have ec : (((q : Int) + 1)).toNat = jN := by omega
          have pc : (0 : Int) ≤ ((q : Int) + 1) := by omega
          have bc : ((q : Int) + 1) < (d.size : Int) := by omega
          have rc : IntKind.i64.wrap (((q : Int) + 1)) = ((q : Int) + 1) := by rw [IntKind.wrap_i64]; omega
          obtain ⟨x, hx⟩ : ∃ x, x = dk[q]! := ⟨_, rfl⟩
          obtain ⟨y, hy⟩ : ∃ x, x = dk[q + 1]! := ⟨_, rfl⟩
          have S2 : Aside (SW enc w0 blk off (swp dk (q) (q + 1)) ((wr.setCell ⟨blk, off + iN, none⟩ (enc y)).setCell ⟨blk, off + jN, none⟩ (enc x)).drew) := by rw [hiN, hjN, hx, hy]; exact S1.out.swapped R (q) (q + 1) (by omega) (by omega)
          have ca : wr.cell? ⟨blk, off + iN, none⟩ = some (enc x) := by rw [hiN, hx]; exact S1.out.c1 R (by omega) (q) (by omega)
          have cb2 : wr.cell? ⟨blk, off + jN, none⟩ = some (enc y) := by rw [hjN, hy]; exact S1.out.c1 R (by omega) (q + 1) (by omega)
          have fa : wr.frozen? ⟨blk, off + iN, none⟩ = false := by rw [hiN]; exact S1.out.f1 R (by omega) (q) (by omega)
          have fb : wr.frozen? ⟨blk, off + jN, none⟩ = false := by rw [hjN]; exact S1.out.f1 R (by omega) (q + 1) (by omega)
          obtain ⟨u, cc⟩ : ∃ u, (wr.setCell ⟨blk, off + iN, none⟩ (enc y)).cell? ⟨blk, off + jN, none⟩ = some u := by rw [hiN, hjN]; exact S1.out.c2 R (by omega) (q) (q + 1) (by omega) (by omega) (enc y)
          clear S1 hx hy hiN hjN
          go_wp2_with fail
          go_big_region_o
          clear ca cb2 cc fa fb
          generalize ((wr.setCell ⟨blk, off + iN, none⟩ (enc y)).setCell ⟨blk, off + jN, none⟩ (enc x)).drew = w2 at S2 ⊢
          clear ea ec
          go_wp2
          go_roundg (i - (q + 1))
          case measure => omega
          case rel => exact ⟨q + 1, swp dk q (q + 1), by go_num, by omega, by omega, Nat.le_refl _, by rw [size_swp']; exact hds, S2, HR2⟩
        · have hltz2 : ¬ (q : Int) < (i : Int) - 1 := by omega
          obtain rfl : i = q + 1 := by omega
          go_wp2
          refine bodyPost_ret (results_none rfl _ _ _) rfl ?_
          exact ⟨rfl, dk, S1.out, key.out dk HR.out⟩
set_option maxHeartbeats 4000000 in
set_option maxRecDepth 1000000 in
theorem sym_last (L : StAt P) (enc : α → Value) (cf : α → α → Int) (hS : SWO (ltOf cf)) (g : Nat) (cb : Array Value) (eg : ∀ args w, (callFunc g args).run P w = .ok (.enter g args) w) (blk off cap a m b : Nat) (d0 d : Array α) (w0 w : World)
    (hcmp : CmpLays1 P g cb enc cf blk off d0.size w0) (R : Row1 enc w0 blk off d0) (hs : d0.size = d.size) (S : SW enc w0 blk off d w) (hm : b = m + 1) (hb : m + 1 ≤ d.size) (ham : a + 1 < m) (o1 : SortedIn (ltOf cf) a m d) (hsz : d.size ≤ 1048576):
    Calls P 57 #[.slice (some ⟨blk, off, none⟩) d.size cap, .int .i64 (a : Nat), .int .i64 (m : Nat), .int .i64 (b : Nat), .func (.func g) #[] cb] w fun e w' => e = .returned (.tuple #[]) ∧ ∃ d', SW enc w0 blk off d' w' ∧ Stab (ltOf cf) d d' (a) (b) ∧ SortedIn (ltOf cf) (a) (b) d' := by
  have mixed := L.mixed; have t0 := L.t0; have a0 := L.a0; have z0 := L.z0; have v0 := L.v0; have t3 := L.t3; have a3 := L.a3; have z3 := L.z3; have v3 := L.v3; have t4 := L.t4; have a4 := L.a4; have z4 := L.z4; have v4 := L.v4; have t22 := L.ts; have a22 := L.asl; have z22 := L.zs; have v22 := L.vs; have t25 := L.tc; have a25 := L.ac; have z25 := L.zc; have v25 := L.vc; have u22 := run_underlying L.ts; have hcl0 := R.hO.cells; have hst := R.hO.store P; have tu := L.tu; have au := L.au; have zu := L.zu; have vu := L.vu
  simp only [Value.cells] at hcl0
  have FG := L.fsy
  have S0 : Aside (SW enc w0 blk off d w) := S
  have HC : Aside _ := hcmp
  have ema : ((m : Int) - (a : Int) == 1) = false := beq_false_of_ne (by omega)
  have ebm : (b : Int) - (m : Int) = 1 := by omega
  have HM : Aside (b = m + 1) := hm
  clear hm
  clear S hcmp L
  go_enter FG, Try.ntmps57
  go_wp2
  go_loopg [14, 15] (m - a) (fun kx s14 s15 wr => ∃ (i j : Nat), s14 = .int .i64 i ∧ s15 = .int .i64 j ∧ a ≤ i ∧ i ≤ j ∧ j ≤ m ∧ j - i ≤ kx ∧ Aside (SW enc w0 blk off d wr) ∧ Aside (i = a ∨ ltOf cf d[m]! d[i - 1]! = false) ∧ Aside (j = m ∨ ltOf cf d[m]! d[j]! = true))
  case atStart => exact ⟨a, m, rfl, rfl, Nat.le_refl _, by omega, Nat.le_refl _, by omega, S0, .inl rfl, .inl rfl⟩
  case round =>
    clear S0
    obtain ⟨i, j, rfl, rfl, hi, hij, hjb, hkx, S1, HI, HJ⟩ := hrel
    by_cases hlt : i < j
    · have hltz : (i : Int) < (j : Int) := by omega
      obtain ⟨h, hh⟩ : ∃ h, (i + j) / 2 = h := ⟨_, rfl⟩
      have ez : ((i : Int) + (j : Int)) / 2 = (h : Int) := by rw [halfz, hh]
      have h1 : i ≤ h := by omega
      have h2 : h < j := by omega
      clear hh
      cases hlv : ltOf cf d[m]! d[h]! with
      | true =>
        have HJ2 : Aside (h = m ∨ ltOf cf d[m]! d[h]! = true) := .inr hlv
        obtain ⟨iN, hiN⟩ : ∃ zq, zq = m := ⟨_, rfl⟩
        obtain ⟨jN, hjN⟩ : ∃ zq, zq = h := ⟨_, rfl⟩
        have ea : ((m : Int)).toNat = iN := by omega
        have pa : (0 : Int) ≤ (m : Int) := by omega
        have ba : (m : Int) < (d.size : Int) := by omega
        have ra : IntKind.i64.wrap ((m : Int)) = (m : Int) := by rw [IntKind.wrap_i64]; omega
        have ec : ((h : Int)).toNat = jN := by omega
        have pc : (0 : Int) ≤ (h : Int) := by omega
        have bc : (h : Int) < (d.size : Int) := by omega
        have rc : IntKind.i64.wrap ((h : Int)) = (h : Int) := by rw [IntKind.wrap_i64]; omega
        obtain ⟨x, hx⟩ : ∃ x, x = d[m]! := ⟨_, rfl⟩
        obtain ⟨y, hy⟩ : ∃ y, y = d[h]! := ⟨_, rfl⟩
        have la : ∀ (n : Nat) (os : Array Obj), (grow (wr.drewN n) os).cell? ⟨blk, off + iN, none⟩ = some (enc x) := by rw [hiN, hx]; exact S1.out.cl R (by omega) (m) (by omega)
        have lb : ∀ (n : Nat) (os : Array Obj), (grow (wr.drewN n) os).cell? ⟨blk, off + jN, none⟩ = some (enc y) := by rw [hjN, hy]; exact S1.out.cl R (by omega) (h) (by omega)
        have hc := S1.out.cmp HC.out (by omega) x y
        have hv : cf x y < 0 := by rw [hx, hy]; exact of_decide_eq_true hlv
        have hd : decide (cf x y < 0) = true := decide_eq_true hv
        clear hx hy hiN hjN
        go_wp2_with fail
        go_quiet_grown (first | (go_at_fn g; refine Calls.grown_of (hc _ _)))
        have S2 : Aside (SW enc w0 blk off d (grow (wr.drewN nq) osq)) := S1.out.grown nq osq
        clear la lb hc S1
        generalize grow (wr.drewN nq) osq = w2 at S2 ⊢
        clear nq osq
        clear ea ec
        go_wp2
        go_roundg (h - i)
        case measure => omega
        case rel => exact ⟨i, h, rfl, rfl, hi, h1, by omega, Nat.le_refl _, S2, HI, HJ2⟩
      | false =>
        have HI2 : Aside (h + 1 = a ∨ ltOf cf d[m]! d[h + 1 - 1]! = false) := .inr (by rw [Nat.add_sub_cancel]; exact hlv)
        obtain ⟨iN, hiN⟩ : ∃ zq, zq = m := ⟨_, rfl⟩
        obtain ⟨jN, hjN⟩ : ∃ zq, zq = h := ⟨_, rfl⟩
        have ea : ((m : Int)).toNat = iN := by omega
        have pa : (0 : Int) ≤ (m : Int) := by omega
        have ba : (m : Int) < (d.size : Int) := by omega
        have ra : IntKind.i64.wrap ((m : Int)) = (m : Int) := by rw [IntKind.wrap_i64]; omega
        have ec : ((h : Int)).toNat = jN := by omega
        have pc : (0 : Int) ≤ (h : Int) := by omega
        have bc : (h : Int) < (d.size : Int) := by omega
        have rc : IntKind.i64.wrap ((h : Int)) = (h : Int) := by rw [IntKind.wrap_i64]; omega
        obtain ⟨x, hx⟩ : ∃ x, x = d[m]! := ⟨_, rfl⟩
        obtain ⟨y, hy⟩ : ∃ y, y = d[h]! := ⟨_, rfl⟩
        have la : ∀ (n : Nat) (os : Array Obj), (grow (wr.drewN n) os).cell? ⟨blk, off + iN, none⟩ = some (enc x) := by rw [hiN, hx]; exact S1.out.cl R (by omega) (m) (by omega)
        have lb : ∀ (n : Nat) (os : Array Obj), (grow (wr.drewN n) os).cell? ⟨blk, off + jN, none⟩ = some (enc y) := by rw [hjN, hy]; exact S1.out.cl R (by omega) (h) (by omega)
        have hc := S1.out.cmp HC.out (by omega) x y
        have hv : ¬ cf x y < 0 := by rw [hx, hy]; exact of_decide_eq_false hlv
        have hd : decide (cf x y < 0) = false := decide_eq_false hv
        clear hx hy hiN hjN
        go_wp2_with fail
        go_quiet_grown (first | (go_at_fn g; refine Calls.grown_of (hc _ _)))
        have S2 : Aside (SW enc w0 blk off d (grow (wr.drewN nq) osq)) := S1.out.grown nq osq
        clear la lb hc S1
        generalize grow (wr.drewN nq) osq = w2 at S2 ⊢
        clear nq osq
        clear ea ec
        go_wp2
        go_roundg (j - (h + 1))
        case measure => omega
        case rel => exact ⟨h + 1, j, by go_num, rfl, by omega, by omega, hjb, Nat.le_refl _, S2, HI2, HJ⟩
    · obtain rfl : i = j := by omega
      have hltz : ¬ (i : Int) < (i : Int) := by omega
      have key : Aside (∀ d1, Rot d d1 i m (m + 1) → Stab (ltOf cf) d d1 a b ∧ SortedIn (ltOf cf) a b d1) := fun d1 hR => HM.out.symm ▸ merge_last hS hi hjb o1 HI.out HJ.out hR
      clear HI HJ
      go_wp2
      go_loopg [17] (m - i) (fun kx s17 wr2 => ∃ (q : Nat) (dk : Array α), s17 = .int .i64 q ∧ i ≤ q ∧ q ≤ m ∧ q - i ≤ kx ∧ dk.size = d.size ∧ Aside (SW enc w0 blk off dk wr2) ∧ Aside (Rot d dk q m (m + 1)))
      case atStart => exact ⟨m, d, rfl, hjb, Nat.le_refl _, by omega, rfl, S1, Rot.triv d (by omega) (by omega) (.inl rfl)⟩
      case round =>
        clear S1
        obtain ⟨q, dk, rfl, hiq, hqm, hkx2, hds, S1, HR⟩ := hrel
        by_cases hlt2 : i < q
        · obtain ⟨p, rfl⟩ : ∃ p, q = p + 1 := ⟨q - 1, by omega⟩
          have hltz2 : (i : Int) < ((p + 1 : Nat) : Int) := by omega
          have HR2 : Aside (Rot d (swp dk (p + 1) p) p m (m + 1)) := rot_down hqm (by omega) HR.out
          have pz : ((p + 1 : Nat) : Int) - 1 = (p : Int) := by omega
          have ea : (((p + 1 : Nat) : Int)).toNat = p + 1 := by omega
          have pa : (0 : Int) ≤ ((p + 1 : Nat) : Int) := by omega
          have ba : ((p + 1 : Nat) : Int) < (d.size : Int) := by omega
          have ra : IntKind.i64.wrap (((p + 1 : Nat) : Int)) = ((p + 1 : Nat) : Int) := by rw [IntKind.wrap_i64]; omega
          have ec : ((p : Int)).toNat = p := by omega
          have pc : (0 : Int) ≤ (p : Int) := by omega
          have bc : (p : Int) < (d.size : Int) := by omega
          have rc : IntKind.i64.wrap ((p : Int)) = (p : Int) := by rw [IntKind.wrap_i64]; omega
          obtain ⟨x, hx⟩ : ∃ x, x = dk[p + 1]! := ⟨_, rfl⟩
          obtain ⟨y, hy⟩ : ∃ x, x = dk[p]! := ⟨_, rfl⟩
          have S2 : Aside (SW enc w0 blk off (swp dk (p + 1) (p)) ((wr.setCell ⟨blk, off + (p + 1), none⟩ (enc y)).setCell ⟨blk, off + (p), none⟩ (enc x)).drew) := by rw [hx, hy]; exact S1.out.swapped R (p + 1) (p) (by omega) (by omega)
          have ca : wr.cell? ⟨blk, off + (p + 1), none⟩ = some (enc x) := by rw [hx]; exact S1.out.c1 R (by omega) (p + 1) (by omega)
          have cb2 : wr.cell? ⟨blk, off + (p), none⟩ = some (enc y) := by rw [hy]; exact S1.out.c1 R (by omega) (p) (by omega)
          have fa : wr.frozen? ⟨blk, off + (p + 1), none⟩ = false := S1.out.f1 R (by omega) (p + 1) (by omega)
          have fb : wr.frozen? ⟨blk, off + (p), none⟩ = false := S1.out.f1 R (by omega) (p) (by omega)
          obtain ⟨u, cc⟩ : ∃ u, (wr.setCell ⟨blk, off + (p + 1), none⟩ (enc y)).cell? ⟨blk, off + (p), none⟩ = some u := S1.out.c2 R (by omega) (p + 1) (p) (by omega) (by omega) (enc y)
          clear S1 hx hy
          go_wp2_with fail
          go_big_region_o
          clear ca cb2 cc fa fb
          generalize ((wr.setCell ⟨blk, off + (p + 1), none⟩ (enc y)).setCell ⟨blk, off + (p), none⟩ (enc x)).drew = w2 at S2 ⊢
          clear ea ec
          go_wp2
          go_roundg (p - i)
          case measure => omega
          case rel => exact ⟨p, swp dk (p + 1) p, by first | rfl | go_num | (congr 1; omega), by omega, by omega, Nat.le_refl _, by rw [size_swp']; exact hds, S2, HR2⟩
        · have hltz2 : ¬ (i : Int) < (q : Int) := by omega
          obtain rfl : i = q := by omega
          go_wp2
          refine bodyPost_ret (results_none rfl _ _ _) rfl ?_
          exact ⟨rfl, dk, S1.out, key.out dk HR.out⟩
end
end Go.Proofs.Ytagjgamigldjnaa.J
