/-
  What the stable sort's lowest functions come to: two pieces of one length change places; two pieces side by side do.
-/
import Derived.Test.YtmlfekbmbnfkjabGreatDoorQ01
import Derived.Shelf.SlSortCmp.KitK
import Derived.Deep.LoopGhost
import Derived.Deep.Cut
namespace Go.Proofs.YtmlfekbmbnfkjabGreatDoor
set_option maxRecDepth 100000
open Go.Shelf Go.RowKit Go.Lib Go.Sort

/-- What is known of the program, its element of k cells. -/
structure StAt (P : Program) (k : Nat) : Prop where
  mixed : P.follows .mixedOrders = true
  fsw : P.funcs[272]? = some Tryz.f272
  fro : P.funcs[235]? = some Tryz.f235
  fsy : P.funcs[208]? = some Tryz.f208
  fst : P.funcs[168]? = some Tryz.f168
  fss : P.funcs[132]? = some Tryz.f132
  t0 : P.underlying 0 = some (TypeDesc.tuple #[])
  a0 : ∀ w, (isAgg 0).run P w = .ok false w
  z0 : ∀ w, (Go.sizeOf 0).run P w = .ok 1 w
  v0 : ∀ w, (zeroValue 0).run P w = .ok (Value.tuple #[]) w
  t3 : P.underlying 3 = some (TypeDesc.int IntKind.i64)
  a3 : ∀ w, (isAgg 3).run P w = .ok false w
  z3 : ∀ w, (Go.sizeOf 3).run P w = .ok 1 w
  v3 : ∀ w, (zeroValue 3).run P w = .ok (Value.int IntKind.i64 0) w
  t4 : P.underlying 4 = some (TypeDesc.bool)
  a4 : ∀ w, (isAgg 4).run P w = .ok false w
  z4 : ∀ w, (Go.sizeOf 4).run P w = .ok 1 w
  v4 : ∀ w, (zeroValue 4).run P w = .ok (Value.bool false) w
  tu : P.underlying 239 = some (TypeDesc.int IntKind.u64)
  au : ∀ w, (isAgg 239).run P w = .ok false w
  zu : ∀ w, (Go.sizeOf 239).run P w = .ok 1 w
  vu : ∀ w, (zeroValue 239).run P w = .ok (Value.int IntKind.u64 0) w
  ts : P.underlying 22 = some (TypeDesc.slice 47)
  asl : ∀ w, (isAgg 22).run P w = .ok false w
  zs : ∀ w, (Go.sizeOf 22).run P w = .ok 1 w
  vs : ∀ w, (zeroValue 22).run P w = .ok (Value.slice none 0 0) w
  tc : P.underlying 169 = some (TypeDesc.func #[47, 47] #[3] false)
  ac : ∀ w, (isAgg 169).run P w = .ok false w
  zc : ∀ w, (Go.sizeOf 169).run P w = .ok 1 w
  vc : ∀ w, (zeroValue 169).run P w = .ok (Value.nilFunc) w
  aE : ∀ w, (isAgg 47).run P w = .ok true w
  zE : ∀ w, (Go.sizeOf 47).run P w = .ok k w

section
variable {P : Program} {k : Nat} {α : Type} [Inhabited α]
omit [Inhabited α] in
theorem swF_zero (f : Nat → α) (a b : Nat) : swF f a b 0 = f := by
  funext t
  unfold swF
  rw [if_neg (by omega), if_neg (by omega)]
theorem swF_succ (d dk : Array α) (a b i : Nat) (h1 : a + i < b) (h2 : b + i < d.size) (hs : dk.size = d.size) (h : ∀ t, dk[t]! = swF (fun t => d[t]!) a b i t) (t : Nat) : (swp dk (a + i) (b + i))[t]! = swF (fun t => d[t]!) a b (i + 1) t := by
  rw [get_swp _ _ _ _ (by omega) (by omega), h, h, h]
  unfold swF
  repeat' split
  all_goals first | rfl | (congr 1; omega) | (exfalso; omega)

set_option maxHeartbeats 4000000 in
set_option maxRecDepth 1000000 in
theorem swaprange_at (L : StAt P k) (enc : α → List Value) (fv : Value) (blk off cap a b n : Nat) (d0 d : Array α) (w0 w : World)
    (R : RowK enc k w0 blk off d0) (hs : d0.size = d.size) (S : SWK enc k w0 blk off d w) (hab : a + n ≤ b) (hb : b + n ≤ d.size) (hsz : d.size ≤ 1048576) :
    Calls P 272 #[.slice (some ⟨blk, off, none⟩) d.size cap, .int .i64 a, .int .i64 b, .int .i64 n, fv] w fun e w' => e = .returned (.tuple #[]) ∧ ∃ d', SWK enc k w0 blk off d' w' ∧ d'.size = d.size ∧ ∀ t, d'[t]! = swF (fun t => d[t]!) a b n t := by
  have mixed := L.mixed; have t0 := L.t0; have a0 := L.a0; have z0 := L.z0; have v0 := L.v0; have t3 := L.t3; have a3 := L.a3; have z3 := L.z3; have v3 := L.v3; have t4 := L.t4; have a4 := L.a4; have z4 := L.z4; have v4 := L.v4; have t22 := L.ts; have a22 := L.asl; have z22 := L.zs; have v22 := L.vs; have t25 := L.tc; have a25 := L.ac; have z25 := L.zc; have v25 := L.vc; have aE := L.aE; have zE := L.zE
  have FG := L.fsw
  have S0 : Aside (SWK enc k w0 blk off d w) := S
  clear S L
  go_enter FG, Tryz.ntmps272
  go_wp2
  go_loopg [10] n (fun kx s10 wr => ∃ (i : Nat) (dk : Array α), s10 = .int .i64 i ∧ i ≤ n ∧ n - i ≤ kx ∧ dk.size = d.size ∧ Aside (SWK enc k w0 blk off dk wr) ∧ Aside (∀ t, dk[t]! = swF (fun t => d[t]!) a b i t))
  case atStart => exact ⟨0, d, rfl, Nat.zero_le _, by omega, rfl, S0, fun t => by rw [swF_zero]⟩
  case round =>
    clear S0
    obtain ⟨i, dk, rfl, hin, hkx, hds, S1, heq⟩ := hrel
    by_cases hlt : i < n
    · have hltz : (i : Int) < (n : Int) := by omega
      go_wp2_with fail
      have ea44 : ((a : Int) + (i : Int)).toNat = a + i := by omega
      have pa44 : (0 : Int) ≤ (a : Int) + (i : Int) := by omega
      have ba44 : (a : Int) + (i : Int) < (d.size : Int) := by omega
      have ra44 : IntKind.i64.wrap ((a : Int) + (i : Int)) = (a : Int) + (i : Int) := by rw [IntKind.wrap_i64]; omega
      have ec44 : ((b : Int) + (i : Int)).toNat = b + i := by omega
      have pc44 : (0 : Int) ≤ (b : Int) + (i : Int) := by omega
      have bc44 : (b : Int) + (i : Int) < (d.size : Int) := by omega
      have rc44 : IntKind.i64.wrap ((b : Int) + (i : Int)) = (b : Int) + (i : Int) := by rw [IntKind.wrap_i64]; omega
      have S2 : Aside (SWK enc k w0 blk off (swp dk (a + i) (b + i)) ((wr.drew.setCells blk (off + (a + i) * k) (enc dk[b + i]!)).setCells blk (off + (b + i) * k) (enc dk[a + i]!))) := S1.out.swapped R (a + i) (b + i) (by omega) (by omega)
      have l44a := S1.out.ld1 R (by omega) P (a + i) (by omega)
      have l44b := S1.out.ld1 R (by omega) P (b + i) (by omega)
      have s44a := S1.out.st1 R (by omega) P (a + i) (by omega) dk[b + i]!
      have s44b := S1.out.st2 R (by omega) P (a + i) (b + i) (by omega) (by omega) dk[b + i]! dk[a + i]!
      have n44a : (enc dk[a + i]!).length = k := R.hk _
      have n44b : (enc dk[b + i]!).length = k := R.hk _
      generalize enc dk[a + i]! = cI44 at S2 l44a s44b n44a
      generalize enc dk[b + i]! = cJ44 at S2 l44b s44a s44b n44b
      clear S1
      go_wp2_with fail
      go_big_region_o
      clear l44a l44b s44a s44b
      generalize (wr.drew.setCells blk (off + (a + i) * k) cJ44).setCells blk (off + (b + i) * k) cI44 = w2 at S2 ⊢
      go_wp2
      go_roundg (n - (i + 1))
      case measure => omega
      case rel => exact ⟨i + 1, swp dk (a + i) (b + i), by go_num, by omega, Nat.le_refl _, by rw [size_swp']; exact hds, S2, fun t => swF_succ d dk a b i (by omega) (by omega) hds heq.out t⟩
    · have hltz : ¬ (i : Int) < (n : Int) := by omega
      go_wp2
      go_end0
      obtain rfl : i = n := by omega
      exact ⟨rfl, dk, S1.out, hds, heq.out⟩
end
end Go.Proofs.YtmlfekbmbnfkjabGreatDoor

/-
  What the stable sort's rotation comes to: two pieces side by side change places.
-/
namespace Go.Proofs.YtmlfekbmbnfkjabGreatDoor
set_option maxRecDepth 100000
open Go.Shelf Go.RowKit Go.Lib Go.Sort

section
variable {P : Program} {k : Nat} {α : Type} [Inhabited α]
theorem StAt.esw (L : StAt P k) : ∀ args w, (callFunc 272 args).run P w = .ok (.enter 272 args) w := enters_of L.fsw (by kernel_rfl) rfl
theorem StAt.ero (L : StAt P k) : ∀ args w, (callFunc 235 args).run P w = .ok (.enter 235 args) w := enters_of L.fro (by kernel_rfl) rfl
theorem StAt.esy (L : StAt P k) : ∀ args w, (callFunc 208 args).run P w = .ok (.enter 208 args) w := enters_of L.fsy (by kernel_rfl) rfl
set_option maxHeartbeats 4000000 in
set_option maxRecDepth 1000000 in
theorem rotate_at (L : StAt P k) (enc : α → List Value) (fv : Value) (blk off cap a m b : Nat) (d0 d : Array α) (w0 w : World)
    (R : RowK enc k w0 blk off d0) (hs : d0.size = d.size) (S : SWK enc k w0 blk off d w) (ham : a < m) (hmb : m < b) (hb : b ≤ d.size) (hsz : d.size ≤ 1048576) :
    Calls P 235 #[.slice (some ⟨blk, off, none⟩) d.size cap, .int .i64 a, .int .i64 m, .int .i64 b, fv] w fun e w' => e = .returned (.tuple #[]) ∧ ∃ d', SWK enc k w0 blk off d' w' ∧ Rot d d' a m b := by
  have mixed := L.mixed; have t0 := L.t0; have a0 := L.a0; have z0 := L.z0; have v0 := L.v0; have t3 := L.t3; have a3 := L.a3; have z3 := L.z3; have v3 := L.v3; have t4 := L.t4; have a4 := L.a4; have z4 := L.z4; have v4 := L.v4; have t22 := L.ts; have a22 := L.asl; have z22 := L.zs; have v22 := L.vs; have t25 := L.tc; have a25 := L.ac; have z25 := L.zc; have v25 := L.vc
  have FG := L.fro
  have esw := L.esw
  have S0 : Aside (SWK enc k w0 blk off d w) := S
  have HL : Aside (StAt P k) := L
  clear S L
  go_enter FG, Tryz.ntmps235
  go_wp2
  go_loopg [10, 11] (b - a) (fun kx s10 s11 wr => ∃ (i j : Nat) (dk : Array α), s10 = .int .i64 i ∧ s11 = .int .i64 j ∧ 0 < i ∧ 0 < j ∧ i ≤ m ∧ m + j ≤ d.size ∧ i + j ≤ kx ∧ dk.size = d.size ∧ Aside (SWK enc k w0 blk off dk wr) ∧ Aside (rotF (fun t => dk[t]!) (m - i) m (m + j) = rotF (fun t => d[t]!) a m b))
  case atStart =>
    exact ⟨m - a, b - m, d, by congr 1; omega, by congr 1; omega, by omega, by omega, by omega, by omega, by omega, rfl, S0, (show rotF (fun t => d[t]!) (m - (m - a)) m (m + (b - m)) = _ by rw [show m - (m - a) = a by omega, show m + (b - m) = b by omega])⟩
  case round =>
    clear S0
    obtain ⟨i, j, dk, rfl, rfl, hi0, hj0, him, hjm, hkx, hds, S1, heq⟩ := hrel
    rcases Nat.lt_trichotomy i j with hlt | rfl | hlt
    · have hne : (i : Int) ≠ (j : Int) := by omega
      have hgt : ¬ (j : Int) < (i : Int) := by omega
      have e1 : (m : Int) - (i : Int) = ((m - i : Nat) : Int) := by omega
      have e2 : (m : Int) + (j : Int) - (i : Int) = ((m + j - i : Nat) : Int) := by omega
      have hc := swaprange_at HL.out enc fv blk off cap (m - i) (m + j - i) i d0 dk w0 wr R (by omega) S1.out (by omega) (by omega) (by omega)
      rw [hds] at hc
      have HC : Hid _ := hc
      clear hc
      go_wp2_with fail
      refine Calls.mono HC.out ?_
      rintro e w1 ⟨rfl, d1, S2, hs2, hd1⟩
      have heq2 : Aside (rotF (fun t => d1[t]!) (m - i) m (m + (j - i)) = rotF (fun t => d[t]!) a m b) := by
        show _ = _
        rw [← heq.out, ← rotF_less (fun t => dk[t]!) m i j him hi0 hlt]
        congr 1
        funext t
        exact hd1 t
      have S2' : Aside (SWK enc k w0 blk off d1 w1) := S2
      clear S2 hd1 heq S1 HC
      go_wp2
      go_roundg (i + (j - i))
      case measure => omega
      case rel => exact ⟨i, j - i, d1, rfl, by first | go_num | (congr 1; omega), hi0, by omega, him, by omega, Nat.le_refl _, by omega, S2', heq2⟩
    · have hne : (i : Int) = (i : Int) := rfl
      have e1 : (m : Int) - (i : Int) = ((m - i : Nat) : Int) := by omega
      have hc := swaprange_at HL.out enc fv blk off cap (m - i) m i d0 dk w0 wr R (by omega) S1.out (by omega) (by omega) (by omega)
      rw [hds] at hc
      have HC : Hid _ := hc
      clear hc
      go_wp2_with fail
      refine Calls.mono HC.out ?_
      rintro e w1 ⟨rfl, d1, S2, hs2, hd1⟩
      have hR : Aside (Rot d d1 a m b) := rot_of (by omega) (by omega) (by omega) (fun t => by rw [← heq.out, ← rotF_same (fun t => dk[t]!) m i him]; exact hd1 t)
      have S2' : Aside (SWK enc k w0 blk off d1 w1) := S2
      clear S2 hd1 heq S1 HC
      go_wp2
      go_end0
      exact ⟨rfl, d1, S2'.out, hR.out⟩
    · have hne : (i : Int) ≠ (j : Int) := by omega
      have hgt : (j : Int) < (i : Int) := by omega
      have e1 : (m : Int) - (i : Int) = ((m - i : Nat) : Int) := by omega
      have hc := swaprange_at HL.out enc fv blk off cap (m - i) m j d0 dk w0 wr R (by omega) S1.out (by omega) (by omega) (by omega)
      rw [hds] at hc
      have HC : Hid _ := hc
      clear hc
      go_wp2_with fail
      refine Calls.mono HC.out ?_
      rintro e w1 ⟨rfl, d1, S2, hs2, hd1⟩
      have heq2 : Aside (rotF (fun t => d1[t]!) (m - (i - j)) m (m + j) = rotF (fun t => d[t]!) a m b) := by
        show _ = _
        rw [← heq.out, ← rotF_more (fun t => dk[t]!) m i j him hj0 hlt]
        congr 1
        funext t
        exact hd1 t
      have S2' : Aside (SWK enc k w0 blk off d1 w1) := S2
      clear S2 hd1 heq S1 HC
      go_wp2
      go_roundg (i - j + j)
      case measure => omega
      case rel => exact ⟨i - j, j, d1, by first | go_num | (congr 1; omega), rfl, by omega, hj0, by omega, hjm, Nat.le_refl _, by omega, S2', heq2⟩
end
end Go.Proofs.YtmlfekbmbnfkjabGreatDoor

