/-
  What resp.takeCount and resp.takeArgument come to.
-/
import Derived.Test.YtkhfplpplmnjiabDoorDig
namespace Go.Proofs.YtkhfplpplmnjiabDoor
set_option maxRecDepth 100000
open Go.RowKit

theorem pass_yes (ao : Option Addr) (m c : Nat) (l : List UInt8) (a p : Nat) (s : ByteArray) (w : World) (hb : Bytes w ao m c l) (ha : a ≤ m) (hm : m ≤ 1048576) (hs : s.size ≤ 1000) (h : Rs.passE s.data.toList (l.drop a) = 0) (hp : a + s.size = p) :
    Calls Tryd.prog 21 #[.slice ao m c, .int .i64 (a : Int), .string s] w fun e w' => e = .returned (.tuple #[.int .i64 (p : Int), .int .i64 0]) ∧ Below w.heap.size w w' := by
  have := pass_any ao m c l a s w hb ha hm hs
  rw [h, plc, if_pos rfl, hp] at this
  exact this
theorem pass_not (ao : Option Addr) (m c : Nat) (l : List UInt8) (a E : Nat) (s : ByteArray) (w : World) (hb : Bytes w ao m c l) (ha : a ≤ m) (hm : m ≤ 1048576) (hs : s.size ≤ 1000) (h : Rs.passE s.data.toList (l.drop a) = E) (hE : E ≠ 0) :
    Calls Tryd.prog 21 #[.slice ao m c, .int .i64 (a : Int), .string s] w fun e w' => e = .returned (.tuple #[.int .i64 0, .int .i64 (E : Int)]) ∧ Below w.heap.size w w' := by
  have := pass_any ao m c l a s w hb ha hm hs
  rw [h, plc, if_neg hE] at this
  exact this
theorem digits_yes (ao : Option Addr) (m c : Nat) (l : List UInt8) (a p n k : Nat) (w : World) (hb : Bytes w ao m c l) (ha : a ≤ m) (hm : m ≤ 1048576) (h : Rs.dgR 0 0 (l.drop a) = .ok (n, k)) (hp : a + k = p) :
    Calls Tryd.prog 22 #[.slice ao m c, .int .i64 (a : Int)] w fun e w' => e = .returned (.tuple #[.int .i64 (n : Int), .int .i64 (p : Int), .int .i64 0]) ∧ Below w.heap.size w w' := by
  have := digits_any ao m c l a w hb ha hm
  rw [h, rN, rP, rE] at this
  dsimp only at this
  rw [hp] at this
  exact this
theorem digits_not (ao : Option Addr) (m c : Nat) (l : List UInt8) (a E : Nat) (w : World) (hb : Bytes w ao m c l) (ha : a ≤ m) (hm : m ≤ 1048576) (h : Rs.dgR 0 0 (l.drop a) = .error E) :
    Calls Tryd.prog 22 #[.slice ao m c, .int .i64 (a : Int)] w fun e w' => e = .returned (.tuple #[.int .i64 0, .int .i64 0, .int .i64 (E : Int)]) ∧ Below w.heap.size w w' := by
  have := digits_any ao m c l a w hb ha hm
  rw [h] at this
  exact this
theorem ne_zero {E : Nat} (h : E ≠ 0) : ((E : Int) == 0) = false := by rw [beq_eq_false_iff_ne]; omega
theorem bad_pos {α : Type} {r : Except Nat α} {E : Nat} (hb : Rs.Bad r) (h : r = .error E) : E ≠ 0 ∧ E ≤ 4 := by
  rcases hb E h with rfl | rfl | rfl <;> exact ⟨by decide, by decide⟩
theorem pass_le (w d : List UInt8) : Rs.passE w d ≤ 3 := by rcases Rs.pass_bad w d with h | h | h <;> rw [h] <;> decide
theorem dg_num : ∀ (d : List UInt8) (k n : Nat) (r : Nat × Nat), k ≤ 6 → n < 10 ^ k → Rs.dgR k n d = .ok r → r.1 < 1000000
  | [], _, _, _, _, _, h => by cases h
  | c :: d, k, n, r, hk, hn, h => by
    rw [Rs.dgR] at h
    split at h
    · rename_i hd
      split at h
      · cases h
      · rename_i hk6
        have hx : 48 ≤ c.toNat ∧ c.toNat ≤ 57 := by simpa [Rs.isDig] using hd
        exact dg_num d (k + 1) _ r (by omega) (by rw [Nat.pow_succ]; omega) h
    · split at h
      · cases h
      · cases h; exact pow_small hk hn

theorem cnt_one (sg : UInt8) (lo hi : Nat) (d : List UInt8) {E : Nat} (h : Rs.passE [sg] d = E) (hE : E ≠ 0) : Rs.cntR sg lo hi d = .error E := by rw [Rs.cntR, h, Rs.chk_no hE]; rfl
theorem cnt_two (sg : UInt8) (lo hi : Nat) (d : List UInt8) {E : Nat} (h : Rs.passE [sg] d = 0) (h2 : Rs.dgR 0 0 (d.drop 1) = .error E) : Rs.cntR sg lo hi d = .error E := by rw [Rs.cntR, h, Rs.thenE_chk0, h2]; rfl
theorem cnt_three (sg : UInt8) (lo hi : Nat) (d : List UInt8) {n k E : Nat} (h : Rs.passE [sg] d = 0) (h2 : Rs.dgR 0 0 (d.drop 1) = .ok (n, k)) (h3 : Rs.passE Rs.crlf (d.drop (1 + k)) = E) (hE : E ≠ 0) : Rs.cntR sg lo hi d = .error E := by
  rw [Rs.cntR, h, Rs.thenE_chk0, h2, Rs.thenE_ok rfl, h3, Rs.chk_no hE]; rfl
theorem cnt_four (sg : UInt8) (lo hi : Nat) (d : List UInt8) {n k : Nat} (h : Rs.passE [sg] d = 0) (h2 : Rs.dgR 0 0 (d.drop 1) = .ok (n, k)) (h3 : Rs.passE Rs.crlf (d.drop (1 + k)) = 0) : Rs.cntR sg lo hi d = if n < lo ∨ hi < n then .error 4 else .ok (n, k + 3) := by
  rw [Rs.cntR, h, Rs.thenE_chk0, h2, Rs.thenE_ok rfl, h3, Rs.thenE_chk0]

set_option maxHeartbeats 2000000 in
theorem count_any (ao : Option Addr) (m c : Nat) (l : List UInt8) (a : Nat) (sg : UInt8) (lo hi : Nat) (w : World) (hb : Bytes w ao m c l) (ha : a ≤ m) (hm : m ≤ 1048576) :
    Calls Tryd.prog 18 #[.slice ao m c, .int .i64 (a : Int), .string ⟨#[sg]⟩, .int .i64 (lo : Int), .int .i64 (hi : Int)] w fun e w' => e = .returned (.tuple #[.int .i64 (rN (Rs.cntR sg lo hi (l.drop a)) : Int), .int .i64 (rP a (Rs.cntR sg lo hi (l.drop a)) : Int), .int .i64 (rE (Rs.cntR sg lo hi (l.drop a)) : Int)]) ∧ Below w.heap.size w w' := by
  have hlen := hb.len
  by_cases h1 : Rs.passE [sg] (l.drop a) = 0
  · have hl1 := Rs.pass_len _ _ h1
    simp only [List.length_cons, List.length_nil, List.length_drop] at hl1
    obtain ⟨p, hp⟩ : ∃ p, p = a + 1 := ⟨_, rfl⟩
    have hdp : (l.drop a).drop 1 = l.drop p := by rw [List.drop_drop, hp]
    have C1 : Hid _ := pass_yes ao m c l a p ⟨#[sg]⟩ w hb ha hm (show 1 ≤ 1000 by decide) h1 hp.symm
    cases hd : Rs.dgR 0 0 (l.drop p) with
    | error E =>
      have hE := bad_pos (Rs.bad_dg _ _ _) hd
      have HE : Hid _ := cnt_two sg lo hi (l.drop a) h1 (by rw [hdp]; exact hd)
      have C2 := fun (w : World) (hb : Bytes w ao m c l) => digits_not ao m c l p E w hb (by omega) hm hd
      have hE0 := ne_zero hE.1
      clear h1 hdp hd
      try have C2 : Hid _ := C2
      try have C3 : Hid _ := C3
      try clear hp
      try clear hq
      try clear hz hzk
      try clear hl3
      try clear hl1
      try clear hk
      go_enter Tryd.func18, Tryd.ntmps18
      go_wp2_with fail
      refine Calls.mono C1.out ?_
      rintro e w1 ⟨rfl, hb1⟩
      go_wp2_with fail
      refine Calls.mono (C2.out w1 (hb.below hb1 (Nat.le_refl _))) ?_
      rintro e w2 ⟨rfl, hb2⟩
      go_wp2
      go_ret3
      rw [HE.out]
      exact ⟨rfl, hb1.trans (hb2.mono hb1.size)⟩
    | ok r =>
      obtain ⟨n, k⟩ := r
      have hk := Rs.dg_len _ _ _ _ hd
      have hn := dg_num _ _ _ _ (by omega) (by decide) hd
      rw [List.length_drop] at hk
      dsimp only at hk hn
      obtain ⟨q, hq⟩ : ∃ q, q = p + k := ⟨_, rfl⟩
      have hdq : (l.drop a).drop (1 + k) = l.drop q := by rw [List.drop_drop, hq, hp]; congr 1; omega
      have C2 := fun (w : World) (hb : Bytes w ao m c l) => digits_yes ao m c l p q n k w hb (by omega) hm hd hq.symm
      by_cases h3 : Rs.passE Rs.crlf (l.drop q) = 0
      · have hl3 := Rs.pass_len _ _ h3
        simp only [Rs.crlf, List.length_cons, List.length_nil, List.length_drop] at hl3
        obtain ⟨z, hz⟩ : ∃ z, z = q + 2 := ⟨_, rfl⟩
        have C3 := fun (w : World) (hb : Bytes w ao m c l) => pass_yes ao m c l q z ⟨#[13, 10]⟩ w hb (by omega) hm (by decide) h3 hz.symm
        have HE := cnt_four sg lo hi (l.drop a) h1 (by rw [hdp]; exact hd) (by rw [hdq]; exact h3)
        have hzk : a + (k + 3) = z := by omega
        by_cases hbd : n < lo ∨ hi < n
        · rw [if_pos hbd] at HE
          have HE : Hid _ := HE
          clear h1 hdp hd hdq h3
          have fin : ∀ w', Below w.heap.size w w' → Ending.returned (.tuple #[.int .i64 0, .int .i64 0, .int .i64 4]) = .returned (.tuple #[.int .i64 (rN (Rs.cntR sg lo hi (l.drop a)) : Int), .int .i64 (rP a (Rs.cntR sg lo hi (l.drop a)) : Int), .int .i64 (rE (Rs.cntR sg lo hi (l.drop a)) : Int)]) ∧ Below w.heap.size w w' := fun w' h => ⟨by rw [HE.out]; rfl, h⟩
          by_cases hb1 : n < lo
          · have hb1' : (n : Int) < (lo : Int) := by omega
            try have C2 : Hid _ := C2
            try have C3 : Hid _ := C3
            try clear hp
            try clear hq
            try clear hz hzk
            try clear hl3
            try clear hl1
            try clear hk
            go_enter Tryd.func18, Tryd.ntmps18
            go_wp2_with fail
            refine Calls.mono C1.out ?_
            rintro e w1 ⟨rfl, hb1⟩
            have hbb1 := hb.below hb1 (Nat.le_refl _)
            go_wp2_with fail
            refine Calls.mono (C2.out w1 hbb1) ?_
            rintro e w2 ⟨rfl, hb2⟩
            have hbb2 := hbb1.below hb2 (Nat.le_refl _)
            go_wp2_with fail
            refine Calls.mono (C3.out w2 hbb2) ?_
            rintro e w3 ⟨rfl, hb3⟩
            have hb12 := hb1.trans (hb2.mono hb1.size)
            have hb13 := hb12.trans (hb3.mono hb12.size)
            go_wp2
            go_ret3
            exact fin _ hb13
          · have hb1' : ¬ (n : Int) < (lo : Int) := by omega
            have hb2' : (hi : Int) < (n : Int) := by omega
            try have C2 : Hid _ := C2
            try have C3 : Hid _ := C3
            try clear hp
            try clear hq
            try clear hz hzk
            try clear hl3
            try clear hl1
            try clear hk
            go_enter Tryd.func18, Tryd.ntmps18
            go_wp2_with fail
            refine Calls.mono C1.out ?_
            rintro e w1 ⟨rfl, hb1⟩
            have hbb1 := hb.below hb1 (Nat.le_refl _)
            go_wp2_with fail
            refine Calls.mono (C2.out w1 hbb1) ?_
            rintro e w2 ⟨rfl, hb2⟩
            have hbb2 := hbb1.below hb2 (Nat.le_refl _)
            go_wp2_with fail
            refine Calls.mono (C3.out w2 hbb2) ?_
            rintro e w3 ⟨rfl, hb3⟩
            have hb12 := hb1.trans (hb2.mono hb1.size)
            have hb13 := hb12.trans (hb3.mono hb12.size)
            go_wp2
            go_ret3
            exact fin _ hb13
        · rw [if_neg hbd] at HE
          have HE : Hid _ := HE
          clear h1 hdp hd hdq h3
          have hb1' : ¬ (n : Int) < (lo : Int) := by omega
          have hb2' : ¬ (hi : Int) < (n : Int) := by omega
          have fin : ∀ w', Below w.heap.size w w' → Ending.returned (.tuple #[.int .i64 (n : Int), .int .i64 (z : Int), .int .i64 0]) = .returned (.tuple #[.int .i64 (rN (Rs.cntR sg lo hi (l.drop a)) : Int), .int .i64 (rP a (Rs.cntR sg lo hi (l.drop a)) : Int), .int .i64 (rE (Rs.cntR sg lo hi (l.drop a)) : Int)]) ∧ Below w.heap.size w w' := fun w' h => ⟨by rw [HE.out, rP]; dsimp only; rw [hzk]; rfl, h⟩
          try have C2 : Hid _ := C2
          try have C3 : Hid _ := C3
          try clear hp
          try clear hq
          try clear hz hzk
          try clear hl3
          try clear hl1
          try clear hk
          go_enter Tryd.func18, Tryd.ntmps18
          go_wp2_with fail
          refine Calls.mono C1.out ?_
          rintro e w1 ⟨rfl, hb1⟩
          have hbb1 := hb.below hb1 (Nat.le_refl _)
          go_wp2_with fail
          refine Calls.mono (C2.out w1 hbb1) ?_
          rintro e w2 ⟨rfl, hb2⟩
          have hbb2 := hbb1.below hb2 (Nat.le_refl _)
          go_wp2_with fail
          refine Calls.mono (C3.out w2 hbb2) ?_
          rintro e w3 ⟨rfl, hb3⟩
          have hb12 := hb1.trans (hb2.mono hb1.size)
          have hb13 := hb12.trans (hb3.mono hb12.size)
          go_wp2
          go_ret3
          exact fin _ hb13
      · have HE : Hid _ := cnt_three sg lo hi (l.drop a) h1 (by rw [hdp]; exact hd) (by rw [hdq]) h3
        obtain ⟨E, hE⟩ : ∃ E, E = Rs.passE Rs.crlf (l.drop q) := ⟨_, rfl⟩
        have C3 := fun (w : World) (hb : Bytes w ao m c l) => pass_not ao m c l q E ⟨#[13, 10]⟩ w hb (by omega) hm (by decide) hE.symm (by rw [hE]; exact h3)
        have hE4 := pass_le Rs.crlf (l.drop q)
        rw [← hE] at HE h3 hE4
        have hE0 := ne_zero h3
        clear h1 hdp hd hdq hE
        try have C2 : Hid _ := C2
        try have C3 : Hid _ := C3
        try clear hp
        try clear hq
        try clear hz hzk
        try clear hl3
        try clear hl1
        try clear hk
        go_enter Tryd.func18, Tryd.ntmps18
        go_wp2_with fail
        refine Calls.mono C1.out ?_
        rintro e w1 ⟨rfl, hb1⟩
        have hbb1 := hb.below hb1 (Nat.le_refl _)
        go_wp2_with fail
        refine Calls.mono (C2.out w1 hbb1) ?_
        rintro e w2 ⟨rfl, hb2⟩
        have hbb2 := hbb1.below hb2 (Nat.le_refl _)
        go_wp2_with fail
        refine Calls.mono (C3.out w2 hbb2) ?_
        rintro e w3 ⟨rfl, hb3⟩
        have hb12 := hb1.trans (hb2.mono hb1.size)
        have hb13 := hb12.trans (hb3.mono hb12.size)
        go_wp2
        go_ret3
        rw [HE.out]
        exact ⟨rfl, hb13⟩
  · obtain ⟨E, hE⟩ : ∃ E, E = Rs.passE [sg] (l.drop a) := ⟨_, rfl⟩
    have C1 : Hid _ := pass_not ao m c l a E ⟨#[sg]⟩ w hb ha hm (show 1 ≤ 1000 by decide) hE.symm (by rw [hE]; exact h1)
    have HE : Hid _ := cnt_one sg lo hi (l.drop a) hE.symm (by rw [hE]; exact h1)
    have hE4 := pass_le [sg] (l.drop a)
    rw [← hE] at h1 hE4
    have hE0 := ne_zero h1
    clear hE
    try have C2 : Hid _ := C2
    try have C3 : Hid _ := C3
    try clear hp
    try clear hq
    try clear hz hzk
    try clear hl3
    try clear hl1
    try clear hk
    go_enter Tryd.func18, Tryd.ntmps18
    go_wp2_with fail
    refine Calls.mono C1.out ?_
    rintro e w1 ⟨rfl, hb1⟩
    go_wp2
    go_ret3
    rw [HE.out]
    exact ⟨rfl, hb1⟩
end Go.Proofs.YtkhfplpplmnjiabDoor
