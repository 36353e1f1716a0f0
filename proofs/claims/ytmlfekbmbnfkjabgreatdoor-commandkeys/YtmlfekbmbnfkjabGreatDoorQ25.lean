/-
  A name with capitals for small letters: the program's and the reference's.
-/
import Derived.Test.YtmlfekbmbnfkjabGreatDoorQ24
import Derived.Test.YtmlfekbmbnfkjabGreatDoorQ18
import Derived.Deep.LoopGhost
import Derived.Test.YtmlfekbmbnfkjabGreatDoorQ02
import Derived.Laws.IdiomStrings
namespace Go.Proofs.YtmlfekbmbnfkjabGreatDoor
set_option maxRecDepth 100000
open Go.RowKit

def upC (c : UInt8) : UInt8 := if 97 ≤ c.toNat ∧ c.toNat ≤ 122 then UInt8.ofNat (c.toNat - 32) else c
def upE (l : List UInt8) : List UInt8 := l.map upC
def upTo (l : List UInt8) (i : Nat) : List UInt8 := (l.take i).map upC ++ l.drop i
theorem upTo_all (l : List UInt8) : upTo l l.length = upE l := by unfold upTo upE; rw [List.take_length, List.drop_length, List.append_nil]
theorem upTo_len (l : List UInt8) (i : Nat) : (upTo l i).length = l.length := by unfold upTo; rw [List.length_append, List.length_map, List.length_take, List.length_drop]; omega
theorem upTo_get (l : List UInt8) (i : Nat) (h : i < l.length) : (upTo l i).getD i 0 = l.getD i 0 := by
  unfold upTo
  rw [List.getD_eq_getElem?_getD, List.getElem?_append_right (by rw [List.length_map, List.length_take]; omega), List.length_map, List.length_take, List.getElem?_drop, List.getD_eq_getElem?_getD]
  congr 2
  omega
theorem upTo_step (l : List UInt8) (i : Nat) (h : i < l.length) : (upTo l i).set i (upC (l.getD i 0)) = upTo l (i + 1) := by
  have hg : l[i]? = some (l.getD i 0) := by rw [List.getD_eq_getElem?_getD, List.getElem?_eq_getElem h]; rfl
  have hd : l.drop i = l.getD i 0 :: l.drop (i + 1) := by
    rw [List.drop_eq_getElem_cons h]
    congr 1
    rw [List.getD_eq_getElem?_getD, List.getElem?_eq_getElem h]; rfl
  unfold upTo
  rw [List.take_add_one, hg, List.map_append, hd, List.set_append_right _ _ (by rw [List.length_map, List.length_take]; omega), List.length_map, List.length_take]
  have e : i - min i l.length = 0 := by omega
  rw [e, List.set_cons_zero, List.append_assoc]
  rfl
theorem upTo_skip (l : List UInt8) (i : Nat) (h : i < l.length) (hc : upC (l.getD i 0) = l.getD i 0) : upTo l i = upTo l (i + 1) := by
  rw [← upTo_step l i h, hc]
  have hg : (upTo l i)[i]? = some (l.getD i 0) := by
    rw [← upTo_get l i h, List.getD_eq_getElem?_getD, List.getElem?_eq_getElem (by rw [upTo_len]; exact h)]; rfl
  refine List.ext_getElem? fun j => ?_
  rw [List.getElem?_set]
  split
  · rename_i e
    subst e
    rw [if_pos (by rw [upTo_len]; exact h), hg]
  · rfl
theorem size_sb (l : List UInt8) : (sb l).size = l.length := by simp [sb, ByteArray.size]
theorem conv_tailback {w : World} {g cap : Nat} {l : List UInt8} (h : T21.Tail w g cap l) : (convert 91 9 (.slice (some ⟨g, 0, none⟩) l.length cap)).run Tryz.prog w = .ok (.string (sb l)) w := by
  refine run_convert_bytes_back w 91 9 5 ⟨g, 0, none⟩ cap l Tryz.underlying91 Tryz.underlying5 Tryz.underlying9 ?_
  intro j hj
  have := h.cell hj
  rw [List.getD_eq_getElem?_getD, List.getElem?_eq_getElem hj] at this
  rw [Addr.add_lit, Nat.zero_add]
  exact this
theorem below_grown {w a b : World} {g : Nat} (h : Below g w a) (k : a.grownBy b (some g)) (hl : g < a.heap.size) : Below g w b :=
  ⟨k.os.trans h.os, k.tape.trans h.tape, k.output.trans h.output, Nat.le_trans h.size k.size, fun j hj => by
    rw [k.block j (by omega) (by intro e; cases e; omega)]; exact h.block j hj⟩
set_option maxHeartbeats 1000000 in
theorem capitals_any (l : List UInt8) (w : World) (hl : l.length ≤ 1000000) :
    Calls Tryz.prog 22 #[.string (sb l)] w fun e w' => e = .returned (.string (sb (upE l))) ∧ Below w.heap.size w w' := by
  obtain ⟨cap, W0, hrun, hT, -, hb0, -⟩ := T21.conv_tail (sb l) w (by rw [size_sb]; unfold maxLen; omega)
  rw [data_sb] at hT
  rw [size_sb] at hrun
  obtain ⟨n, hn⟩ : ∃ n, l.length = n := ⟨_, rfl⟩
  rw [hn] at hrun
  have HN : Hid (l.length = n) := hn
  obtain ⟨g, hg⟩ : ∃ g, w.heap.size = g := ⟨_, rfl⟩
  rw [hg] at hrun hT hb0
  have HG : Hid (w.heap.size = g) := hg
  have H0 : Aside (T21.Tail W0 g cap l ∧ Below g w W0) := ⟨hT, hb0⟩
  clear hT hb0 hn hg
  go_enter Tryz.func22, Tryz.ntmps22
  go_wp2_with fail
  go_loopg [10] n (fun kx s10 wr => ∃ i : Nat, s10 = .int .i64 i ∧ i ≤ n ∧ n - i ≤ kx ∧ Aside (T21.Tail wr g cap (upTo l i) ∧ Below g w wr))
  case atStart => exact ⟨0, rfl, Nat.zero_le _, by omega, H0⟩
  case round =>
    obtain ⟨i, rfl, him, hkx, HR⟩ := hrel
    obtain ⟨hT, hb⟩ := HR.out
    by_cases hlt : i < n
    · have hltz : (i : Int) < (n : Int) := by omega
      have hil : i < l.length := by rw [HN.out]; exact hlt
      have hc := hT.cell (j := i) (by rw [upTo_len]; exact hil)
      rw [upTo_get l i hil] at hc
      have hcap : i < cap := by
        obtain ⟨cur, h1, h2, h3, h4⟩ := hT
        rw [upTo_len] at h3
        omega
      have hfz := hT.fz hcap
      have hset := hT.set (j := i) (upC (l.getD i 0))
      rw [upTo_step l i hil] at hset
      have HSK : Hid (upC (l.getD i 0) = l.getD i 0 → upTo l i = upTo l (i + 1)) := upTo_skip l i hil
      have hbs := T21.grown_set wr g i (.int .u8 ((upC (l.getD i 0)).toNat : Int))
      have hxb : (l.getD i 0).toNat < 256 := UInt8.toNat_lt _
      have HX : Hid (upC (l.getD i 0) = if 97 ≤ (l.getD i 0).toNat ∧ (l.getD i 0).toNat ≤ 122 then UInt8.ofNat ((l.getD i 0).toNat - 32) else l.getD i 0) := rfl
      have HTT : Aside (T21.Tail wr g cap (upTo l i) ∧ Below g w wr) := ⟨hT, hb⟩
      clear hT hb HR hrun
      generalize l.getD i 0 = ch at *
      obtain ⟨y, hy⟩ : ∃ y, (upC ch).toNat = y := ⟨_, rfl⟩
      rw [hy] at hset hbs
      have HY : Hid ((upC ch).toNat = y) := hy
      obtain ⟨x, hx⟩ : ∃ x, ch.toNat = x := ⟨_, rfl⟩
      rw [hx] at hc hxb HX
      have HXX : Hid (ch.toNat = x) := hx
      clear hx hy
      have HS : Aside (T21.Tail (wr.setCell ⟨g, i, none⟩ (.int .u8 (y : Int))) g cap (upTo l (i + 1)) ∧ wr.grownBy (wr.setCell ⟨g, i, none⟩ (.int .u8 (y : Int))) (some g)) := ⟨hset, hbs⟩
      clear hset hbs
      by_cases h12 : 97 ≤ x ∧ x ≤ 122
      · have hz1 : (97 : Int) ≤ (x : Int) := by omega
        have hz2 : (x : Int) ≤ 122 := by omega
        have hyx : (y : Int) = (x : Int) - 97 + 65 := by
          have h3 := HX.out
          rw [if_pos h12] at h3
          have h4 := HY.out
          rw [h3, UInt8.toNat_ofNat'] at h4
          omega
        go_wp2
        rw [← hyx]
        go_roundg (n - (i + 1))
        case measure => omega
        case rel => exact ⟨i + 1, by go_num, by omega, Nat.le_refl _, ⟨HS.out.1, below_grown HTT.out.2 HS.out.2 HTT.out.1.lt⟩⟩
      · have HSKK : Hid (upTo l i = upTo l (i + 1)) := HSK.out (by rw [HX.out, if_neg h12])
        by_cases h1 : 97 ≤ x
        · have hz1 : (97 : Int) ≤ (x : Int) := by omega
          have hz2 : ¬ (x : Int) ≤ 122 := by omega
          clear HX
          go_wp2
          go_roundg (n - (i + 1))
          case measure => omega
          case rel => exact ⟨i + 1, by go_num, by omega, Nat.le_refl _, by rw [← HSKK.out]; exact HTT⟩
        · have hz1 : ¬ (97 : Int) ≤ (x : Int) := by omega
          clear HX
          go_wp2
          go_roundg (n - (i + 1))
          case measure => omega
          case rel => exact ⟨i + 1, by go_num, by omega, Nat.le_refl _, by rw [← HSKK.out]; exact HTT⟩
    · have hltz : ¬ (i : Int) < (n : Int) := by omega
      have hin : i = n := by omega
      subst hin
      have hcv := conv_tailback hT
      rw [upTo_len, HN.out] at hcv
      have FIN : Hid (upTo l i = upE l ∧ Below g w wr) := ⟨by rw [← HN.out]; exact upTo_all l, hb⟩
      clear hT hb HR hrun
      go_wp2
      go_ret
      rw [HG.out]
      exact ⟨by rw [FIN.out.1]; rfl, FIN.out.2⟩
end Go.Proofs.YtmlfekbmbnfkjabGreatDoor

/-
  Texts as lists of bytes, and back: what the two conversions come to.
-/
namespace Go.Proofs.YtmlfekbmbnfkjabGreatDoor
set_option maxRecDepth 100000
open Go.RowKit

theorem own_below {w w' : World} {base : Nat} {v : Value} {n : Nat} {xs : List Value} (h : w.ownsRow base 5 1 v n xs) (hb : Below w.heap.size w w') : w'.ownsRow base 5 1 v n xs := by
  refine h.kept (row := none) ⟨hb.os, hb.tape, hb.output, hb.size, fun k hk _ => hb.block k hk⟩ ?_
  cases v.ownBlock <;> simp

end Go.Proofs.YtmlfekbmbnfkjabGreatDoor

/-
  What the document's answers come to: a number's bytes as a text, a text's, those of a number with a sign. They make memory, and turn nothing that was there.
-/
namespace Go.Proofs.YtmlfekbmbnfkjabGreatDoor
set_option maxRecDepth 100000
open Go.RowKit

end Go.Proofs.YtmlfekbmbnfkjabGreatDoor

