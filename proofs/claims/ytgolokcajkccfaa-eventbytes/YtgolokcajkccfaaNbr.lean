/-
  What the document's answers come to: a number's bytes as a text, a text's, those of a number with a sign. They make memory, and turn nothing that was there.
-/
import Derived.Test.YtgolokcajkccfaaCnv
namespace Go.Proofs.Ytgolokcajkccfaa
open Go.RowKit

/-- What Number has behind k rounds. -/
def low (n k : Nat) : ByteArray := ⟨(Vq.hi k (n / 128) ++ [UInt8.ofNat (n % 128)]).toArray⟩

theorem low_size (n k : Nat) : (low n k).size = k + 1 := by
  show (Vq.hi k (n / 128) ++ [UInt8.ofNat (n % 128)]).toArray.size = _
  rw [List.size_toArray, List.length_append, Vq.hi_length]; rfl
/-- A text of one byte. -/
def oneb (x : Nat) : ByteArray := ⟨#[UInt8.ofNat x]⟩
theorem oneb_size (x : Nat) : (oneb x).size = 1 := rfl
theorem low_step {n k m : Nat} (h : n / 128 ^ (k + 1) = m) : oneb (128 + m % 128) ++ low n k = low n (k + 1) := by
  have e : n / 128 / 128 ^ k = m := by rw [Nat.div_div_eq_div_mul, Nat.mul_comm, ← Nat.pow_succ, h]
  apply ByteArray.ext
  rw [ByteArray.data_append]
  show #[UInt8.ofNat (128 + m % 128)] ++ (Vq.hi k (n / 128) ++ [UInt8.ofNat (n % 128)]).toArray = (Vq.hi (k + 1) (n / 128) ++ [UInt8.ofNat (n % 128)]).toArray
  rw [Vq.hi_cons, e]
  simp
theorem low_end {n k : Nat} (h : Vq.wd n = k + 1) : low n k = txt n := by
  unfold low txt Vq.num
  rw [h, Nat.add_sub_cancel]

theorem one_conv (W : World) (x : Nat) (hx : x < 256) :
    (convert 35 9 (.slice (some ⟨W.heap.size, 0, none⟩) 1 1)).run Try.prog (W.alloc (.cells #[.int .u8 (x : Int)] 5)) = .ok (.string (oneb x)) (W.alloc (.cells #[.int .u8 (x : Int)] 5)) := by
  refine run_convert_bytes_back _ 35 9 5 ⟨W.heap.size, 0, none⟩ 1 [UInt8.ofNat x] Try.underlying35 Try.underlying5 Try.underlying9 ?_
  intro j hj
  have : j = 0 := by simpa using hj
  subst this
  rw [Addr.add_lit, World.cell?_alloc_mark]
  simp only [List.getElem_cons_zero]
  rw [Vq.toNat_ofNat_lt _ hx]
  rfl

set_option maxHeartbeats 400000 in
theorem number_any (n : Nat) (w : World) (hn : n < 18446744073709551616) :
    Calls Try.prog 55 #[.int .u64 (n : Int)] w fun e w' => e = .returned (.string (txt n)) ∧ Below w.heap.size w w' := by
  have h0 : (convert 35 9 (.slice (some ⟨w.heap.size, 0, none⟩) 1 1)).run Try.prog (w.alloc (.cells #[.int .u8 ((n : Int) % 128)] 5)) = .ok (.string (low n 0)) (w.alloc (.cells #[.int .u8 ((n : Int) % 128)] 5)) := one_conv w (n % 128) (by omega)
  go_enter Try.func55, Try.ntmps55
  go_wp2
  clear h0
  go_loopw [0, 3] (fun x y wr => ∃ k : Nat, k ≤ 9 ∧ (k = 0 ∨ 128 ^ k ≤ n) ∧ x = .int .u64 ((n / 128 ^ (k + 1) : Nat) : Int) ∧ y = .string (low n k) ∧ Below w.heap.size w wr) (fun x _ _ => (intOf x).toNat)
  case atStart => exact ⟨0, by omega, .inl rfl, by simp, rfl, (Below.refl _ _).alloc (Nat.le_refl _) _⟩
  case round =>
    obtain ⟨k, hk, hge, rfl, rfl, hbel⟩ := hrel
    have hm : n / 128 ^ (k + 1) ≤ n := Nat.div_le_self _ _
    generalize hmk : n / 128 ^ (k + 1) = m at *
    have Hmk : Hid (n / 128 ^ (k + 1) = m) := hmk
    clear hmk
    have Hge : Hid (k = 0 ∨ 128 ^ k ≤ n) := hge
    clear hge
    by_cases h : m = 0
    · subst h
      go_wp2
      go_ret
      exact ⟨congrArg (fun x => Ending.returned (Value.string x)) (low_end (Vq.nbr_end hk Hge.out Hmk.out)), hbel⟩
    · have h1 : (0 : Int) < (m : Int) := by omega
      have h2 : (convert 35 9 (.slice (some ⟨wr.heap.size, 0, none⟩) 1 1)).run Try.prog (wr.alloc (.cells #[.int .u8 (128 + (m : Int) % 128)] 5)) = .ok (.string (oneb (128 + m % 128))) (wr.alloc (.cells #[.int .u8 (128 + (m : Int) % 128)] 5)) := one_conv wr (128 + m % 128) (by omega)
      have h3 := low_size n k
      have h4 := oneb_size (128 + m % 128)
      go_wp2
      go_roundw
      case rel =>
        obtain ⟨a, b, c⟩ := Vq.nbr_step hn Hmk.out h
        exact ⟨k + 1, a, .inr b, by rw [c]; go_num, by rw [low_step Hmk.out], hbel.alloc hbel.size _⟩
      case measure => simp [intOf]; omega

/-- A text's bytes as a text. -/
def ttx (s : ByteArray) : ByteArray := txt s.size ++ s
theorem ttx_size (s : ByteArray) : (ttx s).size = Vq.wd s.size + s.size := by rw [ttx, ByteArray.size_append, txt_size]

set_option maxHeartbeats 400000 in
theorem text_any (s : ByteArray) (w : World) (hs : s.size ≤ 1048576) :
    Calls Try.prog 56 #[.string s] w fun e w' => e = .returned (.string (ttx s)) ∧ Below w.heap.size w w' := by
  have h1 := txt_size s.size
  have h2 := Vq.wd_le s.size
  go_enter Try.func56, Try.ntmps56
  go_wp2_with fail
  refine (number_any s.size _ (by omega)).mono ?_
  rintro e w1 ⟨rfl, hbel⟩
  go_wp2
  go_ret
  exact ⟨rfl, hbel⟩
end Go.Proofs.Ytgolokcajkccfaa
