/-
  What putAll comes to.
-/
import Derived.Test.YthdhnilfkpbmpaaLpt
namespace Go.Proofs.Ythdhnilfkpbmpaa
set_option maxRecDepth 100000
set_option linter.unusedVariables false
open Go.RowKit

theorem conv_text (s : List UInt8) (W : World) (hs : s.length ≤ 1000000) : ∃ cap W', (convert 9 54 (.string (sb s))).run Try.prog W = .ok (.slice (some ⟨W.heap.size, 0, none⟩) s.length cap) W' ∧ Bytes W' (some ⟨W.heap.size, 0, none⟩) s.length cap s ∧ cap ≤ maxLen ∧ Below W.heap.size W W' := by
  obtain ⟨cap, W', h1, h2, h3, h4, -⟩ := conv_bytes (sb s) W (by rw [sb_size]; unfold maxLen; omega)
  rw [sb_size] at h1 h2
  exact ⟨cap, W', h1, h2, h3, h4⟩
/-- The log's bytes: at most so many. -/
theorem file_few {b : Bool} {s : List UInt8} : ∀ {E : List Ev}, (∀ e ∈ E, Good e) → s.length ≤ 65528 → (file b s E).length ≤ 65535 + 1007 * E.length := by
  intro E h hs
  have key : ∀ {E : List Ev}, (∀ e ∈ E, Good e) → (Fr.frames (E.map eb)).length ≤ 1007 * E.length := by
    intro E
    induction E with
    | nil => intro _; simp [Fr.frames]
    | cons e E ih =>
      intro h
      have := ih (fun x hx => h x (by simp [hx]))
      have := eb_short (h e (by simp))
      rw [List.map_cons, frames_cons, List.length_cons]; omega
  have := key h
  have h0 : (file b s []).length ≤ 65535 := by
    cases b
    · simp [file, bodies, Fr.frames]
    · have e1 : file true s [] = Fr.frames ((1 :: s) :: []) := by simp [file, bodies]
      rw [e1, frames_cons, List.length_cons]
      simp [Fr.frames]; omega
  have e2 := file_app b s [] E
  rw [List.nil_append] at e2
  rw [e2, List.length_append]; omega

set_option maxHeartbeats 1000000 in
theorem putall_long (s : List UInt8) (ao : Option Addr) (m c : Nat) (w : World) (hs : 65528 < s.length) (hs2 : s.length ≤ 70000) :
    Calls Try.prog 28 #[.string (sb s), .slice ao m c] w fun e w' => e = .returned (.tuple #[.slice none 0 0, .int .i64 4]) ∧ Below w.heap.size w w' := by
  obtain ⟨cap, w1, hcv, hby, hcap, hb1⟩ := conv_text s w (by omega)
  have HP : Hid _ := putbody_long (.slice none 0 0) 1 (some ⟨w.heap.size, 0, none⟩) s.length cap s w1 hby (by omega) (by omega)
  clear hby
  generalize sb s = t at *
  generalize s.length = n at *
  go_enter Try.func28, Try.ntmps28
  go_wp2_with fail
  refine Calls.mono HP.out ?_
  rintro e w2 ⟨rfl, hb2⟩
  clear HP hcv
  go_wp2
  go_ret2
  exact ⟨rfl, hb1.trans (hb2.mono hb1.size)⟩

set_option maxHeartbeats 1000000 in
theorem putall_any (s : List UInt8) (ao : Option Addr) (m c : Nat) (E : List Ev) (w : World) (hE : Evs w ao m c E) (hs : s.length ≤ 65528) (hm : m ≤ 100) :
    Calls Try.prog 28 #[.string (sb s), .slice ao m c] w fun e w' => Below w.heap.size w w' ∧
      ((∀ x ∈ E, Good x) ∧ (∃ v, e = .returned (.tuple #[v, .int .i64 0]) ∧ w'.ownsRow w.heap.size 5 1 v (file true s E).length (bs (file true s E))) ∨ (¬ (∀ x ∈ E, Good x)) ∧ e = .returned (.tuple #[.slice none 0 0, .int .i64 1])) := by
  obtain ⟨cap, w1, hcv, hby, hcap, hb1⟩ := conv_text s w (by omega)
  have HP : Hid _ := putbody_ok w1.heap.size (.slice none 0 0) [] 1 (some ⟨w.heap.size, 0, none⟩) s.length cap s w1 (World.ownsRow_nil _ _ _ _) (Nat.le_refl _) hby (by omega) (by simp)
  have hf0 : [] ++ Fr.frame (1 :: s) = file true s (E.take 0) := by simp [file, bodies, Fr.frames]
  rw [hf0] at HP
  clear hby hf0
  have hel := hE.len
  go_enter Try.func28, Try.ntmps28
  go_wp2_with fail
  refine Calls.mono HP.out ?_
  rintro e w2 ⟨v2, rfl, hr2, hb2⟩
  have hr2' : w2.ownsRow w.heap.size 5 1 v2 (file true s (E.take 0)).length (bs (file true s (E.take 0))) := own_lower hr2 hb1.size
  have hB2 : Below w.heap.size w w2 := hb1.trans (hb2.mono hb1.size)
  clear HP hcv hr2 hb2 hb1
  go_wp2_with fail
  go_loopw [6, 21] (fun f i wr => ∃ k : Nat, k ≤ m ∧ i = .int .i64 (k : Int) ∧ (∀ x ∈ E.take k, Good x) ∧ wr.ownsRow w.heap.size 5 1 f (file true s (E.take k)).length (bs (file true s (E.take k))) ∧ Below w.heap.size w wr) (fun _ i _ => m - (intOf i).toNat)
  case atStart => exact ⟨0, Nat.zero_le _, rfl, by simp, hr2', hB2⟩
  case round =>
    obtain ⟨k, hk, rfl, hgd, hrow, hBr⟩ := hrel
    clear hr2' hB2
    by_cases hkm : k < m
    · obtain ⟨b, off, x, rfl, hx, hwx, hrng, hblk⟩ := hE.at hkm
      have hrng' : wr.rangeAt b (off + k * 26) (evl x) := fun j v hv => by
        have := hrng j v hv
        exact (hBr.cell (World.block_lt_of_cell? w _ this)).trans this
      have hflen : (file true s (E.take k)).length ≤ 900000 := by
        have := file_few (b := true) hgd hs
        rw [List.length_take] at this
        omega
      have htk : E.take (k + 1) = E.take k ++ [x] := by rw [List.take_add_one, hx]; rfl
      have hl := hwx.1
      have hn := liesE_new wr zv
      have hU := hn.row x
      have hB3 : Below wr.heap.size wr ((wr.alloc (.cells (evc zv) 30)).setRow wr.heap.size (evc x)) := below_setRow ((Below.refl _ _).alloc (Nat.le_refl _) _) (Nat.le_refl _) _
      have hr3 := own_type hrow hB3 (Nat.le_refl _)
      have HB3 : Hid (Below w.heap.size w _) := hBr.trans (hB3.mono hBr.size)
      have hsz3 := HB3.out.size
      have Hmem : Hid (x ∈ E) := List.mem_of_getElem? hx
      rw [zv_cells] at hn hU hr3 HB3 hsz3
      clear hB3 hrng hrow
      go_upto_region 7 with (first | refine load_ev_mid rfl rfl rfl hrng' hl ?_ | refine store_ev (e := x) rfl rfl rfl rfl hn hl rfl ?_)
      clear hn hrng'
      generalize ((wr.alloc (.cells #[.int .i64 0, .int .i64 0, .int .i64 0, .int .i64 0, .int .i64 0, .int .i64 0, .int .i64 0, .int .i64 0, .int .i64 0, .int .i64 0, .int .i64 0, .int .i64 0, .int .i64 0, .int .i64 0, .int .i64 0, .int .i64 0, .int .i64 0, .int .i64 0, .int .i64 0, .int .i64 0, .string ⟨#[]⟩, .string ⟨#[]⟩, .string ⟨#[]⟩, .int .i64 0, .int .i64 0, .int .i64 0] 30)).setRow wr.heap.size (evc x)) = W at *
      rcases Bool.eq_false_or_eq_true (okev x) with hok | hok
      · have hg : Good x := ⟨hl, hok⟩
        have HP : Hid _ := putevent_ok w.heap.size u6 (file true s (E.take k)) x W hr3 hsz3 hg hflen
        rw [← file_add, ← htk] at HP
        clear hr3
        go_wp2_with (refine load_ev rfl rfl rfl hU hl ?_)
        refine Calls.mono HP.out ?_
        rintro e w4 ⟨v4, rfl, hr4, hb4⟩
        clear HP hU
        go_wp2
        go_roundw
        case rel => exact ⟨k + 1, by omega, by go_num, fun y hy => by
          rw [htk] at hy
          rcases List.mem_append.1 hy with hy | hy
          · exact hgd y hy
          · rw [List.mem_singleton.1 hy]; exact hg, hr4, HB3.out.trans hb4⟩
        case measure => simp [intOf]; omega
      · have HP : Hid _ := putevent_no u6 x W hwx hok
        clear hr3
        go_wp2_with (refine load_ev rfl rfl rfl hU hl ?_)
        refine Calls.mono HP.out ?_
        rintro e w4 ⟨rfl, hb4⟩
        clear HP hU
        go_wp2
        go_ret2
        refine ⟨HB3.out.trans (hb4.mono hsz3), .inr ⟨fun h => ?_, rfl⟩⟩
        have := (h x Hmem.out).2
        rw [hok] at this
        cases this
    · obtain rfl : k = m := by omega
      have htk : E.take k = E := List.take_of_length_le (by omega)
      rw [htk] at hgd hrow
      go_wp2
      go_ret2
      exact ⟨hBr, .inl ⟨hgd, _, rfl, hrow⟩⟩
end Go.Proofs.Ythdhnilfkpbmpaa
