/-
  What the reader's way event comes to.
-/
import Derived.Test.YthdhnilfkpbmpaaGev
import Derived.Deep.Cut
namespace Go.Proofs.Ythdhnilfkpbmpaa
set_option maxRecDepth 100000

open Go.RowKit

set_option maxHeartbeats 4000000 in
theorem gevent_any (g : Nat) (ao : Option Addr) (c : Nat) (l : List UInt8) (s : Rd) (w : World) (h : Rdr w g ao c l s) (ha : Ahead ao w.heap.size) :
    Calls Try.prog 61 #[.pointer (some ⟨g, 0, none⟩)] w fun e w' => GotE w g ao c l s e w' := by
  obtain ⟨h0, d⟩ := evn_start h ha
  have HD : Hid (Side w g w.heap.size (w.heap.size + 1) ao) := d
  have H0 : Hid (Evn w ((w.alloc (.cells (evc zv) 30)).alloc (.cells (evc zv) 30)) g w.heap.size (w.heap.size + 1) ao c l s zv zv) := h0
  have HA : Hid (Ahead ao w.heap.size) := ha
  have HG : Hid _ := gdot_any g ao c l s _ h0.r (ha.mono h0.c.size)
  clear h ha h0 d
  go_enter Try.func61, Try.ntmps61
  go_wp2_with fail
  refine Calls.mono HG.out ?_
  rintro e' w1 ⟨r, n, rfl, hr, hv, hc⟩
  have H1 : Hid (Evn w (w1.setCells (w.heap.size + 1) 0 (dotc r n).toList) g w.heap.size (w.heap.size + 1) ao c l (S2 s) (A2 s) { zv with r := r, n := n }) := H0.out.dot HD.out hc hr r n fun h => by
    obtain ⟨e1, e2⟩ := hv h
    rw [e1, e2]; rfl
  have hE := hc.liesE H0.out.e HD.out.kg
  have t0 := hE.thereD
  have HG2 : Hid _ := gnumber_any g ao c l _ _ H1.out.r
  clear HG hr hv hc hE H0
  go_wp2_with (refine store_dot_at rfl rfl rfl rfl t0 ?_)
  refine Calls.mono HG2.out ?_
  rintro e' w2 ⟨t, rfl, hr, hv, hc⟩
  have H2 : Hid (Evn w (w2.setCell ⟨w.heap.size + 1, 2, none⟩ (.int .i64 t)) g w.heap.size (w.heap.size + 1) ao c l (S3 s) (A3 s) { zv with r := r, n := n, t := t }) := H1.out.time HD.out hc hr t fun h => by
    have e1 := H1.out.m (rdN_ok h).1
    rw [hv h]
    show ({ ({ zv with r := r, n := n } : Ev) with t := _ } : Ev) = _
    rw [e1]; rfl
  have hE := hc.liesE H1.out.e HD.out.kg
  have d2 := hE.c2
  have f2 := hE.frozen (k := 2)
  clear HG2 hr hv hc hE H1 t0
  go_wp2_with fail
  go_loopw [4, 11] (fun _ i wr => ∃ (k : Nat) (u : Ev), k ≤ 16 ∧ i = .int .i64 (k : Int) ∧ Evn w wr g w.heap.size (w.heap.size + 1) ao c l (Si s k) (Ai s k) u) (fun _ i _ => 16 - (intOf i).toNat)
  case atStart => exact ⟨0, _, by omega, rfl, H2.out⟩
  case round =>
    obtain ⟨k, u, hk, rfl, hS⟩ := hrel
    clear H2 d2 f2
    have HS : Hid (Evn w wr g w.heap.size (w.heap.size + 1) ao c l (Si s k) (Ai s k) u) := hS
    clear hS
    by_cases h16 : k < 16
    · have HG : Hid _ := gnumber_any g ao c l _ _ HS.out.r
      go_wp2_with fail
      refine Calls.mono HG.out ?_
      rintro e' w3 ⟨x, rfl, hr, hv, hc⟩
      rw [← Si_succ] at hr hv
      have H3 : Hid (Evn w (w3.setCell ⟨w.heap.size + 1, 3 + k, none⟩ (.int .i64 x)) g w.heap.size (w.heap.size + 1) ao c l (Si s (k + 1)) (Ai s (k + 1)) { u with deps := u.deps.set k x }) := HS.out.dep HD.out hc hr k h16 x fun h => by
        rw [hv h, ← Ai_succ s k h16, HS.out.m (rdN_ok (by rw [← Si_succ]; exact h)).1]
      have hE := hc.liesE HS.out.e HD.out.kg
      have d3 := hE.cd HS.out.len h16
      have f3 := hE.frozen (k := 3 + k)
      have hi := fun W : World => run_indexAt_at W (w.heap.size + 1) 3 k h16
      clear HG hr hv hc hE HS
      go_wp2
      go_roundw
      case rel => exact ⟨k + 1, _, by omega, by go_num, H3.out⟩
      case measure => simp [intOf]; omega
    · obtain rfl : k = 16 := by omega
      have HG : Hid _ := gop_any g ao c l _ _ HS.out.r (HA.out.mono HS.out.c.size)
      go_wp2_with fail
      refine Calls.mono HG.out ?_
      rintro e' w3 ⟨o, rfl, hr, hv, hc⟩
      have H3 : Hid (Evn w (w3.setCells (w.heap.size + 1) 19 (opc o).toList) g w.heap.size (w.heap.size + 1) ao c l (t11 (Si s 16)).2 (Af s) (wop u o)) := HS.out.op HD.out hc hr o fun h => by
        rw [hv h, HS.out.m (op_sticky h)]; rfl
      have hE := hc.liesE HS.out.e HD.out.kg
      have t19 := hE.thereO HS.out.len
      clear HG hr hv hc hE HS
      go_upto_region 10 with (refine store_op_at (e := o) rfl rfl rfl rfl t19 ?_)
      clear t19
      go_wp2_with (first | refine load_ev rfl rfl rfl H3.out.e H3.out.len ?_ | refine store_ev rfl rfl rfl rfl H3.out.z H3.out.len rfl ?_)
      refine ret_ev rfl rfl rfl (H3.out.z.row _) H3.out.len ?_
      exact ⟨_, rfl, H3.out.len, H3.out.r.row _ HD.out.zg (HA.out.ne (Nat.le_refl _)), H3.out.m, H3.out.c.row (Nat.le_refl _) _⟩
end Go.Proofs.Ythdhnilfkpbmpaa
