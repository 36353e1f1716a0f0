/-
  What Decode comes to.
-/
import Derived.Test.YthdhnilfkpbmpaaGee
import Derived.Test.YthdhnilfkpbmpaaRig
import Derived.Test.YthdhnilfkpbmpaaEnc
import Derived.Deep.Cut
import Derived.Deep.RegionHeld3
namespace Go.Proofs.Ythdhnilfkpbmpaa
set_option maxRecDepth 100000

open Go.RowKit

theorem rcs_one (ao : Option Addr) (m c : Nat) (p f : Int) : (rcs (.slice ao m c) p f).all (·.oneCell') = true := by simp [rcs, Value.oneCell']
theorem sizeR (sl : Value) (p f : Int) : (Try.prog.info? 101).map (·.size) = some (rcs sl p f).size := by
  show _ = some 3
  kernel_rfl
theorem store_rd {ops : Array Oper} {rest : List Oper} {o : Oper} {a : Act} {w : World} {Q : Exit → Act → World → Prop} {x y : Operand} {g : Nat} {ao : Option Addr} {m c : Nat} {p f : Int} {sl' : Value} {p' f' : Int} (hgd : o.guard = none) (ho : o.op = .store 101 x y)
    (hx : a.eval x = .pointer (some ⟨g, 0, none⟩)) (hy : a.eval y = .agg (rcs (.slice ao m c) p f)) (hg : Raw w g sl' p' f')
    (h : wpList Try.prog ops Q rest (a.put o.dst undef) (w.setRow g (rcs (.slice ao m c) p f))) : wpList Try.prog ops Q (o :: rest) a w :=
  wpList_store_row hgd 101 x y ho g _ hx hy 101 _ hg (sizeR _ p f) rfl (rcs_one ao m c p f) h
theorem ret_ev2 {fn : Func} {R : Ending → World → Prop} {a : Act} {w : World} {p u : Tmp} {g : Nat} {e : Ev} {v : Value} (h : fn.results = #[.cell p 30, .tmp u]) (hp : a.tmps.getD p undef = .pointer (some ⟨g, 0, none⟩))
    (hu : a.tmps.getD u undef = v) (hd : a.defers = []) (hg : LiesE w g e) (hl : e.deps.length = 16) (hR : R (.returned (.tuple #[.agg (evc e), v])) w) : bodyPost Try.prog fn R .ret a w := by
  refine bodyPost_ret ?_ hd hR
  rw [results_cell_tmp h, hp, hu]
  simp only [asAddr, Sem.run_pure, Result.andThen_ok, run_loadVar_row w g 30 30 _ (0, 0) _ hg Try.underlying30 rfl (size26 e hl)]

/-- The event that is told. -/
def dcV (l : List UInt8) : Ev := if dcE okev l = 0 then evr l else zv
theorem dcV_len (l : List UInt8) : (dcV l).deps.length = 16 := by
  unfold dcV
  split
  · show (rdNs 16 _).1.length = 16
    exact rdNs_len 16 _
  · rfl
theorem Af_evr (l : List UInt8) : Af ⟨l, 0⟩ = evr l := by
  have e : (rdNs 16 (S3 ⟨l, 0⟩)).1 ++ zeros.drop 16 = (rdNs 16 (S3 ⟨l, 0⟩)).1 := by
    rw [show zeros.drop 16 = [] from rfl, List.append_nil]
  show wop (Ai ⟨l, 0⟩ 16) (U11 (Si ⟨l, 0⟩ 16)) = _
  rw [wop, Ai, e]
  rfl
theorem s11_state (l : List UInt8) : (t11 (Si ⟨l, 0⟩ 16)).2 = (s11 l).2 := rfl

theorem fits_room {e : Ev} (h : Fits e) : Room e := ⟨by have := h.key; omega, by have := h.field.1; omega, by have := h.value.1; omega⟩
theorem run_store_zv {w : World} {g : Nat} {e : Ev} (h : LiesE w g e) (hl : e.deps.length = 16) : (Instr.storeAt 30 (.pointer (some ⟨g, 0, none⟩)) (.agg (evc zv))).run Try.prog w = .ok () (w.setRow g (evc zv)) := by
  simp only [Instr.storeAt, Instr.sureAddr, Sem.run_bind, Sem.run_pure, Result.andThen_ok, run_storeVar_row w g 30 30 _ _ h (size26 zv rfl) (by rw [evc_size e hl, evc_size zv rfl]) (evc_one zv)]
theorem run_storeVar_zv {w : World} {g : Nat} {e : Ev} (h : LiesE w g e) (hl : e.deps.length = 16) : (storeVar 30 ⟨g, 0, none⟩ (.agg (evc zv))).run Try.prog w = .ok () (w.setRow g (evc zv)) :=
  run_storeVar_row w g 30 30 _ _ h (size26 zv rfl) (by rw [evc_size e hl, evc_size zv rfl]) (evc_one zv)
theorem LiesE.drew {w : World} {g : Nat} {e : Ev} (h : LiesE w g e) : LiesE w.drew g e := h
theorem LiesE.setZ {w : World} {g : Nat} (h : LiesE w g zv) (j : Nat) {v : Value} (hv : (evl zv)[j]? = some v) : LiesE (w.setCell ⟨g, j, none⟩ v) g zv := by
  rw [LiesE, h.setL]
  congr 2
  rw [evc]
  congr 1
  apply List.ext_getElem?
  intro i
  rw [List.getElem?_set]
  split
  · rename_i hi
    subst hi
    rw [hv, if_pos (List.getElem?_eq_some_iff.1 hv).1]
  · rfl
/-- Behind the start. -/
theorem dec_start {w : World} {ao : Option Addr} {c : Nat} {l : List UInt8} (hb : Bytes w ao l.length c l) (hc : c ≤ maxLen) (ha : Ahead ao w.heap.size) :
    Raw ((w.alloc (.cells (evc zv) 30)).alloc (.cells (rcs (.slice none 0 0) 0 0) 101)) (w.heap.size + 1) (.slice none 0 0) 0 0 ∧
    Rdr (((w.alloc (.cells (evc zv) 30)).alloc (.cells (rcs (.slice none 0 0) 0 0) 101)).setRow (w.heap.size + 1) (rcs (.slice ao l.length c) 0 0)) (w.heap.size + 1) ao c l ⟨l, 0⟩ ∧
    LiesE (((w.alloc (.cells (evc zv) 30)).alloc (.cells (rcs (.slice none 0 0) 0 0) 101)).setRow (w.heap.size + 1) (rcs (.slice ao l.length c) 0 0)) w.heap.size zv ∧
    Below w.heap.size w (((w.alloc (.cells (evc zv) 30)).alloc (.cells (rcs (.slice none 0 0) 0 0) 101)).setRow (w.heap.size + 1) (rcs (.slice ao l.length c) 0 0)) ∧
    w.heap.size + 1 + 1 ≤ (((w.alloc (.cells (evc zv) 30)).alloc (.cells (rcs (.slice none 0 0) 0 0) 101)).setRow (w.heap.size + 1) (rcs (.slice ao l.length c) 0 0)).heap.size := by
  have h1 : Raw ((w.alloc (.cells (evc zv) 30)).alloc (.cells (rcs (.slice none 0 0) 0 0) 101)) (w.heap.size + 1) (.slice none 0 0) 0 0 := by
    have := heap_alloc_new (w.alloc (.cells (evc zv) 30)) (.cells (rcs (.slice none 0 0) 0 0) 101)
    rw [Raw]
    simpa using this
  have hB : Below w.heap.size w (((w.alloc (.cells (evc zv) 30)).alloc (.cells (rcs (.slice none 0 0) 0 0) 101)).setRow (w.heap.size + 1) (rcs (.slice ao l.length c) 0 0)) :=
    below_setRow (((Below.refl _ _).alloc (Nat.le_refl _) _).alloc (by simp) _) (by omega) _
  refine ⟨h1, ⟨⟨0, setRow_heap _ _ _ _ _ _ h1, fun _ => ⟨Nat.zero_le _, rfl⟩⟩, hb.below hB (Nat.le_refl _), ha.ne (by omega), hc⟩, (((liesE_new w zv).alloc _).rowOther _ (by omega)), hB, by simp [World.setRow]⟩

set_option maxHeartbeats 1000000 in
theorem decode_A (ao : Option Addr) (c : Nat) (l : List UInt8) (w : World) (hb : Bytes w ao l.length c l) (hc : c ≤ maxLen) (ha : Ahead ao w.heap.size) (f : Int) (hf : f ≠ 0) (he : (s11 l).2.e = f) :
    Calls Try.prog 47 #[.slice ao l.length c] w fun e w' => e = .returned (.tuple #[.agg (evc zv), .int .i64 f]) ∧ Below w.heap.size w w' := by
  obtain ⟨h1, h2, h3, h4, h5⟩ := dec_start hb hc ha
  have HG : Hid _ := gevent_any _ ao c l _ _ h2 (ha.mono h4.size)
  have H4 : Hid _ := h4
  clear h2 hb hc h4
  go_enter Try.func47, Try.ntmps47
  go_wp2_with (refine store_rd rfl rfl rfl rfl h1 ?_)
  refine Calls.mono HG.out ?_
  rintro e' w2 ⟨u, rfl, hl, hr, hm, hc⟩
  have B2 : Hid (Below w.heap.size w w2) := Chg.below H4.out hc (by omega) (Nat.le_refl _)
  have hz := hc.liesE h3 (by omega)
  have hs := Nat.le_trans h5 hc.size
  clear h1 h3 h5 hc HG H4
  have hn := liesE_new w2 zv
  have R3 : Rdr ((w2.alloc (.cells (evc zv) 30)).setRow w2.heap.size (evc u)) (w.heap.size + 1) ao c l (s11 l).2 := (hr.alloc _).row _ (by omega) (ha.ne (by omega))
  have Z3 : LiesE ((w2.alloc (.cells (evc zv) 30)).setRow w2.heap.size (evc u)) w.heap.size zv := (hz.alloc _).rowOther _ (by omega)
  have E3 : LiesE ((w2.alloc (.cells (evc zv) 30)).setRow w2.heap.size (evc u)) w2.heap.size u := hn.row u
  have B3 : Hid (Below w.heap.size w ((w2.alloc (.cells (evc zv) 30)).setRow w2.heap.size (evc u))) := below_setRow (B2.out.alloc B2.out.size _) B2.out.size _
  rw [zv_cells] at R3 Z3 E3 B3 hn
  obtain ⟨p, raw, hp⟩ := R3.raw
  have c1 := raw.c1
  have c2 := raw.c2
  rw [s11_state, Af_evr] at hm
  clear hr hz B2 R3 raw
  rw [he] at c2
  have hne : (f == 0) = false := by simpa using hf
  clear hp hm he c1
  go_upto_region 4 with (refine store_ev rfl rfl rfl rfl hn hl rfl ?_)
  clear hn E3
  generalize ((w2.alloc (.cells #[.int .i64 0, .int .i64 0, .int .i64 0, .int .i64 0, .int .i64 0, .int .i64 0, .int .i64 0, .int .i64 0, .int .i64 0, .int .i64 0, .int .i64 0, .int .i64 0, .int .i64 0, .int .i64 0, .int .i64 0, .int .i64 0, .int .i64 0, .int .i64 0, .int .i64 0, .int .i64 0, .string ⟨#[]⟩, .string ⟨#[]⟩, .string ⟨#[]⟩, .int .i64 0, .int .i64 0, .int .i64 0] 30)).setRow w2.heap.size (evc u)) = W at *
  have ZD : LiesE W.drew w.heap.size zv := Z3
  have HB : Hid (Below w.heap.size w (W.drew.setRow w.heap.size (evc zv))) := below_setRow B3.out.drew (Nat.le_refl _) _
  have HS : Hid ((W.drew.setRow w.heap.size (evc zv)).cell? ⟨w.heap.size + 1, 2, none⟩ = some (.int .i64 f)) := by
    show _ = _
    rw [World.cell?_of_block (w := W.drew) (setRow_other W.drew w.heap.size _ _ (by show w.heap.size + 1 ≠ _; omega))]
    exact c2
  refine wp_region_noPanic ?_
  refine wp_region_held_drew (S := fun W' : World => W'.cell? ⟨w.heap.size + 1, 2, none⟩ = some (.int .i64 f)) (by kernel_rfl) c2 (fun hHeld => ?_)
  refine wpAnyH_take (i := 0) (oi := { dst := some 12, op := _, type := _, pos := _, after := _, guard := _ }) (v := ?_) rfl (by kernel_rfl) (by kernel_rfl) (by kernel_rfl) (fun _ _ _ h => h) (Or.inl ⟨by rfl, ?_⟩) (by assumption) ?_
  rotate_left
  · intro w hSw
    go_simp <;> with_reducible rfl
  simp only [Act.put, List.setIfInBounds_toArray, List.set_cons_zero, List.set_cons_succ]
  refine wpAnyH_take (i := 1) (oi := { dst := some 13, op := _, type := _, pos := _, after := _, guard := _ }) (v := ?_) rfl (by kernel_rfl) (by kernel_rfl) (by kernel_rfl) (fun _ _ _ h => h) (Or.inl ⟨by rfl, ?_⟩) (by assumption) ?_
  rotate_left
  · intro w hSw
    go_simp <;> with_reducible rfl
  simp only [Act.put, List.setIfInBounds_toArray, List.set_cons_zero, List.set_cons_succ]
  refine wpAnyH_take (i := 2) (oi := { dst := some 14, op := _, type := _, pos := _, after := _, guard := _ }) (v := ?_) rfl (by kernel_rfl) (by kernel_rfl) (by kernel_rfl) (fun _ _ _ h => h) (Or.inl ⟨by rfl, ?_⟩) (by assumption) ?_
  rotate_left
  · intro w hSw
    go_simp <;> with_reducible rfl
  simp only [Act.put, List.setIfInBounds_toArray, List.set_cons_zero, List.set_cons_succ]
  refine wpAnyH_ready (rs := [3]) (by kernel_rfl) (by simp) ?_
  refine AllReadyH.cons (o := { dst := none, op := _, type := _, pos := _, after := _, guard := _ }) rfl (fun K hK => ?_) AllReadyH.nil
  rw [if_pos (by rfl)]
  refine wp_store_row 30 _ _ rfl w.heap.size (evc zv) rfl rfl 30 _ ZD (size26 zv rfl) rfl (evc_one zv) ?_
  refine hK.out _ _ HS.out (fun hHeld => ?_)
  clear hK K
  refine wpAnyH_take (i := 4) (oi := { dst := some 3, op := _, type := _, pos := _, after := _, guard := _ }) (v := ?_) rfl (by kernel_rfl) (by kernel_rfl) (by kernel_rfl) (fun _ _ _ h => h) (Or.inl ⟨by rfl, ?_⟩) (by assumption) ?_
  rotate_left
  · intro w hSw
    go_simp <;> with_reducible rfl
  simp only [Act.put, List.setIfInBounds_toArray, List.set_cons_zero, List.set_cons_succ]
  refine wpAnyH_done (by kernel_rfl) ?_ _
  refine NoPanic.normal ?_
  go_wp2
  exact ret_ev2 rfl rfl rfl rfl (ZD.row zv) rfl ⟨rfl, HB.out⟩

set_option maxHeartbeats 1000000 in
theorem decode_B (ao : Option Addr) (c : Nat) (l : List UInt8) (w : World) (hb : Bytes w ao l.length c l) (hc : c ≤ maxLen) (ha : Ahead ao w.heap.size) (he : (s11 l).2.e = 0) (hd : (s11 l).2.d ≠ []) :
    Calls Try.prog 47 #[.slice ao l.length c] w fun e w' => e = .returned (.tuple #[.agg (evc zv), .int .i64 3]) ∧ Below w.heap.size w w' := by
  obtain ⟨h1, h2, h3, h4, h5⟩ := dec_start hb hc ha
  have HG : Hid _ := gevent_any _ ao c l _ _ h2 (ha.mono h4.size)
  have H4 : Hid _ := h4
  clear h2 hb hc h4
  go_enter Try.func47, Try.ntmps47
  go_wp2_with (refine store_rd rfl rfl rfl rfl h1 ?_)
  refine Calls.mono HG.out ?_
  rintro e' w2 ⟨u, rfl, hl, hr, hm, hc⟩
  have B2 : Hid (Below w.heap.size w w2) := Chg.below H4.out hc (by omega) (Nat.le_refl _)
  have hz := hc.liesE h3 (by omega)
  have hs := Nat.le_trans h5 hc.size
  clear h1 h3 h5 hc HG H4
  have hn := liesE_new w2 zv
  have R3 : Rdr ((w2.alloc (.cells (evc zv) 30)).setRow w2.heap.size (evc u)) (w.heap.size + 1) ao c l (s11 l).2 := (hr.alloc _).row _ (by omega) (ha.ne (by omega))
  have Z3 : LiesE ((w2.alloc (.cells (evc zv) 30)).setRow w2.heap.size (evc u)) w.heap.size zv := (hz.alloc _).rowOther _ (by omega)
  have E3 : LiesE ((w2.alloc (.cells (evc zv) 30)).setRow w2.heap.size (evc u)) w2.heap.size u := hn.row u
  have B3 : Hid (Below w.heap.size w ((w2.alloc (.cells (evc zv) 30)).setRow w2.heap.size (evc u))) := below_setRow (B2.out.alloc B2.out.size _) B2.out.size _
  rw [zv_cells] at R3 Z3 E3 B3 hn
  obtain ⟨p, raw, hp⟩ := R3.raw
  have c1 := raw.c1
  have c2 := raw.c2
  rw [s11_state, Af_evr] at hm
  clear hr hz B2 R3 raw
  rw [he] at c2
  obtain ⟨hp1, hp2⟩ := hp he
  have hlt : p < l.length := by
    rcases Nat.lt_or_ge p l.length with h | h
    · exact h
    · exact absurd (by rw [hp2]; exact List.drop_eq_nil_of_le h) hd
  clear hp hm he hd hp1 hp2
  go_upto_region 3 with (refine store_ev rfl rfl rfl rfl hn hl rfl ?_)
  clear hn
  go_wp2_with (refine store_ev (e := zv) rfl rfl rfl rfl Z3 rfl rfl ?_)
  exact ret_ev2 rfl rfl rfl rfl (Z3.row zv) rfl ⟨rfl, below_setRow B3.out (Nat.le_refl _) _⟩

set_option maxHeartbeats 1000000 in
theorem decode_C (ao : Option Addr) (c : Nat) (l : List UInt8) (w : World) (hb : Bytes w ao l.length c l) (hc : c ≤ maxLen) (ha : Ahead ao w.heap.size) (he : (s11 l).2.e = 0) (hd : (s11 l).2.d = []) (hk : okev (evr l) = false) :
    Calls Try.prog 47 #[.slice ao l.length c] w fun e w' => e = .returned (.tuple #[.agg (evc zv), .int .i64 3]) ∧ Below w.heap.size w w' := by
  obtain ⟨h1, h2, h3, h4, h5⟩ := dec_start hb hc ha
  have HG : Hid _ := gevent_any _ ao c l _ _ h2 (ha.mono h4.size)
  have H4 : Hid _ := h4
  clear h2 hb hc h4
  go_enter Try.func47, Try.ntmps47
  go_wp2_with (refine store_rd rfl rfl rfl rfl h1 ?_)
  refine Calls.mono HG.out ?_
  rintro e' w2 ⟨u, rfl, hl, hr, hm, hc⟩
  have B2 : Hid (Below w.heap.size w w2) := Chg.below H4.out hc (by omega) (Nat.le_refl _)
  have hz := hc.liesE h3 (by omega)
  have hs := Nat.le_trans h5 hc.size
  clear h1 h3 h5 hc HG H4
  have hn := liesE_new w2 zv
  have R3 : Rdr ((w2.alloc (.cells (evc zv) 30)).setRow w2.heap.size (evc u)) (w.heap.size + 1) ao c l (s11 l).2 := (hr.alloc _).row _ (by omega) (ha.ne (by omega))
  have Z3 : LiesE ((w2.alloc (.cells (evc zv) 30)).setRow w2.heap.size (evc u)) w.heap.size zv := (hz.alloc _).rowOther _ (by omega)
  have E3 : LiesE ((w2.alloc (.cells (evc zv) 30)).setRow w2.heap.size (evc u)) w2.heap.size u := hn.row u
  have B3 : Hid (Below w.heap.size w ((w2.alloc (.cells (evc zv) 30)).setRow w2.heap.size (evc u))) := below_setRow (B2.out.alloc B2.out.size _) B2.out.size _
  rw [zv_cells] at R3 Z3 E3 B3 hn
  obtain ⟨p, raw, hp⟩ := R3.raw
  have c1 := raw.c1
  have c2 := raw.c2
  rw [s11_state, Af_evr] at hm
  clear hr hz B2 R3 raw
  rw [he] at c2
  obtain ⟨hp1, hp2⟩ := hp he
  obtain rfl : p = l.length := by
    have := congrArg List.length hp2
    rw [hd, List.length_drop, List.length_nil] at this
    omega
  obtain rfl := hm he
  have HR : Hid (Room (evr l)) := fits_room (evr_ok he).2
  have HK : Hid _ := hk
  clear hp hm he hd hp1 hp2 hk
  go_upto_region 3 with (refine store_ev rfl rfl rfl rfl hn hl rfl ?_)
  clear hn
  go_wp2_with (refine load_ev rfl rfl rfl E3 hl ?_)
  refine (eright_any _ hl HR.out _).mono ?_
  rintro e' w4 ⟨rfl, hb4⟩
  have Z4 := Z3.below hb4 Z3.lt
  have B4 : Hid (Below w.heap.size w w4) := B3.out.trans (hb4.mono B3.out.size)
  rw [HK.out]
  clear c1 c2 E3 Z3 B3 hb4
  go_wp2_with (refine store_ev (e := zv) rfl rfl rfl rfl Z4 rfl rfl ?_)
  exact ret_ev2 rfl rfl rfl rfl (Z4.row zv) rfl ⟨rfl, below_setRow B4.out (Nat.le_refl _) _⟩

set_option maxHeartbeats 1000000 in
theorem decode_D (ao : Option Addr) (c : Nat) (l : List UInt8) (w : World) (hb : Bytes w ao l.length c l) (hc : c ≤ maxLen) (ha : Ahead ao w.heap.size) (he : (s11 l).2.e = 0) (hd : (s11 l).2.d = []) (hk : okev (evr l) = true) :
    Calls Try.prog 47 #[.slice ao l.length c] w fun e w' => e = .returned (.tuple #[.agg (evc (evr l)), .int .i64 0]) ∧ Below w.heap.size w w' := by
  obtain ⟨h1, h2, h3, h4, h5⟩ := dec_start hb hc ha
  have HG : Hid _ := gevent_any _ ao c l _ _ h2 (ha.mono h4.size)
  have H4 : Hid _ := h4
  clear h2 hb hc h4
  go_enter Try.func47, Try.ntmps47
  go_wp2_with (refine store_rd rfl rfl rfl rfl h1 ?_)
  refine Calls.mono HG.out ?_
  rintro e' w2 ⟨u, rfl, hl, hr, hm, hc⟩
  have B2 : Hid (Below w.heap.size w w2) := Chg.below H4.out hc (by omega) (Nat.le_refl _)
  have hz := hc.liesE h3 (by omega)
  have hs := Nat.le_trans h5 hc.size
  clear h1 h3 h5 hc HG H4
  have hn := liesE_new w2 zv
  have R3 : Rdr ((w2.alloc (.cells (evc zv) 30)).setRow w2.heap.size (evc u)) (w.heap.size + 1) ao c l (s11 l).2 := (hr.alloc _).row _ (by omega) (ha.ne (by omega))
  have Z3 : LiesE ((w2.alloc (.cells (evc zv) 30)).setRow w2.heap.size (evc u)) w.heap.size zv := (hz.alloc _).rowOther _ (by omega)
  have E3 : LiesE ((w2.alloc (.cells (evc zv) 30)).setRow w2.heap.size (evc u)) w2.heap.size u := hn.row u
  have B3 : Hid (Below w.heap.size w ((w2.alloc (.cells (evc zv) 30)).setRow w2.heap.size (evc u))) := below_setRow (B2.out.alloc B2.out.size _) B2.out.size _
  rw [zv_cells] at R3 Z3 E3 B3 hn
  obtain ⟨p, raw, hp⟩ := R3.raw
  have c1 := raw.c1
  have c2 := raw.c2
  rw [s11_state, Af_evr] at hm
  clear hr hz B2 R3 raw
  rw [he] at c2
  obtain ⟨hp1, hp2⟩ := hp he
  obtain rfl : p = l.length := by
    have := congrArg List.length hp2
    rw [hd, List.length_drop, List.length_nil] at this
    omega
  obtain rfl := hm he
  have HR : Hid (Room (evr l)) := fits_room (evr_ok he).2
  have HK : Hid _ := hk
  clear hp hm he hd hp1 hp2 hk
  go_upto_region 3 with (refine store_ev rfl rfl rfl rfl hn hl rfl ?_)
  clear hn
  go_wp2_with (refine load_ev rfl rfl rfl E3 hl ?_)
  refine (eright_any _ hl HR.out _).mono ?_
  rintro e' w4 ⟨rfl, hb4⟩
  have Z4 := Z3.below hb4 Z3.lt
  have E4 := E3.below hb4 E3.lt
  have B4 : Hid (Below w.heap.size w w4) := B3.out.trans (hb4.mono B3.out.size)
  rw [HK.out]
  clear c1 c2 E3 Z3 B3 hb4
  go_wp2_with (first | refine load_ev rfl rfl rfl E4 hl ?_ | refine store_ev (e := evr l) rfl rfl rfl rfl Z4 hl rfl ?_)
  exact ret_ev2 rfl rfl rfl rfl (Z4.row (evr l)) hl ⟨rfl, below_setRow B4.out (Nat.le_refl _) _⟩

theorem decode_any (ao : Option Addr) (c : Nat) (l : List UInt8) (w : World) (hb : Bytes w ao l.length c l) (hc : c ≤ maxLen) (ha : Ahead ao w.heap.size) :
    Calls Try.prog 47 #[.slice ao l.length c] w fun e w' => e = .returned (.tuple #[.agg (evc (dcV l)), .int .i64 (dcE okev l)]) ∧ Below w.heap.size w w' := by
  by_cases h0 : (s11 l).2.e = 0
  · by_cases hd : (s11 l).2.d = []
    · rcases Bool.eq_false_or_eq_true (okev (evr l)) with hk | hk
      · have e1 : dcE okev l = 0 := by rw [dcE, if_neg (by omega), if_pos ⟨hd, hk⟩]
        have e2 : dcV l = evr l := by rw [dcV, if_pos e1]
        rw [e1, e2]; exact decode_D ao c l w hb hc ha h0 hd hk
      · have e1 : dcE okev l = 3 := by rw [dcE, if_neg (by omega), if_neg (by rw [hk]; simp)]
        have e2 : dcV l = zv := by rw [dcV, if_neg (by omega)]
        rw [e1, e2]; exact decode_C ao c l w hb hc ha h0 hd hk
    · have e1 : dcE okev l = 3 := by rw [dcE, if_neg (by omega), if_neg (fun h => hd h.1)]
      have e2 : dcV l = zv := by rw [dcV, if_neg (by omega)]
      rw [e1, e2]; exact decode_B ao c l w hb hc ha h0 hd
  · have e1 : dcE okev l = (s11 l).2.e := by rw [dcE, if_pos h0]
    have e2 : dcV l = zv := by rw [dcV, if_neg (by omega)]
    rw [e1, e2]; exact decode_A ao c l w hb hc ha _ h0 rfl
end Go.Proofs.Ythdhnilfkpbmpaa
