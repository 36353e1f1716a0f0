/-
  What byTime and slices.SortStableFunc by it come to: a row of events in the stable order of their times.
-/
import Derived.Test.YtmlfekbmbnfkjabGreatDoorQ16
import Derived.Test.YtmlfekbmbnfkjabGreatDoorQ07
import Derived.Test.YtmlfekbmbnfkjabGreatDoorQ09
namespace Go.Proofs.YtmlfekbmbnfkjabGreatDoor
set_option maxRecDepth 100000
set_option maxRecDepth 100000
open Go.Shelf Go.RowKit Go.Lib Go.Sort

set_option maxHeartbeats 400000 in
theorem later_grow (b a : Ev) (w : World) : Calls Tryz.prog 169 #[.agg (evc b), .agg (evc a)] w fun e w' => e = .returned (.bool (laterE b a)) ∧ w' = (w.alloc (.cells (evc b) 47)).alloc (.cells (evc a) 47) := by
  obtain ⟨hb, ha, hB⟩ := boxedEE w b a
  have b0 := hb.c0
  have b1 := hb.c1
  have b2 := hb.c2
  have a0 := ha.c0
  have a1 := ha.c1
  have a2 := ha.c2
  clear ha hb hB
  unfold laterE
  go_enter Tryz.func169, Tryz.ntmps169
  go_wp2
  all_goals
    go_ret
    refine ⟨?_, rfl⟩
    simp_all

def cfE (x y : Ev) : Int := if laterE x y then 1 else if laterE y x then -1 else 0
set_option maxHeartbeats 1000000 in
theorem bytime_any (x y : Ev) (lx : x.deps.length = 16) (ly : y.deps.length = 16) (w : World) : Calls Tryz.prog 133 #[.agg (evc x), .agg (evc y)] w fun e w' => e = .returned (.int .i64 (cfE x y)) ∧ ∃ q os', w' = grow (w.drewN q) os' := by
  obtain ⟨hx, hy, hB⟩ := boxedEE w x y
  obtain ⟨W, hW⟩ : ∃ W, (w.alloc (.cells (evc x) 47)).alloc (.cells (evc y) 47) = W := ⟨_, rfl⟩
  rw [hW] at hx hy hB
  have hg : Hid (∃ os', W = grow w os') := ⟨_, by rw [← hW, alloc_eq_grow, alloc_eq_grow, grow_grow]⟩
  have HW : Hid ((w.alloc (.cells (evc x) 47)).alloc (.cells (evc y) 47) = W) := hW
  have hx2 := (hx.alloc (.cells (evc x) 47)).alloc (.cells (evc y) 47)
  have hy2 := (hy.alloc (.cells (evc x) 47)).alloc (.cells (evc y) 47)
  clear hB
  go_enter Tryz.func133, Tryz.ntmps133
  go_wp2_with (first | refine load_ev rfl rfl rfl hx lx ?_ | refine load_ev rfl rfl rfl hy ly ?_)
  refine (later_grow x y _).mono ?_
  rintro e w1 ⟨rfl, hw1⟩
  have hg1 : Hid (∃ os', w1 = grow w os') := by
    obtain ⟨os, ho⟩ := hg.out
    exact ⟨_, by rw [hw1, alloc_eq_grow, alloc_eq_grow, ho, grow_grow, grow_grow]⟩
  rw [← hw1] at hx2 hy2
  clear hw1 hx hy hW HW hg
  rcases Bool.eq_false_or_eq_true (laterE x y) with h1 | h1
  · have HC : Hid (cfE x y = 1) := by show _ = _; rw [cfE, h1]; rfl
    go_wp2
    go_ret
    obtain ⟨os, ho⟩ := hg1.out
    exact ⟨by rw [HC.out]; rfl, 0, os, ho⟩
  · go_wp2_with (first | refine load_ev rfl rfl rfl hx2 lx ?_ | refine load_ev rfl rfl rfl hy2 ly ?_)
    refine (later_grow y x _).mono ?_
    rintro e w2 ⟨rfl, hw2⟩
    have hg2 : Hid (∃ os', w2 = grow w os') := by
      obtain ⟨os, ho⟩ := hg1.out
      exact ⟨_, by rw [hw2, alloc_eq_grow, alloc_eq_grow, ho, grow_grow, grow_grow]⟩
    clear hw2 hx2 hy2 hg1
    rcases Bool.eq_false_or_eq_true (laterE y x) with h2 | h2
    · have HC : Hid (cfE x y = -1) := by show _ = _; rw [cfE, h1, h2]; rfl
      go_wp2
      go_ret
      obtain ⟨os, ho⟩ := hg2.out
      exact ⟨by rw [HC.out]; rfl, 0, os, ho⟩
    · have HC : Hid (cfE x y = 0) := by show _ = _; rw [cfE, h1, h2]; rfl
      go_wp2
      go_ret
      obtain ⟨os, ho⟩ := hg2.out
      exact ⟨by rw [HC.out]; rfl, 0, os, ho⟩

/-- Events as wide as the type. -/
abbrev E16 := { e : Ev // e.deps.length = 16 }
instance : Inhabited E16 := ⟨⟨zv, rfl⟩⟩
def en (e : E16) : List Value := evl e.1
theorem en_len (x : E16) : (en x).length = 26 := evl_length x.1 x.2
theorem en_one (x : E16) : ∀ v ∈ en x, v.oneCell' = true := by
  have := evc_one x.1
  rw [Array.all_eq_true_iff_forall_mem] at this
  intro v hv
  exact this v (by simpa [evc, en] using hv)
def cf16 (x y : E16) : Int := cfE x.1 y.1
theorem cf16_lt (x y : E16) : ltOf cf16 x y = ltE x.1 y.1 := by
  unfold ltOf cf16 cfE ltE
  rcases Bool.eq_false_or_eq_true (laterE x.1 y.1) with h1 | h1 <;> rcases Bool.eq_false_or_eq_true (laterE y.1 x.1) with h2 | h2 <;> rw [h1, h2] <;> simp
  exact later_both h2 h1
theorem cf16_swo : SWO (ltOf cf16) where
  irrefl x := by rw [cf16_lt]; exact ltE_swo.irrefl _
  trans x y z h1 h2 := by rw [cf16_lt] at *; exact ltE_swo.trans _ _ _ h1 h2
  ntrans x y z h1 h2 := by rw [cf16_lt] at *; exact ltE_swo.ntrans _ _ _ h1 h2
theorem cf16_eqv (x y : E16) : eqv (ltOf cf16) x y = eqv ltE x.1 y.1 := by unfold eqv; rw [cf16_lt, cf16_lt]

theorem stAt : StAt Tryz.prog 26 where
  mixed := by kernel_rfl
  fsw := Tryz.func272
  fro := Tryz.func235
  fsy := Tryz.func208
  fst := Tryz.func168
  fss := Tryz.func132
  t0 := Tryz.underlying0
  a0 := Tryz.isAgg0
  z0 := Tryz.sizeOf0
  v0 := Tryz.zeroValue0
  t3 := Tryz.underlying3
  a3 := Tryz.isAgg3
  z3 := Tryz.sizeOf3
  v3 := Tryz.zeroValue3
  t4 := Tryz.underlying4
  a4 := Tryz.isAgg4
  z4 := Tryz.sizeOf4
  v4 := Tryz.zeroValue4
  tu := Tryz.underlying239
  au := Tryz.isAgg239
  zu := Tryz.sizeOf239
  vu := Tryz.zeroValue239
  ts := Tryz.underlying22
  asl := Tryz.isAgg22
  zs := Tryz.sizeOf22
  vs := Tryz.zeroValue22
  tc := Tryz.underlying169
  ac := Tryz.isAgg169
  zc := Tryz.sizeOf169
  vc := Tryz.zeroValue169
  aE := Tryz.isAgg47
  zE := Tryz.sizeOf47
def insRen : Go.Shelf.Ren := ⟨fun
    | 20 => 207
    | n => n, fun
    | 22 => 22
    | 24 => 47
    | 25 => 169
    | n => n, fun
    | n => n⟩
theorem insLaid : Go.Proofs.SlLaysF0.n20 Tryz.prog insRen :=
  { mixed := by kernel_rfl,
    f20 := ⟨Tryz.f207.name, by decide, Tryz.func207.trans (congrArg some (by kernel_rfl))⟩,
    t0 := Tryz.underlying0, a0 := Tryz.isAgg0, z0 := Tryz.sizeOf0, v0 := Tryz.zeroValue0,
    t3 := Tryz.underlying3, a3 := Tryz.isAgg3, z3 := Tryz.sizeOf3, v3 := Tryz.zeroValue3,
    t4 := Tryz.underlying4, a4 := Tryz.isAgg4, z4 := Tryz.sizeOf4, v4 := Tryz.zeroValue4,
    t22 := Tryz.underlying22, a22 := Tryz.isAgg22, z22 := Tryz.sizeOf22, v22 := Tryz.zeroValue22,
    t25 := Tryz.underlying169, a25 := Tryz.isAgg169, z25 := Tryz.sizeOf169, v25 := Tryz.zeroValue169 }
theorem bytime_enters : ∀ args w, (callFunc 133 args).run Tryz.prog w = .ok (.enter 133 args) w := enters_of Tryz.func133 (by kernel_rfl) rfl
theorem bytime_lays (blk off N : Nat) (W : World) : CmpLays Tryz.prog 133 #[] en 26 cf16 blk off N W := fun _ _ _ _ x y => bytime_any x.1 y.1 x.2 y.2 _
theorem ins_any (blk off cap N : Nat) (d0 : Array E16) (w0 : World) (R : RowK en 26 w0 blk off d0) (hs : d0.size = N) (hsz : N ≤ 1048576) : Inserts Tryz.prog en 26 cf16 (.func (.func 133) #[] #[]) blk off cap N w0 := by
  intro a b d w hab hb hd S
  subst hd
  have hH : HoldsK en 26 w blk off d := S.out.holds R.hblk R.hH hs.symm
  have hcon := AnyQ.insertionSortCmpFunc insLaid 26 Tryz.isAgg47 Tryz.sizeOf47 en en_len en_one cf16 133 #[] blk off cap a b d w bytime_enters (bytime_lays _ _ _ _) hH (S.out.lt R.hblk) hab hb (by omega)
  change Calls Tryz.prog 207 _ _ _ at hcon
  refine hcon.mono ?_
  rintro e w' ⟨he, n, os, rfl⟩
  obtain ⟨h1, h2⟩ := ins_stab cf16_swo d a b hab hb
  exact ⟨he, _, S.out.on R.hblk n _ os h1.size, h1, h2⟩

theorem flat_evs (d : Array E16) : (flatK en 26 d).toList = evs (d.toList.map (·.1)) := by
  have hw : ∀ e ∈ d.toList.map (·.1), e.deps.length = 16 := fun e he => by
    obtain ⟨x, -, rfl⟩ := List.mem_map.1 he
    exact x.2
  apply List.ext_getElem?
  intro t
  have hlen : (evs (d.toList.map (·.1))).length = d.size * 26 := by
    have : ∀ E : List Ev, (∀ e ∈ E, e.deps.length = 16) → (evs E).length = E.length * 26 := fun E => by
      induction E with
      | nil => intro _; rfl
      | cons e E ih =>
        intro h
        rw [show evs (e :: E) = evl e ++ evs E by simp [evs], List.length_append, ih (fun x hx => h x (by simp [hx])), evl_length e (h e (by simp)), List.length_cons]; omega
    rw [this _ hw]; simp
  by_cases ht : t < d.size * 26
  · have hk : t / 26 < d.size := by omega
    have hat : ∀ E : List Ev, (∀ e ∈ E, e.deps.length = 16) → ∀ (i : Nat) (e : Ev), E[i]? = some e → ∀ (j : Nat) (v : Value), (evl e)[j]? = some v → (evs E)[i * 26 + j]? = some v := fun E => by
      induction E with
      | nil => intro _ i e hi; simp at hi
      | cons x E ih =>
        intro h i e hi j v hv
        have h1 := evl_length x (h x (by simp))
        have e1 : evs (x :: E) = evl x ++ evs E := by simp [evs]
        cases i with
        | zero =>
          have : x = e := by simpa using hi
          subst this
          have hj : j < 26 := by have := (List.getElem?_eq_some_iff.1 hv).1; omega
          rw [e1, Nat.zero_mul, Nat.zero_add, List.getElem?_append_left (by omega)]
          exact hv
        | succ i =>
          rw [e1, List.getElem?_append_right (by omega), h1, show (i + 1) * 26 + j - 26 = i * 26 + j by omega]
          exact ih (fun y hy => h y (by simp [hy])) i e (by simpa using hi) j v hv
    have hi : (d.toList.map (·.1))[t / 26]? = some d[t / 26].1 := by simp [hk]
    have hm : t % 26 < (evl d[t / 26].1).length := by rw [evl_length _ d[t / 26].2]; omega
    obtain ⟨v, hv⟩ : ∃ v, (evl d[t / 26].1)[t % 26]? = some v := ⟨_, List.getElem?_eq_getElem hm⟩
    have h1 := hat _ hw (t / 26) _ hi (t % 26) v hv
    rw [show t / 26 * 26 + t % 26 = t by omega] at h1
    have hsz : t < (flatK en 26 d).size := by rw [size_flatK]; exact ht
    have h2 := get_flatK en 26 d t ht
    rw [getElem!_pos _ t hsz, getElem!_pos d _ hk] at h2
    rw [h1, Array.getElem?_toList, Array.getElem?_eq_getElem hsz, h2]
    obtain ⟨h3, h4⟩ := List.getElem?_eq_some_iff.1 hv
    have h5 : (en d[t / 26])[t % 26]! = v := by
      show (evl d[t / 26].1)[t % 26]! = v
      rw [getElem!_pos _ (t % 26) h3, h4]
    rw [h5]
  · rw [List.getElem?_eq_none (by rw [Array.length_toList, size_flatK]; omega), List.getElem?_eq_none (by omega)]
theorem holds_evs {w : World} {g : Nat} {cur : Array Value} {e : TypeId} {d : Array E16} (hb : w.heap[g]? = some (.cells cur e (0, 0))) (ht : cur.toList.take (d.size * 26) = evs (d.toList.map (·.1))) : HoldsK en 26 w g 0 d := by
  intro j hj
  have hj' : j < d.size * 26 := by rw [size_flatK] at hj; exact hj
  refine ⟨?_, by simp [World.frozen?, hb]⟩
  have h1 : (cur.toList.take (d.size * 26))[j]? = (flatK en 26 d).toList[j]? := by rw [ht, flat_evs]
  rw [List.getElem?_take_of_lt hj', Array.getElem?_toList, Array.getElem?_toList, Array.getElem?_eq_getElem hj] at h1
  simp only [World.cell?, hb, Nat.zero_add]
  simp only [Option.isSome_none, Bool.false_eq_true, if_false]
  rw [h1, getElem!_pos _ j hj]
  rfl
theorem heap_sortedE {w : World} {g n : Nat} {os : Array Obj} {cur : Array Value} {e : TypeId} {fr : Nat × Nat} (d : Array E16) (hb : w.heap[g]? = some (.cells cur e fr)) :
    (sortWorldK en 26 w g 0 n d os).heap[g]? = some (.cells (putCells id 0 (flatK en 26 d) cur) e fr) := by
  have hg : g < w.heap.size := (Array.getElem?_eq_some_iff.1 hb).1
  unfold sortWorldK putRowK
  rw [heap_grow_old _ _ (by simpa using hg)]
  simp [putRow, mapBlock, Sort.ahead, Array.getElem?_modify, hb, onCells]
theorem grownBy_sortedE {w : World} {g n : Nat} {os : Array Obj} (d : Array E16) : w.grownBy (sortWorldK en 26 w g 0 n d os) (some g) := by
  unfold sortWorldK putRowK
  refine ⟨rfl, rfl, rfl, by simp, fun k hk hne => ?_⟩
  rw [heap_grow_old _ _ (by simpa using hk)]
  have : g ≠ k := fun e => hne (by rw [e])
  simp [putRow, mapBlock, Sort.ahead, Array.getElem?_modify, this]
theorem take_putCellsE (cur : Array Value) (d : Array E16) (h : d.size * 26 ≤ cur.size) : (putCells id 0 (flatK en 26 d) cur).toList.take (d.size * 26) = evs (d.toList.map (·.1)) := by
  rw [← flat_evs]
  apply List.ext_getElem?
  intro j
  by_cases hj : j < d.size * 26
  · have hj2 : j < (flatK en 26 d).size := by rw [size_flatK]; exact hj
    rw [List.getElem?_take_of_lt hj, Array.getElem?_toList, Array.getElem?_toList, Array.getElem?_eq_getElem hj2]
    simp [putCells, hj, show j < cur.size by omega]
  · rw [List.getElem?_take_eq_none (by omega), List.getElem?_eq_none (by rw [Array.length_toList, size_flatK]; omega)]
theorem filter_sub (d : List E16) (x : E16) : (d.map (·.1)).filter (eqv ltE x.1) = (d.filter (eqv (ltOf cf16) x)).map (·.1) := by
  induction d with
  | nil => rfl
  | cons y d ih =>
    rw [List.map_cons, List.filter_cons, List.filter_cons, cf16_eqv, ih]
    split <;> rfl
theorem sorted_is {d d' : Array E16} (h1 : Stab (ltOf cf16) d d' 0 d.size) (h2 : SortedIn (ltOf cf16) 0 d.size d') : d'.toList.map (·.1) = srtE (d.toList.map (·.1)) := by
  have hs := h1.size
  refine IsSt.uniq ⟨?_, fun x => ?_⟩ (srt_st _)
  · rw [List.pairwise_iff_getElem]
    intro i j hi hj hij
    have hi' : i < d'.size := by simpa using hi
    have hj' : j < d'.size := by simpa using hj
    have := h2 i j (Nat.zero_le _) hij (by omega)
    rw [getElem!_pos d' j hj', getElem!_pos d' i hi', cf16_lt] at this
    simpa using this
  · have key : ∀ y : E16, (d'.toList.map (·.1)).filter (eqv ltE y.1) = (d.toList.map (·.1)).filter (eqv ltE y.1) := fun y => by
      rw [filter_sub, filter_sub]
      have := h1.same y
      rw [show seg d' 0 d.size = d'.toList by rw [← hs]; exact seg_all d', seg_all d] at this
      rw [this]
    have hx := key ⟨{ x with deps := zeros }, rfl⟩
    exact hx
theorem to16 (E : List Ev) (h : ∀ e ∈ E, Wide e) : ∃ d : Array E16, d.toList.map (·.1) = E ∧ d.size = E.length :=
  ⟨(E.pmap (fun e he => (⟨e, he⟩ : E16)) (fun e he => (h e he).1)).toArray, by simp [List.map_pmap], by simp⟩

set_option maxHeartbeats 1000000 in
theorem insort_none (v0 : Value) (w : World) : Calls Tryz.prog 207 #[.slice none 0 0, .int .i64 0, .int .i64 0, v0] w fun e w' => e = .returned (.tuple #[]) ∧ w' = w := by
  go_enter Tryz.func207, Tryz.ntmps207
  go_wp2
  go_loopg [8] 0 (fun _ s8 wr => s8 = .int .i64 1 ∧ wr = w)
  case atStart => exact ⟨rfl, rfl⟩
  case round =>
    obtain ⟨rfl, rfl⟩ := hrel
    go_wp2
    go_end0
    exact ⟨rfl, rfl⟩
set_option maxHeartbeats 1000000 in
theorem stable_none (v0 : Value) (w : World) : Calls Tryz.prog 168 #[.slice none 0 0, .int .i64 0, v0] w fun e w' => e = .returned (.tuple #[]) ∧ w' = w := by
  go_enter Tryz.func168, Tryz.ntmps168
  go_wp2
  go_loopg [7, 8] 0 (fun _ s7 s8 wr => s7 = .int .i64 0 ∧ s8 = .int .i64 20 ∧ wr = w)
  case atStart => exact ⟨rfl, rfl, rfl⟩
  case round =>
    obtain ⟨rfl, rfl, rfl⟩ := hrel
    go_wp2_with fail
    refine (insort_none v0 _).mono ?_
    rintro e w1 ⟨rfl, rfl⟩
    go_wp2
    go_loopg [6, 7, 8] 0 (fun _ s6 s7 s8 wr => s6 = .int .i64 20 ∧ wr = w1)
    case atStart => exact ⟨rfl, rfl⟩
    case round =>
      obtain ⟨rfl, rfl⟩ := hrel
      go_wp2
      go_end0
      exact ⟨rfl, rfl⟩
set_option maxHeartbeats 1000000 in
/-- slices.SortStableFunc by byTime. -/
theorem sortst_any (v : Value) (E : List Ev) (base : Nat) (w : World) (hrow : Row w base v E) (hw : ∀ e ∈ E, Wide e) (hl : E.length ≤ 1048576) :
    Calls Tryz.prog 132 #[v, .func (.func 133) #[] #[]] w fun e w' => e = .returned (.tuple #[]) ∧ Row w' base v (srtE E) ∧ w.grownBy w' v.ownBlock := by
  rcases hrow.2 with ⟨rfl, h0⟩ | ⟨g, cap, cur, rfl, hbg, hg, hn, hc, hcs, htk⟩
  · have hL : E = [] := List.eq_nil_of_length_eq_zero h0
    subst hL
    have HR : Hid (Row w base (.slice none 0 0) []) := hrow
    clear hrow
    go_enter Tryz.func132, Tryz.ntmps132
    go_wp2_with fail
    refine (stable_none _ _).mono ?_
    rintro e w1 ⟨rfl, rfl⟩
    go_wp2
    go_end0
    exact ⟨rfl, HR.out, World.grownBy.refl _ _⟩
  · have hgl : g < w.heap.size := (Array.getElem?_eq_some_iff.1 hg).1
    obtain ⟨d, hd, hds⟩ := to16 E hw
    have R : RowK en 26 w g 0 d := ⟨en_len, en_one, holds_evs hg (by rw [hd, hds]; exact htk), hgl⟩
    have hcon := stable_at stAt (enters_of Tryz.func207 (by kernel_rfl) rfl) en cf16 (.func (.func 133) #[] #[]) g 0 cap E.length d w w (ins_any g 0 cap E.length d w R hds hl)
      (fun a m b h1 h2 h3 => sym_any stAt en cf16 cf16_swo 133 #[] bytime_enters g 0 cap E.length d w (bytime_lays _ _ _ _) R hds hl _ a m b (Nat.le_refl _) h1 h2 h3) hds (SWK.start R.hH) hl
    have HC : Hid _ := hcon
    have fin : Hid (∀ w', (∃ d', SWK en 26 w g 0 d' w' ∧ Stab (ltOf cf16) d d' 0 E.length ∧ SortedIn (ltOf cf16) 0 E.length d') → Row w' base (.slice (some ⟨g, 0, none⟩) E.length cap) (srtE E) ∧ w.grownBy w' (some g)) := by
      show ∀ w', _ → _
      rintro w' ⟨d', ⟨n, os, rfl⟩, h1, h2⟩
      rw [← hds] at h1 h2
      have hs := sorted_is h1 h2
      rw [hd] at hs
      have hsz := h1.size
      have hl2 : (srtE E).length = E.length := srt_length E
      refine ⟨⟨?_, .inr ⟨g, cap, _, by rw [hl2], hbg, heap_sortedE d' hg, by omega, hc, by simp [putCells, hcs], ?_⟩⟩, grownBy_sortedE d'⟩
      · exact evs_length (fun e he => hw e (srt_mem.1 he))
      · have := take_putCellsE cur d' (by rw [hcs, hsz, hds]; omega)
        rw [hs, hsz, hds] at this
        rw [hl2]
        exact this
    clear hcon hrow htk hcs hg R hd
    go_enter Tryz.func132, Tryz.ntmps132
    go_wp2_with fail
    refine Calls.mono HC.out ?_
    rintro e w1 ⟨rfl, h1⟩
    have h2 : Hid _ := fin.out w1 h1
    clear h1 fin HC
    go_wp2
    go_end0
    exact ⟨rfl, h2.out⟩
end Go.Proofs.YtmlfekbmbnfkjabGreatDoor

