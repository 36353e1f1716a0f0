/-
  What score's latest and Get come to.
-/
import Derived.Test.YtmacebekodndjaaZmp
namespace Go.Proofs.Ytmacebekodndjaa
set_option maxRecDepth 100000
open Go.RowKit Go.Maps Go.WideMaps Go.Sort

theorem text_room {s : ByteArray} (h : s.size ≤ maxLen) : s.data.toList.length ≤ 9223372036854775807 := by
  rw [Array.length_toList]
  exact h
/-- The map tells the latest one of each member. -/
def Lat (w : World) (b n : Nat) (E : List Ev) : Prop := ∃ D, OwnG w b n D ∧ TellsE D (fldZ E) (fun s => orz (lastZ E s))
theorem Lat.below {w w' : World} {b n B : Nat} {E : List Ev} (h : Lat w b n E) (hb : Below B w w') (hB : w.heap.size ≤ B) : Lat w' b n E := by
  obtain ⟨D, h1, h2⟩ := h
  exact ⟨D, ownG_below h1 hb hB, h2⟩
theorem Lat.mono {w : World} {b n n' : Nat} {E : List Ev} (h : Lat w b n E) (hn : n ≤ n') : Lat w b n' E := by
  obtain ⟨D, h1, h2⟩ := h
  exact ⟨D, World.ownsMap.mono h1 hn, h2⟩
theorem Lat.look {w : World} {b n : Nat} {E : List Ev} (h : Lat w b n E) {s : List UInt8} (hs : s.length ≤ 9223372036854775807) : (Instr.lookup 47 (.map (some b)) (.string (sb s)) true).run Try.prog w = .ok (.tuple #[.agg (evc (orz (lastZ E s))), .bool (okZ E s)]) w := by
  obtain ⟨D, h1, h2⟩ := h
  exact lookE h1 h2 hs (okZ_iff E s)
theorem lat_new (w : World) : Lat (w.alloc (.map #[] 0)) w.heap.size 0 [] := ⟨.map [], World.ownsMap_made _ _ _ _, by
  have : (fun s => orz (lastZ [] s)) = fun _ => zv := by funext s; rfl
  rw [this]
  exact tellsE_nil⟩
theorem Lat.pass {w : World} {b n : Nat} {E : List Ev} {i : Nat} {u : Ev} (h : Lat w b n (E.take i)) (hu : E[i]? = some u) (hz : zsE u = false) : Lat w b (n + 1) (E.take (i + 1)) := by
  obtain ⟨D, h1, h2⟩ := h
  refine ⟨D, World.ownsMap.mono h1 (Nat.le_succ _), ?_⟩
  rw [tellZ_pass hu hz, fldZ_take hu, hz]
  exact h2
theorem Lat.stay {w : World} {b n : Nat} {E : List Ev} {i : Nat} {u : Ev} (h : Lat w b n (E.take i)) (hu : E[i]? = some u) (hz : zsE u = true) (hk : okZ (E.take i) u.field = true) (hl : laterE u (orz (lastZ (E.take i) u.field)) = false) : Lat w b (n + 1) (E.take (i + 1)) := by
  obtain ⟨D, h1, h2⟩ := h
  refine ⟨D, World.ownsMap.mono h1 (Nat.le_succ _), ?_⟩
  rw [tellZ_keep hu hz hk hl, fldZ_take hu, hz]
  exact h2.more ((okZ_iff _ _).1 hk)
theorem Lat.turn {w : World} {b n : Nat} {E : List Ev} {i : Nat} {u : Ev} (h : Lat w b n (E.take i)) (hu : E[i]? = some u) (hz : zsE u = true) (ho : okZ (E.take i) u.field = false ∨ laterE u (orz (lastZ (E.take i) u.field)) = true) (hs : u.field.length ≤ 9223372036854775807) (hn : n < 1000000) :
    ∃ w', (Instr.mapUpdate 47 (.map (some b)) (.string (sb u.field)) (.agg (evc u))).run Try.prog w = .ok () w' ∧ Lat w' b (n + 1) (E.take (i + 1)) ∧ w.grownBy w' (some b) := by
  obtain ⟨D, h1, h2⟩ := h
  obtain ⟨w', hr, ⟨D', h3, h4⟩, hg⟩ := updE h1 h2 hs hn u
  refine ⟨w', hr, ⟨D', h3, ?_⟩, hg⟩
  rw [tellZ_put hu hz ho, fldZ_take hu, hz]
  exact h4
set_option maxHeartbeats 4000000 in
theorem zlatest_any (ao : Option Addr) (m c : Nat) (E : List Ev) (w : World) (hE : Evs w ao m c E) (hm : m ≤ 1000) :
    Calls Try.prog 18 #[.slice ao m c] w fun e w' => e = .returned (.map (some w.heap.size)) ∧ Lat w' w.heap.size m E ∧ Below w.heap.size w w' := by
  have hlen := hE.len
  have HE : Aside (Evs w ao m c E) := hE
  have H0 : Aside (Lat (w.alloc (.map #[] 0)) w.heap.size 0 (E.take 0) ∧ Below w.heap.size w (w.alloc (.map #[] 0)) ∧ w.heap.size + 1 ≤ (w.alloc (.map #[] 0)).heap.size) := ⟨lat_new w, (Below.refl _ _).alloc (Nat.le_refl _) _, by simp⟩
  clear hE
  have hmm := @run_makeMap Try.prog
  go_enter Try.func18, Try.ntmps18
  go_wp2
  clear hmm
  go_loopg [11] m (fun kx s11 wr => ∃ i : Nat, s11 = .int .i64 i ∧ i ≤ m ∧ m - i ≤ kx ∧ Aside (Lat wr w.heap.size i (E.take i) ∧ Below w.heap.size w wr ∧ w.heap.size + 1 ≤ wr.heap.size))
  case atStart => exact ⟨0, rfl, Nat.zero_le _, by omega, H0⟩
  case round =>
    clear H0
    obtain ⟨i, rfl, him, hkx, HS⟩ := hrel
    by_cases hlt : i < m
    · have hltz : (i : Int) < (m : Int) := by omega
      obtain ⟨b, off, u, rfl, hui, hu, hr, hbl⟩ := (HE.out.below HS.out.2.1 (Nat.le_refl _)).at hlt
      have hu16 := hu.1
      have hix := fun W : World => index_ev W (b := b) (off := off) (k := i) (m := m) (c := c) hlt
      have hz := liesE_new wr zv
      have hB1 : Below wr.heap.size wr ((wr.alloc (.cells (evc zv) 43)).setRow wr.heap.size (evc u)) := below_setRow ((Below.refl _ _).alloc (Nat.le_refl _) _) (Nat.le_refl _) _
      have HS1 : Aside (LiesE ((wr.alloc (.cells (evc zv) 43)).setRow wr.heap.size (evc u)) wr.heap.size u ∧ Lat ((wr.alloc (.cells (evc zv) 43)).setRow wr.heap.size (evc u)) w.heap.size i (E.take i) ∧ Below w.heap.size w ((wr.alloc (.cells (evc zv) 43)).setRow wr.heap.size (evc u))) := ⟨hz.row u, HS.out.1.below hB1 (Nat.le_refl _), HS.out.2.1.trans (hB1.mono HS.out.2.1.size)⟩
      have hsz1 : w.heap.size + 1 ≤ ((wr.alloc (.cells (evc zv) 43)).setRow wr.heap.size (evc u)).heap.size := Nat.le_trans HS.out.2.2 hB1.size
      have hDb : w.heap.size < wr.heap.size := HS.out.2.2
      have hwl : Wide (orz (lastZ (E.take i) u.field)) := orz_wide (fun e he => HE.out.wide e (List.mem_of_mem_take he))
      have HUI : Hid (E[i]? = some u) := hui
      clear hB1 HS hui
      go_upto_region 5 with (first | refine load_ev_mid rfl rfl rfl hr hu16 ?_ | refine store_ev rfl rfl rfl rfl hz hu16 rfl ?_)
      change Code.wp _ _ _ _ ((wr.alloc (.cells (evc zv) 43)).setRow wr.heap.size (evc u))
      clear hz hr hix hbl
      generalize (wr.alloc (.cells (evc zv) 43)).setRow wr.heap.size (evc u) = W at HS1 hsz1 ⊢
      generalize wr.heap.size = D at *
      have hL := HS1.out.1.op hu16
      go_wp2_with (refine load_op_at rfl rfl rfl hL ?_)
      refine (zisadd_any u W).mono ?_
      rintro e w2 ⟨rfl, hb2⟩
      have HS2 : Aside (LiesE w2 D u ∧ Lat w2 w.heap.size i (E.take i) ∧ Below w.heap.size w w2 ∧ w.heap.size + 1 ≤ w2.heap.size) := ⟨HS1.out.1.below hb2 HS1.out.1.lt, HS1.out.2.1.below hb2 (Nat.le_refl _), HS1.out.2.2.trans (hb2.mono HS1.out.2.2.size), Nat.le_trans hsz1 hb2.size⟩
      clear hb2 HS1 hL hsz1
      obtain ⟨z, HZ⟩ : ∃ z, Hid (zsE u = z) := ⟨_, show _ = _ from rfl⟩
      rw [HZ.out]
      cases z with
      | false =>
        have HS4 : Aside (Lat w2 w.heap.size (i + 1) (E.take (i + 1)) ∧ Below w.heap.size w w2 ∧ w.heap.size + 1 ≤ w2.heap.size) := ⟨HS2.out.2.1.pass HUI.out HZ.out, HS2.out.2.2⟩
        clear HS2
        go_wp2
        go_roundg (m - (i + 1))
        case measure => omega
        case rel => exact ⟨i + 1, by go_num, by omega, Nat.le_refl _, HS4⟩
      | true =>
        have hlk := HS2.out.2.1.look hu.2.f
        have c21 := HS2.out.1.c21 hu16
        have HX : Hid (orz (lastZ (E.take i) u.field) = orz (lastZ (E.take i) u.field)) := show _ = _ from rfl
        obtain ⟨a, HA⟩ : ∃ a, Hid (orz (lastZ (E.take i) u.field) = a) := ⟨_, show _ = _ from rfl⟩
        obtain ⟨t, HT⟩ : ∃ t, Hid (okZ (E.take i) u.field = t) := ⟨_, show _ = _ from rfl⟩
        rw [HA.out] at hwl hlk
        rw [HT.out] at hlk
        clear HX
        have ha16 := hwl.1
        have hz := liesE_new w2 zv
        have hB3 : Below w2.heap.size w2 ((w2.alloc (.cells (evc zv) 43)).setRow w2.heap.size (evc a)) := below_setRow ((Below.refl _ _).alloc (Nat.le_refl _) _) (Nat.le_refl _) _
        have HS3 : Aside (LiesE ((w2.alloc (.cells (evc zv) 43)).setRow w2.heap.size (evc a)) D u ∧ LiesE ((w2.alloc (.cells (evc zv) 43)).setRow w2.heap.size (evc a)) w2.heap.size a ∧ Lat ((w2.alloc (.cells (evc zv) 43)).setRow w2.heap.size (evc a)) w.heap.size i (E.take i) ∧ Below w.heap.size w ((w2.alloc (.cells (evc zv) 43)).setRow w2.heap.size (evc a)) ∧ w.heap.size + 1 ≤ ((w2.alloc (.cells (evc zv) 43)).setRow w2.heap.size (evc a)).heap.size) :=
          ⟨HS2.out.1.below hB3 HS2.out.1.lt, hz.row a, HS2.out.2.1.below hB3 (Nat.le_refl _), HS2.out.2.2.1.trans (hB3.mono HS2.out.2.2.1.size), Nat.le_trans HS2.out.2.2.2 hB3.size⟩
        clear hB3 HS2
        go_upto_region 7 with (refine store_ev rfl rfl rfl rfl hz ha16 rfl ?_)
        change Code.wp _ _ _ _ ((w2.alloc (.cells (evc zv) 43)).setRow w2.heap.size (evc a))
        clear hz hlk c21
        generalize (w2.alloc (.cells (evc zv) 43)).setRow w2.heap.size (evc a) = w3 at HS3 ⊢
        generalize w2.heap.size = D2 at *
        have hLu := HS3.out.1
        have hLa := HS3.out.2.1
        cases t with
        | false =>
          obtain ⟨w5, hr5, hL5, hg5⟩ := HS3.out.2.2.1.turn HUI.out HZ.out (.inl HT.out) hu.2.f (by omega)
          have c21 := HS3.out.1.c21 hu16
          have HS5 : Aside (Lat w5 w.heap.size (i + 1) (E.take (i + 1)) ∧ Below w.heap.size w w5 ∧ w.heap.size + 1 ≤ w5.heap.size) := ⟨hL5, HS3.out.2.2.2.1.grown hg5 (by have := HS3.out.2.2.2.2; omega) (fun k hk => by cases hk; exact Nat.le_refl _), Nat.le_trans HS3.out.2.2.2.2 hg5.size⟩
          clear HS3 hL5 hg5 hLa
          go_wp2_with (refine load_ev rfl rfl rfl hLu hu16 ?_)
          go_roundg (m - (i + 1))
          case measure => omega
          case rel => exact ⟨i + 1, by go_num, by omega, Nat.le_refl _, HS5⟩
        | true =>
          go_wp2_with (first | refine load_ev rfl rfl rfl hLu hu16 ?_ | refine load_ev rfl rfl rfl hLa ha16 ?_)
          refine (later_any u a w3).mono ?_
          rintro e w4 ⟨rfl, hb4⟩
          have HS4 : Aside (LiesE w4 D u ∧ Lat w4 w.heap.size i (E.take i) ∧ Below w.heap.size w w4 ∧ w.heap.size + 1 ≤ w4.heap.size) := ⟨hLu.below hb4 hLu.lt, HS3.out.2.2.1.below hb4 (Nat.le_refl _), HS3.out.2.2.2.1.trans (hb4.mono HS3.out.2.2.2.1.size), Nat.le_trans HS3.out.2.2.2.2 hb4.size⟩
          clear hb4 HS3 hLu hLa
          obtain ⟨y, HY⟩ : ∃ y, Hid (laterE u a = y) := ⟨_, show _ = _ from rfl⟩
          rw [HY.out]
          cases y with
          | true =>
            obtain ⟨w5, hr5, hL5, hg5⟩ := HS4.out.2.1.turn HUI.out HZ.out (.inr (by rw [HA.out]; exact HY.out)) hu.2.f (by omega)
            have c21 := HS4.out.1.c21 hu16
            have hLu := HS4.out.1
            have HS5 : Aside (Lat w5 w.heap.size (i + 1) (E.take (i + 1)) ∧ Below w.heap.size w w5 ∧ w.heap.size + 1 ≤ w5.heap.size) := ⟨hL5, HS4.out.2.2.1.grown hg5 (by have := HS4.out.2.2.2; omega) (fun k hk => by cases hk; exact Nat.le_refl _), Nat.le_trans HS4.out.2.2.2 hg5.size⟩
            clear HS4 hL5 hg5
            go_wp2_with (refine load_ev rfl rfl rfl hLu hu16 ?_)
            go_roundg (m - (i + 1))
            case measure => omega
            case rel => exact ⟨i + 1, by go_num, by omega, Nat.le_refl _, HS5⟩
          | false =>
            have HS5 : Aside (Lat w4 w.heap.size (i + 1) (E.take (i + 1)) ∧ Below w.heap.size w w4 ∧ w.heap.size + 1 ≤ w4.heap.size) := ⟨HS4.out.2.1.stay HUI.out HZ.out HT.out (by rw [HA.out]; exact HY.out), HS4.out.2.2⟩
            clear HS4
            go_wp2
            go_roundg (m - (i + 1))
            case measure => omega
            case rel => exact ⟨i + 1, by go_num, by omega, Nat.le_refl _, HS5⟩
    · obtain rfl : m = i := by omega
      have HS1 : Hid (Lat wr w.heap.size m E ∧ Below w.heap.size w wr) := by
        have := HS.out
        rw [List.take_of_length_le (by omega)] at this
        exact ⟨this.1, this.2.1⟩
      clear HS
      go_wp2
      go_ret
      exact ⟨rfl, HS1.out.1, HS1.out.2⟩
set_option maxHeartbeats 1000000 in
theorem zget_any (ao : Option Addr) (m c : Nat) (E : List Ev) (s : List UInt8) (w : World) (hE : Evs w ao m c E) (hm : m ≤ 1000) (hs : s.length ≤ 9223372036854775807) :
    Calls Try.prog 9 #[.slice ao m c, .string (sb s)] w fun e w' => e = .returned (.tuple #[.int .i64 (numZ E s), .bool (okZ E s)]) ∧ Below w.heap.size w w' := by
  have hwo : Wide (orz (lastZ E s)) := orz_wide hE.wide
  go_enter Try.func9, Try.ntmps9
  go_wp2_with fail
  refine (zlatest_any ao m c E w hE hm).mono ?_
  rintro e w1 ⟨rfl, hL1, hb1⟩
  have hlk := hL1.look hs
  have hz := liesE_new w1 zv
  obtain ⟨f, HF⟩ : ∃ f, Hid (orz (lastZ E s) = f) := ⟨_, show _ = _ from rfl⟩
  obtain ⟨t, HT⟩ : ∃ t, Hid (okZ E s = t) := ⟨_, show _ = _ from rfl⟩
  rw [HF.out] at hwo hlk
  rw [HT.out] at hlk
  have HN : Hid (numZ E s = f.num) := by show _ = _; unfold numZ; rw [HF.out]
  have hf16 := hwo.1
  have hz2 := hz.row f
  have HB : Hid (Below w.heap.size w ((w1.alloc (.cells (evc zv) 43)).setRow w1.heap.size (evc f))) := below_setRow (hb1.alloc hb1.size _) hb1.size _
  have c23 : ((w1.alloc (.cells (evc zv) 43)).setRow w1.heap.size (evc f)).cell? ⟨w1.heap.size, 23, none⟩ = some (.int .i64 f.num) := hz2.co hf16 4
  clear hb1 hE hL1
  go_upto_region 2 with (refine store_ev rfl rfl rfl rfl hz hf16 rfl ?_)
  change Code.wp _ _ _ _ ((w1.alloc (.cells (evc zv) 43)).setRow w1.heap.size (evc f))
  clear hz hz2 hlk
  generalize (w1.alloc (.cells (evc zv) 43)).setRow w1.heap.size (evc f) = W at *
  generalize w1.heap.size = D at *
  go_wp2
  go_ret2
  exact ⟨by rw [HT.out, HN.out]; rfl, HB.out⟩
end Go.Proofs.Ytmacebekodndjaa
