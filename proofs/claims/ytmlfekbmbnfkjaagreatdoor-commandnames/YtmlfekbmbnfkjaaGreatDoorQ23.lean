/-
  Lists of bytes, texts and lists of texts in memory: laws of earlier layers, gathered.
-/
import Derived.Test.YtmlfekbmbnfkjaaGreatDoorProg
import Derived.RowKit
import Derived.KernelRfl
import Derived.Test.YtmlfekbmbnfkjaaGreatDoorQ04
import Derived.OwnWalk
import Derived.Laws.IdiomStrings
import Derived.Laws.CopyRow
import Derived.Laws.AppendOwnNone
import Derived.Lib.SlBuf
import Derived.BigQuiet
import Derived.SliceStrings
namespace Go.Proofs.YtmlfekbmbnfkjaaGreatDoor
set_option maxRecDepth 100000
namespace T21
set_option maxRecDepth 100000
open Go.RowKit

theorem toNat_ofNat_lt (n : Nat) (h : n < 256) : (UInt8.ofNat n).toNat = n := by
  rw [UInt8.toNat_ofNat']; exact Nat.mod_eq_of_lt h

theorem new_two (w : World) (a b : Value) : ∀ j u, [a, b][j]? = some u → (w.alloc (Obj.cells #[a, b] 5)).cell? ((⟨w.heap.size, 0, none⟩ : Addr).add j) = some u := by
  intro j u hu
  rw [Addr.add_lit, Nat.zero_add, World.cell?_alloc_mark]
  simpa using hu
/-- Bytes as they lie in memory. -/
def bs (l : List UInt8) : List Value := l.map (fun c => Value.int .u8 (c.toNat : Int))
theorem bs_length (l : List UInt8) : (bs l).length = l.length := by simp [bs]
theorem info5 : (Tryz.prog.info? 5).map (fun i => (i.zero, i.size, i.bytes)) = some (some (.int .u8 0), 1, 1) := by kernel_rfl

/-- A list of bytes as a call may be handed it: nil, or an address where they lie. -/
structure Bytes (w : World) (ao : Option Addr) (m c : Nat) (l : List UInt8) : Prop where
  len : l.length = m
  room : m ≤ c
  none : ao = none → m = 0 ∧ c = 0
  cells : ∀ ad, ao = some ad → ∀ j u, (bs l)[j]? = some u → w.cell? (ad.add j) = some u

theorem Bytes.below {w w' : World} {ao : Option Addr} {m c : Nat} {l : List UInt8} {B : Nat} (h : Bytes w ao m c l) (hb : Below B w w') (hB : w.heap.size ≤ B) : Bytes w' ao m c l :=
  ⟨h.len, h.room, h.none, fun ad had j u hu => by
    have hc := h.cells ad had j u hu
    have hlt := World.block_lt_of_cell? w _ hc
    rw [hb.cell (Nat.lt_of_lt_of_le hlt hB)]
    exact hc⟩

theorem Bytes.nil (w : World) : Bytes w .none 0 0 [] := ⟨rfl, Nat.le_refl _, fun _ => ⟨rfl, rfl⟩, fun _ h => by cases h⟩

theorem Bytes.own {w : World} {base g n cap : Nat} {l : List UInt8} (h : w.ownsRow base 5 1 (.slice (some ⟨g, 0, .none⟩) n cap) n (bs l)) : Bytes w (some ⟨g, 0, .none⟩) n cap l :=
  ⟨by have := h.1; rw [bs_length] at this; omega,
   by rcases h.2 with ⟨h', _⟩ | ⟨g', cap', cur, h', _, _, hn, _⟩
      · cases h'
      · simp only [Value.slice.injEq] at h'; omega,
   (fun h => by cases h),
   fun ad had j u hu => by
    obtain rfl := Option.some.inj had
    exact h.cells rfl j u hu⟩

theorem bs_oneCell (l : List UInt8) : ∀ u ∈ bs l, u.oneCell' = true := by
  intro u hu
  obtain ⟨_, _, rfl⟩ := List.mem_map.1 hu
  rfl
theorem bs_append (a b : List UInt8) : bs (a ++ b) = bs a ++ bs b := by simp [bs]

/-- Where bytes lie: nowhere, since there are none; or at an address. -/
theorem Bytes.norm {w : World} {ao : Option Addr} {m c : Nat} {l : List UInt8} (h : Bytes w ao m c l) :
    (m = 0 ∧ l = []) ∨ ∃ b off, ao = some ⟨b, off, .none⟩ ∧ 0 < m ∧ ∀ j, j < m → w.cell? ⟨b, off + j, .none⟩ = some (.int .u8 ((l.getD j 0).toNat : Int)) := by
  by_cases h0 : m = 0
  · exact .inl ⟨h0, List.eq_nil_of_length_eq_zero (h.len.trans h0)⟩
  · right
    cases ao with
    | none => exact absurd (h.none rfl).1 h0
    | some ad =>
      obtain ⟨b, off, spot⟩ := ad
      have hg : ∀ j, j < m → w.cell? ((⟨b, off, spot⟩ : Addr).add j) = some (.int .u8 ((l.getD j 0).toNat : Int)) := by
        intro j hj
        refine h.cells _ rfl j _ ?_
        have hj' : j < l.length := by rw [h.len]; exact hj
        simp [bs, hj']
      have hspot : spot = .none := by simpa [Addr.add] using World.cell?_spot (hg 0 (by omega))
      subst hspot
      exact ⟨b, off, rfl, by omega, fun j hj => by have := hg j hj; rwa [Addr.add_lit] at this⟩

theorem own_below {w w' : World} {base : Nat} {v : Value} {n : Nat} {xs : List Value} (h : w.ownsRow base 5 1 v n xs) (hb : Below w.heap.size w w') : w'.ownsRow base 5 1 v n xs := by
  refine h.kept (row := none) ⟨hb.os, hb.tape, hb.output, hb.size, fun k hk _ => hb.block k hk⟩ ?_
  cases v.ownBlock <;> simp

theorem conv_own {w : World} {base g n cap : Nat} {l : List UInt8} (h : w.ownsRow base 5 1 (.slice (some ⟨g, 0, none⟩) n cap) n (bs l)) :
    (convert 67 9 (.slice (some ⟨g, 0, none⟩) n cap)).run Tryz.prog w = .ok (.string ⟨l.toArray⟩) w := by
  have hl : l.length = n := by have := h.1; rw [bs_length] at this; omega
  subst hl
  refine run_convert_bytes_back w 67 9 5 ⟨g, 0, none⟩ cap l Tryz.underlying67 Tryz.underlying5 Tryz.underlying9 ?_
  intro j hj
  refine h.cells rfl j _ ?_
  simp [bs, hj]

/-- A text turned into bytes. -/
theorem conv_bytes (s : ByteArray) (W : World) (hs : s.size ≤ maxLen) : ∃ cap W', (convert 9 67 (.string s)).run Tryz.prog W = .ok (.slice (some ⟨W.heap.size, 0, none⟩) s.size cap) W' ∧
    Bytes W' (some ⟨W.heap.size, 0, none⟩) s.size cap s.data.toList ∧ cap ≤ maxLen ∧ Below W.heap.size W W' ∧ W'.heap.size = W.heap.size + 1 := by
  refine ⟨_, _, run_bytes_of_string W 9 67 5 s Tryz.underlying9 Tryz.underlying67 Tryz.underlying5, ⟨?_, grownCap_ge _ _ _ _, (fun h => by cases h), ?_⟩, grownCap_le_maxLen _ _ _ _ hs, ?_, ?_⟩
  · rw [Array.length_toList]; rfl
  · intro ad had j u hu
    obtain rfl := Option.some.inj had
    rw [Addr.add_lit, Nat.zero_add]
    rw [show W.heap.size = W.drew.heap.size from rfl, World.cell?_alloc_mark, bytesRow]
    have hj : j < s.data.size := by
      have := (List.getElem?_eq_some_iff.1 hu).1
      rw [bs_length, Array.length_toList] at this
      exact this
    rw [Array.getElem?_append_left (by rw [Array.size_map]; exact hj), Array.getElem?_map]
    rw [bs, List.getElem?_map, Array.getElem?_toList] at hu
    exact hu
  · exact (Below.refl _ _).drew.alloc (Nat.le_refl _) _
  · simp

theorem eqGuard_bool (w : World) {op : BinOp} {x y : Operand} {a b : Bool} : (eqGuard op 4 x y (.bool a) (.bool b)).run Tryz.prog w = .ok () w := by
  cases op <;> simp [eqGuard]
theorem eqGuard_int (w : World) {op : BinOp} {x y : Operand} {a b : Int} : (eqGuard op 3 x y (.int .i64 a) (.int .i64 b)).run Tryz.prog w = .ok () w := by
  cases op <;> simp [eqGuard]
theorem drawn (w : World) (n : Nat) : Below w.heap.size w (w.drewN n) := ⟨rfl, rfl, rfl, Nat.le_refl _, fun _ _ => rfl⟩

theorem Bytes.part {w : World} {ao : Option Addr} {m c : Nat} {l : List UInt8} (h : Bytes w ao m c l) (k : Nat) (hk : k ≤ m) (hao : ao ≠ .none) : Bytes w ao k c (l.take k) :=
  ⟨by rw [List.length_take, h.len]; omega, by have := h.room; omega, fun h0 => absurd h0 hao, fun ad had j u hu => by
    refine h.cells ad had j u ?_
    rw [bs, List.map_take, List.getElem?_take] at hu
    split at hu
    · exact hu
    · cases hu⟩

theorem Bytes.drop {w : World} {ao : Option Addr} {m c : Nat} {l : List UInt8} (h : Bytes w ao m c l) (a : Nat) (ha : a ≤ m) :
    Bytes w (Option.map (fun x => x.add a) ao) (m - a) (c - a) (l.drop a) :=
  ⟨by rw [List.length_drop, h.len], by have := h.room; omega,
   (fun hn => by
    cases ao with
    | none => have := h.none rfl; omega
    | some ad => cases hn),
   fun ad had j u hu => by
    cases ao with
    | none => cases had
    | some x =>
      obtain rfl := Option.some.inj had
      rw [bs, List.map_drop, List.getElem?_drop] at hu
      have := h.cells x rfl (a + j) u hu
      rwa [Addr.add_add]⟩
theorem Bytes.take {w : World} {ao : Option Addr} {m c : Nat} {l : List UInt8} (h : Bytes w ao m c l) (k : Nat) (hk : k ≤ m) : Bytes w ao k c (l.take k) :=
  ⟨by rw [List.length_take, h.len]; omega, by have := h.room; omega, (fun hn => by have := h.none hn; omega),
   fun ad had j u hu => by
    refine h.cells ad had j u ?_
    rw [bs, List.map_take, List.getElem?_take] at hu
    split at hu
    · exact hu
    · cases hu⟩

theorem row_below {w w' : World} {base : Nat} {t : TypeId} {v : Value} {n : Nat} {xs : List Value} (h : w.ownsRow base t 1 v n xs) (hb : Below w.heap.size w w') : w'.ownsRow base t 1 v n xs := by
  refine h.kept (row := none) ⟨hb.os, hb.tape, hb.output, hb.size, fun k hk _ => hb.block k hk⟩ ?_
  cases v.ownBlock <;> simp
/-- Rows of unlike types lie in unlike blocks. -/
theorem own_apart {w : World} {b b' : Nat} {t t' : TypeId} {v v' : Value} {n n' : Nat} {xs xs' : List Value} (h : w.ownsRow b t 1 v n xs) (h' : w.ownsRow b' t' 1 v' n' xs') (ht : t ≠ t') : v.ownBlock = none ∨ v.ownBlock ≠ v'.ownBlock := by
  rcases h.2 with ⟨rfl, _⟩ | ⟨g, cap, cur, rfl, _, hg, _⟩
  · exact .inl rfl
  rcases h'.2 with ⟨rfl, _⟩ | ⟨g', cap', cur', rfl, _, hg', _⟩
  · exact .inr (by simp [Value.ownBlock])
  · right
    simp only [Value.ownBlock, ne_eq, Option.some.injEq]
    rintro rfl
    rw [hg] at hg'
    simp only [Option.some.injEq, Obj.cells.injEq] at hg'
    exact ht hg'.2.1
theorem new_one (w : World) (a : Value) (t : TypeId) : ∀ j u, [a][j]? = some u → (w.alloc (Obj.cells #[a] t)).cell? ((⟨w.heap.size, 0, none⟩ : Addr).add j) = some u := by
  intro j u hu
  rw [Addr.add_lit, Nat.zero_add, World.cell?_alloc_mark]
  simpa using hu

theorem own_rebase {w : World} {base base' : Nat} {e : TypeId} {size : Nat} {v : Value} {n : Nat} {xs : List Value} (h : w.ownsRow base e size v n xs) (hb : base' ≤ base) : w.ownsRow base' e size v n xs := by
  refine ⟨h.1, ?_⟩
  rcases h.2 with h | ⟨g, cap, cur, h1, h2, h3⟩
  · exact .inl h
  · exact .inr ⟨g, cap, cur, h1, Nat.le_trans hb h2, h3⟩
/-- A list of texts as a call may be handed it. -/
structure Txts (w : World) (ao : Option Addr) (m c : Nat) (S : List ByteArray) : Prop where
  len : S.length = m
  room : m ≤ c
  none : ao = none → m = 0 ∧ c = 0
  cells : ∀ ad, ao = some ad → ∀ j s, S[j]? = some s → w.cell? (ad.add j) = some (.string s)
  small : ∀ s ∈ S, s.size ≤ maxLen

theorem Txts.below {w w' : World} {ao : Option Addr} {m c : Nat} {S : List ByteArray} {B : Nat} (h : Txts w ao m c S) (hb : Below B w w') (hB : w.heap.size ≤ B) : Txts w' ao m c S :=
  ⟨h.len, h.room, h.none, fun ad had j u hu => by
    have hc := h.cells ad had j u hu
    have hlt := World.block_lt_of_cell? w _ hc
    rw [hb.cell (Nat.lt_of_lt_of_le hlt hB)]
    exact hc, h.small⟩
theorem Txts.norm {w : World} {ao : Option Addr} {m c : Nat} {S : List ByteArray} (h : Txts w ao m c S) :
    (m = 0 ∧ S = []) ∨ ∃ b off, ao = some ⟨b, off, .none⟩ ∧ 0 < m ∧ ∀ j, j < m → w.cell? ⟨b, off + j, .none⟩ = some (.string (S.getD j ByteArray.empty)) := by
  by_cases h0 : m = 0
  · exact .inl ⟨h0, List.eq_nil_of_length_eq_zero (h.len.trans h0)⟩
  · right
    cases ao with
    | none => exact absurd (h.none rfl).1 h0
    | some ad =>
      obtain ⟨b, off, spot⟩ := ad
      have hg : ∀ j, j < m → w.cell? ((⟨b, off, spot⟩ : Addr).add j) = some (.string (S.getD j ByteArray.empty)) := by
        intro j hj
        refine h.cells _ rfl j _ ?_
        have hj' : j < S.length := by rw [h.len]; exact hj
        simp [List.getD, hj']
      have hspot : spot = .none := by simpa [Addr.add] using World.cell?_spot (hg 0 (by omega))
      subst hspot
      exact ⟨b, off, rfl, by omega, fun j hj => by have := hg j hj; rwa [Addr.add_lit] at this⟩
theorem Txts.take {w : World} {ao : Option Addr} {m c : Nat} {S : List ByteArray} (h : Txts w ao m c S) (k : Nat) (hk : k ≤ m) : Txts w ao k c (S.take k) :=
  ⟨by rw [List.length_take, h.len]; omega, by have := h.room; omega, (fun hn => by have := h.none hn; omega),
   (fun ad had j u hu => by
    refine h.cells ad had j u ?_
    rw [List.getElem?_take] at hu
    split at hu
    · exact hu
    · cases hu), fun s hs => h.small s (List.mem_of_mem_take hs)⟩

theorem toArray_data (s : ByteArray) : (⟨s.data.toList.toArray⟩ : ByteArray) = s := by cases s; simp

/-- Bytes that a call has made: nowhere, since there are none; or a row of its own. -/
def Made (w : World) (base : Nat) (v : Value) (l : List UInt8) : Prop := w.ownsRow base 5 1 v l.length (bs l)

/-- Bytes as a text. -/
def tx (l : List UInt8) : ByteArray := ⟨l.toArray⟩
theorem tx_list (l : List UInt8) : (tx l).data.toList = l := by simp [tx]
theorem tx_size (l : List UInt8) : (tx l).size = l.length := by simp [tx, ByteArray.size]
theorem tx_data (b : ByteArray) : tx b.data.toList = b := by cases b; simp [tx]
theorem tx_get (l : List UInt8) (i : Nat) (h : i < (tx l).size) : (tx l)[i] = l.getD i 0 := by
  have hi : i < l.length := by rw [tx_size] at h; exact h
  show l.toArray[i] = _
  rw [List.getElem_toArray]
  simp [List.getD, hi]
theorem ext_tx (b : ByteArray) (i j : Nat) : b.extract i j = tx ((b.data.toList.drop i).take (j - i)) := by
  rw [← tx_data (b.extract i j)]
  congr 1
  simp [List.take_drop]

theorem slice_tx (b : ByteArray) (i j : Nat) (I J : Int) (hI : I = (i : Int)) (hJ : J = (j : Int)) (hij : i ≤ j) (hj : j ≤ b.size) (W : World) :
    (Instr.slice 9 (.string b) (some (.int .i64 I)) (some (.int .i64 J)) none).run Tryz.prog W = .ok (.string (tx ((b.data.toList.drop i).take (j - i)))) W := by
  subst hI hJ
  rw [run_slice_string W 9 b .i64 .i64 _ _ Tryz.underlying9 (by omega) (by omega) (by omega), Int.toNat_natCast, Int.toNat_natCast, ext_tx]

theorem own_kept {w w' : World} {base : Nat} {t : TypeId} {v : Value} {n g : Nat} {xs : List Value} (h : w.ownsRow base t 1 v n xs) (hg : w.grownBy w' (some g)) (hb : g < base) : w'.ownsRow base t 1 v n xs := by
  refine h.kept hg ?_
  cases hv : v.ownBlock with
  | none => exact .inl rfl
  | some k =>
    right
    have := (h.lt k hv).1
    simp only [ne_eq, Option.some.injEq]
    omega
theorem Made.bytes {w : World} {base : Nat} {v : Value} {l : List UInt8} (h : Made w base v l) : ∃ ao cap, v = .slice ao l.length cap ∧ Bytes w ao l.length cap l ∧ cap ≤ maxLen := by
  rcases h.2 with ⟨rfl, h0⟩ | ⟨g, cap, cur, rfl, hb, hg, hnc, hcm, hcs, htake⟩
  · have h1 : l = [] := List.eq_nil_of_length_eq_zero h0
    subst h1
    exact ⟨none, 0, rfl, Bytes.nil w, Nat.zero_le _⟩
  · exact ⟨some ⟨g, 0, none⟩, cap, rfl, Bytes.own h, hcm⟩
/-- 'append' to a row of the call's own, of whatever came in, asked for or not (a guard that holds). -/
theorem wpList_app {ops : Array Oper} {rest : List Oper} {o : Oper} {a : Act} {w : World} {Q : Exit → Act → World → Prop} (hw : Region.wanted o (yielded ops a.tmps) = true) (s x : Operand) (t : TypeId)
    (ho : o.op = .call { callee := .builtin .append, args := #[s, x], argTypes := #[t, t] })
    (base : Nat) (e : TypeId) (i : TypeInfo) (z : Value) (bytes : Nat) (ht : Tryz.prog.underlying t = some (.slice e)) (hi : Tryz.prog.info? e = some i) (hz : i.zero = some z)
    (hsize : i.size = 1) (hby : i.bytes = bytes) (hzs : z.cells.size = 1)
    (v : Value) (n : Nat) (xs : List Value) (hs : a.eval s = v) (hown : w.ownsRow base e 1 v n xs)
    (ao : Option Addr) (m c : Nat) (news : List Value) (hx : a.eval x = .slice ao m c) (hl : news.length = m) (hnone : ao = none → m = 0 ∧ c = 0)
    (hnews : ∀ ad, ao = some ad → ∀ j u, news[j]? = some u → w.cell? (ad.add j) = some u) (h1 : ∀ u ∈ news, u.oneCell' = true)
    (h63 : n + m ≤ maxLen) (hbytes : (n + m) * bytes ≤ 140737488355328) (hbase : base ≤ w.heap.size)
    (h : ∀ v' w', w'.ownsRow base e 1 v' (n + m) (xs ++ news) → w.grownBy w' v.ownBlock → wpList Tryz.prog ops Q rest (a.put o.dst v') w') : wpList Tryz.prog ops Q (o :: rest) a w := by
  refine wpList_step fun K hK => ?_
  rw [if_pos hw]
  cases ao with
  | some ad => exact wp_append_own w s x t ho base e i z 1 bytes ht hi hz hsize hby hzs (by omega) v n xs hs hown ad m c news hx (by omega) (hnews ad rfl) h1 h63 hbytes hbase fun v' w' h2 h3 _ => hK _ _ (h v' w' h2 h3)
  | none =>
    obtain ⟨rfl, rfl⟩ := hnone rfl
    have hn : news = [] := List.eq_nil_of_length_eq_zero hl
    subst hn
    have hrun := run_append_owned_none (P := Tryz.prog) (w := w) base t o.type e i 1 ht hi v n xs hown
    unfold Oper.wp
    simp [execOp, ho, resolve, invoke, builtin, hs, hx, hrun, Result.andThen]
    exact hK _ _ (h v w (by simpa using hown) (World.grownBy.refl _ _))

/-- A new list of no things. -/
theorem own_empty (w : World) (base : Nat) (hb : base ≤ w.heap.size) (t : TypeId) : (w.alloc (Obj.cells #[] t)).ownsRow base t 1 (.slice (some ⟨w.heap.size, 0, none⟩) 0 0) 0 [] :=
  World.ownsRow_made w #[] 0 hb (Nat.zero_le _) rfl

theorem infoT : (Tryz.prog.info? 9).map (fun i => (i.zero, i.size, i.bytes)) = some (some (.string ByteArray.empty), 1, 16) := by kernel_rfl

theorem str_cells {w : World} {ao : Option Addr} {m c : Nat} {S : List ByteArray} (h : Txts w ao m c S) : ∀ ad, ao = some ad → ∀ j u, (S.map Value.string)[j]? = some u → w.cell? (ad.add j) = some u := by
  intro ad had j u hu
  rw [List.getElem?_map, Option.map_eq_some_iff] at hu
  obtain ⟨s, hs, rfl⟩ := hu
  exact h.cells ad had j s hs
theorem str_one (S : List ByteArray) : ∀ u ∈ S.map Value.string, u.oneCell' = true := by
  intro u hu
  obtain ⟨_, _, rfl⟩ := List.mem_map.1 hu
  rfl
theorem own_txts {w : World} {base : Nat} {v : Value} {S : List ByteArray} (h1 : w.ownsRow base 9 1 v S.length (S.map Value.string)) (hs : ∀ s ∈ S, s.size ≤ maxLen) : ∃ ao c, v = .slice ao S.length c ∧ Txts w ao S.length c S ∧ c ≤ maxLen := by
  rcases h1.2 with ⟨rfl, h0⟩ | ⟨g, cap, cur, rfl, _, _, hnc, hcm, _⟩
  · have : S = [] := List.eq_nil_of_length_eq_zero h0
    subst this
    exact ⟨none, 0, rfl, ⟨rfl, Nat.le_refl _, fun _ => ⟨rfl, rfl⟩, (fun _ h => by cases h), hs⟩, Nat.zero_le _⟩
  · refine ⟨_, _, rfl, ⟨rfl, hnc, (fun h => by cases h), ?_, hs⟩, hcm⟩
    intro ad had j s hj
    obtain rfl := Option.some.inj had
    exact h1.cells rfl j _ (by rw [List.getElem?_map, hj]; rfl)

end T21
end Go.Proofs.YtmlfekbmbnfkjaaGreatDoor

