/-
  A map of keys as the library's contracts read it; what names comes to at whatever space.
-/
import Derived.Test.YtmlfekbmbnfkjabGreatDoorQ62
import Derived.Test.YtmlfekbmbnfkjabGreatDoorQ53
import Derived.Maps.OwnSet
import Derived.Maps.RangeWalk
import Derived.Sort.KeysCollected
namespace Go.Proofs.YtmlfekbmbnfkjabGreatDoor
set_option maxRecDepth 100000
open Go.RowKit Go.Maps Go.WideMaps Go.Sort Go.Shelf

def tokV (v : Value) : Option (DataW Value × List MemPlace) := some (.held v, [])
theorem key_of {s : List UInt8} (h : s.length ≤ 9223372036854775807) : keyOf Tryz.prog 9 (.string (sb s)) = some (.string s) := by
  have := keyOf_string_mk (P := Tryz.prog) (k := 9) Tryz.underlying9 (s := sb s) (by rw [sb_size]; unfold maxLen; omega)
  rw [data_sb] at this
  exact this
/-- An entry, read. -/
noncomputable def gK (kv : Value × Value) : Lit × DataW Value := ((keyOf Tryz.prog 9 kv.1).bind fun key => (tokV kv.2).map fun y => (key, y.1)).getD (.bool false, .nil)
theorem gK_kv (p : Key × Nat) (h : p.1.length ≤ 9223372036854775807) : gK (kvK p) = (.string p.1, .held (.pointer (some ⟨p.2, 0, none⟩))) := by
  unfold gK kvK
  simp only [key_of h, tokV, Option.bind_some, Option.map_some, Option.getD_some]
theorem owns_of_mk {w : World} {b : Nat} {S : List (Key × Nat)} (h : Mk w b S) (hl : ∀ p ∈ S, p.1.length ≤ 9223372036854775807) (hs : S.length ≤ 1000000) :
    ∃ D : DataW Value, w.ownsMap Tryz.prog 9 tokV b S.length D ∧ (strKeys D).Perm (S.map Prod.fst) ∧ Maps.size D = S.length := by
  obtain ⟨es, clock, L, hb, hst, hL, hp, hn⟩ := h
  have hlL : ∀ p ∈ L, p.1.length ≤ 9223372036854775807 := fun p hp' => hl p (hp.mem_iff.1 hp')
  have hsz : es.size = S.length := by
    have := congrArg List.length hL
    rw [List.length_map, List.length_map, hp.length_eq] at this
    simpa using this
  have hrg : es.toList.map (WideElems.rg Tryz.prog 9 tokV) = L.map fun p => (Lit.string p.1, DataW.held (Value.pointer (some ⟨p.2, 0, none⟩))) := by
    have e1 : es.toList.map (WideElems.rg Tryz.prog 9 tokV) = (es.toList.map kvM).map gK := by rw [List.map_map]; rfl
    rw [e1, hL, List.map_map]
    exact List.map_congr_left fun p hp' => gK_kv p (hlL p hp')
  have hF : WideElems.Fit Tryz.prog 9 tokV es clock := ⟨by rw [hsz]; unfold maxLen; omega, hst, fun x hx => by
    have hm : kvM x ∈ L.map kvK := by rw [← hL]; exact List.mem_map.2 ⟨x, hx, rfl⟩
    obtain ⟨p, hp', he⟩ := List.mem_map.1 hm
    have hk : x.key = .string (sb p.1) := (congrArg Prod.fst he).symm
    exact ⟨_, by unfold WideElems.rd; rw [hk, key_of (hlL p hp')]; rfl⟩⟩
  refine ⟨_, ⟨es, clock, hb, hF, by omega, rfl⟩, ?_, ?_⟩
  · rw [hrg]
    show (List.map (fun p => strOf p.1) (List.foldr DataW.insert [] _)).Perm _
    refine ((WideShapes.sorted_perm _).map _).trans ?_
    rw [List.map_map]
    have e2 : ((fun p : Lit × DataW Value => strOf p.1) ∘ fun p : Key × Nat => (Lit.string p.1, DataW.held (Value.pointer (some ⟨p.2, 0, none⟩)))) = Prod.fst := rfl
    rw [e2]
    exact hp.map _
  · show (List.foldr DataW.insert [] _).length = _
    rw [length_sorted, List.length_map, Array.length_toList, hsz]
theorem own_rebaseK {w : World} {base base' : Nat} {e : TypeId} {size : Nat} {v : Value} {n : Nat} {xs : List Value} (h : w.ownsRow base e size v n xs) (hb : base' ≤ base) : w.ownsRow base' e size v n xs := by
  refine ⟨h.1, ?_⟩
  rcases h.2 with h | ⟨g, cap, cur, h1, h2, h3⟩
  · exact .inl h
  · exact .inr ⟨g, cap, cur, h1, Nat.le_trans hb h2, h3⟩
theorem sorted_any (b : Nat) (S : List (Key × Nat)) (w : World) (hM : Mk w b S) (hl : ∀ p ∈ S, p.1.length ≤ 9223372036854775807) (hs : S.length ≤ 1000000) :
    Calls Tryz.prog 198 #[.func (.func 227) #[] #[.pointer (some ⟨w.heap.size, 0, none⟩)]] (w.alloc (.cells #[.map (some b)] 56)) fun (e : Ending) (w' : World) => ∃ (v : Value) (ks : List (List UInt8)), e = .returned v ∧ ks.Perm (S.map Prod.fst) ∧ ks.Pairwise (fun a b => a ≤ b) ∧
      w'.ownsRow (w.alloc (.cells #[.map (some b)] 56)).heap.size 9 1 v ks.length (ks.map encStr) ∧ Below (w.alloc (.cells #[.map (some b)] 56)).heap.size (w.alloc (.cells #[.map (some b)] 56)) w' := by
  obtain ⟨D, hown, hk, hsz⟩ := owns_of_mk hM hl hs
  have hbl := hown.lt
  have hseq : SeqGives Fence.wide 2 Tryz.prog 227 #[.pointer (some ⟨w.heap.size, 0, none⟩)] encStr (fun ss => ss.Perm (strKeys D)) (Maps.size D) (w.alloc (.cells #[.map (some b)] 56)) :=
    AnyZ.keys_gives (ρ := keysKRen) { keysK with } Fence.wide _ trivial rfl (by omega) w.heap.size b S.length D _ (by simp) (by simp) (by
      obtain ⟨es, clock, hb, Ft, hs, hD⟩ := hown
      exact ⟨es, clock, (Below.heap_alloc _ _ b hbl).trans hb, Ft, hs, hD⟩)
  have h := (callsIn_wide (n := 5)).1 (AnyZ.sorted_in sortedK Fence.wide 5 trivial trivial trivial trivial rfl (by omega) (sortsK _) (enters_of Tryz.func182 (by kernel_rfl) rfl) 227 #[.pointer (some ⟨w.heap.size, 0, none⟩)] trivial (enters_of Tryz.func227 (by kernel_rfl) rfl) _ _ (by rw [hsz]; unfold maxLen; omega) (by rw [hsz]; omega) _ hseq)
  refine Calls.mono h ?_
  rintro e w' ⟨v, ss, rfl, hS, hrow, -, hb⟩
  refine ⟨v, ss.mergeSort (fun x y => decide (x ≤ y)), rfl, ((List.mergeSort_perm _ _).trans hS).trans hk, (List.pairwise_mergeSort (fun a b c h1 h2 => by simp only [decide_eq_true_eq] at *; exact List.le_trans h1 h2) (fun a b => by simp only [Bool.or_eq_true, decide_eq_true_eq]; exact List.le_total a b) ss).imp (fun h => of_decide_eq_true h), ?_, hb⟩
  rw [List.length_mergeSort]
  exact hrow
theorem snames_any (Y : Lay) (w : World) (g : Nat) (s : St) (hS : SpK Y w g s none) (hl : ∀ p ∈ Y.S, p.1.length ≤ 9223372036854775807) (hs : Y.S.length ≤ 1000000) :
    Calls Tryz.prog 158 #[.pointer (some ⟨g, 0, none⟩)] w fun (e : Ending) (w' : World) => ∃ (v : Value) (ks : List (List UInt8)), e = .returned v ∧ ks.Perm (Y.S.map Prod.fst) ∧ ks.Pairwise (fun a b => a ≤ b) ∧ w'.ownsRow w.heap.size 9 1 v ks.length (ks.map encStr) ∧ Below w.heap.size w w' := by
  have hc := hS.c17
  rcases hS.map with ⟨e1, e2⟩ | ⟨b, e1, hM⟩
  · rw [e1] at hc
    refine Calls.mono (names_zero g w hc) ?_
    rintro e w' ⟨rfl, hb⟩
    exact ⟨_, [], rfl, by rw [e2]; exact List.Perm.refl _, List.Pairwise.nil, World.ownsRow_nil _ _ _ _, hb⟩
  · rw [e1] at hc
    have hz := sorz_some g w
    have hk := mkeys_any (some b) w
    have hsn := sorted_any b Y.S w hM hl hs
    have hb : Below w.heap.size w (w.alloc (.cells #[.map (some b)] 56)) := (Below.refl _ w).alloc (Nat.le_refl _) _
    obtain ⟨W, hW⟩ : ∃ W, W = w.alloc (.cells #[.map (some b)] 56) := ⟨_, rfl⟩
    rw [← hW] at hk hsn hb
    have HB : Hid (Below w.heap.size w W) := hb
    clear hb hW hS hM hl hs e1
    go_enter Tryz.func158, Tryz.ntmps158
    go_wp2_with fail
    refine Calls.mono hz ?_
    rintro e w1 ⟨rfl, hw⟩
    obtain rfl := hw.symm
    clear hz
    go_wp2_with fail
    refine Calls.mono hk ?_
    rintro e w2 ⟨rfl, hw⟩
    obtain rfl := hw.symm
    clear hk
    go_wp2_with fail
    refine Calls.mono hsn ?_
    rintro e w3 ⟨v, ks, rfl, hp, hpw, hr, hb3⟩
    have FIN : Aside (ks.Perm (Y.S.map Prod.fst) ∧ ks.Pairwise (fun a b => a ≤ b) ∧ w3.ownsRow w.heap.size 9 1 v ks.length (ks.map encStr) ∧ Below w.heap.size w w3) := ⟨hp, hpw, own_rebaseK hr HB.out.size, HB.out.trans (hb3.mono HB.out.size)⟩
    clear hsn hb3 hp hpw hr
    go_wp2
    go_ret
    exact ⟨v, ks, rfl, FIN.out⟩
/-! A space's keys are as long as its events allow, and no more than it has events. -/
theorem flat_many {α β γ : Type} (F : α → List β) (G : α → List γ) : ∀ S : List α, (∀ p ∈ S, 1 ≤ (F p).length + (G p).length) → S.length ≤ (S.flatMap F).length + (S.flatMap G).length
  | [], _ => Nat.zero_le _
  | p :: S, h => by
    have h1 := h p (by simp)
    have h2 := flat_many F G S fun q hq => h q (by simp [hq])
    rw [List.flatMap_cons, List.flatMap_cons, List.length_append, List.length_append, List.length_cons]
    omega
theorem SpK.keys_have {Y : Lay} {w : World} {g : Nat} {s : St} (hS : SpK Y w g s none) : ∀ p ∈ Y.S, ofKeyE p.1 s.L ≠ [] ∨ ofKeyD p.1 s.DL ≠ [] := fun p hp => (hS.has p.1 (by simp)).1 ⟨p.2, hp⟩
theorem SpK.keys_many {Y : Lay} {w : World} {g : Nat} {s : St} (hS : SpK Y w g s none) (hl : s.L.length ≤ 1000) (hd : s.DL.length ≤ 1000) : Y.S.length ≤ s.L.length + s.DL.length := by
  have e1 := hS.srcE (by omega)
  have e2 := hS.srcD (by omega)
  have h1 := (keys_perm (fun e : Ev => e.key) Y.S s.L e1.nd e1.all).length_eq
  have h2 := (keys_perm (fun d : Ed => d.push.key) Y.S s.DL e2.nd e2.all).length_eq
  have h3 := flat_many (fun q : Key × Nat => ofKeyE q.1 s.L) (fun q : Key × Nat => ofKeyD q.1 s.DL) Y.S fun p hp => by
    rcases hS.keys_have p hp with h | h
    · have := List.length_pos_iff.2 h; omega
    · have := List.length_pos_iff.2 h; omega
  have h4 : (Y.S.flatMap fun q => ofKeyE q.1 s.L).length = s.L.length := h1
  have h5 : (Y.S.flatMap fun q => ofKeyD q.1 s.DL).length = s.DL.length := h2
  omega
theorem SpK.keys_wide {Y : Lay} {w : World} {g : Nat} {s : St} (hS : SpK Y w g s none) : ∀ p ∈ Y.S, p.1.length ≤ 9223372036854775807 := fun p hp => by
  rcases hS.keys_have p hp with h | h
  · obtain ⟨e, he⟩ := List.exists_mem_of_ne_nil _ h
    obtain ⟨h1, h2⟩ := List.mem_filter.1 he
    have h2 : e.key = p.1 := by simpa using h2
    rw [← h2]
    exact (hS.wl e h1).2.k
  · obtain ⟨d, hd⟩ := List.exists_mem_of_ne_nil _ h
    obtain ⟨h1, h2⟩ := List.mem_filter.1 hd
    have h2 : d.push.key = p.1 := by simpa using h2
    rw [← h2]
    exact (hS.wd d h1).2.k
theorem snames_all (Y : Lay) (w : World) (g : Nat) (s : St) (hS : SpK Y w g s none) (hl : s.L.length ≤ 1000) (hd : s.DL.length ≤ 1000) :
    Calls Tryz.prog 158 #[.pointer (some ⟨g, 0, none⟩)] w fun (e : Ending) (w' : World) => ∃ (v : Value) (ks : List (List UInt8)), e = .returned v ∧ ks.Perm (Y.S.map Prod.fst) ∧ ks.Pairwise (fun a b => a ≤ b) ∧ w'.ownsRow w.heap.size 9 1 v ks.length (ks.map encStr) ∧ Below w.heap.size w w' :=
  snames_any Y w g s hS hS.keys_wide (by have := hS.keys_many hl hd; omega)
end Go.Proofs.YtmlfekbmbnfkjabGreatDoor

