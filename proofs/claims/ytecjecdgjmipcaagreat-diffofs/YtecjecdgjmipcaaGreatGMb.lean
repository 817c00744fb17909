/-
  Lemmas towards the claim of this folder: contracts of the functions that the law reaches; joined texts.
-/
import Derived.Test.YtecjecdgjmipcaaGreatMa
import Derived.Test.YtecjecdgjmipcaaGreatGPn
import Derived.Test.YtecjecdgjmipcaaGreatTa
/-
  A MAP FROM KEYS TO NOTHING (map[string]struct{}), as it lies in memory: its keys, rising.
-/
namespace Go.Proofs.YtecjecdgjmipcaaGreat
open Go.RowKit Go.Mk Go.Maps

/-- What is read of an element: nothing. -/
def RU (v : Value) : Option (DataW Value × List MemPlace) :=
  match v with
  | .agg cs => (match cs.toList with
    | [] => some (.held (.agg #[]), [])
    | _ => none)
  | _ => none

def datU (l : List (List UInt8)) : DataW Value := .map (l.map fun k => (.string k, .held (.agg #[])))

theorem ins_mapU (k : List UInt8) : ∀ {l : List (List UInt8)}, Rise id l → (∀ x ∈ l, x ≠ k) → DataW.insert (Lit.string k, DataW.held (.agg #[])) (l.map fun k => (Lit.string k, DataW.held (.agg #[]))) = (putK id k l).map fun k => (Lit.string k, DataW.held (Value.agg #[]))
  | [], _, _ => rfl
  | x :: r, h, hn => by
    obtain ⟨h1, h2⟩ := rise_cons.1 h
    have ih := ins_mapU k h2 (fun y hy => hn y (by simp [hy]))
    have hx := hn x (by simp)
    rw [List.map_cons, DataW.insert, before_str]
    simp only [putK, id, if_neg hx.symm]
    by_cases hl : k < x
    · simp [hl]
    · simp only [decide_eq_true_eq, if_neg hl, List.map_cons, ih]

theorem dat_putU (k : List UInt8) {l : List (List UInt8)} (h : Rise id l) : (datU l).put (.string k) (.held (.agg #[])) = datU (putK id k l) := by
  have hd : (datU l).put (.string k) (.held (.agg #[])) = .map (DataW.insert (Lit.string k, DataW.held (.agg #[])) ((dropK id k l).map fun k => (Lit.string k, DataW.held (.agg #[])))) := by
    unfold datU DataW.put dropK
    simp only
    rw [List.filter_map]
    rfl
  rw [hd, ins_mapU k (rise_dropK h) (fun x hx => (mem_dropK.1 hx).2)]
  rw [show putK id k (dropK id k l) = putK id k l from (putK_drop (key := id) k h).symm]
  rfl

theorem dat_sizeU (l : List (List UInt8)) : Maps.size (datU l) = l.length := by simp [datU, Maps.size]

/-- The set at a block. -/
structure TbU (w : World) (b : Nat) (l : List (List UInt8)) : Prop where
  own : w.ownsMap Tryz.prog 9 RU b l.length (datU l)
  rise : Rise id l

theorem TbU.kept {S : Nat → Prop} {w w' : World} {b : Nat} {l : List (List UInt8)} (h : TbU w b l) (hk : Kept S w w') (hb : ¬ S b) : TbU w' b l := by
  refine ⟨?_, h.rise⟩
  have hlt := h.own.lt
  obtain ⟨es, clock, h1, h2, h3⟩ := h.own
  exact ⟨es, clock, (hk.block b hlt hb).trans h1, h2, h3⟩

theorem TbU.lt {w : World} {b : Nat} {l : List (List UInt8)} (h : TbU w b l) : b < w.heap.size := h.own.lt

theorem owns_tightU {w : World} {b n : Nat} {D : DataW Value} (h : w.ownsMap Tryz.prog 9 RU b n D) : w.ownsMap Tryz.prog 9 RU b (Maps.size D) D := by
  obtain ⟨es, clock, hb, F, _, rfl⟩ := h
  exact ⟨es, clock, hb, F, by simp [Maps.size, length_sorted], rfl⟩

/-- m[k] = struct{}{}. -/
theorem TbU.put {w : World} {b : Nat} {l : List (List UInt8)} (h : TbU w b l) (k : List UInt8) (hk : k.length ≤ maxLen) (hl : l.length ≤ 1000000) :
    ∃ w', (Instr.mapUpdate 106 (.map (some b)) (.string (bs k)) (.agg #[])).run Tryz.prog w = .ok () w' ∧ TbU w' b (putK id k l) ∧ Kept (fun k => k = b) w w' := by
  obtain ⟨w', hrun, ho, hg⟩ := h.own.update lawS Tryz.underlying106 (by unfold maxLen; omega) (keyS hk) (show RU (.agg #[]) = some (.held (.agg #[]), []) from rfl)
  rw [dat_putU k h.rise] at ho
  have kk : Kept (fun k => k = b) w w' := (kept_of_grown hg).mono (fun k _ e => by cases e; rfl)
  exact ⟨w', hrun, ⟨by have := owns_tightU ho; rwa [dat_sizeU] at this, rise_putK h.rise⟩, kk⟩

/-- A new set. -/
theorem tbU_new (w : World) : TbU (w.alloc (.map #[] 0)) w.heap.size [] := ⟨World.ownsMap_made w _ _ _, List.Pairwise.nil⟩

end Go.Proofs.YtecjecdgjmipcaaGreat

/-
  slices.Sorted(maps.Keys(m)) of a set of texts: they come rising.
-/
namespace Go.Proofs.YtecjecdgjmipcaaGreat
open Go.RowKit Go.Mk Go.Maps Go.Sort Go.Shelf

def keysRenU : Ren := ⟨fun | 7 => 75 | 10 => 111 | n => n,
  fun | 23 => 106 | 26 => 9 | 3 => 107 | 28 => 110 | 0 => 0 | 27 => 109 | 33 => 131 | 4 => 4 | n => n, fun n => n⟩

theorem keysLaysU : SlLaysZ.n7 Tryz.prog keysRenU := {
  mixed := by kernel_rfl
  f7 := ⟨Tryz.f75.name, of_decide_eq_true (by kernel_rfl), Tryz.func75.trans (congrArg some (by kernel_rfl))⟩
  f10 := ⟨Tryz.f111.name, of_decide_eq_true (by kernel_rfl), Tryz.func111.trans (congrArg some (by kernel_rfl))⟩
  t0 := Tryz.underlying0
  a0 := Tryz.isAgg0
  z0 := Tryz.sizeOf0
  v0 := Tryz.zeroValue0
  t4 := Tryz.underlying4
  a4 := Tryz.isAgg4
  z4 := Tryz.sizeOf4
  v4 := Tryz.zeroValue4
  t23 := Tryz.underlying106
  a23 := Tryz.isAgg106
  z23 := Tryz.sizeOf106
  v23 := Tryz.zeroValue106
  t26 := Tryz.underlying9
  a26 := Tryz.isAgg9
  z26 := Tryz.sizeOf9
  v26 := Tryz.zeroValue9
  t27 := Tryz.underlying109
  a27 := Tryz.isAgg109
  z27 := Tryz.sizeOf109
  v27 := Tryz.zeroValue109
  t28 := Tryz.underlying110
  a28 := Tryz.isAgg110
  z28 := Tryz.sizeOf110
  v28 := Tryz.zeroValue110
  t33 := Tryz.underlying131
  a33 := Tryz.isAgg131
  z33 := Tryz.sizeOf131
  v33 := Tryz.zeroValue131
}


theorem dat_keysU (l : List (List UInt8)) : strKeys (datU l) = l := by
  simp [strKeys, datU, strOf, Function.comp_def]

theorem keys_sortedU {l : List (List UInt8)} (h : Rise id l) {ss : List (List UInt8)} (hp : ss.Perm (strKeys (datU l))) : ss.mergeSort (fun x y => decide (x ≤ y)) = l := by
  rw [dat_keysU] at hp
  rw [show ss.mergeSort (fun x y => decide (x ≤ y)) = l.mergeSort leB from mergeSort_of_perm hp]
  refine List.mergeSort_of_pairwise ?_
  refine List.Pairwise.imp ?_ h
  intro a b hab
  simp only [leB, decide_eq_true_eq]
  exact List.le_of_lt hab

set_option maxHeartbeats 400000 in
theorem mkeysU_any (mb : Option Nat) (w : World) : Calls Tryz.prog 75 #[.map mb] w fun e w' => e = .returned (.func (.func 111) #[] #[.pointer (some ⟨w.heap.size, 0, none⟩)]) ∧ w' = w.alloc (.cells #[.map mb] 106) := by
  go_enter Tryz.func75, Tryz.ntmps75
  go_wp2
  go_ret
  exact ⟨rfl, rfl⟩

/-- What Sorted answers. -/
def KuPost (w : World) (l : List (List UInt8)) (e : Ending) (w' : World) : Prop := ∃ ao cap, e = .returned (.slice ao l.length cap) ∧ w'.ownsRow w.heap.size 9 1 (.slice ao l.length cap) l.length (strs l) ∧ Kept (fun _ => False) w w'

theorem usorted_any (b : Nat) (l : List (List UInt8)) (Bm : Nat) (w : World) (hm : w.cell? ⟨Bm, 0, none⟩ = some (.map (some b))) (ht : TbU w b l) (hl : l.length ≤ 1000000) :
    Calls Tryz.prog 74 #[.func (.func 111) #[] #[.pointer (some ⟨Bm, 0, none⟩)]] w (KuPost w l) := by
  have hB : Bm < w.heap.size := World.block_lt_of_cell? _ _ hm
  have hseq : SeqGives Fence.wide 2 Tryz.prog 111 #[.pointer (some ⟨Bm, 0, none⟩)] encStr (fun ss => ss.Perm (strKeys (datU l))) (Maps.size (datU l)) w :=
    AnyZ.keys_gives (ρ := keysRenU) { keysLaysU with } Fence.wide _ trivial rfl (by omega) Bm b l.length (datU l) w hB hm ht.own
  have hsz := dat_sizeU l
  have cS := AnyZ.sorted_in sortedLays Fence.wide 5 trivial trivial trivial trivial rfl (by omega) (sortsIn _) (enters_of Tryz.func110 (by kernel_rfl) rfl) 111 #[.pointer (some ⟨Bm, 0, none⟩)] trivial (enters_of Tryz.func111 (by kernel_rfl) rfl) _ _ (by rw [hsz]; unfold maxLen; omega) (by rw [hsz]; omega) _ hseq
  change CallsIn _ _ Tryz.prog 74 _ _ _ at cS
  refine (callsIn_wide.1 cS).mono fun e w' ⟨v, ss, he, hp, hrow, _, hb⟩ => ?_
  rw [keys_sortedU ht.rise hp] at hrow
  have hlen : ss.length = l.length := by have := hp.length_eq; rw [dat_keysU] at this; exact this
  rw [hlen] at hrow
  obtain ⟨ao, cap, rfl⟩ := owns_slice hrow
  exact ⟨ao, cap, he, hrow, kept_of_belowsize hb⟩

end Go.Proofs.YtecjecdgjmipcaaGreat
