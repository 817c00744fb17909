/-
  slices.Sorted(maps.Keys(m)) of a table: its keys, rising; All.
-/
import Derived.Test.YtecjecdgjmipcaaGreatSl
import Derived.Test.YtecjecdgjmipcaaGreatSq
import Derived.Sort.KeysCollected
namespace Go.Proofs.YtecjecdgjmipcaaGreat
open Go.RowKit Go.Mk Go.Maps Go.Shelf

theorem dat_keys (l : List Ent) : strKeys (datM l) = l.map keyE := by
  simp [strKeys, datM, strOf, Function.comp_def]

theorem keys_sorted {m : List Ent} (h : Rise keyE m) {ss : List (List UInt8)} (hp : ss.Perm (strKeys (datM m))) : ss.mergeSort (fun x y => decide (x ≤ y)) = m.map keyE := by
  rw [dat_keys] at hp
  rw [show ss.mergeSort (fun x y => decide (x ≤ y)) = (m.map keyE).mergeSort leB from mergeSort_of_perm hp]
  refine List.mergeSort_of_pairwise ?_
  rw [List.pairwise_map]
  refine h.imp ?_
  intro a b hab
  simp only [leB, decide_eq_true_eq]
  exact List.le_of_lt hab

set_option maxHeartbeats 400000 in
theorem mkeys_any (mb : Option Nat) (w : World) : Calls Tryz.prog 83 #[.map mb] w fun e w' => e = .returned (.func (.func 114) #[] #[.pointer (some ⟨w.heap.size, 0, none⟩)]) ∧ w' = w.alloc (.cells #[.map mb] 63) := by
  go_enter Tryz.func83, Tryz.ntmps83
  go_wp2
  go_ret
  exact ⟨rfl, rfl⟩

def KsPost (w : World) (m : List Ent) (e : Ending) (w' : World) : Prop := ∃ ao cap, e = .returned (.slice ao m.length cap) ∧ w'.ownsRow w.heap.size 9 1 (.slice ao m.length cap) m.length (strs (m.map keyE)) ∧ Kept (fun _ => False) w w'

theorem kept_of_belowsize {w w' : World} (h : Below w.heap.size w w') : Kept (fun _ => False) w w' := ⟨h.os, h.tape, h.output, h.size, fun k hk _ => h.block k hk⟩

theorem ksorted_some (b : Nat) (m : List Ent) (Bm : Nat) (w : World) (hB : Bm < w.heap.size) (hm : w.cell? ⟨Bm, 0, none⟩ = some (.map (some b))) (ht : Tb w b m) (hl : m.length ≤ 1000000) :
    Calls Tryz.prog 74 #[.func (.func 114) #[] #[.pointer (some ⟨Bm, 0, none⟩)]] w (KsPost w m) := by
  have hseq : SeqGives Fence.wide 2 Tryz.prog 114 #[.pointer (some ⟨Bm, 0, none⟩)] encStr (fun ss => ss.Perm (strKeys (datM m))) (Maps.size (datM m)) w :=
    AnyZ.keys_gives (ρ := keysRen) { keysLays with } Fence.wide _ trivial rfl (by omega) Bm b m.length (datM m) w hB hm ht.own
  have hsz := dat_size m
  have cS := AnyZ.sorted_in sortedLays Fence.wide 5 trivial trivial trivial trivial rfl (by omega) (sortsIn _) (enters_of Tryz.func110 (by kernel_rfl) rfl) 114 #[.pointer (some ⟨Bm, 0, none⟩)] trivial (enters_of Tryz.func114 (by kernel_rfl) rfl) _ _ (by rw [hsz]; unfold maxLen; omega) (by rw [hsz]; omega) _ hseq
  change CallsIn _ _ Tryz.prog 74 _ _ _ at cS
  refine (callsIn_wide.1 cS).mono fun e w' ⟨v, ss, he, hp, hrow, _, hb⟩ => ?_
  rw [keys_sorted ht.rise hp] at hrow
  have hlen : ss.length = m.length := by have := hp.length_eq; rw [dat_keys, List.length_map] at this; exact this
  rw [hlen] at hrow
  obtain ⟨ao, cap, rfl⟩ := owns_slice hrow
  exact ⟨ao, cap, he, hrow, kept_of_belowsize hb⟩

theorem ksorted_nil (Bm : Nat) (w : World) (hB : Bm < w.heap.size) (hm : w.cell? ⟨Bm, 0, none⟩ = some (.map none)) :
    Calls Tryz.prog 74 #[.func (.func 114) #[] #[.pointer (some ⟨Bm, 0, none⟩)]] w (KsPost w []) := by
  have hseq : SeqGives Fence.wide 2 Tryz.prog 114 #[.pointer (some ⟨Bm, 0, none⟩)] encStr (fun ss : List (List UInt8) => ss = []) 0 w :=
    AnyZ.keys_gives_nil (ρ := keysRen) { keysLays with } Fence.wide _ trivial rfl Bm w hB hm
  have cS := AnyZ.sorted_in sortedLays Fence.wide 5 trivial trivial trivial trivial rfl (by omega) (sortsIn _) (enters_of Tryz.func110 (by kernel_rfl) rfl) 114 #[.pointer (some ⟨Bm, 0, none⟩)] trivial (enters_of Tryz.func114 (by kernel_rfl) rfl) _ 0 (Nat.zero_le _) (by omega) _ hseq
  change CallsIn _ _ Tryz.prog 74 _ _ _ at cS
  refine (callsIn_wide.1 cS).mono fun e w' ⟨v, ss, he, hp, hrow, _, hb⟩ => ?_
  subst hp
  rw [List.mergeSort_nil] at hrow
  obtain ⟨ao, cap, rfl⟩ := owns_slice hrow
  exact ⟨ao, cap, he, hrow, kept_of_belowsize hb⟩

theorem ksorted_any (p : Option Nat) (m : List Ent) (Bm : Nat) (w : World) (hm : w.cell? ⟨Bm, 0, none⟩ = some (.map p)) (ht : TbO w p m) (hl : m.length ≤ 1000000) :
    Calls Tryz.prog 74 #[.func (.func 114) #[] #[.pointer (some ⟨Bm, 0, none⟩)]] w (KsPost w m) := by
  have hB : Bm < w.heap.size := World.block_lt_of_cell? _ _ hm
  rcases ht with ⟨rfl, rfl⟩ | ⟨b, rfl, ht⟩
  · exact ksorted_nil Bm w hB hm
  · exact ksorted_some b m Bm w hB hm ht hl

/-- What All's function has captured: the keys and the table. -/
structure Al (w : World) (p : Option Nat) (m : List Ent) (Bk Bm : Nat) (wx : World) : Prop where
  keys : ∃ ao cap, wx.cell? ⟨Bk, 0, none⟩ = some (.slice ao m.length cap) ∧ wx.ownsRow w.heap.size 9 1 (.slice ao m.length cap) m.length (strs (m.map keyE))
  tab : wx.cell? ⟨Bm, 0, none⟩ = some (.map p)
  tb : TbO wx p m
  k : Kept (fun _ => False) w wx
  bk : w.heap.size ≤ Bk
  bm : w.heap.size ≤ Bm

set_option maxHeartbeats 400000 in
theorem all_any (v : Value) (p : Option Nat) (m : List Ent) (w : World) (hp : SnP w v p) (ht : TbO w p m) (hl : m.length ≤ 1000000) :
    Calls Tryz.prog 49 #[v] w fun e w' => ∃ Bk Bm, e = .returned (.func (.func 84) #[] #[.pointer (some ⟨Bk, 0, none⟩), .pointer (some ⟨Bm, 0, none⟩)]) ∧ Al w p m Bk Bm w' := by
  have HT := Lib.hid (table_any hp)
  have KA := Lib.hid ((Kept.refl (fun _ => False) w).alloc (.cells #[.map p] 63))
  have CA := Lib.hid (show (w.alloc (.cells #[.map p] 63)).cell? ⟨w.heap.size, 0, none⟩ = some (.map p) from World.cell?_alloc_new w _ _ 0)
  have TB := Lib.hid ht; have HL := Lib.hid hl
  clear hp ht hl
  go_enter Tryz.func49, Tryz.ntmps49
  go_wp2_with fail
  refine HT.out.mono ?_; rintro e w1 ⟨rfl, rfl⟩
  have ca := CA.out
  go_wp2_with fail
  refine (mkeys_any p _).mono ?_; rintro e w1 ⟨rfl, hw1⟩
  have K1 := Lib.hid (KA.out.trans (show Kept (fun _ => False) (w.alloc (.cells #[.map p] 63)) w1 by rw [hw1]; exact (Kept.refl _ _).alloc _) (fun _ _ h => h))
  have C1 := Lib.hid (show w1.cell? ⟨w.heap.size, 0, none⟩ = some (.map p) by
    rw [hw1, World.cell?_alloc_lt _ _ _ (by simp)]; exact CA.out)
  have D1 := Lib.hid (show w1.cell? ⟨(w.alloc (.cells #[.map p] 63)).heap.size, 0, none⟩ = some (.map p) by rw [hw1]; exact World.cell?_alloc_new _ _ _ 0)
  have S1 := Lib.hid (show w1.heap.size = w.heap.size + 2 by rw [hw1]; simp)
  clear hw1 ca
  rw [World.size_alloc] at D1 ⊢
  go_wp2_with fail
  refine (ksorted_any p m (w.heap.size + 1) w1 D1.out (TB.out.keep K1.out) HL.out).mono ?_
  rintro e w2 ⟨ao, cap, rfl, ho, k2⟩
  have hs2 := k2.size
  have K2 := Lib.hid (K1.out.trans k2 (fun _ _ h => h))
  have C2 := Lib.hid ((k2.cell (p := ⟨w.heap.size, 0, none⟩) (World.block_lt_of_cell? _ _ C1.out) (fun h => h)).trans C1.out)
  have AL := Lib.hid (show Al w p m w2.heap.size w.heap.size (w2.alloc (.cells #[.slice ao m.length cap] 39)) from
    ⟨⟨ao, cap, World.cell?_alloc_new _ _ _ 0, owns_base (owns_kept (S := fun _ => False) ho ((Kept.refl _ _).alloc _) (fun _ _ h => h)) (fun k hk => by have := (owns_lt ho k hk).1; have := S1.out; omega)⟩,
      by rw [World.cell?_alloc_lt _ _ _ (World.block_lt_of_cell? _ _ C2.out)]; exact C2.out, (TB.out.keep K2.out).keep ((Kept.refl _ _).alloc _), K2.out.alloc _, by have := S1.out; omega, Nat.le_refl _⟩)
  clear ho k2
  go_wp2
  go_ret
  exact ⟨_, _, rfl, AL.out⟩

end Go.Proofs.YtecjecdgjmipcaaGreat
