/-
  Lemmas towards the claim of this folder: contracts of the functions that the law reaches; joined texts.
-/
import Derived.Test.YtlnincdmdegaoaaGreatRows
import Derived.Shelf.SlIter.Nil
import Derived.Shelf.SortM.Plain
import Derived.Shelf.SortM.SortNone
import Derived.Test.YtlnincdmdegaoaaGreatGSq
import Derived.Sort.KeysCollected
/-
  The library's maps.Keys, slices.Sorted and slices.Sort, as this program bears them.
-/
namespace Go.Proofs.YtlnincdmdegaoaaGreat
open Go.RowKit Go.Maps Go.Sort Go.Shelf

def keysRen : Ren := ⟨fun | 7 => 47 | 10 => 63 | n => n,
  fun | 23 => 57 | 26 => 9 | 3 => 43 | 28 => 68 | 0 => 0 | 27 => 67 | 33 => 76 | 4 => 4 | n => n, fun n => n⟩

theorem keysLays : SlLaysZ.n7 Tryz.prog keysRen := {
  mixed := by kernel_rfl
  f7 := ⟨Tryz.f47.name, of_decide_eq_true (by kernel_rfl), Tryz.func47.trans (congrArg some (by kernel_rfl))⟩
  f10 := ⟨Tryz.f63.name, of_decide_eq_true (by kernel_rfl), Tryz.func63.trans (congrArg some (by kernel_rfl))⟩
  t0 := Tryz.underlying0
  a0 := Tryz.isAgg0
  z0 := Tryz.sizeOf0
  v0 := Tryz.zeroValue0
  t4 := Tryz.underlying4
  a4 := Tryz.isAgg4
  z4 := Tryz.sizeOf4
  v4 := Tryz.zeroValue4
  t23 := Tryz.underlying57
  a23 := Tryz.isAgg57
  z23 := Tryz.sizeOf57
  v23 := Tryz.zeroValue57
  t26 := Tryz.underlying9
  a26 := Tryz.isAgg9
  z26 := Tryz.sizeOf9
  v26 := Tryz.zeroValue9
  t27 := Tryz.underlying67
  a27 := Tryz.isAgg67
  z27 := Tryz.sizeOf67
  v27 := Tryz.zeroValue67
  t28 := Tryz.underlying68
  a28 := Tryz.isAgg68
  z28 := Tryz.sizeOf68
  v28 := Tryz.zeroValue68
  t33 := Tryz.underlying76
  a33 := Tryz.isAgg76
  z33 := Tryz.sizeOf76
  v33 := Tryz.zeroValue76
}

def sortedRen : Ren := ⟨fun | 6 => 32 | 8 => 50 | 9 => 51 | 11 => 64 | 13 => 66 | 12 => 65 | 23 => 87 | 24 => 88 | 14 => 78 | 15 => 79 | 16 => 80 | 17 => 81 | 18 => 82 | 19 => 83 | 20 => 84 | 21 => 85 | 22 => 86 | 25 => 98 | 26 => 99 | 27 => 100 | 28 => 101 | 29 => 102 | 30 => 103 | 31 => 113 | n => n,
  fun | 26 => 9 | 28 => 68 | 24 => 30 | 0 => 0 | 3 => 3 | 37 => 98 | 48 => 114 | 50 => 116 | 4 => 4 | 40 => 106 | 39 => 105 | 45 => 111 | 5 => 5 | 9 => 9 | 51 => 122 | 55 => 126 | 57 => 130 | 58 => 131 | 33 => 76 | n => n, fun n => n⟩

theorem sortedLays : SlLaysZ.n6 Tryz.prog sortedRen := {
  mixed := by kernel_rfl
  f6 := ⟨Tryz.f32.name, of_decide_eq_true (by kernel_rfl), Tryz.func32.trans (congrArg some (by kernel_rfl))⟩
  f8 := ⟨Tryz.f50.name, of_decide_eq_true (by kernel_rfl), Tryz.func50.trans (congrArg some (by kernel_rfl))⟩
  f11 := ⟨Tryz.f64.name, of_decide_eq_true (by kernel_rfl), Tryz.func64.trans (congrArg some (by kernel_rfl))⟩
  t0 := Tryz.underlying0
  a0 := Tryz.isAgg0
  z0 := Tryz.sizeOf0
  v0 := Tryz.zeroValue0
  t24 := Tryz.underlying30
  a24 := Tryz.isAgg30
  z24 := Tryz.sizeOf30
  v24 := Tryz.zeroValue30
  t26 := Tryz.underlying9
  a26 := Tryz.isAgg9
  z26 := Tryz.sizeOf9
  v26 := Tryz.zeroValue9
  t28 := Tryz.underlying68
  a28 := Tryz.isAgg68
  z28 := Tryz.sizeOf68
  v28 := Tryz.zeroValue68
  i26 := by kernel_rfl
}

def sortRen : Ren := ⟨fun | 6 => 51 | 8 => 66 | 9 => 65 | 19 => 87 | 20 => 88 | 21 => 78 | 22 => 79 | 23 => 80 | 24 => 81 | 25 => 82 | 26 => 83 | 27 => 84 | 28 => 85 | 29 => 86 | 36 => 98 | 31 => 99 | 32 => 100 | 37 => 101 | 38 => 102 | 39 => 103 | 41 => 113 | n => n,
  fun | 27 => 30 | 29 => 9 | 3 => 3 | 32 => 98 | 26 => 30 | 0 => 0 | 44 => 114 | 46 => 116 | 4 => 4 | 36 => 106 | 35 => 105 | 41 => 111 | 5 => 5 | 9 => 9 | 53 => 122 | 57 => 126 | 63 => 130 | 64 => 131 | n => n, fun n => n⟩

theorem sortLays : SlLaysM.n6 Tryz.prog sortRen := {
  mixed := by kernel_rfl
  f6 := ⟨Tryz.f51.name, of_decide_eq_true (by kernel_rfl), Tryz.func51.trans (congrArg some (by kernel_rfl))⟩
  f8 := Tryz.func66.trans (congrArg some (by kernel_rfl))
  f9 := ⟨Tryz.f65.name, of_decide_eq_true (by kernel_rfl), Tryz.func65.trans (congrArg some (by kernel_rfl))⟩
  f19 := Tryz.func87.trans (congrArg some (by kernel_rfl))
  f20 := Tryz.func88.trans (congrArg some (by kernel_rfl))
  f21 := ⟨Tryz.f78.name, of_decide_eq_true (by kernel_rfl), Tryz.func78.trans (congrArg some (by kernel_rfl))⟩
  f22 := ⟨Tryz.f79.name, of_decide_eq_true (by kernel_rfl), Tryz.func79.trans (congrArg some (by kernel_rfl))⟩
  f23 := ⟨Tryz.f80.name, of_decide_eq_true (by kernel_rfl), Tryz.func80.trans (congrArg some (by kernel_rfl))⟩
  f24 := ⟨Tryz.f81.name, of_decide_eq_true (by kernel_rfl), Tryz.func81.trans (congrArg some (by kernel_rfl))⟩
  f25 := ⟨Tryz.f82.name, of_decide_eq_true (by kernel_rfl), Tryz.func82.trans (congrArg some (by kernel_rfl))⟩
  f26 := ⟨Tryz.f83.name, of_decide_eq_true (by kernel_rfl), Tryz.func83.trans (congrArg some (by kernel_rfl))⟩
  f27 := ⟨Tryz.f84.name, of_decide_eq_true (by kernel_rfl), Tryz.func84.trans (congrArg some (by kernel_rfl))⟩
  f28 := ⟨Tryz.f85.name, of_decide_eq_true (by kernel_rfl), Tryz.func85.trans (congrArg some (by kernel_rfl))⟩
  f29 := ⟨Tryz.f86.name, of_decide_eq_true (by kernel_rfl), Tryz.func86.trans (congrArg some (by kernel_rfl))⟩
  f31 := Tryz.func99.trans (congrArg some (by kernel_rfl))
  f32 := Tryz.func100.trans (congrArg some (by kernel_rfl))
  f36 := ⟨Tryz.f98.name, of_decide_eq_true (by kernel_rfl), Tryz.func98.trans (congrArg some (by kernel_rfl))⟩
  f37 := ⟨Tryz.f101.name, of_decide_eq_true (by kernel_rfl), Tryz.func101.trans (congrArg some (by kernel_rfl))⟩
  f38 := ⟨Tryz.f102.name, of_decide_eq_true (by kernel_rfl), Tryz.func102.trans (congrArg some (by kernel_rfl))⟩
  f39 := ⟨Tryz.f103.name, of_decide_eq_true (by kernel_rfl), Tryz.func103.trans (congrArg some (by kernel_rfl))⟩
  f41 := ⟨Tryz.f113.name, of_decide_eq_true (by kernel_rfl), Tryz.func113.trans (congrArg some (by kernel_rfl))⟩
  t0 := Tryz.underlying0
  a0 := Tryz.isAgg0
  z0 := Tryz.sizeOf0
  v0 := Tryz.zeroValue0
  t3 := Tryz.underlying3
  a3 := Tryz.isAgg3
  z3 := Tryz.sizeOf3
  v3 := Tryz.zeroValue3
  t4 := Tryz.underlying4
  a4 := Tryz.isAgg4
  z4 := Tryz.sizeOf4
  v4 := Tryz.zeroValue4
  t5 := Tryz.underlying5
  a5 := Tryz.isAgg5
  z5 := Tryz.sizeOf5
  v5 := Tryz.zeroValue5
  t9 := Tryz.underlying9
  a9 := Tryz.isAgg9
  z9 := Tryz.sizeOf9
  v9 := Tryz.zeroValue9
  t26 := Tryz.underlying30
  a26 := Tryz.isAgg30
  z26 := Tryz.sizeOf30
  v26 := Tryz.zeroValue30
  t27 := Tryz.underlying30
  a27 := Tryz.isAgg30
  z27 := Tryz.sizeOf30
  v27 := Tryz.zeroValue30
  t29 := Tryz.underlying9
  a29 := Tryz.isAgg9
  z29 := Tryz.sizeOf9
  v29 := Tryz.zeroValue9
  t32 := Tryz.underlying98
  a32 := Tryz.isAgg98
  z32 := Tryz.sizeOf98
  v32 := Tryz.zeroValue98
  t35 := Tryz.underlying105
  a35 := Tryz.isAgg105
  z35 := Tryz.sizeOf105
  v35 := Tryz.zeroValue105
  t36 := Tryz.underlying106
  a36 := Tryz.isAgg106
  z36 := Tryz.sizeOf106
  v36 := Tryz.zeroValue106
  t41 := Tryz.underlying111
  a41 := Tryz.isAgg111
  z41 := Tryz.sizeOf111
  v41 := Tryz.zeroValue111
  t44 := Tryz.underlying114
  a44 := Tryz.isAgg114
  z44 := Tryz.sizeOf114
  v44 := Tryz.zeroValue114
  t46 := Tryz.underlying116
  a46 := Tryz.isAgg116
  z46 := Tryz.sizeOf116
  v46 := Tryz.zeroValue116
  t53 := Tryz.underlying122
  a53 := Tryz.isAgg122
  z53 := Tryz.sizeOf122
  v53 := Tryz.zeroValue122
  t57 := Tryz.underlying126
  a57 := Tryz.isAgg126
  z57 := Tryz.sizeOf126
  v57 := Tryz.zeroValue126
  t63 := Tryz.underlying130
  a63 := Tryz.isAgg130
  z63 := Tryz.sizeOf130
  v63 := Tryz.zeroValue130
  t64 := Tryz.underlying131
  a64 := Tryz.isAgg131
  z64 := Tryz.sizeOf131
  v64 := Tryz.zeroValue131
}

/-- slices.Sort's two contracts, at the fence that asks nothing. -/
theorem sortsIn (m : Nat) : AnyZ.SortsIn Tryz.prog sortedRen Fence.wide m :=
  ⟨fun blk off cap ss W hH hblk hsz => callsIn_wide.2 (AnyM.slices_Sort_string sortLays blk off cap ss W hH hblk hsz),
   fun p cap W => callsIn_wide.2 (AnyM.slices_Sort_string_none sortLays p cap W)⟩

end Go.Proofs.YtlnincdmdegaoaaGreat

/-
  slices.Sorted(maps.Keys(m)) of a table: its keys, rising; All.
-/
namespace Go.Proofs.YtlnincdmdegaoaaGreat
open Go.RowKit Go.Mk Go.Maps Go.Shelf

theorem dat_keys (l : List Ent) : strKeys (datM l) = l.map keyE := by
  simp [strKeys, datM, strOf, Function.comp_def]

theorem keys_sorted {m : List Ent} (h : Rise keyE m) {ss : List (List UInt8)} (hp : ss.Perm (strKeys (datM m))) : ss.mergeSort (fun x y => decide (x ≤ y)) = m.map keyE := by
  rw [dat_keys] at hp
  rw [show ss.mergeSort (fun x y => decide (x ≤ y)) = (m.map keyE).mergeSort leB from mergeSort_of_perm hp]
  refine List.mergeSort_of_pairwise ?_
  rw [List.pairwise_map]
  refine h.imp ?_
  intro a b hab
  simp only [leB, decide_eq_true_eq]
  exact List.le_of_lt hab

set_option maxHeartbeats 400000 in
theorem mkeys_any (mb : Option Nat) (w : World) : Calls Tryz.prog 47 #[.map mb] w fun e w' => e = .returned (.func (.func 63) #[] #[.pointer (some ⟨w.heap.size, 0, none⟩)]) ∧ w' = w.alloc (.cells #[.map mb] 57) := by
  go_enter Tryz.func47, Tryz.ntmps47
  go_wp2
  go_ret
  exact ⟨rfl, rfl⟩

def KsPost (w : World) (m : List Ent) (e : Ending) (w' : World) : Prop := ∃ ao cap, e = .returned (.slice ao m.length cap) ∧ w'.ownsRow w.heap.size 9 1 (.slice ao m.length cap) m.length (strs (m.map keyE)) ∧ Kept (fun _ => False) w w'

theorem kept_of_belowsize {w w' : World} (h : Below w.heap.size w w') : Kept (fun _ => False) w w' := ⟨h.os, h.tape, h.output, h.size, fun k hk _ => h.block k hk⟩

theorem ksorted_some (b : Nat) (m : List Ent) (Bm : Nat) (w : World) (hB : Bm < w.heap.size) (hm : w.cell? ⟨Bm, 0, none⟩ = some (.map (some b))) (ht : Tb w b m) (hl : m.length ≤ 1000000) :
    Calls Tryz.prog 32 #[.func (.func 63) #[] #[.pointer (some ⟨Bm, 0, none⟩)]] w (KsPost w m) := by
  have hseq : SeqGives Fence.wide 2 Tryz.prog 63 #[.pointer (some ⟨Bm, 0, none⟩)] encStr (fun ss => ss.Perm (strKeys (datM m))) (Maps.size (datM m)) w :=
    AnyZ.keys_gives (ρ := keysRen) { keysLays with } Fence.wide _ trivial rfl (by omega) Bm b m.length (datM m) w hB hm ht.own
  have hsz := dat_size m
  have cS := AnyZ.sorted_in sortedLays Fence.wide 5 trivial trivial trivial trivial rfl (by omega) (sortsIn _) (enters_of Tryz.func51 (by kernel_rfl) rfl) 63 #[.pointer (some ⟨Bm, 0, none⟩)] trivial (enters_of Tryz.func63 (by kernel_rfl) rfl) _ _ (by rw [hsz]; unfold maxLen; omega) (by rw [hsz]; omega) _ hseq
  change CallsIn _ _ Tryz.prog 32 _ _ _ at cS
  refine (callsIn_wide.1 cS).mono fun e w' ⟨v, ss, he, hp, hrow, _, hb⟩ => ?_
  rw [keys_sorted ht.rise hp] at hrow
  have hlen : ss.length = m.length := by have := hp.length_eq; rw [dat_keys, List.length_map] at this; exact this
  rw [hlen] at hrow
  obtain ⟨ao, cap, rfl⟩ := owns_slice hrow
  exact ⟨ao, cap, he, hrow, kept_of_belowsize hb⟩

theorem ksorted_nil (Bm : Nat) (w : World) (hB : Bm < w.heap.size) (hm : w.cell? ⟨Bm, 0, none⟩ = some (.map none)) :
    Calls Tryz.prog 32 #[.func (.func 63) #[] #[.pointer (some ⟨Bm, 0, none⟩)]] w (KsPost w []) := by
  have hseq : SeqGives Fence.wide 2 Tryz.prog 63 #[.pointer (some ⟨Bm, 0, none⟩)] encStr (fun ss : List (List UInt8) => ss = []) 0 w :=
    AnyZ.keys_gives_nil (ρ := keysRen) { keysLays with } Fence.wide _ trivial rfl Bm w hB hm
  have cS := AnyZ.sorted_in sortedLays Fence.wide 5 trivial trivial trivial trivial rfl (by omega) (sortsIn _) (enters_of Tryz.func51 (by kernel_rfl) rfl) 63 #[.pointer (some ⟨Bm, 0, none⟩)] trivial (enters_of Tryz.func63 (by kernel_rfl) rfl) _ 0 (Nat.zero_le _) (by omega) _ hseq
  change CallsIn _ _ Tryz.prog 32 _ _ _ at cS
  refine (callsIn_wide.1 cS).mono fun e w' ⟨v, ss, he, hp, hrow, _, hb⟩ => ?_
  subst hp
  rw [List.mergeSort_nil] at hrow
  obtain ⟨ao, cap, rfl⟩ := owns_slice hrow
  exact ⟨ao, cap, he, hrow, kept_of_belowsize hb⟩

theorem ksorted_any (p : Option Nat) (m : List Ent) (Bm : Nat) (w : World) (hm : w.cell? ⟨Bm, 0, none⟩ = some (.map p)) (ht : TbO w p m) (hl : m.length ≤ 1000000) :
    Calls Tryz.prog 32 #[.func (.func 63) #[] #[.pointer (some ⟨Bm, 0, none⟩)]] w (KsPost w m) := by
  have hB : Bm < w.heap.size := World.block_lt_of_cell? _ _ hm
  rcases ht with ⟨rfl, rfl⟩ | ⟨b, rfl, ht⟩
  · exact ksorted_nil Bm w hB hm
  · exact ksorted_some b m Bm w hB hm ht hl

/-- What All's function has captured: the keys and the table. -/
structure Al (w : World) (p : Option Nat) (m : List Ent) (Bk Bm : Nat) (wx : World) : Prop where
  keys : ∃ ao cap, wx.cell? ⟨Bk, 0, none⟩ = some (.slice ao m.length cap) ∧ wx.ownsRow w.heap.size 9 1 (.slice ao m.length cap) m.length (strs (m.map keyE))
  tab : wx.cell? ⟨Bm, 0, none⟩ = some (.map p)
  tb : TbO wx p m
  k : Kept (fun _ => False) w wx
  bk : w.heap.size ≤ Bk
  bm : w.heap.size ≤ Bm

set_option maxHeartbeats 400000 in
theorem all_any (v : Value) (p : Option Nat) (m : List Ent) (w : World) (hp : SnP w v p) (ht : TbO w p m) (hl : m.length ≤ 1000000) :
    Calls Tryz.prog 28 #[v] w fun e w' => ∃ Bk Bm, e = .returned (.func (.func 48) #[] #[.pointer (some ⟨Bk, 0, none⟩), .pointer (some ⟨Bm, 0, none⟩)]) ∧ Al w p m Bk Bm w' := by
  have HT := Lib.hid (table_any hp)
  have KA := Lib.hid ((Kept.refl (fun _ => False) w).alloc (.cells #[.map p] 57))
  have CA := Lib.hid (show (w.alloc (.cells #[.map p] 57)).cell? ⟨w.heap.size, 0, none⟩ = some (.map p) from World.cell?_alloc_new w _ _ 0)
  have TB := Lib.hid ht; have HL := Lib.hid hl
  clear hp ht hl
  go_enter Tryz.func28, Tryz.ntmps28
  go_wp2_with fail
  refine HT.out.mono ?_; rintro e w1 ⟨rfl, rfl⟩
  have ca := CA.out
  go_wp2_with fail
  refine (mkeys_any p _).mono ?_; rintro e w1 ⟨rfl, hw1⟩
  have K1 := Lib.hid (KA.out.trans (show Kept (fun _ => False) (w.alloc (.cells #[.map p] 57)) w1 by rw [hw1]; exact (Kept.refl _ _).alloc _) (fun _ _ h => h))
  have C1 := Lib.hid (show w1.cell? ⟨w.heap.size, 0, none⟩ = some (.map p) by
    rw [hw1, World.cell?_alloc_lt _ _ _ (by simp)]; exact CA.out)
  have D1 := Lib.hid (show w1.cell? ⟨(w.alloc (.cells #[.map p] 57)).heap.size, 0, none⟩ = some (.map p) by rw [hw1]; exact World.cell?_alloc_new _ _ _ 0)
  have S1 := Lib.hid (show w1.heap.size = w.heap.size + 2 by rw [hw1]; simp)
  clear hw1 ca
  rw [World.size_alloc] at D1 ⊢
  go_wp2_with fail
  refine (ksorted_any p m (w.heap.size + 1) w1 D1.out (TB.out.keep K1.out) HL.out).mono ?_
  rintro e w2 ⟨ao, cap, rfl, ho, k2⟩
  have hs2 := k2.size
  have K2 := Lib.hid (K1.out.trans k2 (fun _ _ h => h))
  have C2 := Lib.hid ((k2.cell (p := ⟨w.heap.size, 0, none⟩) (World.block_lt_of_cell? _ _ C1.out) (fun h => h)).trans C1.out)
  have AL := Lib.hid (show Al w p m w2.heap.size w.heap.size (w2.alloc (.cells #[.slice ao m.length cap] 30)) from
    ⟨⟨ao, cap, World.cell?_alloc_new _ _ _ 0, owns_base (owns_kept (S := fun _ => False) ho ((Kept.refl _ _).alloc _) (fun _ _ h => h)) (fun k hk => by have := (owns_lt ho k hk).1; have := S1.out; omega)⟩,
      by rw [World.cell?_alloc_lt _ _ _ (World.block_lt_of_cell? _ _ C2.out)]; exact C2.out, (TB.out.keep K2.out).keep ((Kept.refl _ _).alloc _), K2.out.alloc _, by have := S1.out; omega, Nat.le_refl _⟩)
  clear ho k2
  go_wp2
  go_ret
  exact ⟨_, _, rfl, AL.out⟩

end Go.Proofs.YtlnincdmdegaoaaGreat
