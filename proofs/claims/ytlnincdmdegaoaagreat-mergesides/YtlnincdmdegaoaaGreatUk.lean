/-
  slices.Sorted(maps.Keys(m)) of a set of texts: they come rising.
-/
import Derived.Test.YtlnincdmdegaoaaGreatGOc
import Derived.Test.YtlnincdmdegaoaaGreatGTa
namespace Go.Proofs.YtlnincdmdegaoaaGreat
open Go.RowKit Go.Mk Go.Maps Go.Sort Go.Shelf

def keysRenU : Ren := ⟨fun | 7 => 33 | 10 => 52 | n => n,
  fun | 23 => 63 | 26 => 9 | 3 => 70 | 28 => 68 | 0 => 0 | 27 => 67 | 33 => 76 | 4 => 4 | n => n, fun n => n⟩

theorem keysLaysU : SlLaysZ.n7 Tryz.prog keysRenU := {
  mixed := by kernel_rfl
  f7 := ⟨Tryz.f33.name, of_decide_eq_true (by kernel_rfl), Tryz.func33.trans (congrArg some (by kernel_rfl))⟩
  f10 := ⟨Tryz.f52.name, of_decide_eq_true (by kernel_rfl), Tryz.func52.trans (congrArg some (by kernel_rfl))⟩
  t0 := Tryz.underlying0
  a0 := Tryz.isAgg0
  z0 := Tryz.sizeOf0
  v0 := Tryz.zeroValue0
  t4 := Tryz.underlying4
  a4 := Tryz.isAgg4
  z4 := Tryz.sizeOf4
  v4 := Tryz.zeroValue4
  t23 := Tryz.underlying63
  a23 := Tryz.isAgg63
  z23 := Tryz.sizeOf63
  v23 := Tryz.zeroValue63
  t26 := Tryz.underlying9
  a26 := Tryz.isAgg9
  z26 := Tryz.sizeOf9
  v26 := Tryz.zeroValue9
  t27 := Tryz.underlying67
  a27 := Tryz.isAgg67
  z27 := Tryz.sizeOf67
  v27 := Tryz.zeroValue67
  t28 := Tryz.underlying68
  a28 := Tryz.isAgg68
  z28 := Tryz.sizeOf68
  v28 := Tryz.zeroValue68
  t33 := Tryz.underlying76
  a33 := Tryz.isAgg76
  z33 := Tryz.sizeOf76
  v33 := Tryz.zeroValue76
}


theorem dat_keysU (l : List (List UInt8)) : strKeys (datU l) = l := by
  simp [strKeys, datU, strOf, Function.comp_def]

theorem keys_sortedU {l : List (List UInt8)} (h : Rise id l) {ss : List (List UInt8)} (hp : ss.Perm (strKeys (datU l))) : ss.mergeSort (fun x y => decide (x ≤ y)) = l := by
  rw [dat_keysU] at hp
  rw [show ss.mergeSort (fun x y => decide (x ≤ y)) = l.mergeSort leB from mergeSort_of_perm hp]
  refine List.mergeSort_of_pairwise ?_
  refine List.Pairwise.imp ?_ h
  intro a b hab
  simp only [leB, decide_eq_true_eq]
  exact List.le_of_lt hab

set_option maxHeartbeats 400000 in
theorem mkeysU_any (mb : Option Nat) (w : World) : Calls Tryz.prog 33 #[.map mb] w fun e w' => e = .returned (.func (.func 52) #[] #[.pointer (some ⟨w.heap.size, 0, none⟩)]) ∧ w' = w.alloc (.cells #[.map mb] 63) := by
  go_enter Tryz.func33, Tryz.ntmps33
  go_wp2
  go_ret
  exact ⟨rfl, rfl⟩

/-- What Sorted answers. -/
def KuPost (w : World) (l : List (List UInt8)) (e : Ending) (w' : World) : Prop := ∃ ao cap, e = .returned (.slice ao l.length cap) ∧ w'.ownsRow w.heap.size 9 1 (.slice ao l.length cap) l.length (strs l) ∧ Kept (fun _ => False) w w'

theorem usorted_any (b : Nat) (l : List (List UInt8)) (Bm : Nat) (w : World) (hm : w.cell? ⟨Bm, 0, none⟩ = some (.map (some b))) (ht : TbU w b l) (hl : l.length ≤ 1000000) :
    Calls Tryz.prog 32 #[.func (.func 52) #[] #[.pointer (some ⟨Bm, 0, none⟩)]] w (KuPost w l) := by
  have hB : Bm < w.heap.size := World.block_lt_of_cell? _ _ hm
  have hseq : SeqGives Fence.wide 2 Tryz.prog 52 #[.pointer (some ⟨Bm, 0, none⟩)] encStr (fun ss => ss.Perm (strKeys (datU l))) (Maps.size (datU l)) w :=
    AnyZ.keys_gives (ρ := keysRenU) { keysLaysU with } Fence.wide _ trivial rfl (by omega) Bm b l.length (datU l) w hB hm ht.own
  have hsz := dat_sizeU l
  have cS := AnyZ.sorted_in sortedLays Fence.wide 5 trivial trivial trivial trivial rfl (by omega) (sortsIn _) (enters_of Tryz.func51 (by kernel_rfl) rfl) 52 #[.pointer (some ⟨Bm, 0, none⟩)] trivial (enters_of Tryz.func52 (by kernel_rfl) rfl) _ _ (by rw [hsz]; unfold maxLen; omega) (by rw [hsz]; omega) _ hseq
  change CallsIn _ _ Tryz.prog 32 _ _ _ at cS
  refine (callsIn_wide.1 cS).mono fun e w' ⟨v, ss, he, hp, hrow, _, hb⟩ => ?_
  rw [keys_sortedU ht.rise hp] at hrow
  have hlen : ss.length = l.length := by have := hp.length_eq; rw [dat_keysU] at this; exact this
  rw [hlen] at hrow
  obtain ⟨ao, cap, rfl⟩ := owns_slice hrow
  exact ⟨ao, cap, he, hrow, kept_of_belowsize hb⟩

end Go.Proofs.YtlnincdmdegaoaaGreat
