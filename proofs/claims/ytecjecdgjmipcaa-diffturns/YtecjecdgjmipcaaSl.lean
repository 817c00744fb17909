/-
  The library's maps.Keys, slices.Sorted and slices.Sort, as this program bears them.
-/
import Derived.Test.YtecjecdgjmipcaaRows
import Derived.Shelf.SlIter.Nil
import Derived.Shelf.SortM.Plain
import Derived.Shelf.SortM.SortNone
namespace Go.Proofs.Ytecjecdgjmipcaa
open Go.RowKit Go.Maps Go.Sort Go.Shelf

def keysRen : Ren := ⟨fun | 7 => 73 | 10 => 98 | n => n,
  fun | 23 => 65 | 26 => 9 | 3 => 43 | 28 => 105 | 0 => 0 | 27 => 104 | 33 => 84 | 4 => 4 | n => n, fun n => n⟩

theorem keysLays : SlLaysZ.n7 Try.prog keysRen := {
  mixed := by kernel_rfl
  f7 := ⟨Try.f73.name, of_decide_eq_true (by kernel_rfl), Try.func73.trans (congrArg some (by kernel_rfl))⟩
  f10 := ⟨Try.f98.name, of_decide_eq_true (by kernel_rfl), Try.func98.trans (congrArg some (by kernel_rfl))⟩
  t0 := Try.underlying0
  a0 := Try.isAgg0
  z0 := Try.sizeOf0
  v0 := Try.zeroValue0
  t4 := Try.underlying4
  a4 := Try.isAgg4
  z4 := Try.sizeOf4
  v4 := Try.zeroValue4
  t23 := Try.underlying65
  a23 := Try.isAgg65
  z23 := Try.sizeOf65
  v23 := Try.zeroValue65
  t26 := Try.underlying9
  a26 := Try.isAgg9
  z26 := Try.sizeOf9
  v26 := Try.zeroValue9
  t27 := Try.underlying104
  a27 := Try.isAgg104
  z27 := Try.sizeOf104
  v27 := Try.zeroValue104
  t28 := Try.underlying105
  a28 := Try.isAgg105
  z28 := Try.sizeOf105
  v28 := Try.zeroValue105
  t33 := Try.underlying84
  a33 := Try.isAgg84
  z33 := Try.sizeOf84
  v33 := Try.zeroValue84
}

def sortedRen : Ren := ⟨fun | 6 => 72 | 8 => 96 | 9 => 97 | 11 => 110 | 13 => 112 | 12 => 111 | 23 => 131 | 24 => 132 | 14 => 122 | 15 => 123 | 16 => 124 | 17 => 125 | 18 => 126 | 19 => 127 | 20 => 128 | 21 => 129 | 22 => 130 | 25 => 139 | 26 => 140 | 27 => 141 | 28 => 142 | 29 => 143 | 30 => 144 | 31 => 148 | n => n,
  fun | 26 => 9 | 28 => 105 | 24 => 41 | 0 => 0 | 3 => 3 | 37 => 129 | 48 => 149 | 50 => 119 | 4 => 4 | 40 => 141 | 39 => 140 | 45 => 146 | 5 => 5 | 9 => 9 | 51 => 154 | 55 => 158 | 57 => 163 | 58 => 164 | 33 => 84 | n => n, fun n => n⟩

theorem sortedLays : SlLaysZ.n6 Try.prog sortedRen := {
  mixed := by kernel_rfl
  f6 := ⟨Try.f72.name, of_decide_eq_true (by kernel_rfl), Try.func72.trans (congrArg some (by kernel_rfl))⟩
  f8 := ⟨Try.f96.name, of_decide_eq_true (by kernel_rfl), Try.func96.trans (congrArg some (by kernel_rfl))⟩
  f11 := ⟨Try.f110.name, of_decide_eq_true (by kernel_rfl), Try.func110.trans (congrArg some (by kernel_rfl))⟩
  t0 := Try.underlying0
  a0 := Try.isAgg0
  z0 := Try.sizeOf0
  v0 := Try.zeroValue0
  t24 := Try.underlying41
  a24 := Try.isAgg41
  z24 := Try.sizeOf41
  v24 := Try.zeroValue41
  t26 := Try.underlying9
  a26 := Try.isAgg9
  z26 := Try.sizeOf9
  v26 := Try.zeroValue9
  t28 := Try.underlying105
  a28 := Try.isAgg105
  z28 := Try.sizeOf105
  v28 := Try.zeroValue105
  i26 := by kernel_rfl
}

def sortRen : Ren := ⟨fun | 6 => 97 | 8 => 112 | 9 => 111 | 19 => 131 | 20 => 132 | 21 => 122 | 22 => 123 | 23 => 124 | 24 => 125 | 25 => 126 | 26 => 127 | 27 => 128 | 28 => 129 | 29 => 130 | 36 => 139 | 31 => 140 | 32 => 141 | 37 => 142 | 38 => 143 | 39 => 144 | 41 => 148 | n => n,
  fun | 27 => 41 | 29 => 9 | 3 => 3 | 32 => 129 | 26 => 41 | 0 => 0 | 44 => 149 | 46 => 119 | 4 => 4 | 36 => 141 | 35 => 140 | 41 => 146 | 5 => 5 | 9 => 9 | 53 => 154 | 57 => 158 | 63 => 163 | 64 => 164 | n => n, fun n => n⟩

theorem sortLays : SlLaysM.n6 Try.prog sortRen := {
  mixed := by kernel_rfl
  f6 := ⟨Try.f97.name, of_decide_eq_true (by kernel_rfl), Try.func97.trans (congrArg some (by kernel_rfl))⟩
  f8 := Try.func112.trans (congrArg some (by kernel_rfl))
  f9 := ⟨Try.f111.name, of_decide_eq_true (by kernel_rfl), Try.func111.trans (congrArg some (by kernel_rfl))⟩
  f19 := Try.func131.trans (congrArg some (by kernel_rfl))
  f20 := Try.func132.trans (congrArg some (by kernel_rfl))
  f21 := ⟨Try.f122.name, of_decide_eq_true (by kernel_rfl), Try.func122.trans (congrArg some (by kernel_rfl))⟩
  f22 := ⟨Try.f123.name, of_decide_eq_true (by kernel_rfl), Try.func123.trans (congrArg some (by kernel_rfl))⟩
  f23 := ⟨Try.f124.name, of_decide_eq_true (by kernel_rfl), Try.func124.trans (congrArg some (by kernel_rfl))⟩
  f24 := ⟨Try.f125.name, of_decide_eq_true (by kernel_rfl), Try.func125.trans (congrArg some (by kernel_rfl))⟩
  f25 := ⟨Try.f126.name, of_decide_eq_true (by kernel_rfl), Try.func126.trans (congrArg some (by kernel_rfl))⟩
  f26 := ⟨Try.f127.name, of_decide_eq_true (by kernel_rfl), Try.func127.trans (congrArg some (by kernel_rfl))⟩
  f27 := ⟨Try.f128.name, of_decide_eq_true (by kernel_rfl), Try.func128.trans (congrArg some (by kernel_rfl))⟩
  f28 := ⟨Try.f129.name, of_decide_eq_true (by kernel_rfl), Try.func129.trans (congrArg some (by kernel_rfl))⟩
  f29 := ⟨Try.f130.name, of_decide_eq_true (by kernel_rfl), Try.func130.trans (congrArg some (by kernel_rfl))⟩
  f31 := Try.func140.trans (congrArg some (by kernel_rfl))
  f32 := Try.func141.trans (congrArg some (by kernel_rfl))
  f36 := ⟨Try.f139.name, of_decide_eq_true (by kernel_rfl), Try.func139.trans (congrArg some (by kernel_rfl))⟩
  f37 := ⟨Try.f142.name, of_decide_eq_true (by kernel_rfl), Try.func142.trans (congrArg some (by kernel_rfl))⟩
  f38 := ⟨Try.f143.name, of_decide_eq_true (by kernel_rfl), Try.func143.trans (congrArg some (by kernel_rfl))⟩
  f39 := ⟨Try.f144.name, of_decide_eq_true (by kernel_rfl), Try.func144.trans (congrArg some (by kernel_rfl))⟩
  f41 := ⟨Try.f148.name, of_decide_eq_true (by kernel_rfl), Try.func148.trans (congrArg some (by kernel_rfl))⟩
  t0 := Try.underlying0
  a0 := Try.isAgg0
  z0 := Try.sizeOf0
  v0 := Try.zeroValue0
  t3 := Try.underlying3
  a3 := Try.isAgg3
  z3 := Try.sizeOf3
  v3 := Try.zeroValue3
  t4 := Try.underlying4
  a4 := Try.isAgg4
  z4 := Try.sizeOf4
  v4 := Try.zeroValue4
  t5 := Try.underlying5
  a5 := Try.isAgg5
  z5 := Try.sizeOf5
  v5 := Try.zeroValue5
  t9 := Try.underlying9
  a9 := Try.isAgg9
  z9 := Try.sizeOf9
  v9 := Try.zeroValue9
  t26 := Try.underlying41
  a26 := Try.isAgg41
  z26 := Try.sizeOf41
  v26 := Try.zeroValue41
  t27 := Try.underlying41
  a27 := Try.isAgg41
  z27 := Try.sizeOf41
  v27 := Try.zeroValue41
  t29 := Try.underlying9
  a29 := Try.isAgg9
  z29 := Try.sizeOf9
  v29 := Try.zeroValue9
  t32 := Try.underlying129
  a32 := Try.isAgg129
  z32 := Try.sizeOf129
  v32 := Try.zeroValue129
  t35 := Try.underlying140
  a35 := Try.isAgg140
  z35 := Try.sizeOf140
  v35 := Try.zeroValue140
  t36 := Try.underlying141
  a36 := Try.isAgg141
  z36 := Try.sizeOf141
  v36 := Try.zeroValue141
  t41 := Try.underlying146
  a41 := Try.isAgg146
  z41 := Try.sizeOf146
  v41 := Try.zeroValue146
  t44 := Try.underlying149
  a44 := Try.isAgg149
  z44 := Try.sizeOf149
  v44 := Try.zeroValue149
  t46 := Try.underlying119
  a46 := Try.isAgg119
  z46 := Try.sizeOf119
  v46 := Try.zeroValue119
  t53 := Try.underlying154
  a53 := Try.isAgg154
  z53 := Try.sizeOf154
  v53 := Try.zeroValue154
  t57 := Try.underlying158
  a57 := Try.isAgg158
  z57 := Try.sizeOf158
  v57 := Try.zeroValue158
  t63 := Try.underlying163
  a63 := Try.isAgg163
  z63 := Try.sizeOf163
  v63 := Try.zeroValue163
  t64 := Try.underlying164
  a64 := Try.isAgg164
  z64 := Try.sizeOf164
  v64 := Try.zeroValue164
}

/-- slices.Sort's two contracts, at the fence that asks nothing. -/
theorem sortsIn (m : Nat) : AnyZ.SortsIn Try.prog sortedRen Fence.wide m :=
  ⟨fun blk off cap ss W hH hblk hsz => callsIn_wide.2 (AnyM.slices_Sort_string sortLays blk off cap ss W hH hblk hsz),
   fun p cap W => callsIn_wide.2 (AnyM.slices_Sort_string_none sortLays p cap W)⟩

end Go.Proofs.Ytecjecdgjmipcaa
