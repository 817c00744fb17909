/-
  CONTRACTS of strings.Cut at a text that is not too great (the library's own, at this program) and of strings.Compare.
-/
import Derived.Test.YtomdhljhjeeakaaNc
import Derived.Shelf.Strings.Cut
import Derived.Shelf.Vars
namespace Go.Proofs.Ytomdhljhjeeakaa
open Go.RowKit Go.Mk

/-- The variable MaxLen of internal/bytealg holds some int. -/
def MaxAt (w : World) : Prop := ∃ m, w.cell? ⟨0, 0, none⟩ = some (.int .i64 m)

theorem MaxAt.kept {w w' : World} (h : MaxAt w) (hk : Kept (fun _ => False) w w') : MaxAt w' :=
  let ⟨m, hm⟩ := h; ⟨m, (hk.cell (World.block_lt_of_cell? _ _ hm) (fun h => h)).trans hm⟩

theorem MaxAt.shaped {w : World} (h : w.ShapedOpen Try.prog) : MaxAt w :=
  Go.Proofs.cell_of_shapedOpen_int (zero := #[.int .i64 0]) (t := 3) h (of_decide_eq_true (by kernel_rfl)) (by kernel_rfl) rfl (by kernel_rfl) (by kernel_rfl) Try.underlying3

def cutRen : Go.Shelf.Ren := ⟨fun | 145 => 45 | 217 => 86 | 219 => 83 | 220 => 69 | 224 => 88 | 225 => 87 | 266 => 91 | 267 => 89 | 314 => 92 | n => n,
  fun | 3 => 3 | 4 => 4 | 5 => 5 | 9 => 9 | 46 => 80 | 51 => 89 | 59 => 30 | 146 => 90 | n => n, fun | 1 => 0 | n => n⟩

theorem cutLays : Go.Proofs.Lays.n145 Try.prog cutRen := {
  mixed := by kernel_rfl
  f145 := Try.func45.trans (congrArg some (by kernel_rfl))
  f217 := Try.func86.trans (congrArg some (by kernel_rfl))
  f219 := Try.func83.trans (congrArg some (by kernel_rfl))
  f220 := Try.func69.trans (congrArg some (by kernel_rfl))
  f224 := Try.func88.trans (congrArg some (by kernel_rfl))
  f225 := Try.func87.trans (congrArg some (by kernel_rfl))
  f266 := Try.func91.trans (congrArg some (by kernel_rfl))
  f267 := Try.func89.trans (congrArg some (by kernel_rfl))
  f314 := Try.func92.trans (congrArg some (by kernel_rfl))
  t3 := Try.underlying3
  a3 := Try.isAgg3
  z3 := Try.sizeOf3
  v3 := Try.zeroValue3
  t4 := Try.underlying4
  a4 := Try.isAgg4
  z4 := Try.sizeOf4
  v4 := Try.zeroValue4
  t5 := Try.underlying5
  a5 := Try.isAgg5
  z5 := Try.sizeOf5
  v5 := Try.zeroValue5
  t9 := Try.underlying9
  a9 := Try.isAgg9
  z9 := Try.sizeOf9
  v9 := Try.zeroValue9
  t46 := Try.underlying80
  a46 := Try.isAgg80
  z46 := Try.sizeOf80
  v46 := Try.zeroValue80
  t51 := Try.underlying89
  a51 := Try.isAgg89
  z51 := Try.sizeOf89
  v51 := Try.zeroValue89
  t59 := Try.underlying30
  a59 := Try.isAgg30
  z59 := Try.sizeOf30
  v59 := Try.zeroValue30
  t146 := Try.underlying90
  a146 := Try.isAgg90
  z146 := Try.sizeOf90
  v146 := Try.zeroValue90
  g1 := by kernel_rfl }

theorem scut_any (l : List UInt8) (w : World) (hm : MaxAt w) (hl : l.length ≤ 1000000) : Calls Try.prog 45 #[.string (bs l), .string ⟨#[62, 62]⟩] w fun e w' =>
    e = .returned (.tuple #[.string (bs (Lib.cut l [62, 62]).1), .string (bs (Lib.cut l [62, 62]).2.1), .bool (Lib.cut l [62, 62]).2.2]) ∧ Kept (fun _ => False) w w' := by
  obtain ⟨m, hm⟩ := hm
  refine (Any.strings_Cut cutLays (bs l) ⟨#[62, 62]⟩ m w (by rw [bs_size]; omega) hm).mono ?_
  rintro e w' ⟨rfl, n, rfl⟩
  exact ⟨rfl, rfl, rfl, rfl, Nat.le_refl _, fun _ _ _ => rfl⟩

theorem ext_cmp (a b : ByteArray) (w : World) : (callFunc 82 #[.string a, .string b]).run Try.prog w = .ok (.value (.int .i64 (Lib.compareBytes a.data.toList b.data.toList))) w := by
  rw [run_callFunc_extern Try.func82 (by kernel_rfl) (by kernel_rfl) (by kernel_rfl) (e := Extern.BytealgCompare.compare) (by kernel_rfl), Lib.run_compareString]
  rfl

theorem bcmp_any (a b : List UInt8) (w : World) : Calls Try.prog 68 #[.string (bs a), .string (bs b)] w fun e w' => e = .returned (.int .i64 (Lib.compareBytes a b)) ∧ w = w' := by
  have he := fun w => ext_cmp (bs a) (bs b) w
  rw [bs_toList, bs_toList] at he
  generalize Lib.compareBytes a b = r at *
  go_enter Try.func68, Try.ntmps68
  go_wp2
  go_ret
  exact ⟨rfl, rfl⟩

theorem scmp_any (a b : List UInt8) (w : World) : Calls Try.prog 44 #[.string (bs a), .string (bs b)] w fun e w' => e = .returned (.int .i64 (Lib.compareBytes a b)) ∧ w = w' := by
  have H := Lib.hid (bcmp_any a b w)
  go_enter Try.func44, Try.ntmps44
  go_wp2_with fail
  refine H.out.mono ?_; rintro e w1 ⟨rfl, rfl⟩
  go_wp2
  go_ret
  exact ⟨rfl, rfl⟩

end Go.Proofs.Ytomdhljhjeeakaa
