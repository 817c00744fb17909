/-
  Lemmas towards the claim of this folder: contracts of the functions that the law reaches; joined texts.
-/
import Derived.Test.YtecjecdgjmipcaaGreatGNc
import Derived.Shelf.Strings.Cut
import Derived.Shelf.Vars
import Derived.Test.YtecjecdgjmipcaaGreatGDg
import Derived.Test.YtecjecdgjmipcaaGreatGNf
/-
  CONTRACTS of strings.Cut at a text that is not too great (the library's own, at this program) and of strings.Compare.
-/
namespace Go.Proofs.YtecjecdgjmipcaaGreat
open Go.RowKit Go.Mk

/-- The variable MaxLen of internal/bytealg holds some int. -/
def MaxAt (w : World) : Prop := ∃ m, w.cell? ⟨0, 0, none⟩ = some (.int .i64 m)

theorem MaxAt.kept {w w' : World} (h : MaxAt w) (hk : Kept (fun _ => False) w w') : MaxAt w' :=
  let ⟨m, hm⟩ := h; ⟨m, (hk.cell (World.block_lt_of_cell? _ _ hm) (fun h => h)).trans hm⟩

theorem MaxAt.shaped {w : World} (h : w.ShapedOpen Tryz.prog) : MaxAt w :=
  Go.Proofs.cell_of_shapedOpen_int (zero := #[.int .i64 0]) (t := 3) h (of_decide_eq_true (by kernel_rfl)) (by kernel_rfl) rfl (by kernel_rfl) (by kernel_rfl) Tryz.underlying3

def cutRen : Go.Shelf.Ren := ⟨fun | 145 => 112 | 217 => 159 | 219 => 150 | 220 => 129 | 224 => 161 | 225 => 160 | 266 => 165 | 267 => 162 | 314 => 166 | n => n,
  fun | 3 => 3 | 4 => 4 | 5 => 5 | 9 => 9 | 46 => 138 | 51 => 157 | 59 => 83 | 146 => 173 | n => n, fun | 1 => 0 | n => n⟩

theorem cutLays : Go.Proofs.Lays.n145 Tryz.prog cutRen := {
  mixed := by kernel_rfl
  f145 := Tryz.func112.trans (congrArg some (by kernel_rfl))
  f217 := Tryz.func159.trans (congrArg some (by kernel_rfl))
  f219 := Tryz.func150.trans (congrArg some (by kernel_rfl))
  f220 := Tryz.func129.trans (congrArg some (by kernel_rfl))
  f224 := Tryz.func161.trans (congrArg some (by kernel_rfl))
  f225 := Tryz.func160.trans (congrArg some (by kernel_rfl))
  f266 := Tryz.func165.trans (congrArg some (by kernel_rfl))
  f267 := Tryz.func162.trans (congrArg some (by kernel_rfl))
  f314 := Tryz.func166.trans (congrArg some (by kernel_rfl))
  t3 := Tryz.underlying3
  a3 := Tryz.isAgg3
  z3 := Tryz.sizeOf3
  v3 := Tryz.zeroValue3
  t4 := Tryz.underlying4
  a4 := Tryz.isAgg4
  z4 := Tryz.sizeOf4
  v4 := Tryz.zeroValue4
  t5 := Tryz.underlying5
  a5 := Tryz.isAgg5
  z5 := Tryz.sizeOf5
  v5 := Tryz.zeroValue5
  t9 := Tryz.underlying9
  a9 := Tryz.isAgg9
  z9 := Tryz.sizeOf9
  v9 := Tryz.zeroValue9
  t46 := Tryz.underlying138
  a46 := Tryz.isAgg138
  z46 := Tryz.sizeOf138
  v46 := Tryz.zeroValue138
  t51 := Tryz.underlying157
  a51 := Tryz.isAgg157
  z51 := Tryz.sizeOf157
  v51 := Tryz.zeroValue157
  t59 := Tryz.underlying83
  a59 := Tryz.isAgg83
  z59 := Tryz.sizeOf83
  v59 := Tryz.zeroValue83
  t146 := Tryz.underlying173
  a146 := Tryz.isAgg173
  z146 := Tryz.sizeOf173
  v146 := Tryz.zeroValue173
  g1 := by kernel_rfl }

theorem scut_any (l : List UInt8) (w : World) (hm : MaxAt w) (hl : l.length ≤ 1000000) : Calls Tryz.prog 112 #[.string (bs l), .string ⟨#[62, 62]⟩] w fun e w' =>
    e = .returned (.tuple #[.string (bs (Lib.cut l [62, 62]).1), .string (bs (Lib.cut l [62, 62]).2.1), .bool (Lib.cut l [62, 62]).2.2]) ∧ Kept (fun _ => False) w w' := by
  obtain ⟨m, hm⟩ := hm
  refine (Any.strings_Cut cutLays (bs l) ⟨#[62, 62]⟩ m w (by rw [bs_size]; omega) hm).mono ?_
  rintro e w' ⟨rfl, n, rfl⟩
  exact ⟨rfl, rfl, rfl, rfl, Nat.le_refl _, fun _ _ _ => rfl⟩

end Go.Proofs.YtecjecdgjmipcaaGreat

/-
  CONTRACTS of package def: Split.
-/
namespace Go.Proofs.YtecjecdgjmipcaaGreat
open Go.RowKit Go.Mk

theorem cut_len (l : List UInt8) : (Lib.cut l [62, 62]).1.length ≤ l.length ∧ (Lib.cut l [62, 62]).2.1.length ≤ l.length := by
  unfold Lib.cut
  split
  · simp only [List.length_take, List.length_drop]; omega
  · simp

set_option maxHeartbeats 1000000 in
theorem dsplit_any (l : List UInt8) (w : World) (hm : MaxAt w) (hl : l.length ≤ 1000000) :
    Calls Tryz.prog 77 #[.string (bs l)] w fun e w' => e = .returned (.tuple #[.string (bs (splitD l).1), .string (bs (splitD l).2.1), .bool (splitD l).2.2]) ∧ Kept (fun _ => False) w w' := by
  have H0 := Lib.hid (scut_any l w hm hl)
  have hcl := cut_len l
  unfold splitD
  generalize Lib.cut l [62, 62] = r at *
  obtain ⟨c, s, b⟩ := r
  dsimp only at *
  have H1 := Lib.hid (fun w => ncl_any c w)
  have H2 := Lib.hid (fun w => dsel_any s w (by omega))
  have H3 := Lib.hid (fun w => down_any c w)
  have H4 := Lib.hid (fun w => sclone_any c w (by omega))
  have H5 := Lib.hid (fun w => sclone_any s w (by omega))
  clear hcl hl hm
  cases b with
  | true =>
    have hS : splitC (c, s, true) = if (isCl c && isSel s) = true then (c, s, true) else ([], [], false) := rfl
    rw [hS]; clear hS
    generalize isCl c = r1 at *
    generalize isSel s = r2 at *
    cases r1 with
    | false =>
      go_enter Tryz.func77, Tryz.ntmps77
      go_wp2_with fail
      refine H0.out.mono ?_; rintro e w1 ⟨rfl, k1⟩
      go_wp2_with fail
      refine (H1.out _).mono ?_; rintro e w2 ⟨rfl, k2⟩
      go_wp2
      go_ret3
      exact ⟨rfl, k1.trans k2 (fun _ _ h => h)⟩
    | true =>
      cases r2 with
      | false =>
        go_enter Tryz.func77, Tryz.ntmps77
        go_wp2_with fail
        refine H0.out.mono ?_; rintro e w1 ⟨rfl, k1⟩
        go_wp2_with fail
        refine (H1.out _).mono ?_; rintro e w2 ⟨rfl, k2⟩
        go_wp2_with fail
        refine (H2.out _).mono ?_; rintro e w3 ⟨rfl, k3⟩
        go_wp2
        go_ret3
        exact ⟨rfl, (k1.trans k2 (fun _ _ h => h)).trans k3 (fun _ _ h => h)⟩
      | true =>
        go_enter Tryz.func77, Tryz.ntmps77
        go_wp2_with fail
        refine H0.out.mono ?_; rintro e w1 ⟨rfl, k1⟩
        go_wp2_with fail
        refine (H1.out _).mono ?_; rintro e w2 ⟨rfl, k2⟩
        go_wp2_with fail
        refine (H2.out _).mono ?_; rintro e w3 ⟨rfl, k3⟩
        go_wp2_with fail
        refine (H4.out _).mono ?_; rintro e w4 ⟨rfl, k4⟩
        go_wp2_with fail
        refine (H5.out _).mono ?_; rintro e w5 ⟨rfl, k5⟩
        go_wp2
        go_ret3
        exact ⟨rfl, (((k1.trans k2 (fun _ _ h => h)).trans k3 (fun _ _ h => h)).trans k4 (fun _ _ h => h)).trans k5 (fun _ _ h => h)⟩
  | false =>
    have hS : splitC (c, s, false) = if ownCl c = true then (c, [], true) else ([], [], false) := rfl
    rw [hS]; clear hS
    generalize ownCl c = r1 at *
    cases r1 with
    | false =>
      go_enter Tryz.func77, Tryz.ntmps77
      go_wp2_with fail
      refine H0.out.mono ?_; rintro e w1 ⟨rfl, k1⟩
      go_wp2_with fail
      refine (H3.out _).mono ?_; rintro e w2 ⟨rfl, k2⟩
      go_wp2
      go_ret3
      exact ⟨rfl, k1.trans k2 (fun _ _ h => h)⟩
    | true =>
      go_enter Tryz.func77, Tryz.ntmps77
      go_wp2_with fail
      refine H0.out.mono ?_; rintro e w1 ⟨rfl, k1⟩
      go_wp2_with fail
      refine (H3.out _).mono ?_; rintro e w2 ⟨rfl, k2⟩
      go_wp2_with fail
      refine (H4.out _).mono ?_; rintro e w3 ⟨rfl, k3⟩
      go_wp2
      go_ret3
      exact ⟨rfl, (k1.trans k2 (fun _ _ h => h)).trans k3 (fun _ _ h => h)⟩

end Go.Proofs.YtecjecdgjmipcaaGreat
