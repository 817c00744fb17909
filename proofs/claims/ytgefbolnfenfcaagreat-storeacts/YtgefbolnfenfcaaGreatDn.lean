/-
  CONTRACTS of package disk: New and Of.
-/
import Derived.Test.YtgefbolnfenfcaaGreatDk
namespace Go.Proofs.YtgefbolnfenfcaaGreat
open Go.RowKit Go.Mk

theorem made_noughts (m : Nat) : madeCells #[.int .u8 0] m = ((List.replicate m (0 : UInt8)).map bv).toArray := by
  apply Array.ext
  · simp [madeCells]
  · intro i h1 h2
    simp [madeCells, bv, Nat.mod_one]

/-- A new Disk out of a row that is the call's own. -/
theorem dk_new {w : World} {gi : Nat} (tail : List Value) (im : List UInt8) (n : Nat) (hi : w.heap[gi]? = some (.cells (im.map bv ++ tail).toArray 5 (0, 0))) (hl : im.length = 64 * n) (h1 : 1 ≤ n) (h2 : n ≤ 65536) :
    DkAt (w.alloc (.cells #[.slice (some ⟨gi, 0, none⟩) (64 * n) (64 * n + tail.length), .slice none 0 0, .int .i64 (-1)] 57)) w.heap.size gi tail im [] (.slice none 0 0) n (-1) := by
  have hlt : gi < w.heap.size := (Array.getElem?_eq_some_iff.1 hi).1
  have hb := heap_alloc_new w (.cells #[.slice (some ⟨gi, 0, none⟩) (64 * n) (64 * n + tail.length), .slice none 0 0, .int .i64 (-1)] 57)
  refine ⟨by rw [cell_of_row _ _ _ _ _ _ hb]; rfl, by rw [cell_of_row _ _ _ _ _ _ hb]; rfl, by rw [cell_of_row _ _ _ _ _ _ hb]; rfl, ?_, ?_, ?_, by rw [Below.heap_alloc _ _ _ hlt]; exact hi, World.ownsRow_nil _ _ _ _, by omega, by simp [Value.ownBlock], hl, h1, h2, by simp, by omega⟩ <;> (unfold World.frozen?; rw [hb]; simp)

set_option maxHeartbeats 400000 in
theorem allowed_any (w : World) (k : Int) : Calls Tryz.prog 25 #[.int .i64 k] w fun e w' => e = .returned (.bool (decide (1 ≤ k ∧ k ≤ 65536))) ∧ w' = w := by
  by_cases h1 : 1 ≤ k
  · go_enter Tryz.func25, Tryz.ntmps25
    go_wp2
    go_ret
    exact ⟨by simp [h1], rfl⟩
  · go_enter Tryz.func25, Tryz.ntmps25
    go_wp2
    go_ret
    exact ⟨by simp; omega, rfl⟩

set_option maxHeartbeats 400000 in
/-- New, of a size that is allowed. -/
theorem new_any (w : World) (n : Nat) (h1 : 1 ≤ n) (h2 : n ≤ 65536) :
    Calls Tryz.prog 7 #[.int .i64 n] w fun e w' => e = .returned (.tuple #[.pointer (some ⟨w.heap.size + 1, 0, none⟩), .int .i64 0]) ∧
      DkAt w' (w.heap.size + 1) w.heap.size [] (List.replicate (64 * n) 0) [] (.slice none 0 0) n (-1) ∧ Below w.heap.size w w' := by
  obtain ⟨i0, hi, hz0, hz1, hz2⟩ := info_parts Tryz.infoByte
  have ha := allowed_any w n
  rw [decide_eq_true (by omega)] at ha
  have HA := Lib.hid ha; clear ha
  have hm : i0.bytes * (64 * n) ≤ 281474976710656 := by rw [hz2]; omega
  have hm2 : wrap64 ((n : Int) * 64) = ((64 * n : Nat) : Int) := by unfold wrap64; omega
  have hm3 : (n : Int) * 64 = ((64 * n : Nat) : Int) := by omega
  have HM2 := Lib.hid hm2; have HM3 := Lib.hid hm3; clear hm2 hm3
  go_enter Tryz.func7, Tryz.ntmps7
  go_wp2_with fail
  refine HA.out.mono ?_
  rintro e w1 ⟨rfl, hw⟩
  subst w1
  go_wp2_with (at_make; refine wpList_make_row _ rfl (.tmp 8) (.tmp 8) 34 rfl 5 i0 (.int .u8 0) Tryz.underlying34 hi hz0 hz1 rfl .i64 .i64 (64 * n) ?e1 ?e2 hm (by omega) ?_)
  case e1 => show Value.int .i64 _ = _; first | exact congrArg _ HM2.out | exact congrArg _ HM3.out
  case e2 => show Value.int .i64 _ = _; first | exact congrArg _ HM2.out | exact congrArg _ HM3.out
  rw [made_noughts]
  go_ret2
  refine ⟨rfl, ?_, ((Below.refl _ _).alloc (Nat.le_refl _) _).alloc (by simp) _⟩
  have := dk_new (w := w.alloc (.cells ((List.replicate (64 * n) (0 : UInt8)).map bv).toArray 5)) (gi := w.heap.size) [] (List.replicate (64 * n) 0) n (by rw [List.append_nil]; exact heap_alloc_new _ _) (by simp) h1 h2
  rw [World.size_alloc] at this
  exact this

set_option maxHeartbeats 400000 in
/-- New, of another size. -/
theorem new_not (w : World) (k : Int) (h : ¬ (1 ≤ k ∧ k ≤ 65536)) :
    Calls Tryz.prog 7 #[.int .i64 k] w fun e w' => e = .returned (.tuple #[.pointer none, .int .i64 2]) ∧ w' = w := by
  have ha := allowed_any w k
  rw [decide_eq_false h] at ha
  have HA := Lib.hid ha; clear ha h
  go_enter Tryz.func7, Tryz.ntmps7
  go_wp2_with fail
  refine HA.out.mono ?_
  rintro e w1 ⟨rfl, rfl⟩
  go_wp2
  go_ret2
  exact ⟨rfl, rfl⟩

end Go.Proofs.YtgefbolnfenfcaaGreat
