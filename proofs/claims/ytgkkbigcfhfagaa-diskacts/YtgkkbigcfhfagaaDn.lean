/-
  CONTRACTS of package disk: New and Of.
-/
import Derived.Test.YtgkkbigcfhfagaaDk
namespace Go.Proofs.Ytgkkbigcfhfagaa
open Go.RowKit Go.Mk

theorem made_noughts (m : Nat) : madeCells #[.int .u8 0] m = ((List.replicate m (0 : UInt8)).map bv).toArray := by
  apply Array.ext
  · simp [madeCells]
  · intro i h1 h2
    simp [madeCells, bv, Nat.mod_one]

/-- A new Disk out of a row that is the call's own. -/
theorem dk_new {w : World} {gi : Nat} (tail : List Value) (im : List UInt8) (n : Nat) (hi : w.heap[gi]? = some (.cells (im.map bv ++ tail).toArray 5 (0, 0))) (hl : im.length = 64 * n) (h1 : 1 ≤ n) (h2 : n ≤ 65536) :
    DkAt (w.alloc (.cells #[.slice (some ⟨gi, 0, none⟩) (64 * n) (64 * n + tail.length), .slice none 0 0, .int .i64 (-1)] 58)) w.heap.size gi tail im [] (.slice none 0 0) n (-1) := by
  have hlt : gi < w.heap.size := (Array.getElem?_eq_some_iff.1 hi).1
  have hb := heap_alloc_new w (.cells #[.slice (some ⟨gi, 0, none⟩) (64 * n) (64 * n + tail.length), .slice none 0 0, .int .i64 (-1)] 58)
  refine ⟨by rw [cell_of_row _ _ _ _ _ _ hb]; rfl, by rw [cell_of_row _ _ _ _ _ _ hb]; rfl, by rw [cell_of_row _ _ _ _ _ _ hb]; rfl, ?_, ?_, ?_, by rw [Below.heap_alloc _ _ _ hlt]; exact hi, World.ownsRow_nil _ _ _ _, by omega, by simp [Value.ownBlock], hl, h1, h2, by simp, by omega⟩ <;> (unfold World.frozen?; rw [hb]; simp)

set_option maxHeartbeats 400000 in
theorem allowed_any (w : World) (k : Int) : Calls Try.prog 28 #[.int .i64 k] w fun e w' => e = .returned (.bool (decide (1 ≤ k ∧ k ≤ 65536))) ∧ w' = w := by
  by_cases h1 : 1 ≤ k
  · go_enter Try.func28, Try.ntmps28
    go_wp2
    go_ret
    exact ⟨by simp [h1], rfl⟩
  · go_enter Try.func28, Try.ntmps28
    go_wp2
    go_ret
    exact ⟨by simp; omega, rfl⟩

set_option maxHeartbeats 400000 in
/-- New, of a size that is allowed. -/
theorem new_any (w : World) (n : Nat) (h1 : 1 ≤ n) (h2 : n ≤ 65536) :
    Calls Try.prog 9 #[.int .i64 n] w fun e w' => e = .returned (.tuple #[.pointer (some ⟨w.heap.size + 1, 0, none⟩), .int .i64 0]) ∧
      DkAt w' (w.heap.size + 1) w.heap.size [] (List.replicate (64 * n) 0) [] (.slice none 0 0) n (-1) ∧ Below w.heap.size w w' := by
  obtain ⟨i0, hi, hz0, hz1, hz2⟩ := info_parts Try.infoByte
  have ha := allowed_any w n
  rw [decide_eq_true (by omega)] at ha
  have HA := Lib.hid ha; clear ha
  have hm : i0.bytes * (64 * n) ≤ 281474976710656 := by rw [hz2]; omega
  have hm2 : wrap64 ((n : Int) * 64) = ((64 * n : Nat) : Int) := by unfold wrap64; omega
  have hm3 : (n : Int) * 64 = ((64 * n : Nat) : Int) := by omega
  have HM2 := Lib.hid hm2; have HM3 := Lib.hid hm3; clear hm2 hm3
  go_enter Try.func9, Try.ntmps9
  go_wp2_with fail
  refine HA.out.mono ?_
  rintro e w1 ⟨rfl, hw⟩
  subst w1
  go_wp2_with (at_make; refine wpList_make_row _ rfl (.tmp 8) (.tmp 8) 32 rfl 5 i0 (.int .u8 0) Try.underlying32 hi hz0 hz1 rfl .i64 .i64 (64 * n) ?e1 ?e2 hm (by omega) ?_)
  case e1 => show Value.int .i64 _ = _; first | exact congrArg _ HM2.out | exact congrArg _ HM3.out
  case e2 => show Value.int .i64 _ = _; first | exact congrArg _ HM2.out | exact congrArg _ HM3.out
  rw [made_noughts]
  go_ret2
  refine ⟨rfl, ?_, ((Below.refl _ _).alloc (Nat.le_refl _) _).alloc (by simp) _⟩
  have := dk_new (w := w.alloc (.cells ((List.replicate (64 * n) (0 : UInt8)).map bv).toArray 5)) (gi := w.heap.size) [] (List.replicate (64 * n) 0) n (by rw [List.append_nil]; exact heap_alloc_new _ _) (by simp) h1 h2
  rw [World.size_alloc] at this
  exact this

set_option maxHeartbeats 400000 in
/-- New, of another size. -/
theorem new_not (w : World) (k : Int) (h : ¬ (1 ≤ k ∧ k ≤ 65536)) :
    Calls Try.prog 9 #[.int .i64 k] w fun e w' => e = .returned (.tuple #[.pointer none, .int .i64 2]) ∧ w' = w := by
  have ha := allowed_any w k
  rw [decide_eq_false h] at ha
  have HA := Lib.hid ha; clear ha h
  go_enter Try.func9, Try.ntmps9
  go_wp2_with fail
  refine HA.out.mono ?_
  rintro e w1 ⟨rfl, rfl⟩
  go_wp2
  go_ret2
  exact ⟨rfl, rfl⟩

set_option maxHeartbeats 400000 in
/-- Of, of bytes whose number is allowed. -/
theorem of_any (w : World) (ao : Option Addr) (cap : Nat) (im : List UInt8) (n B : Nat) (hL : Lies w B ao (im.map bv)) (hl : im.length = 64 * n) (h1 : 1 ≤ n) (h2 : n ≤ 65536) :
    Calls Try.prog 27 #[.slice ao im.length cap] w fun e w' => ∃ b gi tail, e = .returned (.tuple #[.pointer (some ⟨b, 0, none⟩), .int .i64 0]) ∧
      DkAt w' b gi tail im [] (.slice none 0 0) n (-1) ∧ w.heap.size ≤ gi ∧ w.heap.size ≤ b ∧ Below w.heap.size w w' := by
  have hcl := clone_any ao cap im B w hL (by omega)
  rw [hl] at hcl ⊢
  have ha := allowed_any w n
  rw [decide_eq_true (by omega)] at ha
  have hq : ((64 * n : Nat) : Int) / 64 = (n : Int) := by omega
  have hr : ((64 * n : Nat) : Int) % 64 = 0 := by omega
  have hb : ((64 * n : Nat) : Int) ≤ 4194304 := by omega
  generalize hN : 64 * n = N at *
  have HA := Lib.hid ha; have HC := Lib.hid hcl; have HN := Lib.hid hN; have HL := Lib.hid hl; clear ha hcl hL hN hl
  go_enter Try.func27, Try.ntmps27
  go_wp2_with fail
  refine HA.out.mono ?_
  rintro e w1 ⟨rfl, hw⟩
  subst w1
  go_wp2_with fail
  refine HC.out.mono ?_
  rintro e w1 ⟨ao1, cap1, rfl, ho1, b1⟩
  have hx : ∃ gi tail, ao1 = some ⟨gi, 0, none⟩ ∧ cap1 = N + List.length tail ∧ w.heap.size ≤ gi ∧ w1.heap[gi]? = some (.cells (im.map bv ++ tail).toArray 5 (0, 0)) := by
    have hN := HN.out
    rcases ho1.2 with ⟨_, h0⟩ | ⟨g, c, cur, hv, hg, hh, hnc, hcm, hcs, ht⟩
    · omega
    · cases hv
      refine ⟨g, cur.toList.drop N, rfl, ?_, hg, ?_⟩
      · simp; omega
      · rw [← ht, Nat.mul_one, List.take_append_drop]
        exact hh
  obtain ⟨gi, tail, rfl, rfl, hgi, him⟩ := hx
  have HI := Lib.hid him; have B1 := Lib.hid b1; clear him b1 ho1
  go_wp2
  go_ret2
  have hN := HN.out
  have hL := HL.out
  subst hN
  refine ⟨w1.heap.size, gi, tail, rfl, dk_new tail im n HI.out hL h1 h2, hgi, B1.out.size, B1.out.alloc B1.out.size _⟩

set_option maxHeartbeats 400000 in
/-- Of, of no bytes, or of no whole number of sectors. -/
theorem of_not (w : World) (ao : Option Addr) (cap N : Nat) (h : N = 0 ∨ N % 64 ≠ 0) (hl : N ≤ 4194304) :
    Calls Try.prog 27 #[.slice ao N cap] w fun e w' => e = .returned (.tuple #[.pointer none, .int .i64 2]) ∧ w' = w := by
  by_cases hr : N % 64 = 0
  · have h0 : N = 0 := by omega
    subst h0
    have ha := allowed_any w 0
    have HA := Lib.hid ha; clear ha h hl hr
    go_enter Try.func27, Try.ntmps27
    go_wp2_with fail
    refine HA.out.mono ?_
    rintro e w1 ⟨rfl, hw⟩
    subst w1
    go_wp2
    go_ret2
    exact ⟨rfl, rfl⟩
  · have hr' : ((N : Int) % 64 != 0) = true := by simp; omega
    have hr2 : ¬ (N : Int) % 64 = 0 := by omega
    clear h hr
    go_enter Try.func27, Try.ntmps27
    go_wp2
    go_ret2
    exact ⟨rfl, rfl⟩

end Go.Proofs.Ytgkkbigcfhfagaa
