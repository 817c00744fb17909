/-
  JournalRooms: the walk.
-/
import Derived.Test.YtobikgcoekiboaaL4
namespace Go.Proofs.Ytobikgcoekiboaa
open Go.RowKit Go.Mk

set_option maxHeartbeats 400000 in
/-- The reference's Room. -/
theorem rroom_any (k : Int) (w : World) :
    Calls Try.prog 13 #[.int .i64 k] w fun e w' => e = .returned (.int .i64 (roomI k)) ∧ w = w' := by
  by_cases h : k < 1 ∨ 65536 < k
  · have e : roomI k = -1 := by unfold roomI; rw [if_pos h]
    have E := Lib.hid e; clear e
    go_enter Try.func13, Try.ntmps13
    go_wp2 <;> (go_ret; exact ⟨by rw [E.out]; rfl, rfl⟩)
  · obtain ⟨n, rfl⟩ : ∃ n : Nat, k = n := ⟨k.toNat, by omega⟩
    have h1 : 1 ≤ n := by omega
    have h2 : n ≤ 65536 := by omega
    have h3 : areaN n ≤ 32767 := by unfold areaN; omega
    have ht := area_tdiv n h1
    have e := roomI_nat n h1 h2
    by_cases h0 : areaN n = 0
    · rw [if_pos h0] at e
      rw [h0] at ht
      have E := Lib.hid e; clear e h0 h3
      go_enter Try.func13, Try.ntmps13
      go_wp2
      go_ret
      rw [E.out]
      exact ⟨rfl, rfl⟩
    · rw [if_neg h0] at e
      have E := Lib.hid e; clear e
      have hb : decide ((areaN n : Int) * 64 - 12 < 0) = false := by simp; omega
      have hw : (64 : Int) * areaN n - 12 = areaN n * 64 - 12 := by omega
      have HW := Lib.hid hw; clear hw h0
      go_enter Try.func13, Try.ntmps13
      go_wp2
      go_ret
      rw [E.out, HW.out]
      exact ⟨rfl, rfl⟩

set_option maxHeartbeats 400000 in
theorem rooms_walk (k : Int) (w : World) :
    Calls Try.prog 4 #[.int .i64 k] w fun e w' => e = .returned (.bool true) ∧ Below w.heap.size w w' := by
  have HA := Lib.hid (awake4_any w)
  have hj := fun W : World => jroom_any k W
  have hr := fun W : World => rroom_any k W
  generalize roomI k = r at hj hr
  have HJ := Lib.hid hj; have HR := Lib.hid hr; clear hj hr
  go_enter Try.func4, Try.ntmps4
  go_wp2_with fail
  refine HA.out.mono ?_
  rintro e w1 ⟨rfl, b1⟩
  have B1 := Lib.hid b1; clear b1 HA
  go_wp2_with fail
  all_goals (
    refine (HJ.out _).mono ?_
    rintro e w2 ⟨rfl, rfl⟩
    go_wp2_with fail
    refine (HR.out _).mono ?_
    rintro e w2 ⟨rfl, rfl⟩
    go_wp2
    go_ret
    exact ⟨by simp, B1.out⟩)

end Go.Proofs.Ytobikgcoekiboaa
