/-
  JournalRooms: the walk.
-/
import Derived.Test.YtgefbolnfenfcaaGreatL4
namespace Go.Proofs.YtgefbolnfenfcaaGreat
open Go.RowKit Go.Mk

set_option maxHeartbeats 400000 in
/-- The reference's Room. -/
theorem rroom_any (k : Int) (w : World) :
    Calls Tryz.prog 54 #[.int .i64 k] w fun e w' => e = .returned (.int .i64 (roomI k)) ∧ w = w' := by
  by_cases h : k < 1 ∨ 65536 < k
  · have e : roomI k = -1 := by unfold roomI; rw [if_pos h]
    have E := Lib.hid e; clear e
    go_enter Tryz.func54, Tryz.ntmps54
    go_wp2 <;> (go_ret; exact ⟨by rw [E.out]; rfl, rfl⟩)
  · obtain ⟨n, rfl⟩ : ∃ n : Nat, k = n := ⟨k.toNat, by omega⟩
    have h1 : 1 ≤ n := by omega
    have h2 : n ≤ 65536 := by omega
    have h3 : areaN n ≤ 32767 := by unfold areaN; omega
    have ht := area_tdiv n h1
    have e := roomI_nat n h1 h2
    by_cases h0 : areaN n = 0
    · rw [if_pos h0] at e
      rw [h0] at ht
      have E := Lib.hid e; clear e h0 h3
      go_enter Tryz.func54, Tryz.ntmps54
      go_wp2
      go_ret
      rw [E.out]
      exact ⟨rfl, rfl⟩
    · rw [if_neg h0] at e
      have E := Lib.hid e; clear e
      have hb : decide ((areaN n : Int) * 64 - 12 < 0) = false := by simp; omega
      have hw : (64 : Int) * areaN n - 12 = areaN n * 64 - 12 := by omega
      have HW := Lib.hid hw; clear hw h0
      go_enter Tryz.func54, Tryz.ntmps54
      go_wp2
      go_ret
      rw [E.out, HW.out]
      exact ⟨rfl, rfl⟩

end Go.Proofs.YtgefbolnfenfcaaGreat
