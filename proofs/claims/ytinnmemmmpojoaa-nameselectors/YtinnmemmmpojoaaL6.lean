/-
  The laws of layer 6: awake.
-/
import Derived.Test.YtinnmemmmpojoaaNe
namespace Go.Proofs.Ytinnmemmmpojoaa
open Go.RowKit Go.Mk

set_option maxHeartbeats 400000 in
theorem awake6_any (w : World) : Calls Try.prog 6 #[] w fun e w' => e = .returned (.bool true) ∧ Kept (fun _ => False) w w' := by
  have h1 := fun w => nargs_any [97, 116, 58, 112, 117, 116, 58] w (by decide)
  have h2 := fun w => nargs_any [60, 61] w (by decide)
  have h3 := fun w => nkind_any [70, 111, 111] w (by decide)
  have h4 := fun w => nkind_any [102, 111, 111] w (by decide)
  rw [show argsL [97, 116, 58, 112, 117, 116, 58] = 2 by decide +kernel] at h1
  rw [show argsL [60, 61] = 1 by decide +kernel] at h2
  rw [show kindL [70, 111, 111] = 0 by decide +kernel] at h3
  rw [show kindL [102, 111, 111] = 1 by decide +kernel] at h4
  have H1 := Lib.hid h1; have H2 := Lib.hid h2; have H3 := Lib.hid h3; have H4 := Lib.hid h4; clear h1 h2 h3 h4
  go_enter Try.func6, Try.ntmps6
  go_wp2_with fail
  refine (H1.out _).mono ?_
  rintro e w1 ⟨rfl, k1⟩
  go_wp2_with fail
  refine (H2.out _).mono ?_
  rintro e w2 ⟨rfl, k2⟩
  go_wp2_with fail
  refine (H3.out _).mono ?_
  rintro e w3 ⟨rfl, k3⟩
  go_wp2_with fail
  refine (H4.out _).mono ?_
  rintro e w4 ⟨rfl, k4⟩
  go_wp2
  go_ret
  exact ⟨rfl, ((k1.trans k2 (fun _ _ h => h)).trans k3 (fun _ _ h => h)).trans k4 (fun _ _ h => h)⟩

theorem keeps_below {w w' : World} (h : Kept (fun _ => False) w w') : Below w.heap.size w w' := h.below (Nat.le_refl _) (fun _ h => h.elim)

end Go.Proofs.Ytinnmemmmpojoaa
