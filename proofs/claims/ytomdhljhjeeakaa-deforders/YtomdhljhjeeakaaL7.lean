/-
  The laws of layer 7: awake.
-/
import Derived.Test.YtomdhljhjeeakaaDi
namespace Go.Proofs.Ytomdhljhjeeakaa
open Go.RowKit Go.Mk

theorem keeps_below7 {w w' : World} (h : Kept (fun _ => False) w w') : Below w.heap.size w w' := h.below (Nat.le_refl _) (fun _ h => h.elim)

set_option maxHeartbeats 400000 in
theorem awake7_any (w : World) : Calls Try.prog 8 #[] w fun e w' => e = .returned (.bool true) ∧ Kept (fun _ => False) w w' := by
  have h := dkey_any ⟨2, [83, 116, 97, 99, 107], [], [], [115, 105, 122, 101], [115, 105, 122, 101]⟩ none 0 0 w (Lies.nil _ _ _) (by decide) (by decide) (by decide)
  rw [show keyD ⟨2, [83, 116, 97, 99, 107], [], [], [115, 105, 122, 101], [115, 105, 122, 101]⟩ = [83, 116, 97, 99, 107, 62, 62, 115, 105, 122, 101] by decide +kernel] at h
  dsimp only [List.length_nil, bs] at h
  have H := Lib.hid h; clear h
  go_enter Try.func8, Try.ntmps8
  go_wp2_with fail
  refine H.out.mono ?_
  rintro e w1 ⟨rfl, k1⟩
  go_wp2
  go_ret
  exact ⟨rfl, k1⟩

end Go.Proofs.Ytomdhljhjeeakaa
