/-
  The laws of layer 7: awake.
-/
import Derived.Test.YtecjecdgjmipcaaGDg
namespace Go.Proofs.Ytecjecdgjmipcaa
open Go.RowKit Go.Mk

theorem keeps_below7 {w w' : World} (h : Kept (fun _ => False) w w') : Below w.heap.size w w' := h.below (Nat.le_refl _) (fun _ h => h.elim)

end Go.Proofs.Ytecjecdgjmipcaa
