/-
  CONTRACTS of strings.Cut at a text that is not too great (the library's own, at this program) and of strings.Compare.
-/
import Derived.Test.YtofpnlmlenffnaaDoorNc
import Derived.Shelf.Strings.Cut
import Derived.Shelf.Vars
namespace Go.Proofs.YtofpnlmlenffnaaDoor
open Go.RowKit Go.Mk

/-- The variable MaxLen of internal/bytealg holds some int. -/
def MaxAt (w : World) : Prop := ∃ m, w.cell? ⟨0, 0, none⟩ = some (.int .i64 m)

theorem MaxAt.kept {w w' : World} (h : MaxAt w) (hk : Kept (fun _ => False) w w') : MaxAt w' :=
  let ⟨m, hm⟩ := h; ⟨m, (hk.cell (World.block_lt_of_cell? _ _ hm) (fun h => h)).trans hm⟩

theorem MaxAt.shaped {w : World} (h : w.ShapedOpen Tryd.prog) : MaxAt w :=
  Go.Proofs.cell_of_shapedOpen_int (zero := #[.int .i64 0]) (t := 3) h (of_decide_eq_true (by kernel_rfl)) (by kernel_rfl) rfl (by kernel_rfl) (by kernel_rfl) Tryd.underlying3

end Go.Proofs.YtofpnlmlenffnaaDoor
