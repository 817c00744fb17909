/-
  No cell of these rows narrows 'for every input' (looked for: loops, veiled, ifaces, maps, wideKeys, modest, calm, conditions, laid).
  DERIVED. THE GIVEN ROWS OF THIS SEAT. 5 by the template 'for every input the law returns true; each argument reads behind the call as it read before'; 0 by the template 'total and deterministic' (their statements: YtecjecdgjmipcaaTotals.lean).
  GIVEN WITH THE SEED: the statements are not yours to turn. If you find one false, say at which input.
  Laid BY PROGRAM, IN A SANDBOX (cutbox-rows.mjs): the forced cells as the released guide's own fill.sh prints them over the translation 20055f6c19cc1faa… (all of the seat's roots in one cut). By AI agents, Wed Nov 11 2026. No macro, syntax, notation, axiom, sorry.
-/
import Derived.Test.YtecjecdgjmipcaaChecked
import GoSem.Claim
import GoSem.ClaimJoined
import GoSem.ClaimMapViews
import Derived.JoinedTies
import Derived.KernelRfl
namespace Go.Proofs.Ytecjecdgjmipcaa
/- THE CELL 'sum', in the pinned program and in every row, IS THE sha256 OF THE DUMP (.gsa) THAT YtecjecdgjmipcaaProg.lean LOADS. Nothing in Lean hashes anything: it is a label: what it is worth is what the hold of that sum in a sandbox is worth. -/
noncomputable def Try.pinned : Pinned := { name := "ytecjecdgjmipcaa", sum := "20055f6c19cc1faa6e24782eb110624e9a738ff20f72244b05ed5afa8e140109", checked := Try.checked }
namespace Rows
def none {H : Type} : Left H := { results := [], args := [] }

/-- 'monticulelaw09.DiffTurns': WHATEVER THE INPUT: true; the input reads as it did. -/
def diffTurnsSpec : ChangeSpec := { name := "diffTurns", fn := fun _ => fun
  | [d] => { results := [.lit (.bool true)], args := [d] }
  | _ => none }
def diffTurnsRow : OpenClaim := { program := "ytecjecdgjmipcaa", sum := "20055f6c19cc1faa6e24782eb110624e9a738ff20f72244b05ed5afa8e140109", func := "monticule/monticulelaw09.DiffTurns", spec := "diffTurns", inPlace := ["internal/bytealg.IndexByteString", "internal/bytealg.IndexString"], unfollowed := true, recurses := true, named := ["internal/bytealg.MaxLen"], apart := false }
def DiffTurnsSaid : Prop := diffTurnsRow.holds Try.pinned (OpenSpec.ofChange diffTurnsSpec)

/-- ITS FALSE NEIGHBOUR: 'it returns false'. Refute it at one input. -/
def diffTurnsWrong : ChangeSpec := { name := "diffTurns", fn := fun _ => fun
  | [d] => { results := [.lit (.bool false)], args := [d] }
  | _ => none }
def DiffTurnsWrongFalsely : Prop := diffTurnsRow.holds Try.pinned (OpenSpec.ofChange diffTurnsWrong)

/-- 'monticulelaw09.DiffChains': WHATEVER THE INPUT: true; the input reads as it did. -/
def diffChainsSpec : ChangeSpec := { name := "diffChains", fn := fun _ => fun
  | [d] => { results := [.lit (.bool true)], args := [d] }
  | _ => none }
def diffChainsRow : OpenClaim := { program := "ytecjecdgjmipcaa", sum := "20055f6c19cc1faa6e24782eb110624e9a738ff20f72244b05ed5afa8e140109", func := "monticule/monticulelaw09.DiffChains", spec := "diffChains", inPlace := ["internal/bytealg.IndexByteString", "internal/bytealg.IndexString"], unfollowed := true, recurses := true, named := ["internal/bytealg.MaxLen"], apart := false }
def DiffChainsSaid : Prop := diffChainsRow.holds Try.pinned (OpenSpec.ofChange diffChainsSpec)

/-- ITS FALSE NEIGHBOUR: 'it returns false'. Refute it at one input. -/
def diffChainsWrong : ChangeSpec := { name := "diffChains", fn := fun _ => fun
  | [d] => { results := [.lit (.bool false)], args := [d] }
  | _ => none }
def DiffChainsWrongFalsely : Prop := diffChainsRow.holds Try.pinned (OpenSpec.ofChange diffChainsWrong)

/-- 'monticulelaw08.SnapChanges': WHATEVER THE INPUT: true; the input reads as it did. -/
def snapChangesSpec : ChangeSpec := { name := "snapChanges", fn := fun _ => fun
  | [d1, d2] => { results := [.lit (.bool true)], args := [d1, d2] }
  | _ => none }
def snapChangesRow : OpenClaim := { program := "ytecjecdgjmipcaa", sum := "20055f6c19cc1faa6e24782eb110624e9a738ff20f72244b05ed5afa8e140109", func := "monticule/monticulelaw08.SnapChanges", spec := "snapChanges", inPlace := ["internal/bytealg.IndexByteString", "internal/bytealg.IndexString"], unfollowed := true, recurses := true, named := ["internal/bytealg.MaxLen"], apart := false }
def SnapChangesSaid : Prop := snapChangesRow.holds Try.pinned (OpenSpec.ofChange snapChangesSpec)

/-- ITS FALSE NEIGHBOUR: 'it returns false'. Refute it at one input. -/
def snapChangesWrong : ChangeSpec := { name := "snapChanges", fn := fun _ => fun
  | [d1, d2] => { results := [.lit (.bool false)], args := [d1, d2] }
  | _ => none }
def SnapChangesWrongFalsely : Prop := snapChangesRow.holds Try.pinned (OpenSpec.ofChange snapChangesWrong)

/-- 'monticulelaw08.SnapBack': WHATEVER THE INPUT: true; the input reads as it did. -/
def snapBackSpec : ChangeSpec := { name := "snapBack", fn := fun _ => fun
  | [d1, d2] => { results := [.lit (.bool true)], args := [d1, d2] }
  | _ => none }
def snapBackRow : OpenClaim := { program := "ytecjecdgjmipcaa", sum := "20055f6c19cc1faa6e24782eb110624e9a738ff20f72244b05ed5afa8e140109", func := "monticule/monticulelaw08.SnapBack", spec := "snapBack", inPlace := ["internal/bytealg.IndexByteString", "internal/bytealg.IndexString"], unfollowed := true, recurses := true, named := ["internal/bytealg.MaxLen"], apart := false }
def SnapBackSaid : Prop := snapBackRow.holds Try.pinned (OpenSpec.ofChange snapBackSpec)

/-- ITS FALSE NEIGHBOUR: 'it returns false'. Refute it at one input. -/
def snapBackWrong : ChangeSpec := { name := "snapBack", fn := fun _ => fun
  | [d1, d2] => { results := [.lit (.bool false)], args := [d1, d2] }
  | _ => none }
def SnapBackWrongFalsely : Prop := snapBackRow.holds Try.pinned (OpenSpec.ofChange snapBackWrong)

/-- 'monticulelaw08.SnapOrders': WHATEVER THE INPUT: true; the input reads as it did. -/
def snapOrdersSpec : ChangeSpec := { name := "snapOrders", fn := fun _ => fun
  | [d1, d2, d3] => { results := [.lit (.bool true)], args := [d1, d2, d3] }
  | _ => none }
def snapOrdersRow : OpenClaim := { program := "ytecjecdgjmipcaa", sum := "20055f6c19cc1faa6e24782eb110624e9a738ff20f72244b05ed5afa8e140109", func := "monticule/monticulelaw08.SnapOrders", spec := "snapOrders", inPlace := ["internal/bytealg.IndexByteString", "internal/bytealg.IndexString"], unfollowed := true, recurses := true, named := ["internal/bytealg.MaxLen"], apart := false }
def SnapOrdersSaid : Prop := snapOrdersRow.holds Try.pinned (OpenSpec.ofChange snapOrdersSpec)

/-- ITS FALSE NEIGHBOUR: 'it returns false'. Refute it at one input. -/
def snapOrdersWrong : ChangeSpec := { name := "snapOrders", fn := fun _ => fun
  | [d1, d2, d3] => { results := [.lit (.bool false)], args := [d1, d2, d3] }
  | _ => none }
def SnapOrdersWrongFalsely : Prop := snapOrdersRow.holds Try.pinned (OpenSpec.ofChange snapOrdersWrong)

/- THE SECOND FORM. 'bulk': how many values and letters a reading holds, each counted each time it is reached (what is shared counts as often as it is met; a slice's spare places count too). A statement '..UptoSaid' is the law's where the arguments, and the package variables that the reading takes, are together of bulk at most 1048576: NARROWER than '..Said'. Prove '..Said' where nothing that the law and all that it calls make is longer than what came in: it says more and counts as full. Else prove '..UptoSaid'. A law counts once. -/
mutual
def uptoBulk {H : Type} : DataW H → Nat
  | .lit (.string bytes) => bytes.length + 1
  | .lit _ => 1
  | .nil => 1
  | .ptr d => uptoBulk d + 1
  | .slice elems spare => uptoBulkAll elems + uptoBulkAll spare + 1
  | .agg parts => uptoBulkAll parts + 1
  | .iface _ d => uptoBulk d + 1
  | .map entries => uptoBulkEntries entries + 1
  | .held _ => 1
def uptoBulkAll {H : Type} : List (DataW H) → Nat
  | [] => 0
  | d :: r => uptoBulk d + uptoBulkAll r
def uptoBulkEntries {H : Type} : List (Lit × DataW H) → Nat
  | [] => 0
  | x :: r => uptoBulkEntry x + uptoBulkEntries r
def uptoBulkEntry {H : Type} : Lit × DataW H → Nat
  | (.string bytes, d) => bytes.length + uptoBulk d + 1
  | (_, d) => uptoBulk d + 1
 end
def uptoSmall : (H : Type) → List (DataW H) → Bool := fun _ ds => decide (uptoBulkAll ds ≤ 1048576)
def OpenSpec.upto (s : _root_.Go.ChangeSpec) : _root_.Go.OpenSpec := { _root_.Go.OpenSpec.ofChange s with cond := some uptoSmall }

/-- 'monticulelaw09.DiffTurns', WHERE WHAT IT READS IS OF BULK AT MOST 1048576: true; the input reads as it did. -/
def diffTurnsUptoRow : OpenClaim := { program := "ytecjecdgjmipcaa", sum := "20055f6c19cc1faa6e24782eb110624e9a738ff20f72244b05ed5afa8e140109", func := "monticule/monticulelaw09.DiffTurns", spec := "diffTurns", inPlace := ["internal/bytealg.IndexByteString", "internal/bytealg.IndexString"], unfollowed := true, recurses := true, named := ["internal/bytealg.MaxLen"], apart := false, narrowed := true }
def DiffTurnsUptoSaid : Prop := diffTurnsUptoRow.holds Try.pinned (OpenSpec.upto diffTurnsSpec)

/-- 'monticulelaw09.DiffChains', WHERE WHAT IT READS IS OF BULK AT MOST 1048576: true; the input reads as it did. -/
def diffChainsUptoRow : OpenClaim := { program := "ytecjecdgjmipcaa", sum := "20055f6c19cc1faa6e24782eb110624e9a738ff20f72244b05ed5afa8e140109", func := "monticule/monticulelaw09.DiffChains", spec := "diffChains", inPlace := ["internal/bytealg.IndexByteString", "internal/bytealg.IndexString"], unfollowed := true, recurses := true, named := ["internal/bytealg.MaxLen"], apart := false, narrowed := true }
def DiffChainsUptoSaid : Prop := diffChainsUptoRow.holds Try.pinned (OpenSpec.upto diffChainsSpec)

/-- 'monticulelaw08.SnapChanges', WHERE WHAT IT READS IS OF BULK AT MOST 1048576: true; the input reads as it did. -/
def snapChangesUptoRow : OpenClaim := { program := "ytecjecdgjmipcaa", sum := "20055f6c19cc1faa6e24782eb110624e9a738ff20f72244b05ed5afa8e140109", func := "monticule/monticulelaw08.SnapChanges", spec := "snapChanges", inPlace := ["internal/bytealg.IndexByteString", "internal/bytealg.IndexString"], unfollowed := true, recurses := true, named := ["internal/bytealg.MaxLen"], apart := false, narrowed := true }
def SnapChangesUptoSaid : Prop := snapChangesUptoRow.holds Try.pinned (OpenSpec.upto snapChangesSpec)

/-- 'monticulelaw08.SnapBack', WHERE WHAT IT READS IS OF BULK AT MOST 1048576: true; the input reads as it did. -/
def snapBackUptoRow : OpenClaim := { program := "ytecjecdgjmipcaa", sum := "20055f6c19cc1faa6e24782eb110624e9a738ff20f72244b05ed5afa8e140109", func := "monticule/monticulelaw08.SnapBack", spec := "snapBack", inPlace := ["internal/bytealg.IndexByteString", "internal/bytealg.IndexString"], unfollowed := true, recurses := true, named := ["internal/bytealg.MaxLen"], apart := false, narrowed := true }
def SnapBackUptoSaid : Prop := snapBackUptoRow.holds Try.pinned (OpenSpec.upto snapBackSpec)

/-- 'monticulelaw08.SnapOrders', WHERE WHAT IT READS IS OF BULK AT MOST 1048576: true; the input reads as it did. -/
def snapOrdersUptoRow : OpenClaim := { program := "ytecjecdgjmipcaa", sum := "20055f6c19cc1faa6e24782eb110624e9a738ff20f72244b05ed5afa8e140109", func := "monticule/monticulelaw08.SnapOrders", spec := "snapOrders", inPlace := ["internal/bytealg.IndexByteString", "internal/bytealg.IndexString"], unfollowed := true, recurses := true, named := ["internal/bytealg.MaxLen"], apart := false, narrowed := true }
def SnapOrdersUptoSaid : Prop := snapOrdersUptoRow.holds Try.pinned (OpenSpec.upto snapOrdersSpec)

end Rows
end Go.Proofs.Ytecjecdgjmipcaa
