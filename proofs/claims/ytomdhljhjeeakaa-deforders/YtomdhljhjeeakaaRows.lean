/-
  No cell of these rows narrows 'for every input' (looked for: loops, veiled, ifaces, maps, wideKeys, modest, calm, conditions, laid).
  DERIVED. THE GIVEN ROWS OF THIS SEAT. 5 by the template 'for every input the law returns true; each argument reads behind the call as it read before'; 0 by the template 'total and deterministic' (their statements: YtomdhljhjeeakaaTotals.lean).
  GIVEN WITH THE SEED: the statements are not yours to turn. If you find one false, say at which input.
  Laid BY PROGRAM, IN A SANDBOX (cutbox-rows.mjs): the forced cells as the released guide's own fill.sh prints them over the translation 0e58b1f9a06799f4… (all of the seat's roots in one cut). By AI agents, Wed Nov 11 2026. No macro, syntax, notation, axiom, sorry.
-/
import Derived.Test.YtomdhljhjeeakaaChecked
import GoSem.Claim
import GoSem.ClaimJoined
import GoSem.ClaimMapViews
import Derived.JoinedTies
import Derived.KernelRfl
namespace Go.Proofs.Ytomdhljhjeeakaa
/- THE CELL 'sum', in the pinned program and in every row, IS THE sha256 OF THE DUMP (.gsa) THAT YtomdhljhjeeakaaProg.lean LOADS. Nothing in Lean hashes anything: it is a label: what it is worth is what the hold of that sum in a sandbox is worth. -/
noncomputable def Try.pinned : Pinned := { name := "ytomdhljhjeeakaa", sum := "0e58b1f9a06799f468a3737e0c2b479dec49256fd1d5ebcc47490dc2ca249f3a", checked := Try.checked }
namespace Rows
def none {H : Type} : Left H := { results := [], args := [] }

/-- 'monticulelaw07.DefRights': WHATEVER THE INPUT: true; the input reads as it did. -/
def defRightsSpec : ChangeSpec := { name := "defRights", fn := fun _ => fun
  | [d1, d2] => { results := [.lit (.bool true)], args := [d1, d2] }
  | _ => none }
def defRightsRow : OpenClaim := { program := "ytomdhljhjeeakaa", sum := "0e58b1f9a06799f468a3737e0c2b479dec49256fd1d5ebcc47490dc2ca249f3a", func := "monticule/monticulelaw07.DefRights", spec := "defRights", inPlace := ["internal/bytealg.IndexByteString", "internal/bytealg.IndexString", "internal/bytealg.abigen_runtime_cmpstring"], unfollowed := true, recurses := true, named := ["internal/bytealg.MaxLen"], apart := false }
def DefRightsSaid : Prop := defRightsRow.holds Try.pinned (OpenSpec.ofChange defRightsSpec)

/-- ITS FALSE NEIGHBOUR: 'it returns false'. Refute it at one input. -/
def defRightsWrong : ChangeSpec := { name := "defRights", fn := fun _ => fun
  | [d1, d2] => { results := [.lit (.bool false)], args := [d1, d2] }
  | _ => none }
def DefRightsWrongFalsely : Prop := defRightsRow.holds Try.pinned (OpenSpec.ofChange defRightsWrong)

/-- 'monticulelaw07.DefSplits': WHATEVER THE INPUT: true; the input reads as it did. -/
def defSplitsSpec : ChangeSpec := { name := "defSplits", fn := fun _ => fun
  | [d] => { results := [.lit (.bool true)], args := [d] }
  | _ => none }
def defSplitsRow : OpenClaim := { program := "ytomdhljhjeeakaa", sum := "0e58b1f9a06799f468a3737e0c2b479dec49256fd1d5ebcc47490dc2ca249f3a", func := "monticule/monticulelaw07.DefSplits", spec := "defSplits", inPlace := ["internal/bytealg.IndexByteString", "internal/bytealg.IndexString"], unfollowed := true, recurses := true, named := ["internal/bytealg.MaxLen"], apart := false }
def DefSplitsSaid : Prop := defSplitsRow.holds Try.pinned (OpenSpec.ofChange defSplitsSpec)

/-- ITS FALSE NEIGHBOUR: 'it returns false'. Refute it at one input. -/
def defSplitsWrong : ChangeSpec := { name := "defSplits", fn := fun _ => fun
  | [d] => { results := [.lit (.bool false)], args := [d] }
  | _ => none }
def DefSplitsWrongFalsely : Prop := defSplitsRow.holds Try.pinned (OpenSpec.ofChange defSplitsWrong)

/-- 'monticulelaw07.DefBack': WHATEVER THE INPUT: true; the input reads as it did. -/
def defBackSpec : ChangeSpec := { name := "defBack", fn := fun _ => fun
  | [d] => { results := [.lit (.bool true)], args := [d] }
  | _ => none }
def defBackRow : OpenClaim := { program := "ytomdhljhjeeakaa", sum := "0e58b1f9a06799f468a3737e0c2b479dec49256fd1d5ebcc47490dc2ca249f3a", func := "monticule/monticulelaw07.DefBack", spec := "defBack", inPlace := ["internal/bytealg.IndexByteString", "internal/bytealg.IndexString"], unfollowed := true, recurses := true, named := ["internal/bytealg.MaxLen"], apart := false }
def DefBackSaid : Prop := defBackRow.holds Try.pinned (OpenSpec.ofChange defBackSpec)

/-- ITS FALSE NEIGHBOUR: 'it returns false'. Refute it at one input. -/
def defBackWrong : ChangeSpec := { name := "defBack", fn := fun _ => fun
  | [d] => { results := [.lit (.bool false)], args := [d] }
  | _ => none }
def DefBackWrongFalsely : Prop := defBackRow.holds Try.pinned (OpenSpec.ofChange defBackWrong)

/-- 'monticulelaw07.DefReads': WHATEVER THE INPUT: true; the input reads as it did. -/
def defReadsSpec : ChangeSpec := { name := "defReads", fn := fun _ => fun
  | [d] => { results := [.lit (.bool true)], args := [d] }
  | _ => none }
def defReadsRow : OpenClaim := { program := "ytomdhljhjeeakaa", sum := "0e58b1f9a06799f468a3737e0c2b479dec49256fd1d5ebcc47490dc2ca249f3a", func := "monticule/monticulelaw07.DefReads", spec := "defReads", inPlace := ["internal/bytealg.IndexByteString", "internal/bytealg.IndexString"], unfollowed := true, recurses := true, named := ["internal/bytealg.MaxLen"], apart := false }
def DefReadsSaid : Prop := defReadsRow.holds Try.pinned (OpenSpec.ofChange defReadsSpec)

/-- ITS FALSE NEIGHBOUR: 'it returns false'. Refute it at one input. -/
def defReadsWrong : ChangeSpec := { name := "defReads", fn := fun _ => fun
  | [d] => { results := [.lit (.bool false)], args := [d] }
  | _ => none }
def DefReadsWrongFalsely : Prop := defReadsRow.holds Try.pinned (OpenSpec.ofChange defReadsWrong)

/-- 'monticulelaw07.DefOrders': WHATEVER THE INPUT: true; the input reads as it did. -/
def defOrdersSpec : ChangeSpec := { name := "defOrders", fn := fun _ => fun
  | [d] => { results := [.lit (.bool true)], args := [d] }
  | _ => none }
def defOrdersRow : OpenClaim := { program := "ytomdhljhjeeakaa", sum := "0e58b1f9a06799f468a3737e0c2b479dec49256fd1d5ebcc47490dc2ca249f3a", func := "monticule/monticulelaw07.DefOrders", spec := "defOrders", inPlace := ["internal/bytealg.IndexByteString", "internal/bytealg.IndexString", "internal/bytealg.abigen_runtime_cmpstring"], unfollowed := true, recurses := true, named := ["internal/bytealg.MaxLen"], apart := false }
def DefOrdersSaid : Prop := defOrdersRow.holds Try.pinned (OpenSpec.ofChange defOrdersSpec)

/-- ITS FALSE NEIGHBOUR: 'it returns false'. Refute it at one input. -/
def defOrdersWrong : ChangeSpec := { name := "defOrders", fn := fun _ => fun
  | [d] => { results := [.lit (.bool false)], args := [d] }
  | _ => none }
def DefOrdersWrongFalsely : Prop := defOrdersRow.holds Try.pinned (OpenSpec.ofChange defOrdersWrong)

/- THE SECOND FORM. 'bulk': how many values and letters a reading holds, each counted each time it is reached (what is shared counts as often as it is met; a slice's spare places count too). A statement '..UptoSaid' is the law's where the arguments, and the package variables that the reading takes, are together of bulk at most 1048576: NARROWER than '..Said'. Prove '..Said' where nothing that the law and all that it calls make is longer than what came in: it says more and counts as full. Else prove '..UptoSaid'. A law counts once. -/
mutual
def uptoBulk {H : Type} : DataW H → Nat
  | .lit (.string bytes) => bytes.length + 1
  | .lit _ => 1
  | .nil => 1
  | .ptr d => uptoBulk d + 1
  | .slice elems spare => uptoBulkAll elems + uptoBulkAll spare + 1
  | .agg parts => uptoBulkAll parts + 1
  | .iface _ d => uptoBulk d + 1
  | .map entries => uptoBulkEntries entries + 1
  | .held _ => 1
def uptoBulkAll {H : Type} : List (DataW H) → Nat
  | [] => 0
  | d :: r => uptoBulk d + uptoBulkAll r
def uptoBulkEntries {H : Type} : List (Lit × DataW H) → Nat
  | [] => 0
  | x :: r => uptoBulkEntry x + uptoBulkEntries r
def uptoBulkEntry {H : Type} : Lit × DataW H → Nat
  | (.string bytes, d) => bytes.length + uptoBulk d + 1
  | (_, d) => uptoBulk d + 1
 end
def uptoSmall : (H : Type) → List (DataW H) → Bool := fun _ ds => decide (uptoBulkAll ds ≤ 1048576)
def OpenSpec.upto (s : _root_.Go.ChangeSpec) : _root_.Go.OpenSpec := { _root_.Go.OpenSpec.ofChange s with cond := some uptoSmall }

/-- 'monticulelaw07.DefRights', WHERE WHAT IT READS IS OF BULK AT MOST 1048576: true; the input reads as it did. -/
def defRightsUptoRow : OpenClaim := { program := "ytomdhljhjeeakaa", sum := "0e58b1f9a06799f468a3737e0c2b479dec49256fd1d5ebcc47490dc2ca249f3a", func := "monticule/monticulelaw07.DefRights", spec := "defRights", inPlace := ["internal/bytealg.IndexByteString", "internal/bytealg.IndexString", "internal/bytealg.abigen_runtime_cmpstring"], unfollowed := true, recurses := true, named := ["internal/bytealg.MaxLen"], apart := false, narrowed := true }
def DefRightsUptoSaid : Prop := defRightsUptoRow.holds Try.pinned (OpenSpec.upto defRightsSpec)

/-- 'monticulelaw07.DefSplits', WHERE WHAT IT READS IS OF BULK AT MOST 1048576: true; the input reads as it did. -/
def defSplitsUptoRow : OpenClaim := { program := "ytomdhljhjeeakaa", sum := "0e58b1f9a06799f468a3737e0c2b479dec49256fd1d5ebcc47490dc2ca249f3a", func := "monticule/monticulelaw07.DefSplits", spec := "defSplits", inPlace := ["internal/bytealg.IndexByteString", "internal/bytealg.IndexString"], unfollowed := true, recurses := true, named := ["internal/bytealg.MaxLen"], apart := false, narrowed := true }
def DefSplitsUptoSaid : Prop := defSplitsUptoRow.holds Try.pinned (OpenSpec.upto defSplitsSpec)

/-- 'monticulelaw07.DefBack', WHERE WHAT IT READS IS OF BULK AT MOST 1048576: true; the input reads as it did. -/
def defBackUptoRow : OpenClaim := { program := "ytomdhljhjeeakaa", sum := "0e58b1f9a06799f468a3737e0c2b479dec49256fd1d5ebcc47490dc2ca249f3a", func := "monticule/monticulelaw07.DefBack", spec := "defBack", inPlace := ["internal/bytealg.IndexByteString", "internal/bytealg.IndexString"], unfollowed := true, recurses := true, named := ["internal/bytealg.MaxLen"], apart := false, narrowed := true }
def DefBackUptoSaid : Prop := defBackUptoRow.holds Try.pinned (OpenSpec.upto defBackSpec)

/-- 'monticulelaw07.DefReads', WHERE WHAT IT READS IS OF BULK AT MOST 1048576: true; the input reads as it did. -/
def defReadsUptoRow : OpenClaim := { program := "ytomdhljhjeeakaa", sum := "0e58b1f9a06799f468a3737e0c2b479dec49256fd1d5ebcc47490dc2ca249f3a", func := "monticule/monticulelaw07.DefReads", spec := "defReads", inPlace := ["internal/bytealg.IndexByteString", "internal/bytealg.IndexString"], unfollowed := true, recurses := true, named := ["internal/bytealg.MaxLen"], apart := false, narrowed := true }
def DefReadsUptoSaid : Prop := defReadsUptoRow.holds Try.pinned (OpenSpec.upto defReadsSpec)

/-- 'monticulelaw07.DefOrders', WHERE WHAT IT READS IS OF BULK AT MOST 1048576: true; the input reads as it did. -/
def defOrdersUptoRow : OpenClaim := { program := "ytomdhljhjeeakaa", sum := "0e58b1f9a06799f468a3737e0c2b479dec49256fd1d5ebcc47490dc2ca249f3a", func := "monticule/monticulelaw07.DefOrders", spec := "defOrders", inPlace := ["internal/bytealg.IndexByteString", "internal/bytealg.IndexString", "internal/bytealg.abigen_runtime_cmpstring"], unfollowed := true, recurses := true, named := ["internal/bytealg.MaxLen"], apart := false, narrowed := true }
def DefOrdersUptoSaid : Prop := defOrdersUptoRow.holds Try.pinned (OpenSpec.upto defOrdersSpec)

end Rows
end Go.Proofs.Ytomdhljhjeeakaa
