/-
  No cell of these rows narrows 'for every input' (looked for: loops, veiled, ifaces, maps, wideKeys, modest, calm, conditions, laid).
  DERIVED. THE GIVEN ROWS OF THIS SEAT. 4 by the template 'for every input the law returns true; each argument reads behind the call as it read before'; 0 by the template 'total and deterministic' (their statements: YtlnincdmdegaoaaGreatTotals.lean).
  GIVEN WITH THE SEED: the statements are not yours to turn. If you find one false, say at which input.
  Laid BY PROGRAM, IN A SANDBOX (cutbox-rows.mjs): the forced cells as the released guide's own fill.sh prints them over the translation 9345e78dd2950a52… (all of the seat's roots in one cut). By AI agents, Wed Nov 11 2026. No macro, syntax, notation, axiom, sorry.
-/
import Derived.Test.YtlnincdmdegaoaaGreatChecked
import GoSem.Claim
import GoSem.ClaimJoined
import GoSem.ClaimMapViews
import Derived.JoinedTies
import Derived.KernelRfl
namespace Go.Proofs.YtlnincdmdegaoaaGreat
/- THE CELL 'sum', in the pinned program and in every row, IS THE sha256 OF THE DUMP (.gsa) THAT YtlnincdmdegaoaaGreatProg.lean LOADS. Nothing in Lean hashes anything: it is a label: what it is worth is what the hold of that sum in a sandbox is worth. -/
noncomputable def Tryz.pinned : Pinned := { name := "ytlnincdmdegaoaagreat", sum := "9345e78dd2950a52b1d2cf4b3fb6488c155e6cfa25845a4173855e724963f8c7", checked := Tryz.checked }
namespace Rows
def none {H : Type} : Left H := { results := [], args := [] }

/-- 'monticulelaw10.MergeMerges': WHATEVER THE INPUT: true; the input reads as it did. -/
def mergeMergesSpec : ChangeSpec := { name := "mergeMerges", fn := fun _ => fun
  | [d] => { results := [.lit (.bool true)], args := [d] }
  | _ => none }
def mergeMergesRow : OpenClaim := { program := "ytlnincdmdegaoaagreat", sum := "9345e78dd2950a52b1d2cf4b3fb6488c155e6cfa25845a4173855e724963f8c7", func := "monticule/monticulelaw10.MergeMerges", spec := "mergeMerges", inPlace := ["internal/bytealg.IndexByteString", "internal/bytealg.IndexString"], unfollowed := true, recurses := true, named := ["internal/bytealg.MaxLen"], apart := false }
def MergeMergesSaid : Prop := mergeMergesRow.holds Tryz.pinned (OpenSpec.ofChange mergeMergesSpec)

/-- ITS FALSE NEIGHBOUR: 'it returns false'. Refute it at one input. -/
def mergeMergesWrong : ChangeSpec := { name := "mergeMerges", fn := fun _ => fun
  | [d] => { results := [.lit (.bool false)], args := [d] }
  | _ => none }
def MergeMergesWrongFalsely : Prop := mergeMergesRow.holds Tryz.pinned (OpenSpec.ofChange mergeMergesWrong)

/-- 'monticulelaw10.MergeOnes': WHATEVER THE INPUT: true; the input reads as it did. -/
def mergeOnesSpec : ChangeSpec := { name := "mergeOnes", fn := fun _ => fun
  | [d] => { results := [.lit (.bool true)], args := [d] }
  | _ => none }
def mergeOnesRow : OpenClaim := { program := "ytlnincdmdegaoaagreat", sum := "9345e78dd2950a52b1d2cf4b3fb6488c155e6cfa25845a4173855e724963f8c7", func := "monticule/monticulelaw10.MergeOnes", spec := "mergeOnes", inPlace := ["internal/bytealg.IndexByteString", "internal/bytealg.IndexString"], unfollowed := true, recurses := true, named := ["internal/bytealg.MaxLen"], apart := false }
def MergeOnesSaid : Prop := mergeOnesRow.holds Tryz.pinned (OpenSpec.ofChange mergeOnesSpec)

/-- ITS FALSE NEIGHBOUR: 'it returns false'. Refute it at one input. -/
def mergeOnesWrong : ChangeSpec := { name := "mergeOnes", fn := fun _ => fun
  | [d] => { results := [.lit (.bool false)], args := [d] }
  | _ => none }
def MergeOnesWrongFalsely : Prop := mergeOnesRow.holds Tryz.pinned (OpenSpec.ofChange mergeOnesWrong)

/-- 'monticulelaw10.MergeSides': WHATEVER THE INPUT: true; the input reads as it did. -/
def mergeSidesSpec : ChangeSpec := { name := "mergeSides", fn := fun _ => fun
  | [d] => { results := [.lit (.bool true)], args := [d] }
  | _ => none }
def mergeSidesRow : OpenClaim := { program := "ytlnincdmdegaoaagreat", sum := "9345e78dd2950a52b1d2cf4b3fb6488c155e6cfa25845a4173855e724963f8c7", func := "monticule/monticulelaw10.MergeSides", spec := "mergeSides", inPlace := ["internal/bytealg.IndexByteString", "internal/bytealg.IndexString"], unfollowed := true, recurses := true, named := ["internal/bytealg.MaxLen"], apart := false }
def MergeSidesSaid : Prop := mergeSidesRow.holds Tryz.pinned (OpenSpec.ofChange mergeSidesSpec)

/-- ITS FALSE NEIGHBOUR: 'it returns false'. Refute it at one input. -/
def mergeSidesWrong : ChangeSpec := { name := "mergeSides", fn := fun _ => fun
  | [d] => { results := [.lit (.bool false)], args := [d] }
  | _ => none }
def MergeSidesWrongFalsely : Prop := mergeSidesRow.holds Tryz.pinned (OpenSpec.ofChange mergeSidesWrong)

/-- 'monticulelaw10.MergeChooses': WHATEVER THE INPUT: true; the input reads as it did. -/
def mergeChoosesSpec : ChangeSpec := { name := "mergeChooses", fn := fun _ => fun
  | [d] => { results := [.lit (.bool true)], args := [d] }
  | _ => none }
def mergeChoosesRow : OpenClaim := { program := "ytlnincdmdegaoaagreat", sum := "9345e78dd2950a52b1d2cf4b3fb6488c155e6cfa25845a4173855e724963f8c7", func := "monticule/monticulelaw10.MergeChooses", spec := "mergeChooses", inPlace := ["internal/bytealg.IndexByteString", "internal/bytealg.IndexString"], unfollowed := true, recurses := true, named := ["internal/bytealg.MaxLen"], apart := false }
def MergeChoosesSaid : Prop := mergeChoosesRow.holds Tryz.pinned (OpenSpec.ofChange mergeChoosesSpec)

/-- ITS FALSE NEIGHBOUR: 'it returns false'. Refute it at one input. -/
def mergeChoosesWrong : ChangeSpec := { name := "mergeChooses", fn := fun _ => fun
  | [d] => { results := [.lit (.bool false)], args := [d] }
  | _ => none }
def MergeChoosesWrongFalsely : Prop := mergeChoosesRow.holds Tryz.pinned (OpenSpec.ofChange mergeChoosesWrong)

/- THE SECOND FORM. 'bulk': how many values and letters a reading holds, each counted each time it is reached (what is shared counts as often as it is met; a slice's spare places count too). A statement '..UptoSaid' is the law's where the arguments, and the package variables that the reading takes, are together of bulk at most 1048576: NARROWER than '..Said'. Prove '..Said' where nothing that the law and all that it calls make is longer than what came in: it says more and counts as full. Else prove '..UptoSaid'. A law counts once. -/
mutual
def uptoBulk {H : Type} : DataW H → Nat
  | .lit (.string bytes) => bytes.length + 1
  | .lit _ => 1
  | .nil => 1
  | .ptr d => uptoBulk d + 1
  | .slice elems spare => uptoBulkAll elems + uptoBulkAll spare + 1
  | .agg parts => uptoBulkAll parts + 1
  | .iface _ d => uptoBulk d + 1
  | .map entries => uptoBulkEntries entries + 1
  | .held _ => 1
def uptoBulkAll {H : Type} : List (DataW H) → Nat
  | [] => 0
  | d :: r => uptoBulk d + uptoBulkAll r
def uptoBulkEntries {H : Type} : List (Lit × DataW H) → Nat
  | [] => 0
  | x :: r => uptoBulkEntry x + uptoBulkEntries r
def uptoBulkEntry {H : Type} : Lit × DataW H → Nat
  | (.string bytes, d) => bytes.length + uptoBulk d + 1
  | (_, d) => uptoBulk d + 1
 end
def uptoSmall : (H : Type) → List (DataW H) → Bool := fun _ ds => decide (uptoBulkAll ds ≤ 1048576)
def OpenSpec.upto (s : _root_.Go.ChangeSpec) : _root_.Go.OpenSpec := { _root_.Go.OpenSpec.ofChange s with cond := some uptoSmall }

/-- 'monticulelaw10.MergeMerges', WHERE WHAT IT READS IS OF BULK AT MOST 1048576: true; the input reads as it did. -/
def mergeMergesUptoRow : OpenClaim := { program := "ytlnincdmdegaoaagreat", sum := "9345e78dd2950a52b1d2cf4b3fb6488c155e6cfa25845a4173855e724963f8c7", func := "monticule/monticulelaw10.MergeMerges", spec := "mergeMerges", inPlace := ["internal/bytealg.IndexByteString", "internal/bytealg.IndexString"], unfollowed := true, recurses := true, named := ["internal/bytealg.MaxLen"], apart := false, narrowed := true }
def MergeMergesUptoSaid : Prop := mergeMergesUptoRow.holds Tryz.pinned (OpenSpec.upto mergeMergesSpec)

/-- 'monticulelaw10.MergeOnes', WHERE WHAT IT READS IS OF BULK AT MOST 1048576: true; the input reads as it did. -/
def mergeOnesUptoRow : OpenClaim := { program := "ytlnincdmdegaoaagreat", sum := "9345e78dd2950a52b1d2cf4b3fb6488c155e6cfa25845a4173855e724963f8c7", func := "monticule/monticulelaw10.MergeOnes", spec := "mergeOnes", inPlace := ["internal/bytealg.IndexByteString", "internal/bytealg.IndexString"], unfollowed := true, recurses := true, named := ["internal/bytealg.MaxLen"], apart := false, narrowed := true }
def MergeOnesUptoSaid : Prop := mergeOnesUptoRow.holds Tryz.pinned (OpenSpec.upto mergeOnesSpec)

/-- 'monticulelaw10.MergeSides', WHERE WHAT IT READS IS OF BULK AT MOST 1048576: true; the input reads as it did. -/
def mergeSidesUptoRow : OpenClaim := { program := "ytlnincdmdegaoaagreat", sum := "9345e78dd2950a52b1d2cf4b3fb6488c155e6cfa25845a4173855e724963f8c7", func := "monticule/monticulelaw10.MergeSides", spec := "mergeSides", inPlace := ["internal/bytealg.IndexByteString", "internal/bytealg.IndexString"], unfollowed := true, recurses := true, named := ["internal/bytealg.MaxLen"], apart := false, narrowed := true }
def MergeSidesUptoSaid : Prop := mergeSidesUptoRow.holds Tryz.pinned (OpenSpec.upto mergeSidesSpec)

/-- 'monticulelaw10.MergeChooses', WHERE WHAT IT READS IS OF BULK AT MOST 1048576: true; the input reads as it did. -/
def mergeChoosesUptoRow : OpenClaim := { program := "ytlnincdmdegaoaagreat", sum := "9345e78dd2950a52b1d2cf4b3fb6488c155e6cfa25845a4173855e724963f8c7", func := "monticule/monticulelaw10.MergeChooses", spec := "mergeChooses", inPlace := ["internal/bytealg.IndexByteString", "internal/bytealg.IndexString"], unfollowed := true, recurses := true, named := ["internal/bytealg.MaxLen"], apart := false, narrowed := true }
def MergeChoosesUptoSaid : Prop := mergeChoosesUptoRow.holds Tryz.pinned (OpenSpec.upto mergeChoosesSpec)

end Rows
end Go.Proofs.YtlnincdmdegaoaaGreat
