/-
  No cell of these rows narrows 'for every input' (looked for: loops, veiled, ifaces, maps, wideKeys, modest, calm, conditions, laid).
  DERIVED. THE GIVEN ROWS OF THIS SEAT. 4 by the template 'for every input the law returns true; each argument reads behind the call as it read before'; 0 by the template 'total and deterministic' (their statements: YtecjecdgjmipcaaGreatTotals.lean).
  GIVEN WITH THE SEED: the statements are not yours to turn. If you find one false, say at which input.
  Laid BY PROGRAM, IN A SANDBOX (cutbox-rows.mjs): the forced cells as the released guide's own fill.sh prints them over the translation 9846c0f33d737ca0… (all of the seat's roots in one cut). By AI agents, Wed Nov 11 2026. No macro, syntax, notation, axiom, sorry.
-/
import Derived.Test.YtecjecdgjmipcaaGreatChecked
import GoSem.Claim
import GoSem.ClaimJoined
import GoSem.ClaimMapViews
import Derived.JoinedTies
import Derived.KernelRfl
namespace Go.Proofs.YtecjecdgjmipcaaGreat
/- THE CELL 'sum', in the pinned program and in every row, IS THE sha256 OF THE DUMP (.gsa) THAT YtecjecdgjmipcaaGreatProg.lean LOADS. Nothing in Lean hashes anything: it is a label: what it is worth is what the hold of that sum in a sandbox is worth. -/
noncomputable def Tryz.pinned : Pinned := { name := "ytecjecdgjmipcaagreat", sum := "9846c0f33d737ca028207c264864625d0ef2dd01eedc0cdc65c356a8461fa256", checked := Tryz.checked }
namespace Rows
def none {H : Type} : Left H := { results := [], args := [] }

/-- 'monticulelaw09.DiffOfs': WHATEVER THE INPUT: true; the input reads as it did. -/
def diffOfsSpec : ChangeSpec := { name := "diffOfs", fn := fun _ => fun
  | [d1, d2] => { results := [.lit (.bool true)], args := [d1, d2] }
  | _ => none }
def diffOfsRow : OpenClaim := { program := "ytecjecdgjmipcaagreat", sum := "9846c0f33d737ca028207c264864625d0ef2dd01eedc0cdc65c356a8461fa256", func := "monticule/monticulelaw09.DiffOfs", spec := "diffOfs", inPlace := ["internal/bytealg.IndexByteString", "internal/bytealg.IndexString"], unfollowed := true, recurses := true, named := ["internal/bytealg.MaxLen"], apart := false }
def DiffOfsSaid : Prop := diffOfsRow.holds Tryz.pinned (OpenSpec.ofChange diffOfsSpec)

/-- ITS FALSE NEIGHBOUR: 'it returns false'. Refute it at one input. -/
def diffOfsWrong : ChangeSpec := { name := "diffOfs", fn := fun _ => fun
  | [d1, d2] => { results := [.lit (.bool false)], args := [d1, d2] }
  | _ => none }
def DiffOfsWrongFalsely : Prop := diffOfsRow.holds Tryz.pinned (OpenSpec.ofChange diffOfsWrong)

/-- 'monticulelaw09.DiffApplies': WHATEVER THE INPUT: true; the input reads as it did. -/
def diffAppliesSpec : ChangeSpec := { name := "diffApplies", fn := fun _ => fun
  | [d1, d2] => { results := [.lit (.bool true)], args := [d1, d2] }
  | _ => none }
def diffAppliesRow : OpenClaim := { program := "ytecjecdgjmipcaagreat", sum := "9846c0f33d737ca028207c264864625d0ef2dd01eedc0cdc65c356a8461fa256", func := "monticule/monticulelaw09.DiffApplies", spec := "diffApplies", inPlace := ["internal/bytealg.IndexByteString", "internal/bytealg.IndexString"], unfollowed := true, recurses := true, named := ["internal/bytealg.MaxLen"], apart := false }
def DiffAppliesSaid : Prop := diffAppliesRow.holds Tryz.pinned (OpenSpec.ofChange diffAppliesSpec)

/-- ITS FALSE NEIGHBOUR: 'it returns false'. Refute it at one input. -/
def diffAppliesWrong : ChangeSpec := { name := "diffApplies", fn := fun _ => fun
  | [d1, d2] => { results := [.lit (.bool false)], args := [d1, d2] }
  | _ => none }
def DiffAppliesWrongFalsely : Prop := diffAppliesRow.holds Tryz.pinned (OpenSpec.ofChange diffAppliesWrong)

/-- 'monticulelaw08.SnapNews': WHATEVER THE INPUT: true; the input reads as it did. -/
def snapNewsSpec : ChangeSpec := { name := "snapNews", fn := fun _ => fun
  | [d1, d2, d3] => { results := [.lit (.bool true)], args := [d1, d2, d3] }
  | _ => none }
def snapNewsRow : OpenClaim := { program := "ytecjecdgjmipcaagreat", sum := "9846c0f33d737ca028207c264864625d0ef2dd01eedc0cdc65c356a8461fa256", func := "monticule/monticulelaw08.SnapNews", spec := "snapNews", inPlace := ["internal/bytealg.IndexByteString", "internal/bytealg.IndexString"], unfollowed := true, recurses := true, named := ["internal/bytealg.MaxLen"], apart := false }
def SnapNewsSaid : Prop := snapNewsRow.holds Tryz.pinned (OpenSpec.ofChange snapNewsSpec)

/-- ITS FALSE NEIGHBOUR: 'it returns false'. Refute it at one input. -/
def snapNewsWrong : ChangeSpec := { name := "snapNews", fn := fun _ => fun
  | [d1, d2, d3] => { results := [.lit (.bool false)], args := [d1, d2, d3] }
  | _ => none }
def SnapNewsWrongFalsely : Prop := snapNewsRow.holds Tryz.pinned (OpenSpec.ofChange snapNewsWrong)

/-- 'monticulelaw08.SnapParses': WHATEVER THE INPUT: true; the input reads as it did. -/
def snapParsesSpec : ChangeSpec := { name := "snapParses", fn := fun _ => fun
  | [d] => { results := [.lit (.bool true)], args := [d] }
  | _ => none }
def snapParsesRow : OpenClaim := { program := "ytecjecdgjmipcaagreat", sum := "9846c0f33d737ca028207c264864625d0ef2dd01eedc0cdc65c356a8461fa256", func := "monticule/monticulelaw08.SnapParses", spec := "snapParses", inPlace := ["internal/bytealg.IndexByteString", "internal/bytealg.IndexString"], unfollowed := true, recurses := true, named := ["internal/bytealg.MaxLen"], apart := false }
def SnapParsesSaid : Prop := snapParsesRow.holds Tryz.pinned (OpenSpec.ofChange snapParsesSpec)

/-- ITS FALSE NEIGHBOUR: 'it returns false'. Refute it at one input. -/
def snapParsesWrong : ChangeSpec := { name := "snapParses", fn := fun _ => fun
  | [d] => { results := [.lit (.bool false)], args := [d] }
  | _ => none }
def SnapParsesWrongFalsely : Prop := snapParsesRow.holds Tryz.pinned (OpenSpec.ofChange snapParsesWrong)

/- THE SECOND FORM. 'bulk': how many values and letters a reading holds, each counted each time it is reached (what is shared counts as often as it is met; a slice's spare places count too). A statement '..UptoSaid' is the law's where the arguments, and the package variables that the reading takes, are together of bulk at most 1048576: NARROWER than '..Said'. Prove '..Said' where nothing that the law and all that it calls make is longer than what came in: it says more and counts as full. Else prove '..UptoSaid'. A law counts once. -/
mutual
def uptoBulk {H : Type} : DataW H → Nat
  | .lit (.string bytes) => bytes.length + 1
  | .lit _ => 1
  | .nil => 1
  | .ptr d => uptoBulk d + 1
  | .slice elems spare => uptoBulkAll elems + uptoBulkAll spare + 1
  | .agg parts => uptoBulkAll parts + 1
  | .iface _ d => uptoBulk d + 1
  | .map entries => uptoBulkEntries entries + 1
  | .held _ => 1
def uptoBulkAll {H : Type} : List (DataW H) → Nat
  | [] => 0
  | d :: r => uptoBulk d + uptoBulkAll r
def uptoBulkEntries {H : Type} : List (Lit × DataW H) → Nat
  | [] => 0
  | x :: r => uptoBulkEntry x + uptoBulkEntries r
def uptoBulkEntry {H : Type} : Lit × DataW H → Nat
  | (.string bytes, d) => bytes.length + uptoBulk d + 1
  | (_, d) => uptoBulk d + 1
 end
def uptoSmall : (H : Type) → List (DataW H) → Bool := fun _ ds => decide (uptoBulkAll ds ≤ 1048576)
def OpenSpec.upto (s : _root_.Go.ChangeSpec) : _root_.Go.OpenSpec := { _root_.Go.OpenSpec.ofChange s with cond := some uptoSmall }

/-- 'monticulelaw09.DiffOfs', WHERE WHAT IT READS IS OF BULK AT MOST 1048576: true; the input reads as it did. -/
def diffOfsUptoRow : OpenClaim := { program := "ytecjecdgjmipcaagreat", sum := "9846c0f33d737ca028207c264864625d0ef2dd01eedc0cdc65c356a8461fa256", func := "monticule/monticulelaw09.DiffOfs", spec := "diffOfs", inPlace := ["internal/bytealg.IndexByteString", "internal/bytealg.IndexString"], unfollowed := true, recurses := true, named := ["internal/bytealg.MaxLen"], apart := false, narrowed := true }
def DiffOfsUptoSaid : Prop := diffOfsUptoRow.holds Tryz.pinned (OpenSpec.upto diffOfsSpec)

/-- 'monticulelaw09.DiffApplies', WHERE WHAT IT READS IS OF BULK AT MOST 1048576: true; the input reads as it did. -/
def diffAppliesUptoRow : OpenClaim := { program := "ytecjecdgjmipcaagreat", sum := "9846c0f33d737ca028207c264864625d0ef2dd01eedc0cdc65c356a8461fa256", func := "monticule/monticulelaw09.DiffApplies", spec := "diffApplies", inPlace := ["internal/bytealg.IndexByteString", "internal/bytealg.IndexString"], unfollowed := true, recurses := true, named := ["internal/bytealg.MaxLen"], apart := false, narrowed := true }
def DiffAppliesUptoSaid : Prop := diffAppliesUptoRow.holds Tryz.pinned (OpenSpec.upto diffAppliesSpec)

/-- 'monticulelaw08.SnapNews', WHERE WHAT IT READS IS OF BULK AT MOST 1048576: true; the input reads as it did. -/
def snapNewsUptoRow : OpenClaim := { program := "ytecjecdgjmipcaagreat", sum := "9846c0f33d737ca028207c264864625d0ef2dd01eedc0cdc65c356a8461fa256", func := "monticule/monticulelaw08.SnapNews", spec := "snapNews", inPlace := ["internal/bytealg.IndexByteString", "internal/bytealg.IndexString"], unfollowed := true, recurses := true, named := ["internal/bytealg.MaxLen"], apart := false, narrowed := true }
def SnapNewsUptoSaid : Prop := snapNewsUptoRow.holds Tryz.pinned (OpenSpec.upto snapNewsSpec)

/-- 'monticulelaw08.SnapParses', WHERE WHAT IT READS IS OF BULK AT MOST 1048576: true; the input reads as it did. -/
def snapParsesUptoRow : OpenClaim := { program := "ytecjecdgjmipcaagreat", sum := "9846c0f33d737ca028207c264864625d0ef2dd01eedc0cdc65c356a8461fa256", func := "monticule/monticulelaw08.SnapParses", spec := "snapParses", inPlace := ["internal/bytealg.IndexByteString", "internal/bytealg.IndexString"], unfollowed := true, recurses := true, named := ["internal/bytealg.MaxLen"], apart := false, narrowed := true }
def SnapParsesUptoSaid : Prop := snapParsesUptoRow.holds Tryz.pinned (OpenSpec.upto snapParsesSpec)

end Rows
end Go.Proofs.YtecjecdgjmipcaaGreat
