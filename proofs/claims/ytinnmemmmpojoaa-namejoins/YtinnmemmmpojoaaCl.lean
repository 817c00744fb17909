/-
  CONTRACT of slices.Clone on bytes.
-/
import Derived.Test.YtinnmemmmpojoaaRows
import Derived.Test.YtinnmemmmpojoaaMk
namespace Go.Proofs.Ytinnmemmmpojoaa
open Go.RowKit Go.Mk

theorem Try.infoByte : (Try.prog.info? 5).map (fun i => (i.zero, i.size, i.bytes)) = some (some (.int .u8 0), 1, 1) := by kernel_rfl

end Go.Proofs.Ytinnmemmmpojoaa
