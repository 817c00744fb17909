/-
  Parts of a text, over no program.
-/
import Derived.Test.YtgefbolnfenfcaaGreatBy
namespace Go.Mk
open Go.RowKit

theorem bs_take' (l : List UInt8) (k : Nat) : (bs l).extract 0 k = bs (l.take k) := by
  apply ByteArray.ext
  simp [bs, ByteArray.data_extract]
theorem bs_cut (l : List UInt8) (k e : Nat) : (bs l).extract k e = bs ((l.take e).drop k) := by
  apply ByteArray.ext
  simp [bs, ByteArray.data_extract, List.drop_take]

end Go.Mk
