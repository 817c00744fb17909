/-
  The laws of layer 3: Noughts and awake.
-/
import Derived.Test.YtgefbolnfenfcaaDd
import Derived.Test.YtgefbolnfenfcaaBy
namespace Go.Proofs.Ytgefbolnfenfcaa
open Go.RowKit Go.Mk

def la3 : List UInt8 := List.replicate 63 0 ++ [97]
def lb3 : List UInt8 := List.replicate 63 0 ++ [98]

theorem lies_row {w : World} {base : Nat} {e : TypeId} {ao : Option Addr} {n cap : Nat} {l : List UInt8} (h : w.ownsRow base e 1 (.slice ao n cap) n (l.map bv)) : Lies w w.heap.size ao (l.map bv) := owns_lies h

end Go.Proofs.Ytgefbolnfenfcaa
