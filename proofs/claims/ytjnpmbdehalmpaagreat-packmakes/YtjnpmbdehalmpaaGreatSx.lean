/-
  CONTRACTS of package snap: Put.
-/
import Derived.Test.YtjnpmbdehalmpaaGreatGSw
namespace Go.Proofs.YtjnpmbdehalmpaaGreat
open Go.RowKit Go.Mk Go.Maps

def putR (d : DD) (l : List DD) : Int × List DD :=
  if rightD d = false then (31, []) else if 500 ≤ (dropK keyD (keyD d) l).length then (21, []) else (0, putK keyD d l)

theorem Nw.post {w w0 : World} {m : List Ent} {wx : World} (h : Nw w m wx) (hk : Kept (fun _ => False) w0 w) : NwPost w0 (0, dds m) (.returned (.tuple #[.pointer (some ⟨w.heap.size + 1, 0, none⟩), .int .i64 0])) wx :=
  ⟨.pointer (some ⟨w.heap.size + 1, 0, none⟩), rfl, fun _ => ⟨_, rfl⟩, fun h => (h rfl).elim, h.sn, hk.trans h.k (fun _ _ h => h)⟩

end Go.Proofs.YtjnpmbdehalmpaaGreat
