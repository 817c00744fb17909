/-
  Packages that came in, as they lie in memory.
-/
import Derived.Test.YtjnpmbdehalmpaaGreatFq
import Derived.Test.YtjnpmbdehalmpaaGreatGKp
namespace Go.Proofs.YtjnpmbdehalmpaaGreat
open Go.ChangeShapes Go.WideShapes Go.ChangeAt Go.RowKit Go.Mk

def tyPack : Ty := .struct (.pair .str (.pair (.int .i64) (.pair (.slice .str) (.pair (.slice tyDef) .unit))))

theorem pack_cells {w : World} {B : Nat} {cs : List Value} : ∀ {y : tyPack.Val} (_ : Fits w B tyPack cs y), ∃ p : PE, cs = [.string (bs p.n), .int .i64 p.v, .slice p.na p.ns.length p.nc, .slice p.ds.ao p.ds.es.length p.ds.cap] ∧ Pks w B p
  | (n, v, ns, ds, ()), h => by
    obtain ⟨_, _, rfl, ⟨rfl, hn⟩, _, _, rfl, ⟨rfl, hv⟩, _, _, rfl, hs, _, _, rfl, hd, h0⟩ := h
    obtain rfl := h0
    obtain ⟨ao, cap, la, rfl, g1, g2, g3⟩ := strs_in hs
    obtain ⟨sd, rfl, h1⟩ := sd_of (show Fits w B (.slice tyDef) _ ds from hd)
    exact ⟨⟨n.data.toList, v, ao, cap, la, sd⟩, rfl, ⟨g1, h1⟩⟩

end Go.Proofs.YtjnpmbdehalmpaaGreat
