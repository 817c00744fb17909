/-
  A definition that came in, as it lies in memory.
-/
import Derived.Test.YtjnpmbdehalmpaaGreatFits
import Derived.Test.YtjnpmbdehalmpaaGreatGNb
import Derived.Test.YtjnpmbdehalmpaaGreatGPm
namespace Go.Proofs.YtjnpmbdehalmpaaGreat
open Go.ChangeShapes Go.WideShapes Go.ChangeAt Go.RowKit Go.Mk

def tyDef : Ty := .struct (.pair (.int .i64) (.pair .str (.pair .str (.pair (.slice .str) (.pair .str (.pair .str .unit))))))

theorem strs_in {w : World} {B : Nat} {cs : List Value} {v : (Ty.slice .str).Val} (h : Fits w B (.slice .str) cs v) :
    ∃ (ao : Option Addr) (cap : Nat) (la : List (List UInt8)), cs = [.slice ao la.length cap] ∧ Lies w B ao (strs la) ∧ la.length ≤ cap ∧ cap ≤ maxLen := by
  obtain ⟨ao, cap, l, -, h1, h2, h3, _, h5, _⟩ := fits_strs h
  refine ⟨ao, cap, l.map (fun b => b.data.toList), by rw [List.length_map]; exact h1, ?_, by rw [List.length_map]; omega, h3⟩
  have e : strs (l.map (fun b => b.data.toList)) = l.map .string := by
    unfold strs
    rw [List.map_map]
    rfl
  rw [e]
  exact h5

theorem def_cells {w : World} {B : Nat} {cs : List Value} : ∀ {y : tyDef.Val} (_ : Fits w B tyDef cs y), ∃ (ao : Option Addr) (cap : Nat) (d : DD), cs = [.int .i64 d.k, .string (bs d.c), .string (bs d.p), .slice ao d.vs.length cap, .string (bs d.s), .string (bs d.t)] ∧
    Lies w B ao (strs d.vs) ∧ d.vs.length ≤ cap ∧ cap ≤ maxLen ∧ (-9223372036854775808 ≤ d.k ∧ d.k ≤ 9223372036854775807) ∧ (d.c.length ≤ maxLen ∧ d.p.length ≤ maxLen ∧ d.s.length ≤ maxLen ∧ d.t.length ≤ maxLen)
  | (k, c, p, q, s, t, ()), h => by
    obtain ⟨_, _, rfl, ⟨rfl, hk⟩, _, _, rfl, ⟨rfl, hc⟩, _, _, rfl, ⟨rfl, hp⟩, _, _, rfl, hq, _, _, rfl, ⟨rfl, hs⟩, _, _, rfl, ⟨rfl, ht⟩, h0⟩ := h
    obtain rfl := h0
    obtain ⟨ao, cap, la, rfl, g1, g2, g3⟩ := strs_in hq
    exact ⟨ao, cap, ⟨k, c.data.toList, p.data.toList, la, s.data.toList, t.data.toList⟩, rfl, g1, g2, g3, bounds_i64 hk, hc, hp, hs, ht⟩

end Go.Proofs.YtjnpmbdehalmpaaGreat
