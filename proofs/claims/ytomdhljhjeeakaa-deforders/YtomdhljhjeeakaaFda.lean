/-
  Three definitions beside each other that came in.
-/
import Derived.Test.YtomdhljhjeeakaaFdf
import Derived.OpenShut
namespace Go.Proofs.Ytomdhljhjeeakaa
open Go.ChangeShapes Go.WideShapes Go.ChangeAt Go.RowKit Go.Mk

theorem okWide_array3 {w : World} {r : _} {base : Nat} {v : Value} (h : Value.okWide Try.prog w r base 55 v) : ∃ cs, v = .agg cs := by
  have ht := Try.underlying55
  simp only [Value.okWide, ht] at h
  obtain ⟨cs, h1, _⟩ := h
  exact ⟨cs, h1⟩

theorem defs_cells {H : Type} {enc : TypeId × Value → H} {w : World} {spare : Nat → Bool} {held : Bool} {v : Value} {x : DataW H} {ps : List MemPlace} (h : DataW.Trod enc Try.prog w 0 spare held 55 v x ps) :
    ∃ (ao0 ao1 ao2 : Option Addr) (cap0 cap1 cap2 : Nat) (a b c : DD), v.cells.toList = [.int .i64 a.k, .string (bs a.c), .string (bs a.p), .slice ao0 a.vs.length cap0, .string (bs a.s), .string (bs a.t), .int .i64 b.k, .string (bs b.c), .string (bs b.p), .slice ao1 b.vs.length cap1, .string (bs b.s), .string (bs b.t), .int .i64 c.k, .string (bs c.c), .string (bs c.p), .slice ao2 c.vs.length cap2, .string (bs c.s), .string (bs c.t)] ∧ Lies w w.heap.size ao0 (strs a.vs) ∧ Lies w w.heap.size ao1 (strs b.vs) ∧ Lies w w.heap.size ao2 (strs c.vs) ∧ a.vs.length ≤ cap0 ∧ b.vs.length ≤ cap1 ∧ c.vs.length ≤ cap2 := by
  obtain ⟨fuel, hf⟩ := h
  obtain ⟨xs, m, _, _, hlen, hxl, hel⟩ := DataW.trod_array Try.underlying55 hf
  generalize v.cells.toList = cs at *
  have hz : Try.prog.cellsOf 24 = 6 := by kernel_rfl
  have hz2 : Try.prog.cellsOf 55 = 18 := by kernel_rfl
  rw [hz2] at hlen
  have each : ∀ i, i < 3 → ∃ (ao : Option Addr) (cap : Nat) (d : DD), (cs.drop (i * 6)).take 6 = [.int .i64 d.k, .string (bs d.c), .string (bs d.p), .slice ao d.vs.length cap, .string (bs d.s), .string (bs d.t)] ∧ Lies w w.heap.size ao (strs d.vs) ∧ d.vs.length ≤ cap := by
    intro i hi
    have h1 := hel i hi
    rw [hz, List.getElem?_eq_getElem (by omega)] at h1
    obtain ⟨y, hy⟩ := fits_of (enc := enc) (P := Try.prog) (w := w) (spare := spare) (held := held) tyDef (.inl 24) _ (by kernel_rfl) ⟨m, _, h1⟩ (fun _ _ h => by cases h)
    obtain ⟨ao, cap, d, e, g1, g2, _⟩ := def_cells hy
    exact ⟨ao, cap, d, e, g1, g2⟩
  obtain ⟨ao0, cap0, a, e0, la, ca⟩ := each 0 (by omega)
  obtain ⟨ao1, cap1, b, e1, lb, cb⟩ := each 1 (by omega)
  obtain ⟨ao2, cap2, c, e2, lc, cc⟩ := each 2 (by omega)
  refine ⟨ao0, ao1, ao2, cap0, cap1, cap2, a, b, c, ?_, la, lb, lc, ca, cb, cc⟩
  have hcut : cs = (cs.drop (0 * 6)).take 6 ++ ((cs.drop (1 * 6)).take 6 ++ (cs.drop (2 * 6)).take 6) := by
    have t2 : (cs.drop (2 * 6)).take 6 = cs.drop 12 := List.take_of_length_le (by rw [List.length_drop]; omega)
    have t1 : (cs.drop (1 * 6)).take 6 ++ cs.drop 12 = cs.drop 6 := by
      have := List.take_append_drop 6 (cs.drop 6)
      rwa [List.drop_drop] at this
    rw [t2, t1]
    exact (List.take_append_drop 6 cs).symm
  rw [hcut, e0, e1, e2]
  rfl

end Go.Proofs.Ytomdhljhjeeakaa
