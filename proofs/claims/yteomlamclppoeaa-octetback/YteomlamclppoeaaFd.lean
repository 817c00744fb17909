/-
  A slice of Fields that came in, as it lies in memory.
-/
import Derived.Test.YteomlamclppoeaaL1a
import Derived.Test.YteomlamclppoeaaFits
namespace Go.Proofs.Yteomlamclppoeaa
open Go.ChangeShapes Go.WideShapes Go.ChangeAt Go.RowKit Go.Mk

def tyField : Ty := .struct (.pair (.int .i64) (.pair (.int .i64) (.pair .str (.pair (.slice .str) .unit))))
def FD.of (y : Int × Int × ByteArray × (Option Addr × Nat × List ByteArray) × Unit) : FD := ⟨y.1, y.2.1, y.2.2.1, y.2.2.2.1.1, y.2.2.2.1.2.1, y.2.2.2.1.2.2⟩

theorem field_cells {w : World} {B : Nat} {cs : List Value} : ∀ {y : tyField.Val} (_ : Fits w B tyField cs y), cs = [.int .i64 (FD.of y).kind, .int .i64 (FD.of y).n, .string (FD.of y).s, .slice (FD.of y).la (FD.of y).ls.length (FD.of y).lc] ∧ Lies w B (FD.of y).la ((FD.of y).ls.map .string) ∧
    ((FD.of y).ls.length ≤ maxLen ∧ (FD.of y).s.size ≤ maxLen ∧ ∀ t ∈ (FD.of y).ls, t.size ≤ maxLen) ∧ -9223372036854775808 ≤ (FD.of y).n ∧ (FD.of y).n ≤ 9223372036854775807
  | (k, n, s, l, ()), h => by
    obtain ⟨_, _, rfl, ⟨rfl, _⟩, _, _, rfl, ⟨rfl, hn⟩, _, _, rfl, ⟨rfl, hs⟩, _, _, rfl, hl, h0⟩ := h
    obtain rfl := h0
    obtain ⟨ao, cap, l', rfl, rfl, h2, h3, _, h5, h6⟩ := fits_strs hl
    exact ⟨rfl, h5, ⟨Nat.le_trans h2 h3, hs, h6⟩, bounds_i64 hn⟩

theorem flds_of {w : World} {B : Nat} {cs : List Value} : ∀ {v : (Ty.slice tyField).Val} (_ : Fits w B (.slice tyField) cs v), ∃ (fa : Option Addr) (fc : Nat) (fs : List FD), cs = [.slice fa fs.length fc] ∧ Flds w B fa fs
  | (fa, fc, (l : List (Int × Int × ByteArray × (Option Addr × Nat × List ByteArray) × Unit))), h => by
    have h5 : l ≠ [] → ∃ b off, fa = some ⟨b, off, none⟩ ∧ b < B ∧ ∀ j (hj : j < l.length), ∃ cs', Fits w B tyField cs' l[j] ∧ ∀ i u, cs'[i]? = some u → w.cell? ⟨b, off + j * 4 + i, none⟩ = some u := h.2.2.2.2
    refine ⟨fa, fc, l.map FD.of, by rw [List.length_map]; exact h.1, ⟨fun hn => ?_, fun f hf => ?_, by rw [List.length_map]; exact Nat.le_trans h.2.1 h.2.2.1, fun f hf => ?_, fun f hf => ?_⟩⟩
    · obtain ⟨b, off, e, hb, hc⟩ := h5 (fun e => hn (by rw [e]; rfl))
      refine ⟨b, off, e, hb, fun j hj => ?_⟩
      obtain ⟨cs', hf, hcell⟩ := hc j (by simpa using hj)
      obtain ⟨rfl, _⟩ := field_cells hf
      simp only [List.getElem_map]
      exact ⟨hcell 0 _ rfl, hcell 1 _ rfl, hcell 2 _ rfl, hcell 3 _ rfl⟩
    · obtain ⟨y, hy, rfl⟩ := List.mem_map.1 hf
      obtain ⟨j, hj, rfl⟩ := List.mem_iff_getElem.1 hy
      obtain ⟨b, off, e, hb, hc⟩ := h5 (List.ne_nil_of_length_pos (Nat.lt_of_le_of_lt (Nat.zero_le j) hj))
      obtain ⟨cs', hf', _⟩ := hc j hj
      exact (field_cells hf').2.1
    · obtain ⟨y, hy, rfl⟩ := List.mem_map.1 hf
      obtain ⟨j, hj, rfl⟩ := List.mem_iff_getElem.1 hy
      obtain ⟨b, off, e, hb, hc⟩ := h5 (List.ne_nil_of_length_pos (Nat.lt_of_le_of_lt (Nat.zero_le j) hj))
      obtain ⟨cs', hf', _⟩ := hc j hj
      exact (field_cells hf').2.2.1
    · obtain ⟨y, hy, rfl⟩ := List.mem_map.1 hf
      obtain ⟨j, hj, rfl⟩ := List.mem_iff_getElem.1 hy
      obtain ⟨b, off, e, hb, hc⟩ := h5 (List.ne_nil_of_length_pos (Nat.lt_of_le_of_lt (Nat.zero_le j) hj))
      obtain ⟨cs', hf', _⟩ := hc j hj
      exact (field_cells hf').2.2.2

end Go.Proofs.Yteomlamclppoeaa
