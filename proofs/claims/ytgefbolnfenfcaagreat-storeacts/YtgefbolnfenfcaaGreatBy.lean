/-
  []byte(s), over no program: the new row's bytes lie there; what lay, lies.
-/
import Derived.Test.YtgefbolnfenfcaaGreatMk
import Derived.Lib.ConvBytes
namespace Go.Mk
open Go.RowKit

theorem lies_bytes' (w : World) (e : TypeId) (l : List UInt8) : Lies (Lib.bytesWorld w e (bs l)) (Lib.bytesWorld w e (bs l)).heap.size (some ⟨w.heap.size, 0, none⟩) (l.map bv) := by
  intro _
  refine ⟨w.heap.size, 0, rfl, by rw [Lib.bytesWorld_size]; omega, fun j u hu => ?_⟩
  have hj : j < l.length := by
    have := (List.getElem?_eq_some_iff.1 hu).1
    simpa using this
  rw [Nat.zero_add, Lib.bytesWorld_cell w e (bs l) j (by rw [bs_size]; exact hj), ← hu]
  simp [bs_toList, hj, bv]

theorem kept_bytes (w : World) (e : TypeId) (s : ByteArray) : Kept (fun _ => False) w (Lib.bytesWorld w e s) :=
  ⟨rfl, rfl, rfl, by rw [Lib.bytesWorld_size]; omega, fun k hk _ => Lib.bytesWorld_at_old w e s k hk⟩

theorem Kept.bytes {S : Nat → Prop} {a w : World} (h : Kept S a w) (e : TypeId) (s : ByteArray) : Kept S a (Lib.bytesWorld w e s) := h.trans (kept_bytes w e s) (fun _ _ h => h.elim)

/-- A string's two texts are the same or not. -/
theorem bs_eq (l m : List UInt8) : ((bs l).toList == (bs m).toList) = decide (l = m) := by
  rw [bs_list, bs_list]
  by_cases h : l = m
  · subst h; simp
  · simp [h]

end Go.Mk
