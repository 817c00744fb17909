/-
  CONTRACT of strings.Clone; parts of a text.
-/
import Derived.Test.YtofpnlmlenffnaaDoorGWr
import Derived.Test.YtofpnlmlenffnaaDoorGPz9
import Derived.Lib.BufferWrite
import Derived.Lib.UnsafeStr
import Derived.Laws.MakeOwn
import Derived.Lib.Strings
namespace Go.Mk
open Go.RowKit

theorem bs_extract (l : List UInt8) (a b : Nat) : (bs l).extract a b = bs ((l.take b).drop a) := by
  apply ByteArray.ext
  rw [ByteArray.data_extract]
  simp [bs, List.drop_take]

theorem kept_of_below {w w' : World} (h : Below w.heap.size w w') : Kept (fun _ => False) w w' := (Kept.of_below h).mono (fun k hk h => by omega)

end Go.Mk
namespace Go.Proofs.YtofpnlmlenffnaaDoor
open Go.RowKit Go.Mk

set_option maxHeartbeats 1000000 in
set_option maxRecDepth 100000 in
theorem sclone_any (l : List UInt8) (w : World) (hl : l.length ≤ 1099511627776) : Calls Tryd.prog 18 #[.string (bs l)] w fun e w' => e = .returned (.string (bs l)) ∧ Kept (fun _ => False) w w' := by
  by_cases h0 : l = []
  · subst h0
    go_enter Tryd.func18, Tryd.ntmps18
    go_wp2
    go_ret
    exact ⟨rfl, Kept.refl _ _⟩
  · have hl0 : l.length ≠ 0 := by simpa using h0
    have hS : (bs l).size = l.length := bs_size l
    have hE : ¬ bs l = ByteArray.empty := fun h => by have := congrArg ByteArray.size h; rw [bs_size] at this; simp at this; exact h0 this
    have hP : 0 < (bs l).size := by omega
    have hZ : (((bs l).size : Int) == 0) = false := by rw [beq_eq_false_iff_ne]; omega
    obtain ⟨i0, hi, hz0, hz1, hz2⟩ := info_parts Tryd.infoByte
    have hinfo : (Tryd.prog.info? 5).map (·.size) = some 1 := by rw [hi]; simp [hz1]
    have hco : Tryd.prog.cellsOf 5 = 1 := by simp [Program.cellsOf, hi, hz1]
    obtain ⟨M, hM⟩ : ∃ M, M = madeCells (Value.int .u8 0).cells ((((bs l).size : Nat) : Int).toNat * i0.size) := ⟨_, rfl⟩
    have hMs : M.size = l.length := by rw [hM, size_madeCells, hz1]; simp [bs_size]
    have hmk : ∀ W : World, (Instr.makeSlice 45 (.int .i64 ((bs l).size : Int)) (.int .i64 ((bs l).size : Int))).run Tryd.prog W = .ok (.slice (some ⟨W.heap.size, 0, none⟩) (bs l).size (bs l).size) (W.alloc (.cells M 5)) := fun W => by
      have h := run_make (P := Tryd.prog) W 45 5 i0 (.int .u8 0) Tryd.underlying45 hi hz0 .i64 .i64 ((bs l).size : Int) ((bs l).size : Int) (by omega) (by omega) (by rw [hz2]; omega) (by omega)
      rw [← hM] at h
      simpa using h
    clear hM
    have hcp := Lib.run_copy_row_string (P := Tryd.prog) (w.alloc (.cells M 5)) 45 9 3 5 w.heap.size 0 (bs l).size (bs l).size (bs l) M 5 Tryd.underlying45 hinfo (heap_alloc_new w _) (Nat.le_refl _) (by omega)
    obtain ⟨Y, hY⟩ : ∃ Y, Y = (M.toList.take 0 ++ Lib.byteCells (bs l).data.toList ++ M.toList.drop (0 + (bs l).size)).toArray := ⟨_, rfl⟩
    rw [← hY] at hcp
    have hYl : Y.toList = Lib.byteCells l := by
      rw [hY, List.toList_toArray, List.take_zero, List.nil_append, List.drop_of_length_le (by rw [Array.length_toList]; omega), List.append_nil]
      rfl
    have hYs : Y.size = l.length := by rw [← Array.length_toList, hYl, Lib.byteCells_length]
    have hgY : ((w.alloc (.cells M 5)).setRow w.heap.size Y).heap[w.heap.size]? = some (.cells Y 5 (0, 0)) := setRow_heap _ _ M _ 5 (0, 0) (heap_alloc_new w _)
    have hUS := Lib.run_unsafeString_row (P := Tryd.prog) ((w.alloc (.cells M 5)).setRow w.heap.size Y) 57 3 9 5 Tryd.underlying57 hco w.heap.size Y.size (by unfold World.shape?; rw [hgY]) l h0 (by omega) (by omega)
      (fun j x hx => Lib.cells_of_row hgY Y.size j _ (by rw [List.take_of_length_le (by rw [Array.length_toList]; exact Nat.le_refl _), hYl]; simp [Lib.byteCells, hx]))
    rw [← bs_size l] at hUS
    change _ = Result.ok (Value.string (bs l)) _ at hUS
    clear hY
    have hk : Kept (fun _ => False) w (((w.alloc (.cells M 5)).setRow w.heap.size Y).freeze ⟨w.heap.size, 0, none⟩ (bs l).size) := by
      have hb1 : Below w.heap.size w (w.alloc (.cells M 5)) := (Below.refl _ w).alloc (Nat.le_refl _) _
      have hb2 : Below w.heap.size (w.alloc (.cells M 5)) ((w.alloc (.cells M 5)).setRow w.heap.size Y) := ⟨rfl, rfl, rfl, by simp, fun k hk => setRow_other _ _ _ _ (by omega)⟩
      exact kept_of_below (Lib.below_freeze (hb1.trans hb2) (p := ⟨w.heap.size, 0, none⟩) (Nat.le_refl _) _)
    have HK := Lib.hid hk
    clear hS hl0 hk hgY hYs hYl hMs
    generalize bs l = s at *
    go_enter Tryd.func18, Tryd.ntmps18
    go_wp2
    go_ret
    exact ⟨rfl, HK.out⟩

end Go.Proofs.YtofpnlmlenffnaaDoor
