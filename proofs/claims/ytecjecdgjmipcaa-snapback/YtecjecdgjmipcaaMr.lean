/-
  CONTRACTS of the reference's Reader.
-/
import Derived.Test.YtecjecdgjmipcaaRt
import Derived.RegionTactic
namespace Go.Proofs.Ytecjecdgjmipcaa
open Go.RowKit Go.Mk

theorem wrap_u64_in (n : Nat) (h : n < 18446744073709551616) : IntKind.u64.wrap (n : Int) = (n : Int) := by rw [IntKind.wrap_u64]; omega

theorem val_wrap (n : Nat) (x : UInt8) (h : n * 256 + 256 ≤ 18446744073709551616) : IntKind.u64.wrap ((n : Int) * 256 + IntKind.u64.wrap (x.toNat : Int)) = ((n * 256 + x.toNat : Nat) : Int) := by
  have h1 := x.toNat_lt
  rw [wrap_u64_in _ (by omega), show (n : Int) * 256 + (x.toNat : Int) = ((n * 256 + x.toNat : Nat) : Int) by omega, wrap_u64_in _ (by omega)]

/-- The reference's Reader at block b. -/
structure Mr (w : World) (b : Nat) (s : RS) : Prop where
  c0 : w.cell? ⟨b, 0, none⟩ = some (.string (bs s.rest))
  c1 : w.cell? ⟨b, 1, none⟩ = some (.int .i64 s.err)
  f0 : w.frozen? ⟨b, 0, none⟩ = false
  f1 : w.frozen? ⟨b, 1, none⟩ = false

theorem Mr.lt {w : World} {b : Nat} {s : RS} (h : Mr w b s) : b < w.heap.size := World.block_lt_of_cell? _ _ h.c0
theorem Mr.put0 {w : World} {b : Nat} {s : RS} (h : Mr w b s) (l : List UInt8) : Mr (w.setCell ⟨b, 0, none⟩ (.string (bs l))) b ⟨l, s.err⟩ := by
  refine ⟨World.cell?_setCell_same _ _ _ h.c0, ?_, ?_, ?_⟩
  · rw [World.cell?_setCell_other _ _ _ _ (by simp)]; exact h.c1
  · rw [World.frozen?_setCell]; exact h.f0
  · rw [World.frozen?_setCell]; exact h.f1
theorem Mr.put1 {w : World} {b : Nat} {s : RS} (h : Mr w b s) (e : Int) : Mr (w.setCell ⟨b, 1, none⟩ (.int .i64 e)) b ⟨s.rest, e⟩ := by
  refine ⟨?_, World.cell?_setCell_same _ _ _ h.c1, ?_, ?_⟩
  · rw [World.cell?_setCell_other _ _ _ _ (by simp)]; exact h.c0
  · rw [World.frozen?_setCell]; exact h.f0
  · rw [World.frozen?_setCell]; exact h.f1
theorem Mr.kept {S : Nat → Prop} {w w' : World} {b : Nat} {s : RS} (h : Mr w b s) (hk : Kept S w w') (hb : ¬ S b) : Mr w' b s := by
  have hlt := h.lt
  exact ⟨(hk.cell (p := ⟨b, 0, none⟩) hlt hb).trans h.c0, (hk.cell (p := ⟨b, 1, none⟩) hlt hb).trans h.c1, (hk.frozen (p := ⟨b, 0, none⟩) hlt hb).trans h.f0, (hk.frozen (p := ⟨b, 1, none⟩) hlt hb).trans h.f1⟩

def MrPost (w : World) (b : Nat) (v : Value) (s' : RS) (e : Ending) (w' : World) : Prop := e = .returned v ∧ Mr w' b s' ∧ Kept (fun k => k = b) w w'

theorem bs_takeM (l : List UInt8) (k : Nat) : (bs l).extract 0 k = bs (l.take k) := by
  apply ByteArray.ext
  simp [bs, ByteArray.data_extract]
theorem bs_drop (l : List UInt8) (k : Nat) : (bs l).extract k (bs l).size = bs (l.drop k) := by
  apply ByteArray.ext
  simp [bs, ByteArray.data_extract, ByteArray.size]
  exact List.take_of_length_le (by simp)

end Go.Proofs.Ytecjecdgjmipcaa
