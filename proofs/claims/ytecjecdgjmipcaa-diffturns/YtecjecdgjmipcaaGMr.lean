/-
  Lemmas towards the claim of this folder: contracts of the functions that the law reaches; joined texts.
-/
import Derived.Test.YtecjecdgjmipcaaGRs
import Derived.RegionTactic
import Derived.BigRegion
import Derived.Test.YtecjecdgjmipcaaPr
/-
  CONTRACTS of the reference's Reader.
-/
namespace Go.Proofs.Ytecjecdgjmipcaa
open Go.RowKit Go.Mk

theorem wrap_u64_in (n : Nat) (h : n < 18446744073709551616) : IntKind.u64.wrap (n : Int) = (n : Int) := by rw [IntKind.wrap_u64]; omega

theorem val_wrap (n : Nat) (x : UInt8) (h : n * 256 + 256 ≤ 18446744073709551616) : IntKind.u64.wrap ((n : Int) * 256 + IntKind.u64.wrap (x.toNat : Int)) = ((n * 256 + x.toNat : Nat) : Int) := by
  have h1 := x.toNat_lt
  rw [wrap_u64_in _ (by omega), show (n : Int) * 256 + (x.toNat : Int) = ((n * 256 + x.toNat : Nat) : Int) by omega, wrap_u64_in _ (by omega)]

/-- The reference's Reader at block b. -/
structure Mr (w : World) (b : Nat) (s : RS) : Prop where
  c0 : w.cell? ⟨b, 0, none⟩ = some (.string (bs s.rest))
  c1 : w.cell? ⟨b, 1, none⟩ = some (.int .i64 s.err)
  f0 : w.frozen? ⟨b, 0, none⟩ = false
  f1 : w.frozen? ⟨b, 1, none⟩ = false

theorem Mr.lt {w : World} {b : Nat} {s : RS} (h : Mr w b s) : b < w.heap.size := World.block_lt_of_cell? _ _ h.c0
theorem Mr.put0 {w : World} {b : Nat} {s : RS} (h : Mr w b s) (l : List UInt8) : Mr (w.setCell ⟨b, 0, none⟩ (.string (bs l))) b ⟨l, s.err⟩ := by
  refine ⟨World.cell?_setCell_same _ _ _ h.c0, ?_, ?_, ?_⟩
  · rw [World.cell?_setCell_other _ _ _ _ (by simp)]; exact h.c1
  · rw [World.frozen?_setCell]; exact h.f0
  · rw [World.frozen?_setCell]; exact h.f1
theorem Mr.put1 {w : World} {b : Nat} {s : RS} (h : Mr w b s) (e : Int) : Mr (w.setCell ⟨b, 1, none⟩ (.int .i64 e)) b ⟨s.rest, e⟩ := by
  refine ⟨?_, World.cell?_setCell_same _ _ _ h.c1, ?_, ?_⟩
  · rw [World.cell?_setCell_other _ _ _ _ (by simp)]; exact h.c0
  · rw [World.frozen?_setCell]; exact h.f0
  · rw [World.frozen?_setCell]; exact h.f1
theorem Mr.kept {S : Nat → Prop} {w w' : World} {b : Nat} {s : RS} (h : Mr w b s) (hk : Kept S w w') (hb : ¬ S b) : Mr w' b s := by
  have hlt := h.lt
  exact ⟨(hk.cell (p := ⟨b, 0, none⟩) hlt hb).trans h.c0, (hk.cell (p := ⟨b, 1, none⟩) hlt hb).trans h.c1, (hk.frozen (p := ⟨b, 0, none⟩) hlt hb).trans h.f0, (hk.frozen (p := ⟨b, 1, none⟩) hlt hb).trans h.f1⟩

def MrPost (w : World) (b : Nat) (v : Value) (s' : RS) (e : Ending) (w' : World) : Prop := e = .returned v ∧ Mr w' b s' ∧ Kept (fun k => k = b) w w'

theorem bs_takeM (l : List UInt8) (k : Nat) : (bs l).extract 0 k = bs (l.take k) := by
  apply ByteArray.ext
  simp [bs, ByteArray.data_extract]
theorem bs_drop (l : List UInt8) (k : Nat) : (bs l).extract k (bs l).size = bs (l.drop k) := by
  apply ByteArray.ext
  simp [bs, ByteArray.data_extract, ByteArray.size]
  exact List.take_of_length_le (by simp)

end Go.Proofs.Ytecjecdgjmipcaa

/-
  CONTRACTS of the reference's Reader: Text, Texts.
-/
namespace Go.Proofs.Ytecjecdgjmipcaa
open Go.RowKit Go.Mk

/-- What Texts leaves. -/
def MtPost (w : World) (b : Nat) (l : List (List UInt8)) (s' : RS) (e : Ending) (w' : World) : Prop :=
  (∃ ao cap, e = .returned (.slice ao l.length cap) ∧ w'.ownsRow w.heap.size 9 1 (.slice ao l.length cap) l.length (strs l)) ∧ Mr w' b s' ∧ Kept (fun k => k = b) w w'

theorem many_len (n : Nat) (s : RS) : (RS.many n s).1.rest.length ≤ s.rest.length := by
  induction n generalizing s with
  | zero => exact Nat.le_refl _
  | succ n ih =>
    unfold RS.many
    split
    · exact Nat.le_refl _
    · have h1 := ih s.text.1
      have h2 : s.text.1.rest.length ≤ s.rest.length := by
        have : s.num.1.rest.length ≤ s.rest.length := by
          unfold RS.num; split; exact Nat.le_refl _; split; exact Nat.le_refl _; split; exact Nat.le_refl _; simp
        unfold RS.text; split; simp; split; simp; simp; omega
      simp only
      omega

end Go.Proofs.Ytecjecdgjmipcaa

/-
  How much a reading of a definition takes (plain).
-/
namespace Go.Proofs.Ytecjecdgjmipcaa
open Go.RowKit Go.Mk

theorem num_len (s : RS) : s.num.1.rest.length ≤ s.rest.length := by
  unfold RS.num; split; exact Nat.le_refl _; split; exact Nat.le_refl _; split; exact Nat.le_refl _; simp

theorem text_len1 (s : RS) : s.text.1.rest.length ≤ s.rest.length := by
  have := num_len s
  unfold RS.text; split; simp; split; simp; simp; omega

theorem text_len2 (s : RS) : s.text.2.length ≤ s.rest.length := by
  have := num_len s
  unfold RS.text; split; simp; split; simp; simp; omega

theorem texts_len1 (s : RS) : s.texts.1.rest.length ≤ s.rest.length := by
  have h1 := num_len s
  unfold RS.texts
  split
  · exact Nat.le_refl _
  · refine Nat.le_trans (many_len _ _) ?_
    unfold RS.head
    split
    · exact h1
    · exact h1

theorem many_cnt (n : Nat) (s : RS) : (RS.many n s).2.length ≤ n := by
  induction n generalizing s with
  | zero => exact Nat.le_refl _
  | succ n ih =>
    unfold RS.many
    split
    · exact Nat.zero_le _
    · have := ih s.text.1
      simp only [List.length_cons]
      omega

theorem texts_cnt (s : RS) : s.texts.2.length ≤ 1099511627776 := by
  have hn : s.num.2.toNat ≤ 2147483647 := by
    rcases s.num_cases with ⟨_, hq⟩ | ⟨_, _, m, hm, hq⟩
    · rw [hq]; simp
    · rw [hq]; simp; omega
  unfold RS.texts
  split
  · exact Nat.zero_le _
  · have := many_cnt s.num.2.toNat s.head
    omega

theorem fields_len (s : RS) : (fieldsR s).1.rest.length ≤ s.rest.length := by
  have h1 := num_len s
  have h2 := text_len1 s.num.1
  have h3 := text_len1 s.num.1.text.1
  have h4 := text_len1 s.num.1.text.1.text.1
  have h5 := texts_len1 s.num.1.text.1.text.1
  unfold fieldsR
  split
  · dsimp only; omega
  · split
    · dsimp only; omega
    · dsimp only; omega

theorem fields_s (s : RS) (h : s.rest.length ≤ 1099511627776) : (fieldsR s).2.s.length ≤ 1099511627776 := by
  have h1 := num_len s
  have h2 := text_len1 s.num.1
  have h3 := text_len2 s.num.1.text.1
  unfold fieldsR
  split
  · simp
  · split
    · dsimp only; omega
    · simp

theorem fields_v (s : RS) : (fieldsR s).2.vs.length ≤ 1099511627776 := by
  have h1 := texts_cnt s.num.1.text.1.text.1
  unfold fieldsR
  split
  · exact h1
  · split
    · simp
    · simp

theorem judge_v (s : RS) : (judgeR (fieldsR s)).1.vs.length ≤ 1099511627776 := by
  have h1 := fields_v s
  unfold judgeR
  split
  · simp [zeroD]
  · split
    · exact h1
    · simp [zeroD]

end Go.Proofs.Ytecjecdgjmipcaa
