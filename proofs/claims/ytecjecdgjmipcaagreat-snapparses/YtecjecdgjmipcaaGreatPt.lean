/-
  How much a reading of a definition takes (plain).
-/
import Derived.Test.YtecjecdgjmipcaaGreatPr
import Derived.Test.YtecjecdgjmipcaaGreatGMr
namespace Go.Proofs.YtecjecdgjmipcaaGreat
open Go.RowKit Go.Mk

theorem num_len (s : RS) : s.num.1.rest.length ≤ s.rest.length := by
  unfold RS.num; split; exact Nat.le_refl _; split; exact Nat.le_refl _; split; exact Nat.le_refl _; simp

theorem text_len1 (s : RS) : s.text.1.rest.length ≤ s.rest.length := by
  have := num_len s
  unfold RS.text; split; simp; split; simp; simp; omega

theorem text_len2 (s : RS) : s.text.2.length ≤ s.rest.length := by
  have := num_len s
  unfold RS.text; split; simp; split; simp; simp; omega

theorem texts_len1 (s : RS) : s.texts.1.rest.length ≤ s.rest.length := by
  have h1 := num_len s
  unfold RS.texts
  split
  · exact Nat.le_refl _
  · refine Nat.le_trans (many_len _ _) ?_
    unfold RS.head
    split
    · exact h1
    · exact h1

theorem many_cnt (n : Nat) (s : RS) : (RS.many n s).2.length ≤ n := by
  induction n generalizing s with
  | zero => exact Nat.le_refl _
  | succ n ih =>
    unfold RS.many
    split
    · exact Nat.zero_le _
    · have := ih s.text.1
      simp only [List.length_cons]
      omega

theorem texts_cnt (s : RS) : s.texts.2.length ≤ 1099511627776 := by
  have hn : s.num.2.toNat ≤ 2147483647 := by
    rcases s.num_cases with ⟨_, hq⟩ | ⟨_, _, m, hm, hq⟩
    · rw [hq]; simp
    · rw [hq]; simp; omega
  unfold RS.texts
  split
  · exact Nat.zero_le _
  · have := many_cnt s.num.2.toNat s.head
    omega

theorem fields_len (s : RS) : (fieldsR s).1.rest.length ≤ s.rest.length := by
  have h1 := num_len s
  have h2 := text_len1 s.num.1
  have h3 := text_len1 s.num.1.text.1
  have h4 := text_len1 s.num.1.text.1.text.1
  have h5 := texts_len1 s.num.1.text.1.text.1
  unfold fieldsR
  split
  · dsimp only; omega
  · split
    · dsimp only; omega
    · dsimp only; omega

theorem fields_s (s : RS) (h : s.rest.length ≤ 1099511627776) : (fieldsR s).2.s.length ≤ 1099511627776 := by
  have h1 := num_len s
  have h2 := text_len1 s.num.1
  have h3 := text_len2 s.num.1.text.1
  unfold fieldsR
  split
  · simp
  · split
    · dsimp only; omega
    · simp

theorem fields_v (s : RS) : (fieldsR s).2.vs.length ≤ 1099511627776 := by
  have h1 := texts_cnt s.num.1.text.1.text.1
  unfold fieldsR
  split
  · exact h1
  · split
    · simp
    · simp

theorem judge_v (s : RS) : (judgeR (fieldsR s)).1.vs.length ≤ 1099511627776 := by
  have h1 := fields_v s
  unfold judgeR
  split
  · simp [zeroD]
  · split
    · exact h1
    · simp [zeroD]

end Go.Proofs.YtecjecdgjmipcaaGreat
