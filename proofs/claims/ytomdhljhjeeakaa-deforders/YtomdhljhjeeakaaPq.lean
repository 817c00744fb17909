/-
  THE ORDER OF TEXTS (plain, over no program).
-/
import Derived.Test.YtomdhljhjeeakaaPm
import Derived.Lib.Bytealg
namespace Go.Mk

theorem cmp_cases : ∀ (x y : List UInt8), (Op.bytesLess x y = true ∧ (x == y) = false ∧ Lib.compareBytes x y = -1) ∨ (Op.bytesLess x y = false ∧ (x == y) = true ∧ Lib.compareBytes x y = 0) ∨ (Op.bytesLess x y = false ∧ (x == y) = false ∧ Lib.compareBytes x y = 1)
  | [], [] => .inr (.inl ⟨rfl, rfl, rfl⟩)
  | [], _ :: _ => .inl ⟨rfl, rfl, rfl⟩
  | _ :: _, [] => .inr (.inr ⟨rfl, rfl, rfl⟩)
  | a :: x, b :: y => by
    have ih := cmp_cases x y
    simp only [Op.bytesLess, Lib.compareBytes, List.cons_beq_cons]
    by_cases h1 : a < b
    · refine .inl ⟨by simp [h1], ?_, if_pos h1⟩
      have : a ≠ b := fun e => by rw [e] at h1; exact UInt8.lt_irrefl b h1
      simp [this]
    · by_cases h2 : b < a
      · have hne : a ≠ b := fun e => by rw [e] at h2; exact UInt8.lt_irrefl b h2
        refine .inr (.inr ⟨by simp [h1, hne], by simp [hne], by rw [if_neg h1, if_pos h2]⟩)
      · have e : a = b := UInt8.le_antisymm (UInt8.not_lt.1 h2) (UInt8.not_lt.1 h1)
        subst e
        rw [if_neg h1, if_neg h1]
        simpa [h1] using ih

theorem cmp_self (x : List UInt8) : Lib.compareBytes x x = 0 := by
  rcases cmp_cases x x with ⟨_, h, _⟩ | ⟨_, _, h⟩ | ⟨_, h, _⟩
  · simp at h
  · exact h
  · simp at h

theorem cmp_neg : ∀ (x y : List UInt8), Lib.compareBytes y x = - Lib.compareBytes x y
  | [], [] => rfl
  | [], _ :: _ => rfl
  | _ :: _, [] => rfl
  | a :: x, b :: y => by
    have ih := cmp_neg x y
    simp only [Lib.compareBytes]
    by_cases h1 : a < b
    · rw [if_neg (fun h => UInt8.lt_irrefl a (UInt8.lt_trans h1 h)), if_pos h1, if_pos h1]
      rfl
    · by_cases h2 : b < a
      · rw [if_pos h2, if_neg h1, if_pos h2]
      · rw [if_neg h2, if_neg h1, if_neg h1, if_neg h2]
        exact ih

theorem cmp_zero {x y : List UInt8} (h : Lib.compareBytes x y = 0) : x = y := by
  rcases cmp_cases x y with ⟨_, _, h'⟩ | ⟨_, h', _⟩ | ⟨_, _, h'⟩
  · rw [h] at h'; cases h'
  · exact eq_of_beq h'
  · rw [h] at h'; cases h'

theorem cmp_trans : ∀ (x y z : List UInt8), Lib.compareBytes x y ≤ 0 → Lib.compareBytes y z ≤ 0 → Lib.compareBytes x z ≤ 0
  | [], _, [], _, _ => Int.le_refl 0
  | [], _, _ :: _, _, _ => by simp only [Lib.compareBytes]; decide
  | _ :: _, [], _, h, _ => by simp only [Lib.compareBytes] at h; exact absurd h (by decide)
  | _ :: _, _ :: _, [], _, h => by simp only [Lib.compareBytes] at h; exact absurd h (by decide)
  | a :: x, b :: y, c :: z, h, h' => by
    simp only [Lib.compareBytes] at h h' ⊢
    by_cases h1 : a < c
    · rw [if_pos h1]; decide
    · rw [if_neg h1]
      have hca : c ≤ a := UInt8.not_lt.1 h1
      have hab : a ≤ b := by
        apply UInt8.not_lt.1
        intro hb
        rw [if_neg (fun h => UInt8.lt_irrefl a (UInt8.lt_trans h hb)), if_pos hb] at h
        exact absurd h (by decide)
      have hbc : b ≤ c := by
        apply UInt8.not_lt.1
        intro hb
        rw [if_neg (fun h => UInt8.lt_irrefl b (UInt8.lt_trans h hb)), if_pos hb] at h'
        exact absurd h' (by decide)
      have e1 : a = c := UInt8.le_antisymm (UInt8.le_trans hab hbc) hca
      have e2 : b = c := UInt8.le_antisymm hbc (e1 ▸ hab)
      subst e1
      subst e2
      have hi : ¬ b < b := UInt8.lt_irrefl b
      rw [if_neg hi, if_neg hi] at h h'
      rw [if_neg hi]
      exact cmp_trans x y z h h'

end Go.Mk
