/-
  TOKENS over lists (plain): the tokens ahead of an error (P12.2).
-/
import Derived.Test.YtofpnlmlenffnaaDoorPz7
namespace Go.Mk

/-- The tokens one after the other, up to where the text is wrong. -/
def goPre : Nat → Nat → List UInt8 → List TK
  | 0, a, _ => [⟨0, [], 0, a⟩]
  | _ + 1, a, [] => [⟨0, [], 0, a⟩]
  | f + 1, a, c :: r =>
    if blankB c = true then goPre f (a + 1) r
    else if c = 34 then
      if (r.takeWhile (· != 34)).length = r.length then []
      else goPre f (a + (r.takeWhile (· != 34)).length + 2) (r.drop ((r.takeWhile (· != 34)).length + 1))
    else match tokL (c :: r) with
      | none => []
      | some (k, x, n, m) => ⟨k, x, n, a⟩ :: goPre f (a + m) ((c :: r).drop m)

def streamL (l : List UInt8) : List TK := goPre (l.length + 1) 0 l

theorem pre_nil (f a : Nat) : goPre f a [] = [⟨0, [], 0, a⟩] := by cases f <;> rfl
theorem pre_cons (f a : Nat) (c : UInt8) (r : List UInt8) : goPre (f + 1) a (c :: r) =
    if blankB c = true then goPre f (a + 1) r
    else if c = 34 then
      if (r.takeWhile (· != 34)).length = r.length then []
      else goPre f (a + (r.takeWhile (· != 34)).length + 2) (r.drop ((r.takeWhile (· != 34)).length + 1))
    else match tokL (c :: r) with
      | none => []
      | some (k, x, n, m) => ⟨k, x, n, a⟩ :: goPre f (a + m) ((c :: r).drop m) := rfl

theorem pre_ok : ∀ (n f a : Nat) (l : List UInt8), l.length ≤ n → (goAll f a l).1 = 0 → goPre f a l = (goAll f a l).2.2 := by
  intro n
  induction n with
  | zero => intro f a l h _; obtain rfl := List.eq_nil_of_length_eq_zero (show l.length = 0 by omega); rw [go_nil, pre_nil]
  | succ n ih =>
    intro f a l h h0
    cases l with
    | nil => rw [go_nil, pre_nil]
    | cons c r =>
      cases f with
      | zero => rfl
      | succ f =>
        simp only [List.length_cons] at h
        rw [go_cons] at h0 ⊢
        rw [pre_cons]
        by_cases h1 : blankB c = true
        · rw [if_pos h1] at h0 ⊢; rw [if_pos h1]
          exact ih f _ r (by omega) h0
        · rw [if_neg h1] at h0 ⊢; rw [if_neg h1]
          by_cases h2 : c = 34
          · rw [if_pos h2] at h0 ⊢; rw [if_pos h2]
            by_cases h3 : (r.takeWhile (· != 34)).length = r.length
            · rw [if_pos h3] at h0; simp at h0
            · rw [if_neg h3] at h0 ⊢; rw [if_neg h3]
              exact ih f _ _ (by rw [List.length_drop]; omega) h0
          · rw [if_neg h2] at h0 ⊢; rw [if_neg h2]
            cases ht : tokL (c :: r) with
            | none => rfl
            | some t =>
              obtain ⟨k, x, n', m⟩ := t
              have h3 := tok_len ht
              simp only [List.length_cons] at h3
              rw [ht] at h0
              dsimp only at h0 ⊢
              by_cases h4 : (goAll f (a + m) ((c :: r).drop m)).1 = 0
              · have h5 : ((c :: r).drop m).length ≤ n := by simp only [List.length_drop, List.length_cons]; omega
                rw [if_pos h4, ih f (a + m) _ h5 h4]
              · rw [if_neg h4] at h0
                exact (h4 h0).elim

theorem tok_assign (t : List UInt8) : tokL (58 :: 61 :: t) = some (7, [58, 61], 0, 2) := by
  simp only [tokL]
  rw [if_neg (by decide), if_neg (by decide), if_neg (by decide), if_neg (by decide), if_pos (by simp)]

theorem pre_err : ∀ (n f a : Nat) (l : List UInt8), l.length ≤ n → (goAll f a l).1 ≠ 0 →
    ∃ d, d ≤ l.length ∧ (goAll f a l).2.1 = ((a + d : Nat) : Int) ∧ ∀ F, d < F → goAll F a (l.take d) = (0, 0, goPre f a l ++ [⟨0, [], 0, ((a + d : Nat) : Int)⟩]) := by
  intro n
  induction n with
  | zero => intro f a l h h0; obtain rfl := List.eq_nil_of_length_eq_zero (show l.length = 0 by omega); rw [go_nil] at h0; simp at h0
  | succ n ih =>
    intro f a l h h0
    cases l with
    | nil => rw [go_nil] at h0; simp at h0
    | cons c r =>
      cases f with
      | zero => simp [goAll] at h0
      | succ f =>
        simp only [List.length_cons] at h
        rw [go_cons] at h0 ⊢
        rw [pre_cons]
        by_cases h1 : blankB c = true
        · rw [if_pos h1] at h0 ⊢; rw [if_pos h1]
          obtain ⟨d, g1, g2, g3⟩ := ih f (a + 1) r (by omega) h0
          refine ⟨d + 1, by simp; omega, by rw [g2]; congr 1; omega, fun F hF => ?_⟩
          obtain ⟨F', rfl⟩ : ∃ F', F = F' + 1 := ⟨F - 1, by omega⟩
          rw [List.take_succ_cons, go_cons, if_pos h1, g3 F' (by omega), show a + 1 + d = a + (d + 1) by omega]
        · rw [if_neg h1] at h0 ⊢; rw [if_neg h1]
          by_cases h2 : c = 34
          · rw [if_pos h2] at h0 ⊢; rw [if_pos h2]
            by_cases h3 : (r.takeWhile (· != 34)).length = r.length
            · rw [if_pos h3, if_pos h3]
              exact ⟨0, by omega, rfl, fun F _ => by rw [List.take_zero, go_nil]; rfl⟩
            · rw [if_neg h3] at h0 ⊢; rw [if_neg h3]
              have hk := while_le (p := (· != 34)) r
              obtain ⟨d, g1, g2, g3⟩ := ih f _ _ (by rw [List.length_drop]; omega) h0
              rw [List.length_drop] at g1
              refine ⟨(r.takeWhile (· != 34)).length + 1 + d + 1, by simp; omega, by rw [g2]; congr 1; omega, fun F hF => ?_⟩
              obtain ⟨F', rfl⟩ : ∃ F', F = F' + 1 := ⟨F - 1, by omega⟩
              have hw : (r.take ((r.takeWhile (· != 34)).length + 1 + d)).takeWhile (· != 34) = r.takeWhile (· != 34) := while_take r _ (by omega)
              rw [List.take_succ_cons, go_cons, if_neg h1, if_pos h2, hw, if_neg (by rw [List.length_take]; omega), List.drop_take, Nat.add_sub_cancel_left, g3 F' (by omega)]
              rw [show a + (r.takeWhile (· != 34)).length + 2 + d = a + ((r.takeWhile (· != 34)).length + 1 + d + 1) by omega]
          · rw [if_neg h2] at h0 ⊢; rw [if_neg h2]
            cases ht : tokL (c :: r) with
            | none => exact ⟨0, by omega, rfl, fun F _ => by rw [List.take_zero, go_nil]; rfl⟩
            | some t =>
              obtain ⟨k, x, n', m⟩ := t
              have h3 := tok_len ht
              simp only [List.length_cons] at h3
              rw [ht] at h0
              dsimp only at h0 ⊢
              have h5 : ((c :: r).drop m).length ≤ n := by simp only [List.length_drop, List.length_cons]; omega
              by_cases h4 : (goAll f (a + m) ((c :: r).drop m)).1 = 0
              · rw [if_pos h4] at h0; simp at h0
              · rw [if_neg h4]
                obtain ⟨d, g1, g2, g3⟩ := ih f (a + m) _ h5 h4
                have hdl : ((c :: r).drop m).length = r.length + 1 - m := by simp
                rw [hdl] at g1
                refine ⟨m + d, by simp; omega, by rw [g2]; congr 1; omega, fun F hF => ?_⟩
                obtain ⟨F', rfl⟩ : ∃ F', F = F' + 1 := ⟨F - 1, by omega⟩
                have hcut := tok_cut (j := m + d) ht (by omega) (by simp; omega) (by
                  rintro ⟨q1, q2, q3⟩
                  have q0 : d = 1 := by omega
                  subst q0
                  have q4 : (c :: r).drop m = 58 :: 61 :: (c :: r).drop (m + 2) := by
                    have e1 := (List.getElem?_eq_some_iff.1 q2)
                    have e2 := (List.getElem?_eq_some_iff.1 q3)
                    rw [List.drop_eq_getElem_cons e1.1, e1.2, List.drop_eq_getElem_cons e2.1, e2.2]
                  rw [q4] at g2 h4
                  cases f with
                  | zero => simp [goAll] at h4
                  | succ f =>
                    rw [go_cons, if_neg (by decide), if_neg (by decide), tok_assign] at g2 h4
                    dsimp only at g2 h4
                    by_cases h6 : (goAll f (a + m + 2) ((58 :: 61 :: (c :: r).drop (m + 2)).drop 2)).1 = 0
                    · rw [if_pos h6] at h4; simp at h4
                    · rw [if_neg h6] at g2
                      rcases go_err _ f ((58 :: 61 :: (c :: r).drop (m + 2)).drop 2) (a + m + 2) (Nat.le_refl _) with h7 | ⟨_, h7, _⟩
                      · exact h6 h7
                      · rw [g2] at h7; omega)
                obtain ⟨m', rfl⟩ : ∃ m', m = m' + 1 := ⟨m - 1, by omega⟩
                have e : (c :: r).take (m' + 1 + d) = c :: r.take (m' + d) := by rw [show m' + 1 + d = m' + d + 1 by omega, List.take_succ_cons]
                have e2 : (c :: r.take (m' + d)).drop (m' + 1) = ((c :: r).drop (m' + 1)).take d := by
                  rw [← e, List.drop_take, Nat.add_sub_cancel_left]
                rw [e] at hcut ⊢
                rw [go_cons, if_neg h1, if_neg h2, hcut]
                dsimp only
                rw [e2, g3 F' (by omega), if_pos rfl, show a + (m' + 1) + d = a + (m' + 1 + d) by omega]
                rfl

/-- The stream of a right text, and of a wrong one. -/
theorem stream_ok {l : List UInt8} {ts : List TK} (hl : l.length ≤ 4000) (h : allL l = (0, 0, ts)) : streamL l = ts := by
  unfold allL at h
  rw [if_neg (by omega)] at h
  unfold streamL
  rw [pre_ok _ _ 0 l (Nat.le_refl _) (by rw [h]), h]

theorem stream_err {l : List UInt8} (hl : l.length ≤ 4000) (h : (allL l).1 ≠ 0) : ∃ d : Nat, d ≤ l.length ∧ (allL l).2.1 = (d : Int) ∧ allL (l.take d) = (0, 0, streamL l ++ [⟨0, [], 0, (d : Int)⟩]) := by
  unfold allL at h ⊢
  rw [if_neg (by omega)] at h
  obtain ⟨d, g1, g2, g3⟩ := pre_err _ _ 0 l (Nat.le_refl _) h
  rw [Nat.zero_add] at g2 g3
  refine ⟨d, g1, by rw [if_neg (by omega)]; exact g2, ?_⟩
  rw [if_neg (by rw [List.length_take]; omega)]
  exact g3 _ (by rw [List.length_take]; omega)

end Go.Mk
