/-
  Lemmas towards the claim of this folder: contracts of the functions that the law reaches; joined texts.
-/
import Derived.Test.YtofpnlmlenffnaaDoorPz2
/-
  TOKENS over lists (plain): all tokens of two texts with a line end between.
-/
namespace Go.Mk

theorem go_nil (f a : Nat) : goAll f a [] = (0, 0, [⟨0, [], 0, a⟩]) := by cases f <;> rfl

theorem go_cons (f a : Nat) (c : UInt8) (r : List UInt8) : goAll (f + 1) a (c :: r) =
    if blankB c = true then goAll f (a + 1) r
    else if c = 34 then
      if (r.takeWhile (· != 34)).length = r.length then (40, (a : Int), [])
      else goAll f (a + (r.takeWhile (· != 34)).length + 2) (r.drop ((r.takeWhile (· != 34)).length + 1))
    else match tokL (c :: r) with
      | none => (40, (a : Int), [])
      | some (k, x, n, m) => if (goAll f (a + m) ((c :: r).drop m)).1 = 0 then (0, 0, ⟨k, x, n, a⟩ :: (goAll f (a + m) ((c :: r).drop m)).2.2) else goAll f (a + m) ((c :: r).drop m) := rfl

theorem go_fuel : ∀ (n f g : Nat) (l : List UInt8) (a : Nat), l.length ≤ n → l.length < f → l.length < g → goAll f a l = goAll g a l := by
  intro n
  induction n with
  | zero => intro f g l a h _ _; obtain rfl := List.eq_nil_of_length_eq_zero (show l.length = 0 by omega); rw [go_nil, go_nil]
  | succ n ih =>
    intro f g l a h hf hg
    cases l with
    | nil => rw [go_nil, go_nil]
    | cons c r =>
      obtain ⟨f', rfl⟩ : ∃ f', f = f' + 1 := ⟨f - 1, by simp at hf; omega⟩
      obtain ⟨g', rfl⟩ : ∃ g', g = g' + 1 := ⟨g - 1, by simp at hg; omega⟩
      simp only [List.length_cons] at h hf hg
      rw [go_cons, go_cons]
      split
      · exact ih f' g' r _ (by omega) (by omega) (by omega)
      · split
        · split
          · rfl
          · exact ih f' g' _ _ (by rw [List.length_drop]; omega) (by rw [List.length_drop]; omega) (by rw [List.length_drop]; omega)
        · cases ht : tokL (c :: r) with
          | none => rfl
          | some t =>
            obtain ⟨k, x, n', m⟩ := t
            have h1 := tok_len ht
            simp only [List.length_cons] at h1
            have h2 : ((c :: r).drop m).length ≤ n := by rw [List.length_drop]; simp; omega
            dsimp only
            have h3 : ((c :: r).drop m).length < f' ∧ ((c :: r).drop m).length < g' := by simp only [List.length_drop, List.length_cons]; omega
            rw [ih f' g' ((c :: r).drop m) (a + m) h2 h3.1 h3.2]

/-- Where there is no error there is no place of one, and an end. -/
theorem go_ok : ∀ (n f : Nat) (l : List UInt8) (a : Nat), l.length ≤ n → (goAll f a l).1 = 0 → (goAll f a l).2.1 = 0 ∧ (goAll f a l).2.2 ≠ [] := by
  intro n
  induction n with
  | zero => intro f l a h _; obtain rfl := List.eq_nil_of_length_eq_zero (show l.length = 0 by omega); rw [go_nil]; simp
  | succ n ih =>
    intro f l a h h0
    cases l with
    | nil => rw [go_nil]; simp
    | cons c r =>
      cases f with
      | zero => simp [goAll]
      | succ f =>
        simp only [List.length_cons] at h
        rw [go_cons] at h0 ⊢
        split at h0
        · rename_i h1
          rw [if_pos h1]
          exact ih f r _ (by omega) h0
        · rename_i h1
          rw [if_neg h1]
          split at h0
          · rename_i h2
            rw [if_pos h2]
            split at h0
            · simp at h0
            · rename_i h3
              rw [if_neg h3]
              exact ih f _ _ (by rw [List.length_drop]; omega) h0
          · rename_i h2
            rw [if_neg h2]
            cases ht : tokL (c :: r) with
            | none => rw [ht] at h0; simp at h0
            | some t =>
              obtain ⟨k, x, n', m⟩ := t
              rw [ht] at h0
              dsimp only at h0 ⊢
              split
              · simp
              · rename_i h4
                rw [if_neg h4] at h0
                exact (h4 h0).elim

theorem while_at {p : UInt8 → Bool} (l m : List UInt8) (h : (l.takeWhile p).length ≠ l.length) : (l ++ m).takeWhile p = l.takeWhile p := by
  rw [List.takeWhile_append, if_neg h]

/-- What stands behind a line end. -/
theorem go_nl (m : List UInt8) : ∀ (n : Nat) (l : List UInt8) (f a F : Nat) (ts : List TK), l.length ≤ n → l.length < f → goAll f a l = (0, 0, ts) → (l ++ 10 :: m).length < F →
    goAll F a (l ++ 10 :: m) = if (goAll (m.length + 1) (a + l.length + 1) m).1 = 0 then (0, 0, ts.dropLast ++ (goAll (m.length + 1) (a + l.length + 1) m).2.2) else goAll (m.length + 1) (a + l.length + 1) m := by
  intro n
  induction n with
  | zero =>
    intro l f a F ts h _ h0 hF
    obtain rfl := List.eq_nil_of_length_eq_zero (show l.length = 0 by omega)
    rw [go_nil] at h0
    simp only [Prod.mk.injEq, true_and] at h0
    subst h0
    simp only [List.nil_append, List.length_cons] at hF
    obtain ⟨F', rfl⟩ : ∃ F', F = F' + 1 := ⟨F - 1, by omega⟩
    rw [List.nil_append, go_cons, if_pos (by decide), go_fuel m.length F' (m.length + 1) m (a + 1) (Nat.le_refl _) (by omega) (by omega)]
    simp only [List.length_nil, Nat.add_zero, List.dropLast_singleton, List.nil_append]
    split
    · rename_i h1
      have := go_ok m.length (m.length + 1) m (a + 1) (Nat.le_refl _) h1
      exact Prod.ext h1 (Prod.ext this.1 rfl)
    · rfl
  | succ n ih =>
    intro l f a F ts h hf h0 hF
    by_cases hz : l.length ≤ n
    · exact ih l f a F ts hz hf h0 hF
    · cases l with
      | nil => simp at hz
      | cons c r =>
        simp only [List.length_cons, List.length_append] at h hf hz hF
        obtain ⟨f', rfl⟩ : ∃ f', f = f' + 1 := ⟨f - 1, by omega⟩
        obtain ⟨F', rfl⟩ : ∃ F', F = F' + 1 := ⟨F - 1, by omega⟩
        rw [go_cons] at h0
        rw [List.cons_append, go_cons]
        split at h0
        · rename_i h1
          rw [if_pos h1, ih r f' (a + 1) F' ts (by omega) (by omega) h0 (by simp; omega)]
          rw [show a + 1 + r.length + 1 = a + (c :: r).length + 1 by simp; omega]
        · rename_i h1
          rw [if_neg h1]
          split at h0
          · rename_i h2
            rw [if_pos h2]
            split at h0
            · simp at h0
            · rename_i h3
              have hw : ((r ++ 10 :: m).takeWhile (· != 34)) = r.takeWhile (· != 34) := while_at r _ h3
              have hl := while_le (p := (· != 34)) r
              have hlt : (r.takeWhile (· != 34)).length + 1 ≤ r.length := by omega
              rw [hw, if_neg (by simp; omega), List.drop_append_of_le_length hlt]
              rw [ih _ f' _ F' ts (by rw [List.length_drop]; omega) (by rw [List.length_drop]; omega) h0 (by simp; omega)]
              rw [show a + (r.takeWhile (· != 34)).length + 2 + (r.drop ((r.takeWhile (· != 34)).length + 1)).length + 1 = a + (c :: r).length + 1 by simp; omega]
          · rename_i h2
            rw [if_neg h2]
            cases ht : tokL (c :: r) with
            | none => rw [ht] at h0; simp at h0
            | some t =>
              obtain ⟨k, x, n', j⟩ := t
              have h3 := tok_len ht
              have h4 := tok_nl (m := m) ht
              rw [List.cons_append] at h4
              simp only [List.length_cons] at h3
              rw [ht] at h0
              rw [h4]
              dsimp only at h0 ⊢
              have hd : (c :: (r ++ 10 :: m)).drop j = (c :: r).drop j ++ 10 :: m := by
                rw [← List.cons_append, List.drop_append_of_le_length (by simp; omega)]
              rw [hd]
              have hdl : ((c :: r).drop j).length = r.length + 1 - j := by simp
              split at h0
              · rename_i h5
                have h6 := go_ok n f' ((c :: r).drop j) (a + j) (by omega) h5
                have h7 : goAll f' (a + j) ((c :: r).drop j) = (0, 0, (goAll f' (a + j) ((c :: r).drop j)).2.2) := by
                  apply Prod.ext h5
                  exact Prod.ext h6.1 rfl
                obtain rfl : _ = ts := (Prod.mk.inj (Prod.mk.inj h0).2).2
                have h8 := ih _ f' (a + j) F' _ (by omega) (by omega) h7 (by rw [List.length_append, hdl]; simp; omega)
                rw [show a + j + ((c :: r).drop j).length + 1 = a + (c :: r).length + 1 by rw [hdl]; simp; omega] at h8
                rw [h8]
                by_cases h9 : (goAll (m.length + 1) (a + (c :: r).length + 1) m).1 = 0
                · rw [if_pos h9, if_pos h9, if_pos rfl, List.dropLast_cons_of_ne_nil h6.2]
                  rfl
                · rw [if_neg h9, if_neg h9, if_neg h9]
              · rename_i h5
                exact (h5 (by rw [h0])).elim

end Go.Mk

/-
  TOKENS over lists (plain): places moved; a token by itself ahead of a line end.
-/
namespace Go.Mk

def shT (k : Nat) (t : TK) : TK := { t with at_ := t.at_ + k }

theorem go_shift (k : Nat) : ∀ (n f : Nat) (l : List UInt8) (a : Nat), l.length ≤ n →
    goAll f (a + k) l = ((goAll f a l).1, (if (goAll f a l).1 = 0 then (goAll f a l).2.1 else (goAll f a l).2.1 + k), (goAll f a l).2.2.map (shT k)) := by
  intro n
  induction n with
  | zero => intro f l a h; obtain rfl := List.eq_nil_of_length_eq_zero (show l.length = 0 by omega); rw [go_nil, go_nil]; simp [shT]
  | succ n ih =>
    intro f l a h
    cases l with
    | nil => rw [go_nil, go_nil]; simp [shT]
    | cons c r =>
      cases f with
      | zero => simp [goAll, shT]
      | succ f =>
        simp only [List.length_cons] at h
        rw [go_cons, go_cons]
        by_cases h1 : blankB c = true
        · rw [if_pos h1, if_pos h1, show a + k + 1 = a + 1 + k by omega]
          exact ih f r (a + 1) (by omega)
        · rw [if_neg h1, if_neg h1]
          by_cases h2 : c = 34
          · rw [if_pos h2, if_pos h2]
            by_cases h3 : (r.takeWhile (· != 34)).length = r.length
            · rw [if_pos h3, if_pos h3]; simp
            · rw [if_neg h3, if_neg h3, show a + k + (r.takeWhile (· != 34)).length + 2 = a + (r.takeWhile (· != 34)).length + 2 + k by omega]
              exact ih f _ _ (by rw [List.length_drop]; omega)
          · rw [if_neg h2, if_neg h2]
            cases ht : tokL (c :: r) with
            | none => simp
            | some t =>
              obtain ⟨q, x, n', m⟩ := t
              have h3 := tok_len ht
              simp only [List.length_cons] at h3
              have h4 : ((c :: r).drop m).length ≤ n := by simp only [List.length_drop, List.length_cons]; omega
              dsimp only
              rw [show a + k + m = a + m + k by omega, ih f _ (a + m) h4]
              dsimp only
              by_cases h5 : (goAll f (a + m) ((c :: r).drop m)).1 = 0
              · simp [h5, shT]
              · simp [h5]

/-- The error, and its place. -/
theorem go_err : ∀ (n f : Nat) (l : List UInt8) (a : Nat), l.length ≤ n → (goAll f a l).1 = 0 ∨ ((goAll f a l).1 = 40 ∧ (a : Int) ≤ (goAll f a l).2.1 ∧ (goAll f a l).2.2 = []) := by
  intro n
  induction n with
  | zero => intro f l a h; obtain rfl := List.eq_nil_of_length_eq_zero (show l.length = 0 by omega); rw [go_nil]; simp
  | succ n ih =>
    intro f l a h
    cases l with
    | nil => rw [go_nil]; simp
    | cons c r =>
      cases f with
      | zero => simp [goAll]
      | succ f =>
        simp only [List.length_cons] at h
        rw [go_cons]
        by_cases h1 : blankB c = true
        · rw [if_pos h1]
          rcases ih f r (a + 1) (by omega) with h | ⟨h, h', h''⟩
          · exact .inl h
          · exact .inr ⟨h, by omega, h''⟩
        · rw [if_neg h1]
          by_cases h2 : c = 34
          · rw [if_pos h2]
            by_cases h3 : (r.takeWhile (· != 34)).length = r.length
            · rw [if_pos h3]; simp
            · rw [if_neg h3]
              rcases ih f (r.drop ((r.takeWhile (· != 34)).length + 1)) (a + (r.takeWhile (· != 34)).length + 2) (by rw [List.length_drop]; omega) with h | ⟨h, h', h''⟩
              · exact .inl h
              · exact .inr ⟨h, by omega, h''⟩
          · rw [if_neg h2]
            cases ht : tokL (c :: r) with
            | none => simp
            | some t =>
              obtain ⟨q, x, n', m⟩ := t
              have h3 := tok_len ht
              simp only [List.length_cons] at h3
              have h4 : ((c :: r).drop m).length ≤ n := by simp only [List.length_drop, List.length_cons]; omega
              dsimp only
              by_cases h5 : (goAll f (a + m) ((c :: r).drop m)).1 = 0
              · rw [if_pos h5]; simp
              · rw [if_neg h5]
                rcases ih f _ (a + m) h4 with h | ⟨h, h', h''⟩
                · exact (h5 h).elim
                · exact .inr ⟨h, by omega, h''⟩

/-- Two texts with a line end between (P12.1). -/
theorem all_join {a b : List UInt8} {ts : List TK} (ha : a.length ≤ 1000) (hb : b.length ≤ 1000) (h : allL a = (0, 0, ts)) :
    ((allL b).1 = 0 → allL (a ++ 10 :: b) = (0, 0, ts.dropLast ++ (allL b).2.2.map (shT (a.length + 1)))) ∧
    ((allL b).1 ≠ 0 → (allL (a ++ 10 :: b)).1 = (allL b).1 ∧ (a.length : Int) < (allL (a ++ 10 :: b)).2.1) := by
  unfold allL at h ⊢
  rw [if_neg (by omega)] at h
  rw [if_neg (by omega), if_neg (by simp; omega)]
  have h1 := go_nl b a.length a (a.length + 1) 0 ((a ++ 10 :: b).length + 1) ts (Nat.le_refl _) (by omega) h (by omega)
  have h2 := go_shift (a.length + 1) b.length (b.length + 1) b 0 (Nat.le_refl _)
  rw [Nat.zero_add] at h2
  have e : (0 + a.length + 1) = a.length + 1 := by omega
  rw [e, h2] at h1
  rw [h1]
  constructor
  · intro h3
    rw [if_pos h3]
  · intro h3
    rw [if_neg h3]
    refine ⟨rfl, ?_⟩
    dsimp only
    rw [if_neg h3]
    rcases go_err b.length (b.length + 1) b 0 (Nat.le_refl _) with h | ⟨_, h', _⟩
    · exact (h3 h).elim
    · omega

end Go.Mk
