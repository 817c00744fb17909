/-
  TOKENS over lists (plain): what stands behind a line end does not change the tokens ahead of it; places moved.
-/
import Derived.Test.YtofpnlmlenffnaaDoorGNm
namespace Go.Mk

/-- A text with a character of no name, mark or colon is no selector. -/
theorem kw_low {l : List UInt8} (b : UInt8) (hb : b ∈ l) (h : aln b = false) (h58 : b ≠ 58) : kwL l = [] := by
  unfold kwL
  rw [if_neg]
  rintro ⟨h1, _, h3⟩
  have hf := cutL_flat l
  rw [h1, List.append_nil] at hf
  rw [← hf] at hb
  obtain ⟨p, hp, hbp⟩ := List.mem_flatten.1 hb
  have hg := List.all_eq_true.1 h3 p hp
  have hlast : ∀ (l : List UInt8) (st : List (List UInt8) × List UInt8), (∀ q ∈ st.1, ∃ r, q = r ++ [58]) → ∀ q ∈ (l.foldl cutS st).1, ∃ r, q = r ++ [58] := by
    intro l
    induction l with
    | nil => intro st h; exact h
    | cons c l ih =>
      intro st h
      rw [List.foldl_cons]
      refine ih _ ?_
      unfold cutS
      split
      · intro q hq
        rcases List.mem_append.1 hq with hq | hq
        · exact h q hq
        · exact ⟨st.2, by simpa using hq⟩
      · exact h
  obtain ⟨r, rfl⟩ := hlast l ([], []) (by simp) p hp
  unfold goodP at hg
  rw [List.dropLast_concat] at hg
  rcases List.mem_append.1 hbp with hr | hr
  · have := isUn_all hg b hr
    rw [h] at this
    cases this
  · simp at hr
    exact h58 hr

theorem kind_nl {l : List UInt8} (h : (10 : UInt8) ∈ l) : kindL l = 0 := by
  unfold kindL
  have h1 : isUn l = false := by
    apply Bool.eq_false_iff.2
    intro hu
    have := isUn_all hu 10 h
    exact absurd this (by decide)
  have h2 : isBi l = false := by
    apply Bool.eq_false_iff.2
    intro hu
    simp only [isBi, Bool.and_eq_true, List.all_eq_true] at hu
    have := hu.2 10 h
    exact absurd this (by decide)
  rw [if_neg (by simp [h1]), if_neg (by simp [h2]), if_pos (kw_low 10 h (by decide) (by decide))]

theorem while_nl {p : UInt8 → Bool} (hp : p 10 = false) (l m : List UInt8) : (l ++ 10 :: m).takeWhile p = l.takeWhile p := by
  induction l with
  | nil => simp [hp]
  | cons c r ih =>
    rw [List.cons_append, List.takeWhile_cons, List.takeWhile_cons, ih]

theorem while_le {p : UInt8 → Bool} (l : List UInt8) : (l.takeWhile p).length ≤ l.length := by
  induction l with
  | nil => simp
  | cons c r ih => rw [List.takeWhile_cons]; split <;> simp <;> omega

theorem strL_len : ∀ (n : Nat) (l : List UInt8) (_ : l.length ≤ n) (p : List UInt8 × Nat), strL l = some p → 1 ≤ p.2 ∧ p.2 ≤ l.length := by
  intro n
  induction n with
  | zero => intro l hl p h; cases l with
    | nil => simp [strL] at h
    | cons _ _ => simp at hl
  | succ n ih =>
    intro l hl p h
    cases l with
    | nil => simp [strL] at h
    | cons c r =>
      simp only [List.length_cons] at hl ⊢
      by_cases hc : c = 39
      · subst hc
        cases r with
        | nil => rw [strL_end (by simp)] at h; cases h; simp
        | cons d r' =>
          by_cases hd : d = 39
          · subst hd
            rw [strL_two] at h
            obtain ⟨q, hq, rfl⟩ := Option.map_eq_some_iff.1 h
            have := ih r' (by simp at hl; omega) q hq
            simp only [List.length_cons]
            omega
          · rw [strL_end (by simpa using hd)] at h; cases h; simp
      · rw [strL_other _ hc] at h
        obtain ⟨q, hq, rfl⟩ := Option.map_eq_some_iff.1 h
        have := ih r (by omega) q hq
        omega

theorem strL_nl (m : List UInt8) : ∀ (n : Nat) (l : List UInt8) (_ : l.length ≤ n) (p : List UInt8 × Nat), strL l = some p → strL (l ++ 10 :: m) = some p := by
  intro n
  induction n with
  | zero => intro l hl p h; cases l with
    | nil => simp [strL] at h
    | cons _ _ => simp at hl
  | succ n ih =>
    intro l hl p h
    cases l with
    | nil => simp [strL] at h
    | cons c r =>
      simp only [List.length_cons] at hl
      by_cases hc : c = 39
      · subst hc
        cases r with
        | nil =>
          rw [strL_end (by simp)] at h; cases h
          exact strL_end (by simp)
        | cons d r' =>
          by_cases hd : d = 39
          · subst hd
            rw [strL_two] at h
            obtain ⟨q, hq, rfl⟩ := Option.map_eq_some_iff.1 h
            have := ih r' (by simp at hl; omega) q hq
            rw [List.cons_append, List.cons_append, strL_two, this]
            rfl
          · rw [strL_end (by simpa using hd)] at h; cases h
            exact strL_end (by simpa using hd)
      · rw [strL_other _ hc] at h
        obtain ⟨q, hq, rfl⟩ := Option.map_eq_some_iff.1 h
        have := ih r (by omega) q hq
        rw [List.cons_append, strL_other _ hc, this]
        rfl

theorem selTo_le (l : List UInt8) (n : Nat) : selTo l n ≤ n := by
  induction n with
  | zero => simp [selTo]
  | succ n ih => unfold selTo; split <;> omega

theorem selAt_nl (l m : List UInt8) (j : Nat) (h1 : 1 ≤ j) (hj : j ≤ l.length) : selAt (l ++ 10 :: m) j = selAt l j := by
  unfold selAt
  rw [List.take_append_of_le_length hj]
  congr 1
  have hne : l ≠ [] := by intro e; rw [e] at hj; simp at hj; omega
  by_cases he : j = l.length
  · subst he
    have : wholeL (l ++ 10 :: m) l.length = true := by
      unfold wholeL
      have : (l ++ 10 :: m).getD l.length 0 = 10 := by simp [List.getD_eq_getElem?_getD]
      rw [this]
      simp [wordB, lett, low, upp, lowI, uppI, digB, digI]
    rw [this]
    simp
  · have hlt : j < l.length := by omega
    have e1 : (l ++ 10 :: m).headD 0 = l.headD 0 := by
      cases l with
      | nil => exact (hne rfl).elim
      | cons _ _ => rfl
    have e2 : ∀ i, i < l.length → (l ++ 10 :: m).getD i 0 = l.getD i 0 := fun i hi => by
      rw [List.getD_eq_getElem?_getD, List.getD_eq_getElem?_getD, List.getElem?_append_left hi]
    unfold wholeL
    rw [e1, e2 j hlt, e2 (j - 1) (by omega)]
    simp [he]
    omega

theorem selAt_far (l m : List UInt8) (j : Nat) (hj : l.length < j) : selAt (l ++ 10 :: m) j = false := by
  unfold selAt
  have : (10 : UInt8) ∈ (l ++ 10 :: m).take j := by
    rw [List.take_append, List.mem_append]
    right
    obtain ⟨k, hk⟩ : ∃ k, j - l.length = k + 1 := ⟨j - l.length - 1, by omega⟩
    rw [hk, List.take_succ_cons]
    simp
  rw [kind_nl this]
  simp

theorem selTo_nl (l m : List UInt8) (n : Nat) (hn : n ≤ l.length) : selTo (l ++ 10 :: m) n = selTo l n := by
  induction n with
  | zero => rfl
  | succ n ih =>
    unfold selTo
    rw [selAt_nl l m (n + 1) (by omega) hn, ih (by omega)]

theorem selTo_far (l m : List UInt8) (k : Nat) : selTo (l ++ 10 :: m) (l.length + k) = selTo l l.length := by
  induction k with
  | zero => exact selTo_nl l m _ (Nat.le_refl _)
  | succ k ih =>
    rw [← Nat.add_assoc, show selTo (l ++ 10 :: m) (l.length + k + 1) = if selAt (l ++ 10 :: m) (l.length + k + 1) = true then l.length + k + 1 else selTo (l ++ 10 :: m) (l.length + k) from rfl, selAt_far l m _ (by omega), if_neg (by simp)]
    exact ih

theorem sel_nl (l m : List UInt8) : selTo (l ++ 10 :: m) (min (l ++ 10 :: m).length 498) = selTo l (min l.length 498) := by
  by_cases h : 498 ≤ l.length
  · rw [Nat.min_eq_right h, Nat.min_eq_right (by simp; omega)]
    exact selTo_nl l m _ h
  · rw [Nat.min_eq_left (show l.length ≤ 498 by omega)]
    obtain ⟨k, hk⟩ : ∃ k, min (l ++ 10 :: m).length 498 = l.length + k := ⟨min (l ++ 10 :: m).length 498 - l.length, by simp; omega⟩
    rw [hk]
    exact selTo_far l m k

theorem word_pos {c : UInt8} {r : List UInt8} (h : lett c = true) : wordLen (c :: r) = wordLen r + 1 := by
  unfold wordLen
  rw [List.takeWhile_cons, if_pos (by simp [wordB, h])]
  rfl
theorem dig_pos {c : UInt8} {r : List UInt8} (h : digB c = true) : digLen (c :: r) = digLen r + 1 := by
  unfold digLen
  rw [List.takeWhile_cons, if_pos h]
  rfl
theorem word_le (l : List UInt8) : wordLen l ≤ l.length := while_le l
theorem dig_le (l : List UInt8) : digLen l ≤ l.length := while_le l
theorem word_nl (l m : List UInt8) : wordLen (l ++ 10 :: m) = wordLen l := by unfold wordLen; rw [while_nl (by decide)]
theorem dig_nl (l m : List UInt8) : digLen (l ++ 10 :: m) = digLen l := by unfold digLen; rw [while_nl (by decide)]

/-- A token goes on by one octet at least, and not beyond the text. -/
theorem tok_len {l : List UInt8} {k : Int} {x : List UInt8} {n : Int} {m : Nat} (h : tokL l = some (k, x, n, m)) : 1 ≤ m ∧ m ≤ l.length := by
  cases l with
  | nil => simp [tokL] at h
  | cons c r =>
    simp only [tokL, List.length_cons] at h ⊢
    by_cases h1 : lett c = true
    · rw [if_pos h1] at h
      split at h
      · cases h
      · have hp := word_pos (r := r) h1
        have hw := word_le r
        split at h
        · rename_i h3
          have := (List.getElem?_eq_some_iff.1 h3.1).1
          cases h
          omega
        · cases h
          omega
    · rw [if_neg h1] at h
      by_cases h2 : digB c = true
      · rw [if_pos h2] at h
        have hp := dig_pos (r := r) h2
        have hw := dig_le r
        split at h
        · cases h
        · cases h
          omega
      · rw [if_neg h2] at h
        split at h
        · obtain ⟨q, hq, he⟩ := Option.map_eq_some_iff.1 h
          have := strL_len _ r (Nat.le_refl _) q hq
          cases he
          omega
        · split at h
          · split at h
            · cases h
            · have := selTo_le r (min r.length 498)
              cases h
              omega
          · split at h
            · rename_i h5
              cases r with
              | nil => simp at h5
              | cons _ _ => cases h; simp
            · split at h
              · cases h; omega
              · split at h
                · cases h
                · cases r with
                  | nil => cases h; simp
                  | cons d r' =>
                    simp only at h
                    split at h
                    · cases h; simp
                    · cases h; simp

theorem tok_nl {l m : List UInt8} {t : Int × List UInt8 × Int × Nat} (h : tokL l = some t) : tokL (l ++ 10 :: m) = some t := by
  have hlen := tok_len (l := l) (k := t.1) (x := t.2.1) (n := t.2.2.1) (m := t.2.2.2) h
  cases l with
  | nil => simp [tokL] at h
  | cons c r =>
    rw [List.cons_append]
    have hw := word_nl (c :: r) m
    have hd := dig_nl (c :: r) m
    rw [List.cons_append] at hw hd
    simp only [tokL] at h ⊢
    rw [hw, hd]
    by_cases h1 : lett c = true
    · rw [if_pos h1] at h ⊢
      split at h
      · cases h
      · rename_i h2
        rw [if_neg h2]
        have hp := word_pos (r := r) h1
        have hl := word_le r
        have e1 : ∀ i, i ≤ r.length → ∀ v : UInt8, v ≠ 10 → ((r ++ 10 :: m)[i]? = some v ↔ r[i]? = some v) := by
          intro i hi v hv
          by_cases he : i = r.length
          · subst he
            simp [hv.symm]
          · rw [List.getElem?_append_left (by omega)]
        split at h
        · rename_i h3
          have h4 := (List.getElem?_eq_some_iff.1 h3.1).1
          rw [if_pos ⟨(e1 _ (by omega) _ (by decide)).2 h3.1, fun hn => h3.2 ((e1 _ (by omega) _ (by decide)).1 hn)⟩, ← List.cons_append, List.take_append_of_le_length (by simp; omega)]
          exact h
        · rename_i h3
          rw [if_neg, ← List.cons_append, List.take_append_of_le_length (by simp; omega)]
          · exact h
          · rintro ⟨g1, g2⟩
            have g3 := (e1 _ (by omega) _ (by decide)).1 g1
            have h4 := (List.getElem?_eq_some_iff.1 g3).1
            exact h3 ⟨g3, fun hn => g2 ((e1 _ (by omega) _ (by decide)).2 hn)⟩
    · rw [if_neg h1] at h ⊢
      by_cases h2 : digB c = true
      · rw [if_pos h2] at h ⊢
        have hp := dig_pos (r := r) h2
        have hl := dig_le r
        split at h
        · cases h
        · rename_i h3
          rw [if_neg h3, ← List.cons_append, List.take_append_of_le_length (by simp; omega)]
          exact h
      · rw [if_neg h2] at h ⊢
        split at h
        · rename_i h3
          rw [if_pos h3]
          obtain ⟨q, hq, he⟩ := Option.map_eq_some_iff.1 h
          rw [strL_nl m _ r (Nat.le_refl _) q hq]
          simpa using he
        · rename_i h3
          rw [if_neg h3]
          split at h
          · rename_i h4
            rw [if_pos h4, sel_nl]
            split at h
            · cases h
            · rename_i h5
              have := selTo_le r (min r.length 498)
              rw [if_neg h5, List.take_append_of_le_length (by omega)]
              exact h
          · rename_i h4
            rw [if_neg h4]
            split at h
            · rename_i h5
              cases r with
              | nil => simp at h5
              | cons d r' =>
                rw [if_pos (by simpa using h5)]
                exact h
            · rename_i h5
              rw [if_neg (by
                cases r with
                | nil => simp
                | cons d r' => simpa using h5)]
              split at h
              · rename_i h6
                rw [if_pos h6]
                exact h
              · rename_i h6
                rw [if_neg h6]
                split at h
                · cases h
                · rename_i h7
                  rw [if_neg h7]
                  cases r with
                  | nil =>
                    have : isBi [c, 10] = false := by
                      apply Bool.eq_false_iff.2
                      intro hu
                      simp only [isBi, Bool.and_eq_true, List.all_eq_true] at hu
                      exact absurd (hu.2 10 (by simp)) (by decide)
                    simp only [List.nil_append, this]
                    simpa using h
                  | cons d r' => simpa using h

end Go.Mk
