/-
  TOKENS over lists (plain): a token where the text is cut behind it.
-/
import Derived.Test.YtofpnlmlenffnaaDoorGPz5
namespace Go.Mk

theorem strL_cut : ∀ (n : Nat) (l : List UInt8) (_ : l.length ≤ n) (p : List UInt8 × Nat) (j : Nat), strL l = some p → p.2 ≤ j → strL (l.take j) = some p := by
  intro n
  induction n with
  | zero => intro l hl p j h; cases l with
    | nil => simp [strL] at h
    | cons _ _ => simp at hl
  | succ n ih =>
    intro l hl p j h hj
    cases l with
    | nil => simp [strL] at h
    | cons c r =>
      simp only [List.length_cons] at hl
      by_cases hc : c = 39
      · subst hc
        cases r with
        | nil =>
          rw [strL_end (by simp)] at h; cases h
          obtain ⟨j', rfl⟩ : ∃ j', j = j' + 1 := ⟨j - 1, by dsimp only at hj; omega⟩
          rw [List.take_succ_cons]
          exact strL_end (by simp)
        | cons d r' =>
          by_cases hd : d = 39
          · subst hd
            rw [strL_two] at h
            obtain ⟨q, hq, rfl⟩ := Option.map_eq_some_iff.1 h
            dsimp only at hj
            obtain ⟨j', rfl⟩ : ∃ j', j = j' + 2 := ⟨j - 2, by omega⟩
            have := ih r' (by simp at hl; omega) q j' hq (by omega)
            rw [List.take_succ_cons, List.take_succ_cons, strL_two, this]
            rfl
          · rw [strL_end (by simpa using hd)] at h; cases h
            dsimp only at hj
            obtain ⟨j', rfl⟩ : ∃ j', j = j' + 1 := ⟨j - 1, by omega⟩
            rw [List.take_succ_cons]
            refine strL_end ?_
            cases j' with
            | zero => simp
            | succ j' => simpa using hd
      · rw [strL_other _ hc] at h
        obtain ⟨q, hq, rfl⟩ := Option.map_eq_some_iff.1 h
        dsimp only at hj
        obtain ⟨j', rfl⟩ : ∃ j', j = j' + 1 := ⟨j - 1, by omega⟩
        have := ih r (by omega) q j' hq (by omega)
        rw [List.take_succ_cons, strL_other _ hc, this]
        rfl

theorem selTo_max (l : List UInt8) (n t : Nat) (h : selAt l t = true) (ht : t ≤ n) : t ≤ selTo l n := by
  induction n with
  | zero => omega
  | succ n ih =>
    unfold selTo
    split
    · exact ht
    · rename_i h1
      by_cases e : t = n + 1
      · subst e; exact (h1 h).elim
      · exact ih (by omega)

/-- A selector that begins with a letter and does not end in a colon is a name. -/
theorem un_of {l : List UInt8} (hk : 0 < kindL l) (hh : lett (l.headD 0) = true) (hl : l.getD (l.length - 1) 0 ≠ 58) : isUn l = true := by
  apply Classical.byContradiction
  intro hn
  unfold kindL at hk
  rw [if_neg hn] at hk
  split at hk
  · rename_i hb
    simp only [isBi, Bool.and_eq_true, List.all_eq_true] at hb
    cases l with
    | nil => exact absurd hb.1 (by decide)
    | cons c r =>
      have h1 := hb.2 c (by simp)
      have h2 : ∀ x : UInt8, marks.contains x = true → lett x = false := by
        intro x hx
        simp only [marks, List.contains_eq_mem, decide_eq_true_eq, List.mem_cons, List.not_mem_nil, or_false] at hx
        rcases hx with rfl | rfl | rfl | rfl | rfl | rfl | rfl | rfl | rfl | rfl | rfl | rfl <;> decide
      rw [show (c :: r).headD 0 = c from rfl, h2 c h1] at hh
      cases hh
  · split at hk
    · omega
    · rename_i hk2
      have hf := kw_flat hk2
      have h3 : (cutL l).2 = [] ∧ (cutL l).1.length ≤ 10 ∧ (cutL l).1.all goodP = true := by
        unfold kwL at hk2
        split at hk2
        · assumption
        · exact (hk2 rfl).elim
      have hlast : ∀ (l : List UInt8) (st : List (List UInt8) × List UInt8), (st.2 = [] → st.1 = [] ∨ ∃ r, st.1.flatten = r ++ [58]) → ((l.foldl cutS st).2 = [] → (l.foldl cutS st).1 = [] ∨ ∃ r, (l.foldl cutS st).1.flatten = r ++ [58]) := by
        intro l
        induction l with
        | nil => intro st h; exact h
        | cons c l ih =>
          intro st h
          rw [List.foldl_cons]
          refine ih _ ?_
          unfold cutS
          split
          · intro _
            exact .inr ⟨st.1.flatten ++ st.2, by simp⟩
          · intro h9
            simp at h9
      have h4 := hlast l ([], []) (by simp) h3.1
      have h5 := cutL_flat l
      rw [h3.1, List.append_nil] at h5
      rcases h4 with h4 | ⟨r, h4⟩
      · have : (cutL l).1 = [] := h4
        rw [this] at h5
        simp at h5
        subst h5
        exact hk2 rfl
      · have h6 : (cutL l).1.flatten = r ++ [58] := h4
        rw [h5] at h6
        apply hl
        rw [h6]
        simp [List.getD_eq_getElem?_getD]

theorem word_at {l : List UInt8} {i : Nat} (h : i < wordLen l) : wordB (l.getD i 0) = true := by
  have h1 := word_le l
  have h2 : l[i]'(by omega) ∈ l.takeWhile wordB := by
    have e : (l.takeWhile wordB)[i]'h = l[i]'(by omega) := (List.takeWhile_prefix (l := l) wordB).getElem h
    rw [← e]
    exact List.getElem_mem _
  rw [List.getD_eq_getElem?_getD, List.getElem?_eq_getElem (by omega)]
  exact List.all_eq_true.1 List.all_takeWhile _ h2

theorem word_end {l : List UInt8} (h : wordLen l < l.length) : wordB (l.getD (wordLen l) 0) = false := by
  have : ∀ l : List UInt8, wordLen l < l.length → wordB (l.getD (wordLen l) 0) = false := by
    intro l
    induction l with
    | nil => intro h; simp at h
    | cons c r ih =>
      intro h
      by_cases hc : wordB c = true
      · have e : wordLen (c :: r) = wordLen r + 1 := by unfold wordLen; rw [List.takeWhile_cons, if_pos hc]; rfl
        rw [e] at h ⊢
        simpa using ih (by simpa using h)
      · have e : wordLen (c :: r) = 0 := by unfold wordLen; rw [List.takeWhile_cons, if_neg hc]; rfl
        rw [e]
        simpa using hc
  exact this l h

theorem word_lt {l : List UInt8} (n : Nat) (hn : n ≤ l.length) (h : ∀ i, i < n → wordB (l.getD i 0) = true) : n ≤ wordLen l := by
  apply Classical.byContradiction
  intro hlt
  have h1 := word_end (l := l) (by omega)
  rw [h (wordLen l) (by omega)] at h1
  cases h1

/-- The best selector of a text that is cut behind it. -/
theorem sel_cut (r : List UInt8) (j : Nat) (hj : j ≤ r.length) (hb : selTo r (min r.length 498) ≠ 0) (hbj : selTo r (min r.length 498) ≤ j) :
    selTo (r.take j) (min (r.take j).length 498) = selTo r (min r.length 498) := by
  have e0 : (r.take j).length = j := by simp; omega
  have hle := selTo_le r (min r.length 498)
  have hat := selTo_at r _ hb
  generalize hbb : selTo r (min r.length 498) = b at *
  rw [e0]
  have g1 : ∀ t, 1 ≤ t → t < j → selAt (r.take j) t = selAt r t := by
    intro t h1 h2
    have q : ∀ i, i < j → (r.take j).getD i 0 = r.getD i 0 := fun i hi => by rw [List.getD_eq_getElem?_getD, List.getD_eq_getElem?_getD, List.getElem?_take_of_lt hi]
    have q2 : (r.take j).headD 0 = r.headD 0 := by
      cases r with
      | nil => simp
      | cons c r =>
        obtain ⟨j', rfl⟩ : ∃ j', j = j' + 1 := ⟨j - 1, by omega⟩
        rfl
    unfold selAt wholeL
    rw [List.take_take, Nat.min_eq_left (by omega), e0, q2, q t h2, q (t - 1) (by omega)]
    congr 1
    rw [show decide (t = j) = false from decide_eq_false (by omega), show decide (t = r.length) = false from decide_eq_false (by omega)]
  have hb' : selAt (r.take j) b = true := by
    by_cases he : b = j
    · subst he
      unfold selAt at hat ⊢
      rw [List.take_take, Nat.min_self, e0]
      simp only [Bool.and_eq_true] at hat ⊢
      exact ⟨hat.1, by simp⟩
    · rw [g1 b (by omega) (by omega)]; exact hat
  have hmax := selTo_max (r.take j) (min j 498) b hb' (by omega)
  apply Classical.byContradiction
  intro hne
  have hlt : b < selTo (r.take j) (min j 498) := by omega
  have ht := selTo_at (r.take j) (min j 498) (by omega)
  have htl := selTo_le (r.take j) (min j 498)
  generalize selTo (r.take j) (min j 498) = t at *
  by_cases htj : t < j
  · rw [g1 t (by omega) htj] at ht
    have := selTo_max r (min r.length 498) t ht (by omega)
    omega
  · obtain rfl : t = j := by omega
    -- the cut's end
    have hno : selAt r t = false := by
      apply Bool.eq_false_iff.2
      intro h
      have := selTo_max r (min r.length 498) t h (by omega)
      omega
    have hkd : 0 < kindL (r.take t) := by
      unfold selAt at ht
      rw [List.take_take, Nat.min_self] at ht
      simp only [Bool.and_eq_true, decide_eq_true_eq] at ht
      exact ht.1
    unfold selAt at hno
    rw [decide_eq_true hkd, Bool.true_and, Bool.or_eq_false_iff] at hno
    obtain ⟨n1, n2⟩ := hno
    have n1' : t ≠ r.length := by simpa using n1
    unfold wholeL at n2
    simp only [Bool.or_eq_false_iff, Bool.not_eq_false'] at n2
    obtain ⟨⟨n3, n4⟩, n5⟩ := n2
    have hd : (r.take t).headD 0 = r.headD 0 := by
      cases r with
      | nil => simp
      | cons c r =>
        obtain ⟨t', rfl⟩ : ∃ t', t = t' + 1 := ⟨t - 1, by omega⟩
        rfl
    have hun := un_of hkd (by rw [hd]; exact n3) (by rw [e0, List.getD_eq_getElem?_getD, List.getElem?_take_of_lt (by omega), ← List.getD_eq_getElem?_getD]; simpa using n4)
    have hall := isUn_all hun
    have haln : ∀ x : UInt8, aln x = wordB x := fun x => by simp [aln, alnI, wordB, lett, low, upp, digB]
    have hw : ∀ i, i < t + 1 → wordB (r.getD i 0) = true := by
      intro i hi
      by_cases he : i = t
      · subst he; exact n5
      · have : (r.take t)[i]'(by omega) ∈ r.take t := List.getElem_mem _
        have h2 := hall _ this
        rw [haln, List.getElem_take] at h2
        rw [List.getD_eq_getElem?_getD, List.getElem?_eq_getElem (by omega)]
        exact h2
    have hwl := word_lt (l := r) (t + 1) (by omega) hw
    have hwle := word_le r
    have hfst : ∀ i, i ≤ wordLen r → 1 ≤ i → i ≤ 40 → isUn (r.take i) = true := by
      intro i hi h1 h40
      simp only [isUn, isNm, Bool.and_eq_true, List.all_eq_true, lenIn, decide_eq_true_eq] at hun ⊢
      have hd2 : (r.take i).headD 0 = r.headD 0 := by
        cases r with
        | nil => simp
        | cons c r =>
          obtain ⟨i', rfl⟩ : ∃ i', i = i' + 1 := ⟨i - 1, by omega⟩
          rfl
      refine ⟨⟨⟨⟨by simp; omega, by simp; omega⟩, by rw [hd2]; exact n3⟩, fun x hx => ?_⟩, by rw [hd2, ← hd]; exact hun.2⟩
      obtain ⟨q, hq, rfl⟩ := List.getElem_of_mem hx
      rw [List.getElem_take, haln]
      have := word_at (l := r) (i := q) (by simp at hq; omega)
      rw [List.getD_eq_getElem?_getD, List.getElem?_eq_getElem (by simp at hq; omega)] at this
      exact this
    by_cases hw40 : wordLen r ≤ 40
    · have h1 : selAt r (wordLen r) = true := by
        unfold selAt
        have : kindL (r.take (wordLen r)) = 1 := by unfold kindL; rw [if_pos (hfst _ (Nat.le_refl _) (by omega) hw40)]
        rw [this]
        by_cases hend : wordLen r = r.length
        · simp [hend]
        · have := word_end (l := r) (by omega)
          unfold wholeL
          rw [this]
          simp
      have := selTo_max r (min r.length 498) _ h1 (by omega)
      omega
    · -- a word too long: no selector ends within it
      unfold selAt at hat
      simp only [Bool.and_eq_true, Bool.or_eq_true, decide_eq_true_eq] at hat
      rcases hat.2 with h | h
      · omega
      · unfold wholeL at h
        rw [n3, word_at (l := r) (i := b) (by omega)] at h
        have h2 := word_at (l := r) (i := b - 1) (by omega)
        simp at h
        rw [List.getD_eq_getElem?_getD, h] at h2
        exact absurd h2 (by decide)

/-- A token where the text is cut behind it, unless what is cut through is ':='. -/
theorem tok_cut {l : List UInt8} {k : Int} {x : List UInt8} {n : Int} {m j : Nat} (h : tokL l = some (k, x, n, m)) (hmj : m ≤ j) (hjl : j ≤ l.length) (hc : ¬ (j = m + 1 ∧ l[m]? = some 58 ∧ l[m + 1]? = some 61)) : tokL (l.take j) = some (k, x, n, m) := by
  have hlen := tok_len h
  cases l with
  | nil => simp [tokL] at h
  | cons c r =>
    simp only [List.length_cons] at hlen hjl
    obtain ⟨j', rfl⟩ : ∃ j', j = j' + 1 := ⟨j - 1, by omega⟩
    rw [List.take_succ_cons]
    simp only [tokL] at h ⊢
    by_cases h1 : lett c = true
    · rw [if_pos h1] at h ⊢
      have hp := word_pos (r := r) h1
      have hp2 := word_pos (r := r.take j') h1
      have hl := word_le r
      have hw : wordLen r ≤ j' → wordLen (r.take j') = wordLen r := fun hh => by unfold wordLen; rw [while_take r j' hh]
      split at h
      · cases h
      · rename_i h2
        split at h
        · rename_i h3
          simp only [Option.some.injEq, Prod.mk.injEq] at h
          obtain ⟨rfl, rfl, rfl, h4⟩ := h
          have e : wordLen (c :: r.take j') = wordLen (c :: r) := by rw [hp2, hw (by omega), hp]
          rw [e, if_neg h2, if_pos, ← List.take_succ_cons, List.take_take, show min (wordLen (c :: r) + 1) (j' + 1) = wordLen (c :: r) + 1 by omega, h4]
          refine ⟨?_, ?_⟩
          · rw [List.getElem?_take_of_lt (by omega)]; exact h3.1
          · by_cases hlt : wordLen (c :: r) < j'
            · rw [List.getElem?_take_of_lt hlt]; exact h3.2
            · rw [List.getElem?_eq_none (by simp; omega)]; simp
        · rename_i h3
          simp only [Option.some.injEq, Prod.mk.injEq] at h
          obtain ⟨rfl, rfl, rfl, h4⟩ := h
          have e : wordLen (c :: r.take j') = wordLen (c :: r) := by rw [hp2, hw (by omega), hp]
          rw [e, if_neg h2, if_neg, ← List.take_succ_cons, List.take_take, show min (wordLen (c :: r)) (j' + 1) = wordLen (c :: r) by omega, h4]
          rintro ⟨g1, g2⟩
          have hlt : wordLen (c :: r) - 1 < j' := by
            have := (List.getElem?_eq_some_iff.1 g1).1
            simp at this
            omega
          rw [List.getElem?_take_of_lt hlt] at g1
          by_cases hlt2 : wordLen (c :: r) < j'
          · rw [List.getElem?_take_of_lt hlt2] at g2
            exact h3 ⟨g1, g2⟩
          · have hx : r[wordLen (c :: r)]? = some 61 := by
              apply Classical.byContradiction
              intro hn
              exact h3 ⟨g1, hn⟩
            apply hc
            refine ⟨by omega, ?_, ?_⟩
            · rw [← h4, hp, List.getElem?_cons_succ]
              rw [hp, Nat.add_sub_cancel] at g1
              exact g1
            · rw [← h4, List.getElem?_cons_succ]
              exact hx
    · rw [if_neg h1] at h ⊢
      by_cases h2 : digB c = true
      · rw [if_pos h2] at h ⊢
        have hp := dig_pos (r := r) h2
        have hp2 := dig_pos (r := r.take j') h2
        have hl := dig_le r
        split at h
        · cases h
        · rename_i h3
          simp only [Option.some.injEq, Prod.mk.injEq] at h
          obtain ⟨rfl, rfl, rfl, h4⟩ := h
          have hw' : digLen (r.take j') = digLen r := by unfold digLen; rw [while_take r j' (by unfold digLen at hp h4 hl; omega)]
          have e : digLen (c :: r.take j') = digLen (c :: r) := by rw [hp2, hw', hp]
          rw [e, if_neg h3, ← List.take_succ_cons, List.take_take, show min (digLen (c :: r)) (j' + 1) = digLen (c :: r) by omega, h4]
      · rw [if_neg h2] at h ⊢
        by_cases h3 : c = 39
        · rw [if_pos h3] at h ⊢
          obtain ⟨q, hq, he⟩ := Option.map_eq_some_iff.1 h
          simp only [Prod.mk.injEq] at he
          obtain ⟨rfl, rfl, rfl, h4⟩ := he
          rw [strL_cut _ r (Nat.le_refl _) q j' hq (by omega)]
          simp [h4]
        · rw [if_neg h3] at h ⊢
          by_cases h4 : c = 35
          · rw [if_pos h4] at h ⊢
            split at h
            · cases h
            · rename_i h5
              simp only [Option.some.injEq, Prod.mk.injEq] at h
              obtain ⟨rfl, rfl, rfl, h6⟩ := h
              rw [sel_cut r j' (by omega) h5 (by omega), if_neg h5, List.take_take, Nat.min_eq_left (by omega), h6]
          · rw [if_neg h4] at h ⊢
            by_cases h5 : c = 58 ∧ r.head? = some 61
            · rw [if_pos h5] at h
              simp only [Option.some.injEq, Prod.mk.injEq] at h
              obtain ⟨rfl, rfl, rfl, h6⟩ := h
              obtain ⟨i, rfl⟩ : ∃ i, j' = i + 1 := ⟨j' - 1, by omega⟩
              cases r with
              | nil => simp at h5
              | cons d r' =>
                rw [if_pos (by simpa using h5), h6]
            · rw [if_neg h5] at h
              rw [if_neg (by
                rintro ⟨g1, g2⟩
                refine h5 ⟨g1, ?_⟩
                cases r with
                | nil => simp at g2
                | cons d r' =>
                  cases j' with
                  | zero => simp at g2
                  | succ j' => simpa using g2)]
              split at h
              · rename_i h6
                rw [if_pos h6]
                exact h
              · rename_i h6
                rw [if_neg h6]
                split at h
                · cases h
                · rename_i h7
                  rw [if_neg h7]
                  cases r with
                  | nil => simpa using h
                  | cons d r' =>
                    simp only at h
                    split at h
                    · rename_i h8
                      simp only [Option.some.injEq, Prod.mk.injEq] at h
                      obtain ⟨rfl, rfl, rfl, h9⟩ := h
                      obtain ⟨i, rfl⟩ : ∃ i, j' = i + 1 := ⟨j' - 1, by omega⟩
                      simp [h8, h9]
                    · rename_i h8
                      simp only [Option.some.injEq, Prod.mk.injEq] at h
                      obtain ⟨rfl, rfl, rfl, h9⟩ := h
                      subst h9
                      cases j' with
                      | zero => simp
                      | succ i => simp only [List.take_succ_cons]; rw [if_neg h8]

end Go.Mk
