/-
  Lemmas towards the claim of this folder: contracts of the functions that the law reaches; joined texts.
-/
import Derived.Test.YtofpnlmlenffnaaDoorGPz3
/-
  TOKENS over lists (plain): a token by itself.
-/
namespace Go.Mk

theorem take_while {p : UInt8 → Bool} (l : List UInt8) : l.take (l.takeWhile p).length = l.takeWhile p := (List.prefix_iff_eq_take.1 (List.takeWhile_prefix p)).symm

theorem while_take {p : UInt8 → Bool} (l : List UInt8) (i : Nat) (h : (l.takeWhile p).length ≤ i) : ((l.take i).takeWhile p) = l.takeWhile p := by
  induction l generalizing i with
  | nil => simp
  | cons c r ih =>
    rw [List.takeWhile_cons] at h ⊢
    by_cases hc : p c = true
    · rw [if_pos hc] at h ⊢
      obtain ⟨i', rfl⟩ : ∃ i', i = i' + 1 := ⟨i - 1, by simp at h; omega⟩
      rw [List.take_succ_cons, List.takeWhile_cons, if_pos hc, ih i' (by simp at h; omega)]
    · rw [if_neg hc]
      cases i with
      | zero => simp
      | succ i => rw [List.take_succ_cons, List.takeWhile_cons, if_neg hc]

theorem strL_take : ∀ (n : Nat) (l : List UInt8) (_ : l.length ≤ n) (p : List UInt8 × Nat), strL l = some p → strL (l.take p.2) = some p := by
  intro n
  induction n with
  | zero => intro l hl p h; cases l with
    | nil => simp [strL] at h
    | cons _ _ => simp at hl
  | succ n ih =>
    intro l hl p h
    cases l with
    | nil => simp [strL] at h
    | cons c r =>
      simp only [List.length_cons] at hl
      by_cases hc : c = 39
      · subst hc
        cases r with
        | nil => rw [strL_end (by simp)] at h; cases h; exact strL_end (by simp)
        | cons d r' =>
          by_cases hd : d = 39
          · subst hd
            rw [strL_two] at h
            obtain ⟨q, hq, rfl⟩ := Option.map_eq_some_iff.1 h
            have := ih r' (by simp at hl; omega) q hq
            rw [List.take_succ_cons, List.take_succ_cons, strL_two, this]
            rfl
          · rw [strL_end (by simpa using hd)] at h; cases h
            exact strL_end (by simp)
      · rw [strL_other _ hc] at h
        obtain ⟨q, hq, rfl⟩ := Option.map_eq_some_iff.1 h
        have := ih r (by omega) q hq
        rw [List.take_succ_cons, strL_other _ hc, this]
        rfl

theorem selTo_at (l : List UInt8) (n : Nat) (h : selTo l n ≠ 0) : selAt l (selTo l n) = true := by
  induction n with
  | zero => simp [selTo] at h
  | succ n ih =>
    unfold selTo at h ⊢
    split
    · assumption
    · rename_i h1
      rw [if_neg h1] at h
      exact ih h

theorem tok_self {l : List UInt8} {k : Int} {x : List UInt8} {n : Int} {m : Nat} (h : tokL l = some (k, x, n, m)) : tokL (l.take m) = some (k, x, n, m) := by
  have hlen := tok_len h
  cases l with
  | nil => simp [tokL] at h
  | cons c r =>
    simp only [List.length_cons] at hlen
    obtain ⟨m', rfl⟩ : ∃ m', m = m' + 1 := ⟨m - 1, by omega⟩
    rw [List.take_succ_cons]
    simp only [tokL] at h ⊢
    by_cases h1 : lett c = true
    · rw [if_pos h1] at h ⊢
      have hp := word_pos (r := r) h1
      have hp2 := word_pos (r := r.take m') h1
      have hl := word_le r
      have hw : wordLen r ≤ m' → wordLen (r.take m') = wordLen r := fun hh => by unfold wordLen; rw [while_take r m' hh]
      split at h
      · cases h
      · rename_i h2
        split at h
        · rename_i h3
          simp only [Option.some.injEq, Prod.mk.injEq] at h
          obtain ⟨rfl, rfl, rfl, h4⟩ := h
          have hm : m' = wordLen r + 1 := by omega
          have hw' := hw (by omega)
          have e : wordLen (c :: r.take m') = wordLen (c :: r) := by rw [hp2, hw', hp]
          have h5 := (List.getElem?_eq_some_iff.1 h3.1).1
          rw [e, if_neg h2, if_pos, ← List.take_succ_cons, List.take_take, show min (wordLen (c :: r) + 1) (m' + 1) = wordLen (c :: r) + 1 by omega, h4]
          refine ⟨?_, ?_⟩
          · rw [List.getElem?_take_of_lt (by omega)]; exact h3.1
          · rw [List.getElem?_eq_none (by simp; omega)]; simp
        · simp only [Option.some.injEq, Prod.mk.injEq] at h
          obtain ⟨rfl, rfl, rfl, h4⟩ := h
          have hw' := hw (by omega)
          have e : wordLen (c :: r.take m') = wordLen (c :: r) := by rw [hp2, hw', hp]
          rw [e, if_neg h2, if_neg, ← List.take_succ_cons, List.take_take, show min (wordLen (c :: r)) (m' + 1) = wordLen (c :: r) by omega, h4]
          rintro ⟨g, _⟩
          rw [List.getElem?_eq_none (by simp; omega)] at g
          cases g
    · rw [if_neg h1] at h ⊢
      by_cases h2 : digB c = true
      · rw [if_pos h2] at h ⊢
        have hp := dig_pos (r := r) h2
        have hp2 := dig_pos (r := r.take m') h2
        have hl := dig_le r
        split at h
        · cases h
        · rename_i h3
          simp only [Option.some.injEq, Prod.mk.injEq] at h
          obtain ⟨rfl, rfl, rfl, h4⟩ := h
          have hw' : digLen (r.take m') = digLen r := by unfold digLen; rw [while_take r m' (by unfold digLen at hp h4 hl; omega)]
          have e : digLen (c :: r.take m') = digLen (c :: r) := by rw [hp2, hw', hp]
          rw [e, if_neg h3, ← List.take_succ_cons, List.take_take, show min (digLen (c :: r)) (m' + 1) = digLen (c :: r) by omega, h4]
      · rw [if_neg h2] at h ⊢
        by_cases h3 : c = 39
        · rw [if_pos h3] at h ⊢
          obtain ⟨q, hq, he⟩ := Option.map_eq_some_iff.1 h
          simp only [Prod.mk.injEq] at he
          obtain ⟨rfl, rfl, rfl, h4⟩ := he
          obtain rfl : q.2 = m' := by omega
          rw [strL_take _ r (Nat.le_refl _) q hq]
          rfl
        · rw [if_neg h3] at h ⊢
          by_cases h4 : c = 35
          · rw [if_pos h4] at h ⊢
            split at h
            · cases h
            · rename_i h5
              simp only [Option.some.injEq, Prod.mk.injEq] at h
              obtain ⟨rfl, rfl, rfl, h6⟩ := h
              have h7 := selTo_at r _ h5
              have h8 := selTo_le r (min r.length 498)
              obtain rfl : selTo r (min r.length 498) = m' := by omega
              generalize hj : selTo r (min r.length 498) = j at *
              have h9 : min (r.take j).length 498 = j := by simp; omega
              have h10 : selAt (r.take j) j = true := by
                unfold selAt at h7 ⊢
                rw [List.take_take, Nat.min_self]
                simp only [Bool.and_eq_true] at h7 ⊢
                refine ⟨h7.1, ?_⟩
                simp
                left; omega
              have h11 : selTo (r.take j) j = j := by
                obtain ⟨j', rfl⟩ : ∃ j', j = j' + 1 := ⟨j - 1, by omega⟩
                unfold selTo
                rw [if_pos h10]
              rw [h9, h11, if_neg h5, List.take_take, Nat.min_self]
          · rw [if_neg h4] at h ⊢
            by_cases h5 : c = 58 ∧ r.head? = some 61
            · rw [if_pos h5] at h
              simp only [Option.some.injEq, Prod.mk.injEq] at h
              obtain ⟨rfl, rfl, rfl, h6⟩ := h
              obtain rfl : m' = 1 := by omega
              cases r with
              | nil => simp at h5
              | cons d r' =>
                rw [if_pos (by simpa using h5)]
            · rw [if_neg h5] at h
              rw [if_neg (by
                rintro ⟨g1, g2⟩
                refine h5 ⟨g1, ?_⟩
                cases r with
                | nil => simp at g2
                | cons d r' =>
                  cases m' with
                  | zero => simp at g2
                  | succ m' => simpa using g2)]
              split at h
              · rename_i h6
                rw [if_pos h6]
                exact h
              · rename_i h6
                rw [if_neg h6]
                split at h
                · cases h
                · rename_i h7
                  rw [if_neg h7]
                  cases r with
                  | nil => simpa using h
                  | cons d r' =>
                    simp only at h
                    split at h
                    · rename_i h8
                      simp only [Option.some.injEq, Prod.mk.injEq] at h
                      obtain ⟨rfl, rfl, rfl, h9⟩ := h
                      obtain rfl : m' = 1 := by omega
                      simp [h8]
                    · simp only [Option.some.injEq, Prod.mk.injEq] at h
                      obtain ⟨rfl, rfl, rfl, h9⟩ := h
                      obtain rfl : m' = 0 := by omega
                      simp

/-- A token by itself ahead of a line end. -/
theorem tok_take {l : List UInt8} {k : Int} {x : List UInt8} {n : Int} {m : Nat} (h : tokL l = some (k, x, n, m)) (z : List UInt8) : tokL (l.take m ++ 10 :: z) = some (k, x, n, m) := tok_nl (tok_self h)

end Go.Mk

/-
  TOKENS over lists (plain): what stands between tokens changes but their places (P12.3).
-/
namespace Go.Mk

/-- A token and the octets that it was written as. -/
def Raw (s : List UInt8) (e : TK × List UInt8) : Prop :=
  ∃ (p m : Nat) (c : UInt8) (r : List UInt8), e.1.at_ = (p : Int) ∧ s.drop p = c :: r ∧ blankB c = false ∧ c ≠ 34 ∧ tokL (c :: r) = some (e.1.k, e.1.x, e.1.n, m) ∧ e.2 = (c :: r).take m

theorem go_raws (s : List UInt8) : ∀ (n f a : Nat) (ts : List TK), (s.drop a).length ≤ n → goAll f a (s.drop a) = (0, 0, ts) →
    ∃ (es : List (TK × List UInt8)) (p : Int), ts = es.map (·.1) ++ [⟨0, [], 0, p⟩] ∧ ∀ e ∈ es, Raw s e := by
  intro n
  induction n with
  | zero =>
    intro f a ts h h0
    rw [List.eq_nil_of_length_eq_zero (show (s.drop a).length = 0 by omega), go_nil] at h0
    simp only [Prod.mk.injEq, true_and] at h0
    subst h0
    exact ⟨[], a, rfl, by simp⟩
  | succ n ih =>
    intro f a ts h h0
    cases hl : s.drop a with
    | nil =>
      rw [hl, go_nil] at h0
      simp only [Prod.mk.injEq, true_and] at h0
      subst h0
      exact ⟨[], a, rfl, by simp⟩
    | cons c r =>
      have hd : ∀ j, s.drop (a + j) = (c :: r).drop j := fun j => by rw [← hl, List.drop_drop]
      rw [hl] at h h0
      simp only [List.length_cons] at h
      cases f with
      | zero =>
        simp only [goAll, Prod.mk.injEq, true_and] at h0
        subst h0
        exact ⟨[], a, rfl, by simp⟩
      | succ f =>
        rw [go_cons] at h0
        by_cases h1 : blankB c = true
        · rw [if_pos h1, show r = s.drop (a + 1) from (hd 1).symm] at h0
          exact ih f (a + 1) ts (by rw [hd]; simp; omega) h0
        · rw [if_neg h1] at h0
          by_cases h2 : c = 34
          · rw [if_pos h2] at h0
            split at h0
            · simp at h0
            · have e : r.drop ((r.takeWhile (· != 34)).length + 1) = s.drop (a + (r.takeWhile (· != 34)).length + 2) := by
                rw [show a + (r.takeWhile (· != 34)).length + 2 = a + ((r.takeWhile (· != 34)).length + 1 + 1) by omega, hd, List.drop_succ_cons]
              rw [e] at h0
              exact ih f _ ts (by rw [← e, List.length_drop]; omega) h0
          · rw [if_neg h2] at h0
            cases ht : tokL (c :: r) with
            | none => rw [ht] at h0; simp at h0
            | some t =>
              obtain ⟨k, x, n', m⟩ := t
              have h3 := tok_len ht
              simp only [List.length_cons] at h3
              rw [ht] at h0
              dsimp only at h0
              have h4 : (s.drop (a + m)).length ≤ n := by rw [hd]; simp only [List.length_drop, List.length_cons]; omega
              rw [← hd m] at h0
              by_cases h5 : (goAll f (a + m) (s.drop (a + m))).1 = 0
              · rw [if_pos h5] at h0
                simp only [Prod.mk.injEq, true_and] at h0
                have h6 := go_ok _ f (s.drop (a + m)) (a + m) (Nat.le_refl _) h5
                obtain ⟨es, p, h7, h8⟩ := ih f (a + m) (goAll f (a + m) (s.drop (a + m))).2.2 h4 (Prod.ext h5 (Prod.ext h6.1 rfl))
                rw [h7] at h0
                refine ⟨(⟨k, x, n', a⟩, (c :: r).take m) :: es, p, by rw [← h0]; rfl, fun e he => ?_⟩
                rcases List.mem_cons.1 he with rfl | he
                · exact ⟨a, m, c, r, rfl, hl, by simpa using h1, h2, ht, rfl⟩
                · exact h8 e he
              · rw [if_neg h5] at h0
                exact (h5 (by rw [h0])).elim

def sepL (rem : List UInt8) : List UInt8 := 10 :: 34 :: (rem ++ [34, 32])
def blankT (rem : List UInt8) (es : List (TK × List UInt8)) : List UInt8 := (es.map (fun e => e.2 ++ sepL rem)).flatten
def noAt (t : TK) : Int × List UInt8 × Int := (t.k, t.x, t.n)

theorem while_all {p : UInt8 → Bool} (l : List UInt8) (h : ∀ x ∈ l, p x = true) (c : UInt8) (hc : p c = false) (r : List UInt8) : (l ++ c :: r).takeWhile p = l := by
  induction l with
  | nil => simp [hc]
  | cons d l ih =>
    rw [List.cons_append, List.takeWhile_cons, if_pos (h d (by simp)), ih (fun x hx => h x (by simp [hx]))]

theorem go_blank {s : List UInt8} {rem : List UInt8} (hr : ∀ x ∈ rem, x ≠ 34) : ∀ (es : List (TK × List UInt8)) (f a : Nat), (∀ e ∈ es, Raw s e) → (blankT rem es).length < f →
    ∃ ts, goAll f a (blankT rem es) = (0, 0, ts) ∧ ts.map noAt = es.map (fun e => noAt e.1) ++ [(0, [], 0)] := by
  intro es
  induction es with
  | nil => intro f a _ _; exact ⟨_, go_nil _ _, rfl⟩
  | cons e es ih =>
    intro f a he hf
    obtain ⟨p, m, c, r, -, -, h1, h2, h3, h4⟩ := he e (by simp)
    have hm := tok_len h3
    simp only [List.length_cons] at hm
    obtain ⟨m', rfl⟩ : ∃ m', m = m' + 1 := ⟨m - 1, by omega⟩
    have e1 : blankT rem (e :: es) = c :: (r.take m' ++ 10 :: 34 :: (rem ++ 34 :: 32 :: blankT rem es)) := by
      unfold blankT
      rw [List.map_cons, List.flatten_cons, h4, List.take_succ_cons]
      simp [sepL]
    have h5 := tok_take h3 (34 :: (rem ++ 34 :: 32 :: blankT rem es))
    rw [List.take_succ_cons, List.cons_append] at h5
    rw [e1] at hf ⊢
    simp only [List.length_cons, List.length_append, List.length_take] at hf
    obtain ⟨f', rfl⟩ : ∃ f', f = f' + 4 := ⟨f - 4, by omega⟩
    have hml : min m' r.length = m' := by omega
    rw [hml] at hf
    obtain ⟨ts, g1, g2⟩ := ih f' (a + (m' + 1) + 1 + rem.length + 2 + 1) (fun x hx => he x (by simp [hx])) (by omega)
    have hdrop : (c :: (r.take m' ++ 10 :: 34 :: (rem ++ 34 :: 32 :: blankT rem es))).drop (m' + 1) = 10 :: 34 :: (rem ++ 34 :: 32 :: blankT rem es) := by
      rw [List.drop_succ_cons, List.drop_left' (by simp; omega)]
    have hw : (rem ++ 34 :: 32 :: blankT rem es).takeWhile (· != 34) = rem := while_all rem (fun x hx => by simpa using hr x hx) 34 (by decide) _
    have hd2 : (rem ++ 34 :: 32 :: blankT rem es).drop (rem.length + 1) = 32 :: blankT rem es := by
      rw [List.drop_append]; simp
    have hin : goAll (f' + 3) (a + (m' + 1)) (10 :: 34 :: (rem ++ 34 :: 32 :: blankT rem es)) = (0, 0, ts) := by
      rw [go_cons, if_pos (by decide), go_cons, if_neg (by decide), if_pos rfl, hw, if_neg (by simp), hd2, go_cons, if_pos (by decide)]
      exact g1
    refine ⟨⟨e.1.k, e.1.x, e.1.n, a⟩ :: ts, ?_, ?_⟩
    · rw [show f' + 4 = (f' + 3) + 1 from rfl, go_cons, if_neg (by simp [h1]), if_neg h2, h5]
      dsimp only
      rw [hdrop, hin]
      rfl
    · rw [List.map_cons, g2]
      rfl

/-- Remarks and blanks between the tokens. -/
theorem all_blank {s rem : List UInt8} {ts : List TK} (hs : s.length ≤ 4000) (hr : ∀ x ∈ rem, x ≠ 34) (h : allL s = (0, 0, ts)) :
    ∃ (es : List (TK × List UInt8)) (p : Int), ts = es.map (·.1) ++ [⟨0, [], 0, p⟩] ∧ (∀ e ∈ es, Raw s e) ∧
      ((blankT rem es).length ≤ 4000 → ∃ us, allL (blankT rem es) = (0, 0, us) ∧ us.map noAt = ts.map noAt) := by
  unfold allL at h
  rw [if_neg (by omega)] at h
  obtain ⟨es, p, h1, h2⟩ := go_raws s s.length (s.length + 1) 0 ts (by simp) (by simpa using h)
  refine ⟨es, p, h1, h2, fun hb => ?_⟩
  obtain ⟨us, g1, g2⟩ := go_blank hr es ((blankT rem es).length + 1) 0 h2 (by omega)
  refine ⟨us, by unfold allL; rw [if_neg (by omega)]; exact g1, ?_⟩
  rw [g2, h1, List.map_append, List.map_map]
  rfl

end Go.Mk
