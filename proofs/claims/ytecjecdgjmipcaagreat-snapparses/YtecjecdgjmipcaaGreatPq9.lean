/-
  What was parsed is written the same (plain).
-/
import Derived.Test.YtecjecdgjmipcaaGreatPq8
namespace Go.Proofs.YtecjecdgjmipcaaGreat
open Go.RowKit Go.Mk Go.Maps

theorem ofNat_byte (u : Nat) (x : UInt8) (h : u % 256 = x.toNat) : UInt8.ofNat u = x := by
  rw [← UInt8.toNat_inj, UInt8.toNat_ofNat']
  exact h

theorem big4_nat (a b c d : UInt8) : bigB 4 (natB [a, b, c, d]) = [a, b, c, d] := by
  have ha := a.toNat_lt; have hb := b.toNat_lt; have hc := c.toNat_lt; have hd := d.toNat_lt
  have e : natB [a, b, c, d] = ((a.toNat * 256 + b.toNat) * 256 + c.toNat) * 256 + d.toNat := by simp [natB]
  rw [e]
  simp only [bigB]
  rw [ofNat_byte _ a (by omega), ofNat_byte _ b (by omega), ofNat_byte _ c (by omega), ofNat_byte _ d (by omega)]

theorem big4_take {l : List UInt8} (h : ¬ l.length < 4) : l = bigB 4 (natB (l.take 4)) ++ l.drop 4 := by
  match l, h with
  | a :: b :: c :: d :: t, _ =>
    simp only [List.take_succ_cons, List.take_zero, List.drop_succ_cons, List.drop_zero, big4_nat, List.cons_append, List.nil_append]
  | [], h => simp at h
  | [_], h => simp at h
  | [_, _], h => simp at h
  | [_, _, _], h => simp at h

theorem num_inv {s : RS} (h : s.num.1.err = 0) : ∃ n : Nat, s.num.2 = (n : Int) ∧ s.rest = bigB 4 n ++ s.num.1.rest := by
  unfold RS.num at h ⊢
  by_cases h1 : s.err ≠ 0
  · rw [if_pos h1] at h; exact (h1 h).elim
  · rw [if_neg h1] at h ⊢
    by_cases h2 : s.rest.length < 4
    · rw [if_pos h2] at h; exact absurd h (by simp)
    · rw [if_neg h2] at h ⊢
      by_cases h3 : 2147483647 < natB (s.rest.take 4)
      · rw [if_pos h3] at h; exact absurd h (by simp)
      · rw [if_neg h3]
        exact ⟨_, rfl, big4_take h2⟩

theorem num_err0 {s : RS} (h : s.num.1.err = 0) : s.err = 0 := by
  unfold RS.num at h
  by_cases h1 : s.err ≠ 0
  · rw [if_pos h1] at h; exact h
  · omega

theorem text_inv {s : RS} (h : s.text.1.err = 0) : s.rest = encT s.text.2 ++ s.text.1.rest ∧ s.err = 0 := by
  unfold RS.text at h ⊢
  by_cases h1 : s.num.1.err ≠ 0
  · rw [if_pos h1] at h; exact (h1 h).elim
  · rw [if_neg h1] at h ⊢
    have h0 : s.num.1.err = 0 := by omega
    by_cases h2 : s.num.1.rest.length < s.num.2.toNat
    · rw [if_pos h2] at h; exact absurd h (by simp)
    · rw [if_neg h2]
      refine ⟨?_, num_err0 h0⟩
      obtain ⟨n, e1, e2⟩ := num_inv h0
      rw [e1, Int.toNat_natCast] at h2 ⊢
      dsimp only
      rw [encT, List.length_take, Nat.min_eq_left (by omega), List.append_assoc, List.take_append_drop]
      exact e2

theorem many_inv : ∀ (n : Nat) (s : RS), (RS.many n s).1.err = 0 → s.rest = ((RS.many n s).2.map encT).flatten ++ (RS.many n s).1.rest ∧ (RS.many n s).2.length = n ∧ s.err = 0
  | 0, s, h => by
    rw [RS.many] at h ⊢
    exact ⟨by simp, rfl, h⟩
  | n + 1, s, h => by
    rw [RS.many] at h ⊢
    by_cases h1 : s.err ≠ 0
    · rw [if_pos h1] at h; exact (h1 h).elim
    · rw [if_neg h1] at h ⊢
      dsimp only at h ⊢
      obtain ⟨e1, e2, e3⟩ := many_inv n s.text.1 h
      obtain ⟨f1, f2⟩ := text_inv e3
      refine ⟨?_, by rw [List.length_cons, e2], f2⟩
      rw [List.map_cons, List.flatten_cons, List.append_assoc, ← e1]
      exact f1

theorem texts_inv {s : RS} (h : s.texts.1.err = 0) : s.rest = encL s.texts.2 ++ s.texts.1.rest ∧ s.err = 0 := by
  unfold RS.texts at h ⊢
  by_cases h1 : (RS.many s.num.2.toNat s.head).1.err ≠ 0
  · rw [if_pos h1] at h; exact (h1 h).elim
  · rw [if_neg h1] at h ⊢
    obtain ⟨e1, e2, e3⟩ := many_inv _ _ h
    have hh : s.head = s.num.1 := by
      unfold RS.head at e3 ⊢
      by_cases ht : s.num.1.tooMany s.num.2 = true
      · rw [if_pos ht] at e3; exact absurd e3 (by simp)
      · rw [if_neg ht]
    have h0 : s.num.1.err = 0 := by rw [← hh]; exact e3
    obtain ⟨n, f1, f2⟩ := num_inv h0
    refine ⟨?_, num_err0 h0⟩
    rw [encL, e2, f1, Int.toNat_natCast, List.append_assoc, f2]
    rw [f1, Int.toNat_natCast, hh] at e1
    rw [hh]
    exact congrArg _ e1

/-- What was read without an error, and is valid, is what it is written as. -/
theorem fields_inv {s : RS} (h : (fieldsR s).1.err = 0) (hr : rightD (fieldsR s).2 = true) : s.rest = octD (fieldsR s).2 ++ (fieldsR s).1.rest := by
  have hk := right_kind hr
  unfold fieldsR at h hr hk ⊢
  by_cases h1 : s.num.2 = 1
  · rw [if_pos h1] at h ⊢
    dsimp only at h ⊢
    obtain ⟨e1, e2⟩ := texts_inv h
    obtain ⟨f1, f2⟩ := text_inv e2
    obtain ⟨g1, g2⟩ := text_inv f2
    obtain ⟨n, p1, p2⟩ := num_inv g2
    have : n = 1 := by omega
    subst this
    rw [p2, g1, f1, e1]
    simp [octD]
  · rw [if_neg h1] at h hk ⊢
    by_cases h2 : s.num.2 = 2
    · rw [if_pos h2] at h ⊢
      dsimp only at h ⊢
      obtain ⟨e1, e2⟩ := text_inv h
      obtain ⟨f1, f2⟩ := text_inv e2
      obtain ⟨g1, g2⟩ := text_inv f2
      obtain ⟨n, p1, p2⟩ := num_inv g2
      have : n = 2 := by omega
      subst this
      rw [p2, g1, f1, e1]
      simp [octD]
    · rw [if_neg h2] at hk
      dsimp only at hk
      rcases hk with hk | hk
      · exact (h1 hk).elim
      · exact (h2 hk).elim

theorem parseN_inv : ∀ (n : Nat) (s : RS) (acc : List DD), (parseN n s acc).1 = 0 → ∃ new, new.length = n ∧ (parseN n s acc).2.1 = acc ++ new ∧ s.rest = octsL new ++ (parseN n s acc).2.2.rest
  | 0, s, acc, _ => ⟨[], rfl, by simp [parseN], by simp [parseN, octsL]⟩
  | n + 1, s, acc, h => by
    rw [parseN] at h ⊢
    by_cases h1 : (judgeR (fieldsR s)).2 ≠ 0
    · rw [if_pos h1] at h; exact (h1 h).elim
    · rw [if_neg h1] at h ⊢
      by_cases h2 : lastK acc < keyD (judgeR (fieldsR s)).1
      · rw [if_pos h2] at h ⊢
        obtain ⟨j1, j2, j3⟩ := judge_ok (r := fieldsR s) (by omega)
        rw [j3] at h ⊢
        obtain ⟨new, e1, e2, e3⟩ := parseN_inv n _ _ h
        refine ⟨(fieldsR s).2 :: new, by simp [e1], by rw [e2]; simp, ?_⟩
        have f := fields_inv j1 j2
        rw [f, e3]
        simp [octsL]
      · rw [if_neg h2] at h; exact absurd h (by simp)

theorem parse_inv {l : List UInt8} {m : List DD} (h : parseL l = (0, m)) : octS m = l ∧ m.length ≤ 500 := by
  unfold parseL at h
  by_cases h1 : (RS.num ⟨l, 0⟩).1.err ≠ 0
  · rw [if_pos h1] at h; exact (h1 (Prod.mk.inj h).1).elim
  · rw [if_neg h1] at h
    by_cases h2 : 500 < (RS.num ⟨l, 0⟩).2
    · rw [if_pos h2] at h; exact absurd (Prod.mk.inj h).1 (by decide)
    · rw [if_neg h2] at h
      obtain ⟨n, e1, e2⟩ := num_inv (s := ⟨l, 0⟩) (by omega)
      rw [e1, Int.toNat_natCast] at h
      rw [e1] at h2
      unfold finP at h
      by_cases h3 : (parseN n (RS.num ⟨l, 0⟩).1 []).1 ≠ 0
      · rw [if_pos h3] at h; exact (h3 (Prod.mk.inj h).1).elim
      · rw [if_neg h3] at h
        by_cases h4 : (parseN n (RS.num ⟨l, 0⟩).1 []).2.2.endE ≠ 0
        · rw [if_pos h4] at h; exact (h4 (Prod.mk.inj h).1).elim
        · rw [if_neg h4] at h
          obtain ⟨new, f1, f2, f3⟩ := parseN_inv n (RS.num ⟨l, 0⟩).1 [] (by omega)
          obtain rfl : new = m := by
            have := (Prod.mk.inj h).2
            rw [f2, List.nil_append] at this
            exact this
          refine ⟨?_, by omega⟩
          have hz : (parseN n (RS.num ⟨l, 0⟩).1 []).2.2.rest = [] := by
            unfold RS.endE at h4
            by_cases h5 : (parseN n (RS.num ⟨l, 0⟩).1 []).2.2.err = 0 ∧ (parseN n (RS.num ⟨l, 0⟩).1 []).2.2.rest ≠ []
            · rw [if_pos h5] at h4; exact absurd (by decide) h4
            · rw [if_neg h5] at h4
              refine Classical.byContradiction fun hne => h5 ⟨by omega, hne⟩
          rw [hz, List.append_nil] at f3
          dsimp only at e2
          rw [e2, f3, octS, f1]

end Go.Proofs.YtecjecdgjmipcaaGreat
