/-
  Lemmas towards the claim of this folder: contracts of the functions that the law reaches; joined texts.
-/
import Derived.Test.YtjnpmbdehalmpaaGreatGSr
import Derived.Test.YtjnpmbdehalmpaaGreatGPo
import Derived.Test.YtjnpmbdehalmpaaGreatGL7
import Derived.Test.YtjnpmbdehalmpaaGreatGMk
/-
  What a snapshot writes is parsed as it (plain).
-/
namespace Go.Proofs.YtjnpmbdehalmpaaGreat
open Go.RowKit Go.Mk Go.Maps

theorem lastK_rise : ∀ {acc : List DD} {d : DD} {r : List DD}, Rise keyD (acc ++ d :: r) → rightD d = true → lastK acc < keyD d
  | [], d, r, _, hd => by
    have := keyD_right hd
    cases h : keyD d with
    | nil => exact (this h).elim
    | cons a t => exact List.nil_lt_cons _ _
  | [x], d, r, h, _ => (rise_cons.1 h).1 d (by simp)
  | _ :: y :: acc, d, r, h, hd => lastK_rise (acc := y :: acc) (rise_cons.1 h).2 hd

theorem parseN_oct : ∀ (l acc : List DD) (t : List UInt8), Rise keyD (acc ++ l) → (∀ d ∈ l, rightD d = true) → parseN l.length ⟨octsL l ++ t, 0⟩ acc = (0, acc ++ l, ⟨t, 0⟩)
  | [], acc, t, _, _ => by simp [parseN, octsL]
  | d :: l, acc, t, h, hr => by
    have h1 := hr d (by simp)
    have e1 : octsL (d :: l) ++ t = octD d ++ (octsL l ++ t) := by simp [octsL]
    rw [e1, List.length_cons, parseN, judge_oct d _ h1 (right_small h1), read_oct d _ h1 (right_small h1)]
    dsimp only
    rw [if_neg (by simp), if_pos (lastK_rise h h1), parseN_oct l (acc ++ [d]) t (by simpa using h) (fun x hx => hr x (by simp [hx]))]
    simp

theorem parse_oct {l : List DD} (h : Rise keyD l) (hr : ∀ d ∈ l, rightD d = true) (hl : l.length ≤ 500) : parseL (octS l) = (0, l) := by
  have hn := read_num l.length (octsL l) (by omega)
  have hp := parseN_oct l [] [] (by simpa using h) hr
  rw [List.append_nil, List.nil_append] at hp
  unfold parseL octS
  rw [hn]
  dsimp only
  rw [if_neg (by simp), if_neg (by omega), Int.toNat_natCast, hp]
  unfold finP
  simp [RS.endE]

theorem octS_inj {l m : List DD} (h : Rise keyD l) (hr : ∀ d ∈ l, rightD d = true) (hl : l.length ≤ 500) (h' : Rise keyD m) (hr' : ∀ d ∈ m, rightD d = true) (hl' : m.length ≤ 500) (e : octS l = octS m) : l = m := by
  have h1 := parse_oct h hr hl
  rw [e, parse_oct h' hr' hl'] at h1
  exact (Prod.mk.inj h1).2.symm

theorem octS_len {l : List DD} (hr : ∀ d ∈ l, rightD d = true) : (octS l).length ≤ 4 + 10000 * l.length := by
  have := octsL_len l (fun d hd => right_small (hr d hd))
  unfold octS
  rw [List.length_append]
  have h4 : (bigB 4 l.length).length = 4 := by simp [bigB]
  omega

end Go.Proofs.YtjnpmbdehalmpaaGreat

/-
  What was parsed is written the same (plain).
-/
namespace Go.Proofs.YtjnpmbdehalmpaaGreat
open Go.RowKit Go.Mk Go.Maps

theorem ofNat_byte (u : Nat) (x : UInt8) (h : u % 256 = x.toNat) : UInt8.ofNat u = x := by
  rw [← UInt8.toNat_inj, UInt8.toNat_ofNat']
  exact h

theorem big4_nat (a b c d : UInt8) : bigB 4 (natB [a, b, c, d]) = [a, b, c, d] := by
  have ha := a.toNat_lt; have hb := b.toNat_lt; have hc := c.toNat_lt; have hd := d.toNat_lt
  have e : natB [a, b, c, d] = ((a.toNat * 256 + b.toNat) * 256 + c.toNat) * 256 + d.toNat := by simp [natB]
  rw [e]
  simp only [bigB]
  rw [ofNat_byte _ a (by omega), ofNat_byte _ b (by omega), ofNat_byte _ c (by omega), ofNat_byte _ d (by omega)]

theorem big4_take {l : List UInt8} (h : ¬ l.length < 4) : l = bigB 4 (natB (l.take 4)) ++ l.drop 4 := by
  match l, h with
  | a :: b :: c :: d :: t, _ =>
    simp only [List.take_succ_cons, List.take_zero, List.drop_succ_cons, List.drop_zero, big4_nat, List.cons_append, List.nil_append]
  | [], h => simp at h
  | [_], h => simp at h
  | [_, _], h => simp at h
  | [_, _, _], h => simp at h

theorem num_inv {s : RS} (h : s.num.1.err = 0) : ∃ n : Nat, s.num.2 = (n : Int) ∧ s.rest = bigB 4 n ++ s.num.1.rest := by
  unfold RS.num at h ⊢
  by_cases h1 : s.err ≠ 0
  · rw [if_pos h1] at h; exact (h1 h).elim
  · rw [if_neg h1] at h ⊢
    by_cases h2 : s.rest.length < 4
    · rw [if_pos h2] at h; exact absurd h (by simp)
    · rw [if_neg h2] at h ⊢
      by_cases h3 : 2147483647 < natB (s.rest.take 4)
      · rw [if_pos h3] at h; exact absurd h (by simp)
      · rw [if_neg h3]
        exact ⟨_, rfl, big4_take h2⟩

theorem num_err0 {s : RS} (h : s.num.1.err = 0) : s.err = 0 := by
  unfold RS.num at h
  by_cases h1 : s.err ≠ 0
  · rw [if_pos h1] at h; exact h
  · omega

theorem text_inv {s : RS} (h : s.text.1.err = 0) : s.rest = encT s.text.2 ++ s.text.1.rest ∧ s.err = 0 := by
  unfold RS.text at h ⊢
  by_cases h1 : s.num.1.err ≠ 0
  · rw [if_pos h1] at h; exact (h1 h).elim
  · rw [if_neg h1] at h ⊢
    have h0 : s.num.1.err = 0 := by omega
    by_cases h2 : s.num.1.rest.length < s.num.2.toNat
    · rw [if_pos h2] at h; exact absurd h (by simp)
    · rw [if_neg h2]
      refine ⟨?_, num_err0 h0⟩
      obtain ⟨n, e1, e2⟩ := num_inv h0
      rw [e1, Int.toNat_natCast] at h2 ⊢
      dsimp only
      rw [encT, List.length_take, Nat.min_eq_left (by omega), List.append_assoc, List.take_append_drop]
      exact e2

theorem many_inv : ∀ (n : Nat) (s : RS), (RS.many n s).1.err = 0 → s.rest = ((RS.many n s).2.map encT).flatten ++ (RS.many n s).1.rest ∧ (RS.many n s).2.length = n ∧ s.err = 0
  | 0, s, h => by
    rw [RS.many] at h ⊢
    exact ⟨by simp, rfl, h⟩
  | n + 1, s, h => by
    rw [RS.many] at h ⊢
    by_cases h1 : s.err ≠ 0
    · rw [if_pos h1] at h; exact (h1 h).elim
    · rw [if_neg h1] at h ⊢
      dsimp only at h ⊢
      obtain ⟨e1, e2, e3⟩ := many_inv n s.text.1 h
      obtain ⟨f1, f2⟩ := text_inv e3
      refine ⟨?_, by rw [List.length_cons, e2], f2⟩
      rw [List.map_cons, List.flatten_cons, List.append_assoc, ← e1]
      exact f1

theorem texts_inv {s : RS} (h : s.texts.1.err = 0) : s.rest = encL s.texts.2 ++ s.texts.1.rest ∧ s.err = 0 := by
  unfold RS.texts at h ⊢
  by_cases h1 : (RS.many s.num.2.toNat s.head).1.err ≠ 0
  · rw [if_pos h1] at h; exact (h1 h).elim
  · rw [if_neg h1] at h ⊢
    obtain ⟨e1, e2, e3⟩ := many_inv _ _ h
    have hh : s.head = s.num.1 := by
      unfold RS.head at e3 ⊢
      by_cases ht : s.num.1.tooMany s.num.2 = true
      · rw [if_pos ht] at e3; exact absurd e3 (by simp)
      · rw [if_neg ht]
    have h0 : s.num.1.err = 0 := by rw [← hh]; exact e3
    obtain ⟨n, f1, f2⟩ := num_inv h0
    refine ⟨?_, num_err0 h0⟩
    rw [encL, e2, f1, Int.toNat_natCast, List.append_assoc, f2]
    rw [f1, Int.toNat_natCast, hh] at e1
    rw [hh]
    exact congrArg _ e1

/-- What was read without an error, and is valid, is what it is written as. -/
theorem fields_inv {s : RS} (h : (fieldsR s).1.err = 0) (hr : rightD (fieldsR s).2 = true) : s.rest = octD (fieldsR s).2 ++ (fieldsR s).1.rest := by
  have hk := right_kind hr
  unfold fieldsR at h hr hk ⊢
  by_cases h1 : s.num.2 = 1
  · rw [if_pos h1] at h ⊢
    dsimp only at h ⊢
    obtain ⟨e1, e2⟩ := texts_inv h
    obtain ⟨f1, f2⟩ := text_inv e2
    obtain ⟨g1, g2⟩ := text_inv f2
    obtain ⟨n, p1, p2⟩ := num_inv g2
    have : n = 1 := by omega
    subst this
    rw [p2, g1, f1, e1]
    simp [octD]
  · rw [if_neg h1] at h hk ⊢
    by_cases h2 : s.num.2 = 2
    · rw [if_pos h2] at h ⊢
      dsimp only at h ⊢
      obtain ⟨e1, e2⟩ := text_inv h
      obtain ⟨f1, f2⟩ := text_inv e2
      obtain ⟨g1, g2⟩ := text_inv f2
      obtain ⟨n, p1, p2⟩ := num_inv g2
      have : n = 2 := by omega
      subst this
      rw [p2, g1, f1, e1]
      simp [octD]
    · rw [if_neg h2] at hk
      dsimp only at hk
      rcases hk with hk | hk
      · exact (h1 hk).elim
      · exact (h2 hk).elim

theorem parseN_inv : ∀ (n : Nat) (s : RS) (acc : List DD), (parseN n s acc).1 = 0 → ∃ new, new.length = n ∧ (parseN n s acc).2.1 = acc ++ new ∧ s.rest = octsL new ++ (parseN n s acc).2.2.rest
  | 0, s, acc, _ => ⟨[], rfl, by simp [parseN], by simp [parseN, octsL]⟩
  | n + 1, s, acc, h => by
    rw [parseN] at h ⊢
    by_cases h1 : (judgeR (fieldsR s)).2 ≠ 0
    · rw [if_pos h1] at h; exact (h1 h).elim
    · rw [if_neg h1] at h ⊢
      by_cases h2 : lastK acc < keyD (judgeR (fieldsR s)).1
      · rw [if_pos h2] at h ⊢
        obtain ⟨j1, j2, j3⟩ := judge_ok (r := fieldsR s) (by omega)
        rw [j3] at h ⊢
        obtain ⟨new, e1, e2, e3⟩ := parseN_inv n _ _ h
        refine ⟨(fieldsR s).2 :: new, by simp [e1], by rw [e2]; simp, ?_⟩
        have f := fields_inv j1 j2
        rw [f, e3]
        simp [octsL]
      · rw [if_neg h2] at h; exact absurd h (by simp)

theorem parse_inv {l : List UInt8} {m : List DD} (h : parseL l = (0, m)) : octS m = l ∧ m.length ≤ 500 := by
  unfold parseL at h
  by_cases h1 : (RS.num ⟨l, 0⟩).1.err ≠ 0
  · rw [if_pos h1] at h; exact (h1 (Prod.mk.inj h).1).elim
  · rw [if_neg h1] at h
    by_cases h2 : 500 < (RS.num ⟨l, 0⟩).2
    · rw [if_pos h2] at h; exact absurd (Prod.mk.inj h).1 (by decide)
    · rw [if_neg h2] at h
      obtain ⟨n, e1, e2⟩ := num_inv (s := ⟨l, 0⟩) (by omega)
      rw [e1, Int.toNat_natCast] at h
      rw [e1] at h2
      unfold finP at h
      by_cases h3 : (parseN n (RS.num ⟨l, 0⟩).1 []).1 ≠ 0
      · rw [if_pos h3] at h; exact (h3 (Prod.mk.inj h).1).elim
      · rw [if_neg h3] at h
        by_cases h4 : (parseN n (RS.num ⟨l, 0⟩).1 []).2.2.endE ≠ 0
        · rw [if_pos h4] at h; exact (h4 (Prod.mk.inj h).1).elim
        · rw [if_neg h4] at h
          obtain ⟨new, f1, f2, f3⟩ := parseN_inv n (RS.num ⟨l, 0⟩).1 [] (by omega)
          obtain rfl : new = m := by
            have := (Prod.mk.inj h).2
            rw [f2, List.nil_append] at this
            exact this
          refine ⟨?_, by omega⟩
          have hz : (parseN n (RS.num ⟨l, 0⟩).1 []).2.2.rest = [] := by
            unfold RS.endE at h4
            by_cases h5 : (parseN n (RS.num ⟨l, 0⟩).1 []).2.2.err = 0 ∧ (parseN n (RS.num ⟨l, 0⟩).1 []).2.2.rest ≠ []
            · rw [if_pos h5] at h4; exact absurd (by decide) h4
            · rw [if_neg h5] at h4
              refine Classical.byContradiction fun hne => h5 ⟨by omega, hne⟩
          rw [hz, List.append_nil] at f3
          dsimp only at e2
          rw [e2, f3, octS, f1]

end Go.Proofs.YtjnpmbdehalmpaaGreat

/-
  CRC-32 over natural numbers: the register's shift is linear, and no nonzero register becomes zero; a sealed sequence leaves one residue. Over no program.
-/
namespace Go.Mk

/-- EDB88320, hexadecimal. -/
def cpoly : Nat := 3988292384

/-- One bit leaves the register. -/
def sh (r : Nat) : Nat := if r % 2 = 1 then r / 2 ^^^ cpoly else r / 2

def shN : Nat → Nat → Nat
  | 0, r => r
  | n + 1, r => shN n (sh r)

/-- One byte passes. -/
def stepN (r : Nat) (x : UInt8) : Nat := shN 8 (r ^^^ x.toNat)
def regN (l : List UInt8) (r : Nat) : Nat := l.foldl stepN r
def ones : Nat := 4294967295
def sumN (l : List UInt8) : Nat := ones ^^^ regN l ones

/-- The bytes as one number, the least significant first. -/
def leN : List UInt8 → Nat
  | [] => 0
  | x :: l => x.toNat + 256 * leN l

theorem xor_div2 (a b : Nat) : (a ^^^ b) / 2 = a / 2 ^^^ b / 2 := Nat.xor_div_two ..
theorem xor_mod2 (a b : Nat) : (a ^^^ b) % 2 = (a + b) % 2 := by
  have h : (a ^^^ b).testBit 0 = (a.testBit 0 ^^ b.testBit 0) := Nat.testBit_xor ..
  simp only [Nat.testBit_zero] at h
  generalize a ^^^ b = c at *
  rcases Nat.mod_two_eq_zero_or_one a with ha | ha <;> rcases Nat.mod_two_eq_zero_or_one b with hb | hb <;> simp [ha, hb] at h <;> omega
theorem xor_eq0 {a b : Nat} (h : a ^^^ b = 0) : a = b := by
  have e : a ^^^ b ^^^ b = b := by rw [h, Nat.zero_xor]
  rwa [Nat.xor_assoc, Nat.xor_self, Nat.xor_zero] at e

theorem sh_xor (a b : Nat) : sh (a ^^^ b) = sh a ^^^ sh b := by
  unfold sh
  rw [xor_mod2, xor_div2]
  by_cases ha : a % 2 = 1 <;> by_cases hb : b % 2 = 1
  · have e : ¬ (a + b) % 2 = 1 := by omega
    simp only [ha, hb, e, if_true, if_false]
    rw [Nat.xor_assoc, ← Nat.xor_assoc cpoly, Nat.xor_comm cpoly (b / 2), Nat.xor_assoc (b / 2), Nat.xor_self, Nat.xor_zero]
  · have e : (a + b) % 2 = 1 := by omega
    simp only [ha, hb, e, if_true, if_false]
    rw [Nat.xor_assoc, Nat.xor_assoc, Nat.xor_comm cpoly]
  · have e : (a + b) % 2 = 1 := by omega
    simp only [ha, hb, e, if_true, if_false]
    rw [Nat.xor_assoc]
  · have e : ¬ (a + b) % 2 = 1 := by omega
    simp only [ha, hb, e, if_false]

theorem shN_xor (n a b : Nat) : shN n (a ^^^ b) = shN n a ^^^ shN n b := by
  induction n generalizing a b with
  | zero => rfl
  | succ n ih => simp only [shN, sh_xor, ih]

theorem shN_add (m n a : Nat) : shN (m + n) a = shN n (shN m a) := by
  induction m generalizing a with
  | zero => simp [shN]
  | succ m ih => rw [Nat.succ_add]; simp only [shN, ih]

theorem shN_two (n a : Nat) : shN n (2 ^ n * a) = a := by
  induction n generalizing a with
  | zero => simp [shN]
  | succ n ih =>
    have e : 2 ^ (n + 1) * a = 2 * (2 ^ n * a) := by rw [Nat.pow_succ]; ac_rfl
    rw [e, shN, sh, if_neg (by omega), Nat.mul_div_cancel_left _ (by decide), ih]

theorem sh_lt {r : Nat} (h : r < 4294967296) : sh r < 4294967296 := by
  unfold sh
  split
  · exact Nat.xor_lt_two_pow (n := 32) (by omega) (by decide)
  · omega
theorem shN_lt (n : Nat) {r : Nat} (h : r < 4294967296) : shN n r < 4294967296 := by
  induction n generalizing r with
  | zero => exact h
  | succ n ih => exact ih (sh_lt h)
theorem sh_ne {r : Nat} (h : r < 4294967296) (h0 : r ≠ 0) : sh r ≠ 0 := by
  unfold sh
  split
  · intro e
    have e2 := xor_eq0 e
    unfold cpoly at e2
    omega
  · omega
theorem shN_ne (n : Nat) {r : Nat} (h : r < 4294967296) (h0 : r ≠ 0) : shN n r ≠ 0 := by
  induction n generalizing r with
  | zero => exact h0
  | succ n ih => exact ih (sh_lt h) (sh_ne h h0)
theorem shN_zero (n : Nat) : shN n 0 = 0 := by
  induction n with
  | zero => rfl
  | succ n ih => exact ih
theorem shN_inj (n : Nat) {a b : Nat} (ha : a < 4294967296) (hb : b < 4294967296) (h : shN n a = shN n b) : a = b := by
  have e : shN n (a ^^^ b) = 0 := by rw [shN_xor, h, Nat.xor_self]
  by_cases hz : a ^^^ b = 0
  · exact xor_eq0 hz
  · exact absurd e (shN_ne n (Nat.xor_lt_two_pow (n := 32) ha hb) hz)

theorem stepN_lt {r : Nat} (h : r < 4294967296) (x : UInt8) : stepN r x < 4294967296 :=
  shN_lt 8 (Nat.xor_lt_two_pow (n := 32) h (by have := x.toNat_lt; omega))
theorem regN_lt (l : List UInt8) {r : Nat} (h : r < 4294967296) : regN l r < 4294967296 := by
  induction l generalizing r with
  | nil => exact h
  | cons x l ih => exact ih (stepN_lt h x)
theorem ones_xor {r : Nat} (h : r < 4294967296) : ones ^^^ r = 4294967295 - r := by
  show 2 ^ 32 - 1 ^^^ r = 2 ^ 32 - 1 - r
  apply Nat.eq_of_testBit_eq
  intro i
  rw [Nat.testBit_xor, Nat.testBit_two_pow_sub_one, show 2 ^ 32 - 1 - r = 2 ^ 32 - (r + 1) by omega, Nat.testBit_two_pow_sub_succ h]
  by_cases hi : i < 32
  · simp [hi]
  · have : r.testBit i = false := Nat.testBit_lt_two_pow (Nat.lt_of_lt_of_le (show r < 2 ^ 32 from h) (Nat.pow_le_pow_right (by decide) (by omega : 32 ≤ i)))
    simp [hi, this]
theorem sumN_lt (l : List UInt8) : sumN l < 4294967296 := Nat.xor_lt_two_pow (n := 32) (by decide) (regN_lt l (by decide))
theorem sumN_eq (l : List UInt8) : sumN l = 4294967295 - regN l 4294967295 := ones_xor (regN_lt l (by decide))
theorem regN_append (l m : List UInt8) (r : Nat) : regN (l ++ m) r = regN m (regN l r) := List.foldl_append ..

theorem leN_cons (x : UInt8) (l : List UInt8) : leN (x :: l) = x.toNat ^^^ (2 ^ 8 * leN l) := by
  have h := x.toNat_lt
  rw [Nat.xor_comm, leN, Nat.add_comm]
  apply Nat.eq_of_testBit_eq
  intro i
  rw [Nat.testBit_xor, Nat.testBit_two_pow_mul_add _ h, Nat.testBit_two_pow_mul]
  by_cases hi : i < 8
  · have h8 : ¬ 8 ≤ i := by omega
    simp [hi, h8]
  · have : x.toNat.testBit i = false := Nat.testBit_lt_two_pow (Nat.lt_of_lt_of_le h (Nat.pow_le_pow_right (by decide) (by omega : 8 ≤ i)))
    simp [hi, this]
    omega

/-- The register behind a sequence, at one blow. -/
theorem regN_all (l : List UInt8) (r : Nat) : regN l r = shN (8 * l.length) (r ^^^ leN l) := by
  induction l generalizing r with
  | nil => simp [regN, leN, shN]
  | cons x l ih =>
    have e : regN (x :: l) r = regN l (stepN r x) := rfl
    rw [e, ih, leN_cons, List.length_cons, show 8 * (l.length + 1) = 8 + 8 * l.length by omega, shN_add, ← Nat.xor_assoc, shN_xor 8, shN_two]
    rfl

theorem leN_append (l m : List UInt8) : leN (l ++ m) = leN l + 2 ^ (8 * l.length) * leN m := by
  induction l with
  | nil => simp [leN]
  | cons x l ih =>
    simp only [List.cons_append, leN, ih, List.length_cons]
    rw [show 8 * (l.length + 1) = 8 * l.length + 8 by omega, Nat.pow_add]
    generalize 2 ^ (8 * l.length) = p
    rw [Nat.mul_add, show p * 2 ^ 8 * leN m = 256 * (p * leN m) by rw [show (2 : Nat) ^ 8 = 256 from rfl]; ac_rfl]
    omega

theorem leN_lt (l : List UInt8) : leN l < 2 ^ (8 * l.length) := by
  induction l with
  | nil => simp [leN]
  | cons x l ih =>
    have h := x.toNat_lt
    simp only [leN, List.length_cons]
    rw [show 8 * (l.length + 1) = 8 * l.length + 8 by omega, Nat.pow_add]
    generalize 2 ^ (8 * l.length) = p at *
    omega

/-- Four bytes, the least significant first. -/
def le4 (n : Nat) : List UInt8 := [UInt8.ofNat n, UInt8.ofNat (n / 256), UInt8.ofNat (n / 65536), UInt8.ofNat (n / 16777216)]
theorem leN_le4 {n : Nat} (h : n < 4294967296) : leN (le4 n) = n := by
  simp only [le4, leN, UInt8.toNat_ofNat']
  omega
theorem leN_inj {l m : List UInt8} (hl : l.length = m.length) (h : leN l = leN m) : l = m := by
  induction l generalizing m with
  | nil => cases m with
    | nil => rfl
    | cons _ _ => simp at hl
  | cons x l ih => cases m with
    | nil => simp at hl
    | cons y m =>
      simp only [leN] at h
      have hx := x.toNat_lt
      have hy := y.toNat_lt
      simp at hl
      have e1 : x.toNat = y.toNat := by omega
      have e2 : leN l = leN m := by omega
      rw [ih hl e2, UInt8.toNat_inj.1 e1]

/-- What Seal makes. -/
def sealL (l : List UInt8) : List UInt8 := l ++ le4 (sumN l)

/-- Whether the last four bytes are the checksum of the others. -/
theorem sealed_iff (l c : List UInt8) (hc : c.length = 4) : leN c = sumN l ↔ regN (l ++ c) ones = shN 32 ones := by
  have hlt : leN c < 4294967296 := by have := leN_lt c; rw [hc] at this; exact this
  have hr := regN_lt l (r := ones) (by decide)
  rw [regN_append, regN_all c, hc]
  constructor
  · intro h
    rw [h, sumN, ← Nat.xor_assoc, Nat.xor_comm (regN l ones), Nat.xor_assoc, Nat.xor_self, Nat.xor_zero]
  · intro h
    have e := shN_inj 32 (Nat.xor_lt_two_pow (n := 32) hr hlt) (by decide) h
    have e2 : ones ^^^ regN l ones = leN c := by
      have := congrArg (fun z => regN l ones ^^^ z) e
      simp only [← Nat.xor_assoc, Nat.xor_self, Nat.zero_xor] at this
      rw [Nat.xor_comm]; exact this.symm
    exact e2.symm

/-- A RUN OF AT MOST 32 BITS THAT ARE TURNED IS TOLD. -/
theorem told (b s : List UInt8) (t k : Nat) (hs : s.length = b.length + 4) (ht : t < 4294967296) (h0 : t ≠ 0) (hk : k ≤ 8 * s.length) (h : leN s = leN (sealL b) ^^^ (2 ^ k * t)) :
    leN (s.drop b.length) ≠ sumN (s.take b.length) := by
  intro e
  have hd : (s.drop b.length).length = 4 := by rw [List.length_drop]; omega
  have e1 := (sealed_iff _ _ hd).1 e
  rw [List.take_append_drop, regN_all, h, ← Nat.xor_assoc, shN_xor] at e1
  have e2 := (sealed_iff b (le4 (sumN b)) rfl).1 (leN_le4 (sumN_lt b))
  rw [regN_all] at e2
  have hl : (b ++ le4 (sumN b)).length = s.length := by rw [List.length_append, hs]; rfl
  rw [hl] at e2
  rw [sealL, e2] at e1
  have e3 : shN (8 * s.length) (2 ^ k * t) = 0 := by
    have := congrArg (fun z => shN 32 ones ^^^ z) e1
    simpa [← Nat.xor_assoc] using this
  rw [show 8 * s.length = k + (8 * s.length - k) by omega, shN_add, shN_two] at e3
  exact shN_ne _ ht h0 e3

end Go.Mk
