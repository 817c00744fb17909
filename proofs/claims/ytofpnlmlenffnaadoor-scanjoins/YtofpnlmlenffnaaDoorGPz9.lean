/-
  Lemmas towards the claim of this folder: contracts of the functions that the law reaches; joined texts.
-/
import Derived.Test.YtofpnlmlenffnaaDoorPz8
import Derived.Test.YtofpnlmlenffnaaDoorRows
import Derived.Test.YtofpnlmlenffnaaDoorMk
/-
  TOKENS step by step (plain, over no program): how far a word, a number, a string, a selector goes, as a loop finds it.
-/
namespace Go.Mk

theorem tw_step {p : UInt8 → Bool} : ∀ (l : List UInt8) (n : Nat), n ≤ (l.takeWhile p).length → (h : n < l.length) → p l[n] = true → n + 1 ≤ (l.takeWhile p).length
  | [], _, _, h, _ => absurd h (Nat.not_lt_zero _)
  | c :: r, n, hn, h, hp => by
    cases hc : p c with
    | false =>
      rw [List.takeWhile_cons_of_neg (by simp [hc])] at hn
      have : n = 0 := by simpa using hn
      subst this
      simp [hc] at hp
    | true =>
      rw [List.takeWhile_cons_of_pos hc] at hn ⊢
      cases n with
      | zero => simp
      | succ n =>
        have := tw_step r n (by simpa using hn) (by simpa using h) (by simpa using hp)
        simpa using this

theorem tw_stop {p : UInt8 → Bool} : ∀ (l : List UInt8) (n : Nat), n ≤ (l.takeWhile p).length → (∀ h : n < l.length, p l[n] = false) → (l.takeWhile p).length = n
  | [], n, hn, _ => by simp at hn; simp [hn]
  | c :: r, n, hn, h => by
    cases hc : p c with
    | false =>
      rw [List.takeWhile_cons_of_neg (by simp [hc])] at hn ⊢
      have : n = 0 := by simpa using hn
      rw [this]
      rfl
    | true =>
      rw [List.takeWhile_cons_of_pos hc] at hn ⊢
      cases n with
      | zero =>
        have := h (by simp)
        simp [hc] at this
      | succ n =>
        have := tw_stop r n (by simpa using hn) (fun h' => by have := h (by simpa using h'); simpa using this)
        simp [this]

theorem tw_at {p : UInt8 → Bool} (l : List UInt8) (n : Nat) (hn : n < (l.takeWhile p).length) : ∃ h : n < l.length, p l[n] = true := by
  have hl : n < l.length := Nat.lt_of_lt_of_le hn (while_le l)
  refine ⟨hl, ?_⟩
  cases h : p l[n]
  · have h2 : ∀ (l : List UInt8) (n : Nat) (hl : n < l.length), p l[n] = false → (l.takeWhile p).length ≤ n := by
      intro l
      induction l with
      | nil => intro n hl; simp at hl
      | cons c r ih =>
        intro n hl hf
        cases hc : p c with
        | false => rw [List.takeWhile_cons_of_neg (by simp [hc])]; simp
        | true =>
          rw [List.takeWhile_cons_of_pos hc]
          cases n with
          | zero => simp [hc] at hf
          | succ n =>
            have := ih n (by simpa using hl) (by simpa using hf)
            simpa using this
    have := h2 l n hl h
    omega
  · rfl

/-! ### Numbers -/

theorem numL_snoc (l : List UInt8) (b : UInt8) : numL (l ++ [b]) = numL l * 10 + (b.toNat : Int) - 48 := by simp [numL, List.foldl_append]

theorem numL_take (l : List UInt8) (n : Nat) (h : n < l.length) : numL (l.take (n + 1)) = numL (l.take n) * 10 + (l[n].toNat : Int) - 48 := by
  rw [List.take_add_one, List.getElem?_eq_getElem h, Option.toList_some, numL_snoc]

theorem numL_ten (l : List UInt8) : ∀ (n : Nat), n ≤ digLen l → n ≤ 10 → 0 ≤ numL (l.take n) ∧ numL (l.take n) < 10 ^ n
  | 0, _, _ => by simp [numL]
  | n + 1, h, h10 => by
    obtain ⟨hl, hd⟩ := tw_at (p := digB) l n (by unfold digLen at h; omega)
    obtain ⟨i1, i2⟩ := numL_ten l n (by omega) (by omega)
    rw [numL_take l n hl]
    simp only [digB, digI, Bool.and_eq_true, decide_eq_true_eq] at hd
    have e : (10 : Int) ^ (n + 1) = 10 ^ n * 10 := by rw [Int.pow_succ]
    rw [e]
    generalize (10 : Int) ^ n = t at *
    constructor <;> omega

theorem numL_bound (l : List UInt8) (n : Nat) (h : n ≤ digLen l) (h10 : n ≤ 10) : 0 ≤ numL (l.take n) ∧ numL (l.take n) < 10000000000 := by
  obtain ⟨h1, h2⟩ := numL_ten l n h h10
  refine ⟨h1, Int.lt_of_lt_of_le h2 ?_⟩
  have : ∀ n : Nat, n ≤ 10 → (10 : Int) ^ n ≤ 10000000000 := by
    intro n hn
    match n, hn with
    | 0, _ => decide
    | 1, _ => decide
    | 2, _ => decide
    | 3, _ => decide
    | 4, _ => decide
    | 5, _ => decide
    | 6, _ => decide
    | 7, _ => decide
    | 8, _ => decide
    | 9, _ => decide
    | 10, _ => decide
  exact this n h10

/-! ### Strings -/

/-- A string of which acc has been read, m octets. -/
def strAt (acc : List UInt8) (m : Nat) (r : List UInt8) : Option (List UInt8 × Nat) := (strL r).map (fun p => (acc ++ p.1, m + p.2))

theorem strAt_zero (r : List UInt8) : strAt [] 0 r = strL r := by
  unfold strAt
  cases strL r <;> simp

theorem strAt_nil (acc : List UInt8) (m : Nat) : strAt acc m [] = none := by simp [strAt, strL]

theorem strAt_end (acc : List UInt8) (m : Nat) {t : List UInt8} (ht : t.head? ≠ some 39) : strAt acc m (39 :: t) = some (acc, m + 1) := by
  unfold strAt
  rw [strL_end ht]
  simp

theorem strAt_two (acc : List UInt8) (m : Nat) (r : List UInt8) : strAt acc m (39 :: 39 :: r) = strAt (acc ++ [39]) (m + 2) r := by
  unfold strAt
  rw [strL_two]
  cases strL r <;> simp <;> omega

theorem strAt_other (acc : List UInt8) (m : Nat) {c : UInt8} (r : List UInt8) (h : c ≠ 39) : strAt acc m (c :: r) = strAt (acc ++ [c]) (m + 1) r := by
  unfold strAt
  rw [strL_other _ h]
  cases strL r <;> simp <;> omega

/-! ### Quotes -/

theorem dblL_snoc (l : List UInt8) (c : UInt8) : dblL (l ++ [c]) = dblL l ++ (if c = 39 then [39, 39] else [c]) := by
  induction l with
  | nil => by_cases h : c = 39 <;> simp [dblL, h]
  | cons d r ih =>
    by_cases h : d = 39
    · simp only [List.cons_append, dblL, if_pos h, ih]
    · simp only [List.cons_append, dblL, if_neg h, ih]

/-! ### Selectors -/

theorem selTo_step (l : List UInt8) (n : Nat) : selTo l (n + 1) = if selAt l (n + 1) = true then n + 1 else selTo l n := rfl

theorem bi_kind {l : List UInt8} (h : lett (l.headD 0) = false) : (kindL l = 2) ↔ isBi l = true := by
  have hu : isUn l = false := by
    unfold isUn isNm
    rw [h]
    simp
  unfold kindL
  rw [hu, if_neg (by simp)]
  by_cases hb : isBi l = true
  · simp [hb]
  · rw [if_neg hb]
    constructor
    · intro h
      split at h <;> omega
    · intro h
      exact (hb h).elim

/-! ### All tokens, one more at a time -/

/-- All tokens where out have been read and the text goes on with r at a place. -/
def allAt (out : List TK) (at_ : Nat) (r : List UInt8) : Int × Int × List TK :=
  let q := goAll (r.length + 1) at_ r
  if q.1 = 0 then (0, 0, out ++ q.2.2) else (q.1, q.2.1, [])

theorem allAt_zero (l : List UInt8) : allAt [] 0 l = goAll (l.length + 1) 0 l := by
  unfold allAt
  rcases go_err l.length (l.length + 1) l 0 (Nat.le_refl _) with h | ⟨h1, _, h3⟩
  · have h2 := (go_ok l.length (l.length + 1) l 0 (Nat.le_refl _) h).1
    simp only [h, if_true, List.nil_append]
    rw [Prod.ext_iff, Prod.ext_iff]
    exact ⟨h.symm, h2.symm, rfl⟩
  · simp only [h1]
    rw [if_neg (by decide)]
    rw [Prod.ext_iff, Prod.ext_iff]
    exact ⟨h1.symm, rfl, h3.symm⟩

theorem allAt_nil (out : List TK) (a : Nat) : allAt out a [] = (0, 0, out ++ [⟨0, [], 0, a⟩]) := by
  unfold allAt
  rw [go_nil]
  simp

theorem allAt_blank (out : List TK) (a : Nat) {c : UInt8} (r : List UInt8) (h : blankB c = true) : allAt out a (c :: r) = allAt out (a + 1) r := by
  unfold allAt
  have e : goAll ((c :: r).length + 1) a (c :: r) = goAll (r.length + 1) (a + 1) r := by
    rw [go_cons, if_pos h]
    rfl
  rw [e]

/-- A comment that does not end. -/
theorem allAt_open (out : List TK) (a : Nat) (r : List UInt8) (h : (r.takeWhile (· != 34)).length = r.length) : allAt out a (34 :: r) = (40, (a : Int), []) := by
  unfold allAt
  have e : goAll ((34 :: r).length + 1) a (34 :: r) = (40, (a : Int), []) := by
    rw [go_cons, if_neg (by decide), if_pos rfl, if_pos h]
  rw [e]
  simp

theorem allAt_remark (out : List TK) (a : Nat) (r : List UInt8) (h : (r.takeWhile (· != 34)).length ≠ r.length) : allAt out a (34 :: r) = allAt out (a + (r.takeWhile (· != 34)).length + 2) (r.drop ((r.takeWhile (· != 34)).length + 1)) := by
  unfold allAt
  have e : goAll ((34 :: r).length + 1) a (34 :: r) = goAll ((r.drop ((r.takeWhile (· != 34)).length + 1)).length + 1) (a + (r.takeWhile (· != 34)).length + 2) (r.drop ((r.takeWhile (· != 34)).length + 1)) := by
    rw [go_cons, if_neg (by decide), if_pos rfl, if_neg h]
    refine go_fuel (r.drop ((r.takeWhile (· != 34)).length + 1)).length _ _ _ _ (Nat.le_refl _) ?_ (by omega)
    simp only [List.length_drop, List.length_cons]
    omega
  rw [e]

theorem allAt_no (out : List TK) (a : Nat) {c : UInt8} (r : List UInt8) (hb : blankB c = false) (hc : c ≠ 34) (h : tokL (c :: r) = none) : allAt out a (c :: r) = (40, (a : Int), []) := by
  unfold allAt
  have e : goAll ((c :: r).length + 1) a (c :: r) = (40, (a : Int), []) := by
    rw [go_cons, if_neg (by simp [hb]), if_neg hc, h]
  rw [e]
  simp

theorem allAt_tok (out : List TK) (a : Nat) {c : UInt8} (r : List UInt8) (hb : blankB c = false) (hc : c ≠ 34) {k : Int} {x : List UInt8} {n : Int} {m : Nat} (h : tokL (c :: r) = some (k, x, n, m)) :
    allAt out a (c :: r) = allAt (out ++ [⟨k, x, n, a⟩]) (a + m) ((c :: r).drop m) := by
  have hm := (tok_len h).1
  unfold allAt
  have e : goAll ((c :: r).length + 1) a (c :: r) = (let q := goAll (((c :: r).drop m).length + 1) (a + m) ((c :: r).drop m); if q.1 = 0 then (0, 0, ⟨k, x, n, a⟩ :: q.2.2) else q) := by
    rw [go_cons, if_neg (by simp [hb]), if_neg hc, h]
    have e2 : goAll (c :: r).length (a + m) ((c :: r).drop m) = goAll (((c :: r).drop m).length + 1) (a + m) ((c :: r).drop m) :=
      go_fuel ((c :: r).drop m).length _ _ _ _ (Nat.le_refl _) (by simp only [List.length_drop, List.length_cons]; omega) (by omega)
    simp only [List.length_cons] at e2
    simp only [List.length_cons, e2]
  rw [e]
  generalize goAll (((c :: r).drop m).length + 1) (a + m) ((c :: r).drop m) = q
  by_cases h0 : q.1 = 0
  · simp [h0]
  · simp [h0]

end Go.Mk

/-
  CONTRACT of slices.Clone on bytes.
-/
namespace Go.Proofs.YtofpnlmlenffnaaDoor
open Go.RowKit Go.Mk

theorem Tryd.infoByte : (Tryd.prog.info? 5).map (fun i => (i.zero, i.size, i.bytes)) = some (some (.int .u8 0), 1, 1) := by kernel_rfl

end Go.Proofs.YtofpnlmlenffnaaDoor
