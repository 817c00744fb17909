/-
  CRC-32 over natural numbers: the register's shift is linear, and no nonzero register becomes zero; a sealed sequence leaves one residue. Over no program.
-/
import Derived.Test.YtgefbolnfenfcaaGreatMk
namespace Go.Mk

/-- EDB88320, hexadecimal. -/
def cpoly : Nat := 3988292384

/-- One bit leaves the register. -/
def sh (r : Nat) : Nat := if r % 2 = 1 then r / 2 ^^^ cpoly else r / 2

def shN : Nat → Nat → Nat
  | 0, r => r
  | n + 1, r => shN n (sh r)

/-- One byte passes. -/
def stepN (r : Nat) (x : UInt8) : Nat := shN 8 (r ^^^ x.toNat)
def regN (l : List UInt8) (r : Nat) : Nat := l.foldl stepN r
def ones : Nat := 4294967295
def sumN (l : List UInt8) : Nat := ones ^^^ regN l ones

/-- The bytes as one number, the least significant first. -/
def leN : List UInt8 → Nat
  | [] => 0
  | x :: l => x.toNat + 256 * leN l

theorem xor_div2 (a b : Nat) : (a ^^^ b) / 2 = a / 2 ^^^ b / 2 := Nat.xor_div_two ..
theorem xor_mod2 (a b : Nat) : (a ^^^ b) % 2 = (a + b) % 2 := by
  have h : (a ^^^ b).testBit 0 = (a.testBit 0 ^^ b.testBit 0) := Nat.testBit_xor ..
  simp only [Nat.testBit_zero] at h
  generalize a ^^^ b = c at *
  rcases Nat.mod_two_eq_zero_or_one a with ha | ha <;> rcases Nat.mod_two_eq_zero_or_one b with hb | hb <;> simp [ha, hb] at h <;> omega
theorem xor_eq0 {a b : Nat} (h : a ^^^ b = 0) : a = b := by
  have e : a ^^^ b ^^^ b = b := by rw [h, Nat.zero_xor]
  rwa [Nat.xor_assoc, Nat.xor_self, Nat.xor_zero] at e

theorem sh_xor (a b : Nat) : sh (a ^^^ b) = sh a ^^^ sh b := by
  unfold sh
  rw [xor_mod2, xor_div2]
  by_cases ha : a % 2 = 1 <;> by_cases hb : b % 2 = 1
  · have e : ¬ (a + b) % 2 = 1 := by omega
    simp only [ha, hb, e, if_true, if_false]
    rw [Nat.xor_assoc, ← Nat.xor_assoc cpoly, Nat.xor_comm cpoly (b / 2), Nat.xor_assoc (b / 2), Nat.xor_self, Nat.xor_zero]
  · have e : (a + b) % 2 = 1 := by omega
    simp only [ha, hb, e, if_true, if_false]
    rw [Nat.xor_assoc, Nat.xor_assoc, Nat.xor_comm cpoly]
  · have e : (a + b) % 2 = 1 := by omega
    simp only [ha, hb, e, if_true, if_false]
    rw [Nat.xor_assoc]
  · have e : ¬ (a + b) % 2 = 1 := by omega
    simp only [ha, hb, e, if_false]

theorem shN_xor (n a b : Nat) : shN n (a ^^^ b) = shN n a ^^^ shN n b := by
  induction n generalizing a b with
  | zero => rfl
  | succ n ih => simp only [shN, sh_xor, ih]

theorem shN_add (m n a : Nat) : shN (m + n) a = shN n (shN m a) := by
  induction m generalizing a with
  | zero => simp [shN]
  | succ m ih => rw [Nat.succ_add]; simp only [shN, ih]

theorem shN_two (n a : Nat) : shN n (2 ^ n * a) = a := by
  induction n generalizing a with
  | zero => simp [shN]
  | succ n ih =>
    have e : 2 ^ (n + 1) * a = 2 * (2 ^ n * a) := by rw [Nat.pow_succ]; ac_rfl
    rw [e, shN, sh, if_neg (by omega), Nat.mul_div_cancel_left _ (by decide), ih]

theorem sh_lt {r : Nat} (h : r < 4294967296) : sh r < 4294967296 := by
  unfold sh
  split
  · exact Nat.xor_lt_two_pow (n := 32) (by omega) (by decide)
  · omega
theorem shN_lt (n : Nat) {r : Nat} (h : r < 4294967296) : shN n r < 4294967296 := by
  induction n generalizing r with
  | zero => exact h
  | succ n ih => exact ih (sh_lt h)
theorem sh_ne {r : Nat} (h : r < 4294967296) (h0 : r ≠ 0) : sh r ≠ 0 := by
  unfold sh
  split
  · intro e
    have e2 := xor_eq0 e
    unfold cpoly at e2
    omega
  · omega
theorem shN_ne (n : Nat) {r : Nat} (h : r < 4294967296) (h0 : r ≠ 0) : shN n r ≠ 0 := by
  induction n generalizing r with
  | zero => exact h0
  | succ n ih => exact ih (sh_lt h) (sh_ne h h0)
theorem shN_zero (n : Nat) : shN n 0 = 0 := by
  induction n with
  | zero => rfl
  | succ n ih => exact ih
theorem shN_inj (n : Nat) {a b : Nat} (ha : a < 4294967296) (hb : b < 4294967296) (h : shN n a = shN n b) : a = b := by
  have e : shN n (a ^^^ b) = 0 := by rw [shN_xor, h, Nat.xor_self]
  by_cases hz : a ^^^ b = 0
  · exact xor_eq0 hz
  · exact absurd e (shN_ne n (Nat.xor_lt_two_pow (n := 32) ha hb) hz)

theorem stepN_lt {r : Nat} (h : r < 4294967296) (x : UInt8) : stepN r x < 4294967296 :=
  shN_lt 8 (Nat.xor_lt_two_pow (n := 32) h (by have := x.toNat_lt; omega))
theorem regN_lt (l : List UInt8) {r : Nat} (h : r < 4294967296) : regN l r < 4294967296 := by
  induction l generalizing r with
  | nil => exact h
  | cons x l ih => exact ih (stepN_lt h x)
theorem ones_xor {r : Nat} (h : r < 4294967296) : ones ^^^ r = 4294967295 - r := by
  show 2 ^ 32 - 1 ^^^ r = 2 ^ 32 - 1 - r
  apply Nat.eq_of_testBit_eq
  intro i
  rw [Nat.testBit_xor, Nat.testBit_two_pow_sub_one, show 2 ^ 32 - 1 - r = 2 ^ 32 - (r + 1) by omega, Nat.testBit_two_pow_sub_succ h]
  by_cases hi : i < 32
  · simp [hi]
  · have : r.testBit i = false := Nat.testBit_lt_two_pow (Nat.lt_of_lt_of_le (show r < 2 ^ 32 from h) (Nat.pow_le_pow_right (by decide) (by omega : 32 ≤ i)))
    simp [hi, this]
theorem sumN_lt (l : List UInt8) : sumN l < 4294967296 := Nat.xor_lt_two_pow (n := 32) (by decide) (regN_lt l (by decide))
theorem sumN_eq (l : List UInt8) : sumN l = 4294967295 - regN l 4294967295 := ones_xor (regN_lt l (by decide))
theorem regN_append (l m : List UInt8) (r : Nat) : regN (l ++ m) r = regN m (regN l r) := List.foldl_append ..

theorem leN_cons (x : UInt8) (l : List UInt8) : leN (x :: l) = x.toNat ^^^ (2 ^ 8 * leN l) := by
  have h := x.toNat_lt
  rw [Nat.xor_comm, leN, Nat.add_comm]
  apply Nat.eq_of_testBit_eq
  intro i
  rw [Nat.testBit_xor, Nat.testBit_two_pow_mul_add _ h, Nat.testBit_two_pow_mul]
  by_cases hi : i < 8
  · have h8 : ¬ 8 ≤ i := by omega
    simp [hi, h8]
  · have : x.toNat.testBit i = false := Nat.testBit_lt_two_pow (Nat.lt_of_lt_of_le h (Nat.pow_le_pow_right (by decide) (by omega : 8 ≤ i)))
    simp [hi, this]
    omega

/-- The register behind a sequence, at one blow. -/
theorem regN_all (l : List UInt8) (r : Nat) : regN l r = shN (8 * l.length) (r ^^^ leN l) := by
  induction l generalizing r with
  | nil => simp [regN, leN, shN]
  | cons x l ih =>
    have e : regN (x :: l) r = regN l (stepN r x) := rfl
    rw [e, ih, leN_cons, List.length_cons, show 8 * (l.length + 1) = 8 + 8 * l.length by omega, shN_add, ← Nat.xor_assoc, shN_xor 8, shN_two]
    rfl

theorem leN_append (l m : List UInt8) : leN (l ++ m) = leN l + 2 ^ (8 * l.length) * leN m := by
  induction l with
  | nil => simp [leN]
  | cons x l ih =>
    simp only [List.cons_append, leN, ih, List.length_cons]
    rw [show 8 * (l.length + 1) = 8 * l.length + 8 by omega, Nat.pow_add]
    generalize 2 ^ (8 * l.length) = p
    rw [Nat.mul_add, show p * 2 ^ 8 * leN m = 256 * (p * leN m) by rw [show (2 : Nat) ^ 8 = 256 from rfl]; ac_rfl]
    omega

theorem leN_lt (l : List UInt8) : leN l < 2 ^ (8 * l.length) := by
  induction l with
  | nil => simp [leN]
  | cons x l ih =>
    have h := x.toNat_lt
    simp only [leN, List.length_cons]
    rw [show 8 * (l.length + 1) = 8 * l.length + 8 by omega, Nat.pow_add]
    generalize 2 ^ (8 * l.length) = p at *
    omega

/-- Four bytes, the least significant first. -/
def le4 (n : Nat) : List UInt8 := [UInt8.ofNat n, UInt8.ofNat (n / 256), UInt8.ofNat (n / 65536), UInt8.ofNat (n / 16777216)]
theorem leN_le4 {n : Nat} (h : n < 4294967296) : leN (le4 n) = n := by
  simp only [le4, leN, UInt8.toNat_ofNat']
  omega
theorem leN_inj {l m : List UInt8} (hl : l.length = m.length) (h : leN l = leN m) : l = m := by
  induction l generalizing m with
  | nil => cases m with
    | nil => rfl
    | cons _ _ => simp at hl
  | cons x l ih => cases m with
    | nil => simp at hl
    | cons y m =>
      simp only [leN] at h
      have hx := x.toNat_lt
      have hy := y.toNat_lt
      simp at hl
      have e1 : x.toNat = y.toNat := by omega
      have e2 : leN l = leN m := by omega
      rw [ih hl e2, UInt8.toNat_inj.1 e1]

/-- What Seal makes. -/
def sealL (l : List UInt8) : List UInt8 := l ++ le4 (sumN l)

/-- Whether the last four bytes are the checksum of the others. -/
theorem sealed_iff (l c : List UInt8) (hc : c.length = 4) : leN c = sumN l ↔ regN (l ++ c) ones = shN 32 ones := by
  have hlt : leN c < 4294967296 := by have := leN_lt c; rw [hc] at this; exact this
  have hr := regN_lt l (r := ones) (by decide)
  rw [regN_append, regN_all c, hc]
  constructor
  · intro h
    rw [h, sumN, ← Nat.xor_assoc, Nat.xor_comm (regN l ones), Nat.xor_assoc, Nat.xor_self, Nat.xor_zero]
  · intro h
    have e := shN_inj 32 (Nat.xor_lt_two_pow (n := 32) hr hlt) (by decide) h
    have e2 : ones ^^^ regN l ones = leN c := by
      have := congrArg (fun z => regN l ones ^^^ z) e
      simp only [← Nat.xor_assoc, Nat.xor_self, Nat.zero_xor] at this
      rw [Nat.xor_comm]; exact this.symm
    exact e2.symm

/-- A RUN OF AT MOST 32 BITS THAT ARE TURNED IS TOLD. -/
theorem told (b s : List UInt8) (t k : Nat) (hs : s.length = b.length + 4) (ht : t < 4294967296) (h0 : t ≠ 0) (hk : k ≤ 8 * s.length) (h : leN s = leN (sealL b) ^^^ (2 ^ k * t)) :
    leN (s.drop b.length) ≠ sumN (s.take b.length) := by
  intro e
  have hd : (s.drop b.length).length = 4 := by rw [List.length_drop]; omega
  have e1 := (sealed_iff _ _ hd).1 e
  rw [List.take_append_drop, regN_all, h, ← Nat.xor_assoc, shN_xor] at e1
  have e2 := (sealed_iff b (le4 (sumN b)) rfl).1 (leN_le4 (sumN_lt b))
  rw [regN_all] at e2
  have hl : (b ++ le4 (sumN b)).length = s.length := by rw [List.length_append, hs]; rfl
  rw [hl] at e2
  rw [sealL, e2] at e1
  have e3 : shN (8 * s.length) (2 ^ k * t) = 0 := by
    have := congrArg (fun z => shN 32 ones ^^^ z) e1
    simpa [← Nat.xor_assoc] using this
  rw [show 8 * s.length = k + (8 * s.length - k) by omega, shN_add, shN_two] at e3
  exact shN_ne _ ht h0 e3

end Go.Mk
