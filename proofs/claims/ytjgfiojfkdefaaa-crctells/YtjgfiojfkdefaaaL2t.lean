/-
  CrcTells: the walk.
-/
import Derived.Test.YtjgfiojfkdefaaaL2o
namespace Go.Proofs.Ytjgfiojfkdefaaa
open Go.RowKit Go.Mk

theorem mul_xor (k a b : Nat) : 2 ^ k * (a ^^^ b) = 2 ^ k * a ^^^ 2 ^ k * b := by
  apply Nat.eq_of_testBit_eq
  intro i
  rw [Nat.testBit_xor, Nat.testBit_two_pow_mul, Nat.testBit_two_pow_mul, Nat.testBit_two_pow_mul, Nat.testBit_xor]
  cases decide (k ≤ i) <;> simp

theorem leN_set (m : List UInt8) (j : Nat) (hj : j < m.length) (x : UInt8) : leN (m.set j (m[j] ^^^ x)) = leN m ^^^ (2 ^ (8 * j) * x.toNat) := by
  induction m generalizing j with
  | nil => simp at hj
  | cons y l ih =>
    cases j with
    | zero =>
      simp only [List.set_cons_zero, List.getElem_cons_zero, leN_cons, UInt8.toNat_xor, Nat.mul_zero, Nat.pow_zero, Nat.one_mul]
      rw [Nat.xor_assoc, Nat.xor_assoc, Nat.xor_comm x.toNat]
    | succ j =>
      have hj' : j < l.length := by simpa using hj
      simp only [List.set_cons_succ, List.getElem_cons_succ, leN_cons, ih j hj', mul_xor]
      rw [Nat.xor_assoc, ← Nat.mul_assoc, ← Nat.pow_add, show 8 * (j + 1) = 8 + 8 * j by omega]

/-- One bit of a byte. -/
def bitB (n : Nat) : UInt8 := UInt8.ofNat (2 ^ (n % 8))
theorem bitB_nat (n : Nat) : (bitB n).toNat = 2 ^ (n % 8) := by
  have h : (2 : Nat) ^ (n % 8) ≤ 2 ^ 7 := Nat.pow_le_pow_right (by decide) (by omega)
  simp only [bitB, UInt8.toNat_ofNat']
  exact Nat.mod_eq_of_lt (Nat.lt_of_le_of_lt h (by decide))

/-- Bit n is turned. -/
def flipL (m : List UInt8) (n : Nat) : List UInt8 := m.set (n / 8) (m.getD (n / 8) 0 ^^^ bitB n)
theorem flipL_len (m : List UInt8) (n : Nat) : (flipL m n).length = m.length := List.length_set ..
theorem leN_flip (m : List UInt8) (n : Nat) (h : n < 8 * m.length) : leN (flipL m n) = leN m ^^^ 2 ^ n := by
  have hj : n / 8 < m.length := by omega
  rw [flipL, List.getD_eq_getElem?_getD, List.getElem?_eq_getElem hj, Option.getD_some, leN_set m _ hj, bitB_nat, ← Nat.pow_add, Nat.div_add_mod]

/-- The first i bits of t are turned, from bit k on. -/
def flips (t k : Nat) : Nat → List UInt8 → List UInt8
  | 0, m => m
  | i + 1, m => if t / 2 ^ i % 2 = 1 then flipL (flips t k i m) (k + i) else flips t k i m

theorem flips_len (t k i : Nat) (m : List UInt8) : (flips t k i m).length = m.length := by
  induction i with
  | zero => rfl
  | succ i ih => unfold flips; split <;> simp [flipL_len, ih]

theorem mod_succ (t i : Nat) : t % 2 ^ (i + 1) = t % 2 ^ i + 2 ^ i * (t / 2 ^ i % 2) := by
  rw [Nat.pow_succ, Nat.mod_mul]

theorem leN_flips (t k i : Nat) (m : List UInt8) (h : k + i ≤ 8 * m.length) : leN (flips t k i m) = leN m ^^^ (2 ^ k * (t % 2 ^ i)) := by
  induction i with
  | zero => simp [flips, Nat.mod_one]
  | succ i ih =>
    have ih := ih (by omega)
    have hlt : t % 2 ^ i < 2 ^ i := Nat.mod_lt _ (Nat.two_pow_pos i)
    unfold flips
    rw [mod_succ]
    split
    · rename_i hb
      rw [leN_flip _ _ (by rw [flips_len]; omega), ih, hb, Nat.mul_one]
      have e : t % 2 ^ i + 2 ^ i = t % 2 ^ i ^^^ 2 ^ i := by
        have h1 := or_high (t % 2 ^ i) 1 i hlt
        rw [Nat.one_mul] at h1
        rw [← h1]
        apply Nat.eq_of_testBit_eq
        intro j
        rw [Nat.testBit_or, Nat.testBit_xor]
        by_cases hj : i = j
        · subst hj
          rw [Nat.testBit_lt_two_pow hlt]; simp
        · rw [Nat.testBit_two_pow_of_ne hj]; simp
      rw [e, mul_xor, ← Nat.pow_add, Nat.xor_assoc]
    · rename_i hb
      have hb0 : t / 2 ^ i % 2 = 0 := by omega
      rw [ih, hb0, Nat.mul_zero, Nat.add_zero]

theorem open_told (b : List UInt8) (t k : Nat) (ht : t < 4294967296) (h0 : t ≠ 0) (hk : k + 32 ≤ 8 * (b.length + 4)) : openB (flips t k 32 (sealL b)) = ([], 12) := by
  have hl : (flips t k 32 (sealL b)).length = b.length + 4 := by rw [flips_len, sealL_len]
  have h := told b (flips t k 32 (sealL b)) t k hl ht h0 (by omega) (by rw [leN_flips _ _ _ _ (by rw [sealL_len]; omega), Nat.mod_eq_of_lt (show t < 2 ^ 32 from ht)])
  rw [openB, if_neg (by omega), hl, Nat.add_sub_cancel, if_neg h]

theorem flip_val (m : List UInt8) (q n : Nat) : Value.int .u8 (bits .xor .u8 (((m[q]?.getD 0).toNat : Nat) : Int) ((2 : Int) ^ (n % 8) % 256)) = bv (m.getD q 0 ^^^ bitB n) := by
  have h : (2 : Nat) ^ (n % 8) ≤ 2 ^ 7 := Nat.pow_le_pow_right (by decide) (by omega)
  have h2 : (2 : Nat) ^ (n % 8) < 256 := Nat.lt_of_le_of_lt h (by decide)
  have e : (2 : Int) ^ (n % 8) % 256 = ((2 ^ (n % 8) : Nat) : Int) := by
    have c : ((2 ^ (n % 8) : Nat) : Int) = (2 : Int) ^ (n % 8) := by norm_cast
    rw [← c]
    have small : ∀ p : Nat, p < 256 → (p : Int) % 256 = p := by intro p hp; omega
    exact small _ h2
  rw [e, u8_xor_nat _ _ (UInt8.toNat_lt _) h2, List.getD_eq_getElem?_getD, bv, UInt8.toNat_xor, bitB_nat]

set_option maxHeartbeats 400000 in
theorem tells_big (ba : Option Addr) (bc : Nat) (l : List UInt8) (n : Int) (t : Nat) (w : World) (h : 300 < l.length ∨ t = 0) :
    Calls Try.prog 5 #[.slice ba l.length bc, .int .i64 n, .int .u32 t] w fun e w' => e = .returned (.bool true) ∧ Below w.heap.size w w' := by
  by_cases h1 : 300 < l.length
  · clear h
    go_enter Try.func5, Try.ntmps5
    go_wp2_with fail
    refine (awake2_any w).mono ?_
    rintro e w1 ⟨rfl, b1⟩
    have B1 := Lib.hid b1; clear b1
    go_wp2_with fail
    refine (awake2_any w1).mono ?_
    rintro e w2 ⟨rfl, b2⟩
    have B2 := Lib.hid b2; clear b2
    go_wp2
    go_ret
    exact ⟨rfl, B1.out.trans (B2.out.mono B1.out.size)⟩
  · obtain rfl : t = 0 := by omega
    clear h
    go_enter Try.func5, Try.ntmps5
    go_wp2_with fail
    refine (awake2_any w).mono ?_
    rintro e w1 ⟨rfl, b1⟩
    have B1 := Lib.hid b1; clear b1
    go_wp2_with fail
    refine (awake2_any w1).mono ?_
    rintro e w2 ⟨rfl, b2⟩
    have B2 := Lib.hid b2; clear b2
    go_wp2
    go_ret
    exact ⟨rfl, B1.out.trans (B2.out.mono B1.out.size)⟩

set_option maxHeartbeats 400000 in
theorem tells_small (ba : Option Addr) (bc : Nat) (l : List UInt8) (n : Int) (t : Nat) (w : World) (hB : Lies w w.heap.size ba (l.map bv)) (h1 : l.length ≤ 300) (h0 : t ≠ 0) (ht : t < 4294967296) :
    Calls Try.prog 5 #[.slice ba l.length bc, .int .i64 n, .int .u32 t] w fun e w' => e = .returned (.bool true) ∧ Below w.heap.size w w' := by
  have HB := Lib.hid hB; clear hB
  go_enter Try.func5, Try.ntmps5
  go_wp2_with fail
  refine (awake2_any w).mono ?_
  rintro e w1 ⟨rfl, b1⟩
  have hz1 := b1.size
  have h00 : ((t : Int) == 0) = false := by simp; omega
  have HB1 := Lib.hid (HB.out.below b1); have B1 := Lib.hid b1; clear b1
  go_wp2_with fail
  refine (cseal_any ba bc l w.heap.size w1 HB1.out (by omega)).mono ?_
  rintro e w2 ⟨sa, sc, rfl, hos, b2⟩
  obtain ⟨g, rfl, hg⟩ : ∃ g, sa = some ⟨g, 0, none⟩ ∧ w1.heap.size ≤ g := by
    rcases hos.2 with ⟨_, h⟩ | ⟨g, c, cur, h, hg, _⟩
    · omega
    · cases h; exact ⟨g, rfl, hg⟩
  have hz2 := b2.size
  have hsc := owns_cap hos
  have HOS := Lib.hid hos; have B2 := Lib.hid b2; clear b2 hos
  go_wp2_with fail
  rw [show (8 * ((l.length : Int) + 4) - 31) = ((8 * l.length + 1 : Nat) : Int) by omega]
  refine (rest_any n (8 * l.length + 1) w2 (by omega) (by omega)).mono ?_
  rintro e w3 ⟨⟨k, hk, rfl⟩, rfl⟩
  go_wp2
  go_loopg [9] 32 (fun m c wr => ∃ i, m = 32 - i ∧ i ≤ 32 ∧ c = .int .i64 (i : Int) ∧ wr.ownsRow w1.heap.size 5 1 (.slice (some ⟨g, 0, none⟩) (l.length + 4) sc) (l.length + 4) ((flips t k i (sealL l)).map bv) ∧ Below w1.heap.size w1 wr)
  case atStart => exact ⟨0, rfl, by omega, rfl, HOS.out, B2.out⟩
  case round =>
    obtain ⟨i, hm, hi, rfl, ho, hb⟩ := hrel
    have HM := Lib.hid hm; have HO := Lib.hid ho; have HBB := Lib.hid hb; clear hm ho hb
    by_cases hi32 : i < 32
    · have hle : t / 2 ^ i ≤ t := Nat.div_le_self _ _
      have hand := u32_and_one (t / 2 ^ i) (by omega)
      have hcast : ((t / 2 ^ i : Nat) : Int) = (t : Int) / 2 ^ i := by norm_cast
      rw [hcast] at hand
      by_cases hbit : t / 2 ^ i % 2 = 1
      · have hbt : (bits .and .u32 ((t : Int) / 2 ^ i) 1 == 1) = true := by rw [hand, hbit]; rfl
        have hfl : flips t k (i + 1) (sealL l) = flipL (flips t k i (sealL l)) (k + i) := by rw [flips, if_pos hbit]
        have HFL := Lib.hid hfl; have HC := Lib.hid hcast; have HA := Lib.hid hand; clear hfl hcast hand
        have hq : (k + i) / 8 < l.length + 4 := by omega
        have hlen : (flips t k i (sealL l)).length = l.length + 4 := by rw [flips_len, sealL_len]
        have hcell : wr.cell? ⟨g, (k + i) / 8, none⟩ = some (.int .u8 (((flips t k i (sealL l)).getD ((k + i) / 8) 0).toNat : Int)) := by
          rw [HO.out.cellAt _ (by omega), List.getElem?_map, List.getElem?_eq_getElem (by omega), List.getD_eq_getElem?_getD, List.getElem?_eq_getElem (by omega)]
          rfl
        have hfro := HO.out.frozenAt ((k + i) / 8)
        have hidx : ((k : Int) + (i : Int)) / 8 = (((k + i) / 8 : Nat) : Int) := by omega
        have HID := Lib.hid hidx; clear hidx hlen
        go_wp2_with fail
        go_region
        all_goals
          rw [flip_val]
          have hst := HO.out.stored ((k + i) / 8) (bv ((flips t k i (sealL l)).getD ((k + i) / 8) 0 ^^^ bitB (k + i)))
          have ho2 := owns_kept (S := fun _ => False) hst.1 (Kept.drew (Kept.refl _ _)) (fun _ _ h => h)
          rw [← List.map_set] at ho2
          have hb2 : Below w1.heap.size w1 (wr.setCell ⟨g, (k + i) / 8, none⟩ (bv ((flips t k i (sealL l)).getD ((k + i) / 8) 0 ^^^ bitB (k + i)))).drew := by
            have := HBB.out.grown hst.2 HBB.out.size (fun q hq => by cases hq; exact hg)
            exact ⟨this.os, this.tape, this.output, this.size, this.block⟩
          generalize (wr.setCell ⟨g, (k + i) / 8, none⟩ (bv ((flips t k i (sealL l)).getD ((k + i) / 8) 0 ^^^ bitB (k + i)))).drew = wn at *
          have HO2 := Lib.hid ho2; have HB2 := Lib.hid hb2; clear ho2 hb2 hst
          go_wp2
          go_roundg (32 - (i + 1))
          case measure => have := HM.out; omega
          case rel => exact ⟨i + 1, rfl, by omega, by go_num, by rw [HFL.out]; exact HO2.out, HB2.out⟩
      · have hbt : (bits .and .u32 ((t : Int) / 2 ^ i) 1 == 1) = false := by rw [hand]; simp; omega
        have hfl : flips t k (i + 1) (sealL l) = flips t k i (sealL l) := by rw [flips, if_neg hbit]
        have HFL := Lib.hid hfl; have HC := Lib.hid hcast; have HA := Lib.hid hand; clear hfl hcast hand
        go_wp2
        go_roundg (32 - (i + 1))
        case measure => have := HM.out; omega
        case rel => exact ⟨i + 1, rfl, by omega, by go_num, by rw [HFL.out]; exact HO.out, HBB.out⟩
    · obtain rfl : i = 32 := by omega
      have hop := copen_any (some ⟨g, 0, none⟩) sc (flips t k 32 (sealL l)) _ wr (owns_lies HO.out) (by rw [flips_len, sealL_len]; omega) (by rw [flips_len, sealL_len]; exact hsc)
      rw [open_told l t k ht h0 (by omega), flips_len, sealL_len] at hop
      have HOP := Lib.hid hop; clear hop
      go_wp2_with fail
      refine HOP.out.mono ?_
      rintro e w4 ⟨xa, xc, rfl, -, b4⟩
      have hz4 := HBB.out.size
      have B4 := Lib.hid b4; clear b4
      go_wp2
      go_ret
      exact ⟨rfl, B1.out.trans ((HBB.out.trans (B4.out.mono hz4)).mono hz1)⟩

theorem tells_any (ba : Option Addr) (bc : Nat) (l : List UInt8) (n : Int) (t : Nat) (w : World) (hB : Lies w w.heap.size ba (l.map bv)) (ht : t < 4294967296) :
    Calls Try.prog 5 #[.slice ba l.length bc, .int .i64 n, .int .u32 t] w fun e w' => e = .returned (.bool true) ∧ Below w.heap.size w w' := by
  by_cases h : 300 < l.length ∨ t = 0
  · exact tells_big ba bc l n t w h
  · exact tells_small ba bc l n t w hB (by omega) (by omega) ht

end Go.Proofs.Ytjgfiojfkdefaaa
