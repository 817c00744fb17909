/-
  CONTRACTS of the reference of layer 1: what encodings are.
-/
import Derived.Test.YtgefbolnfenfcaaGreatWr
namespace Go.Proofs.YtgefbolnfenfcaaGreat
open Go.RowKit Go.Mk

set_option maxHeartbeats 400000 in
set_option maxRecDepth 100000 in
theorem octets_any (u k : Nat) (w : World) (hk : k ≤ 8) (hu : u < 18446744073709551616) :
    Calls Tryz.prog 101 #[.int .u64 u, .int .i64 k] w fun e w' => e = .returned (.string (bs (bigB k u))) ∧ Below w.heap.size w w' := by
  go_enter Tryz.func101, Tryz.ntmps101
  go_wp2
  go_loopg [0, 5, 6] k (fun m n s i wr => ∃ j, m = k - j ∧ j ≤ k ∧ i = .int .i64 (j : Int) ∧ s = .string (bs (bigB j u)) ∧ n = .int .u64 ((u / 256 ^ j : Nat) : Int) ∧ Below w.heap.size w wr)
  case atStart => exact ⟨0, rfl, Nat.zero_le _, rfl, rfl, by simp, Below.refl _ _⟩
  case round =>
    obtain ⟨j, hm, hj, rfl, rfl, rfl, hb⟩ := hrel
    have hle : u / 256 ^ j ≤ u := Nat.div_le_self _ _
    generalize hd : u / 256 ^ j = d at *
    have HD := Lib.hid hd; clear hd
    have HM := Lib.hid hm; clear hm
    have HB := Lib.hid hb; clear hb
    by_cases hlt : j < k
    · have hcv := run_string_one (P := Tryz.prog) 34 9 5 Tryz.underlying34 Tryz.underlying5 Tryz.underlying9 wr (UInt8.ofNat d) 5
      have eb : bv (UInt8.ofNat d) = .int .u8 ((d : Int) % 256) := by simp [bv]
      rw [eb] at hcv
      clear eb
      have z1 : (bs [UInt8.ofNat d]).size ≤ 100 := by simp [bs_size]
      have z2 : (bs (bigB j u)).size ≤ 100 := by simp [bs_size, bigB_length]; omega
      go_wp2
      go_roundg (k - (j + 1))
      case measure => have := HM.out; omega
      case rel =>
        refine ⟨j + 1, rfl, by omega, by go_num, ?_, ?_, HB.out.alloc HB.out.size _⟩
        · rw [bs_append]; simp [bigB, HD.out]
        · congr 1; rw [Nat.pow_succ, ← Nat.div_div_eq_div_mul, HD.out]; rfl
    · obtain rfl : j = k := by omega
      go_wp2
      go_ret
      exact ⟨rfl, HB.out⟩

theorem asU64_lt (n : Int) : asU64 n < 18446744073709551616 := by
  unfold asU64
  rw [IntKind.wrap_u64]
  omega

set_option maxHeartbeats 400000 in
theorem rnum_ok (n : Nat) (w : World) (h : n ≤ 2147483647) :
    Calls Tryz.prog 94 #[.int .i64 n] w fun e w' => e = .returned (.tuple #[.string (bs (bigB 4 n)), .bool true]) ∧ Below w.heap.size w w' := by
  go_enter Tryz.func94, Tryz.ntmps94
  go_wp2_with fail
  refine (octets_any n 4 w (by omega) (by omega)).mono ?_
  rintro e w1 ⟨rfl, hb⟩
  have HB := Lib.hid hb; clear hb
  go_wp2
  go_ret2
  exact ⟨rfl, HB.out⟩

set_option maxHeartbeats 400000 in
theorem rnum_no (n : Int) (w : World) (h : n < 0 ∨ 2147483647 < n) :
    Calls Tryz.prog 94 #[.int .i64 n] w fun e w' => e = .returned (.tuple #[.string (bs []), .bool false]) ∧ w = w' := by
  rcases h with h | h
  · go_enter Tryz.func94, Tryz.ntmps94
    go_wp2
    go_ret2
    exact ⟨rfl, rfl⟩
  · have h2 : ¬ n < 0 := by omega
    go_enter Tryz.func94, Tryz.ntmps94
    go_wp2
    go_ret2
    exact ⟨rfl, rfl⟩

/-- The encoding of a text, of a list of texts. -/
def encT (t : List UInt8) : List UInt8 := bigB 4 t.length ++ t
def encL (l : List (List UInt8)) : List UInt8 := bigB 4 l.length ++ (l.map encT).flatten

/-- The list's encoding up to its first j texts. -/
def encTo (l : List (List UInt8)) (n j : Nat) : List UInt8 := bigB 4 n ++ ((l.take j).map encT).flatten

theorem encT_len (t : List UInt8) : (encT t).length = 4 + t.length := by simp [encT, bigB_length]

theorem flat_len (l : List (List UInt8)) : ((l.map encT).flatten).length = sumL l := by
  induction l with
  | nil => rfl
  | cons t l ih => simp [sumL, encT_len] at *; omega
theorem encL_len (l : List (List UInt8)) : (encL l).length = 4 + sumL l := by simp only [encL, List.length_append, bigB_length, flat_len]

end Go.Proofs.YtgefbolnfenfcaaGreat
