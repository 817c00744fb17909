/-
  WHAT IS WRITTEN IS READ BACK: plain facts on the encodings.
-/
import Derived.Test.YtecjecdgjmipcaaGreatR1
import Derived.Test.YtecjecdgjmipcaaGreatRt
namespace Go.Proofs.YtecjecdgjmipcaaGreat
open Go.RowKit Go.Mk

theorem natB_fold (k u n : Nat) : (bigB k u).foldl (fun n x => n * 256 + x.toNat) n = n * 256 ^ k + u % 256 ^ k := by
  induction k generalizing n with
  | zero => simp [bigB, Nat.mod_one]
  | succ k ih =>
    rw [bigB, List.foldl_cons, ih]
    have h1 : (UInt8.ofNat (u / 256 ^ k)).toNat = u / 256 ^ k % 256 := by simp
    rw [h1, Nat.pow_succ, Nat.mod_mul, Nat.add_mul, Nat.mul_assoc, Nat.mul_comm 256 (256 ^ k), Nat.add_assoc]
    congr 1
    rw [Nat.mul_comm (u / 256 ^ k % 256), Nat.add_comm]
theorem natB_bigB (k u : Nat) : natB (bigB k u) = u % 256 ^ k := by
  unfold natB
  rw [natB_fold]; simp

theorem take_big (k u : Nat) (t : List UInt8) : (bigB k u ++ t).take k = bigB k u ∧ (bigB k u ++ t).drop k = t := by
  have := bigB_length k u
  exact ⟨List.take_left' this, List.drop_left' this⟩

theorem read_num (n : Nat) (t : List UInt8) (h : n ≤ 2147483647) : (⟨bigB 4 n ++ t, 0⟩ : RS).num = (⟨t, 0⟩, (n : Int)) := by
  obtain ⟨e1, e2⟩ := take_big 4 n t
  have e3 : natB (bigB 4 n) = n := by rw [natB_bigB]; exact Nat.mod_eq_of_lt (by omega)
  unfold RS.num
  have hl : ¬ (bigB 4 n ++ t).length < 4 := by simp [bigB_length]
  have hb : ¬ 2147483647 < n := by omega
  simp only [e1, e2, e3, hl, hb, ne_eq, not_true_eq_false, if_false]

theorem asU64_back (n : Int) (h1 : -9223372036854775808 ≤ n) (h2 : n ≤ 9223372036854775807) : wrap64 (asU64 n : Int) = n := by
  have : (asU64 n : Int) = n % 18446744073709551616 := by
    rw [← asU64_eq, IntKind.wrap_u64]
  rw [this]
  unfold wrap64
  omega

theorem read_int (n : Int) (t : List UInt8) (h1 : -9223372036854775808 ≤ n) (h2 : n ≤ 9223372036854775807) : (⟨bigB 8 (asU64 n) ++ t, 0⟩ : RS).int = (⟨t, 0⟩, n) := by
  obtain ⟨e1, e2⟩ := take_big 8 (asU64 n) t
  have e3 : natB (bigB 8 (asU64 n)) = asU64 n := by
    rw [natB_bigB]; exact Nat.mod_eq_of_lt (asU64_lt n)
  unfold RS.int
  have hl : ¬ (bigB 8 (asU64 n) ++ t).length < 8 := by simp [bigB_length]
  simp only [e1, e2, e3, hl, ne_eq, not_true_eq_false, if_false, asU64_back n h1 h2]

theorem read_text (x t : List UInt8) (h : x.length ≤ 2147483647) : (⟨encT x ++ t, 0⟩ : RS).text = (⟨t, 0⟩, x) := by
  have e : (⟨encT x ++ t, 0⟩ : RS).num = (⟨x ++ t, 0⟩, (x.length : Int)) := by
    rw [encT, List.append_assoc]
    exact read_num _ _ h
  have hl : ¬ (x ++ t).length < x.length := by simp
  unfold RS.text
  simp only [e, Int.toNat_natCast, hl, ne_eq, not_true_eq_false, if_false, List.take_left', List.drop_left']

theorem read_many (l : List (List UInt8)) (t : List UInt8) (h : ∀ x ∈ l, x.length ≤ 2147483647) : RS.many l.length ⟨(l.map encT).flatten ++ t, 0⟩ = (⟨t, 0⟩, l) := by
  induction l with
  | nil => rfl
  | cons x l ih =>
    have e := read_text x ((l.map encT).flatten ++ t) (h x List.mem_cons_self)
    have e2 := ih (fun y hy => h y (List.mem_cons_of_mem _ hy))
    simp only [List.map_cons, List.flatten_cons, List.append_assoc, List.length_cons, RS.many, e, e2, ne_eq, not_true_eq_false, if_false]

theorem read_texts (l : List (List UInt8)) (t : List UInt8) (hl : l.length ≤ 1000000) (h : ∀ x ∈ l, x.length ≤ 2147483647) : (⟨encL l ++ t, 0⟩ : RS).texts = (⟨t, 0⟩, l) := by
  have e : (⟨encL l ++ t, 0⟩ : RS).num = (⟨(l.map encT).flatten ++ t, 0⟩, (l.length : Int)) := by
    rw [encL, List.append_assoc]
    exact read_num _ _ (by omega)
  have hs : l.length ≤ sumL l := by
    clear e hl h
    induction l with
    | nil => simp
    | cons x l ih => simp [sumL] at *; omega
  have ht : (⟨encL l ++ t, 0⟩ : RS).head = ⟨(l.map encT).flatten ++ t, 0⟩ := by
    unfold RS.head RS.tooMany
    rw [e]
    have : ¬ (1000000 < (l.length : Int) ∨ ((((l.map encT).flatten ++ t).length : Nat) : Int) < (l.length : Int)) := by
      simp only [List.length_append, flat_len]; omega
    simp only [this, and_false, decide_false, Bool.false_eq_true, if_false]
  unfold RS.texts
  rw [ht, e, Int.toNat_natCast, read_many l t h]
  simp

end Go.Proofs.YtecjecdgjmipcaaGreat
