/-
  CONTRACT of the reference of layer 1: Rest.
-/
import Derived.Test.YtecjecdgjmipcaaGreatRows
import Derived.Test.YtecjecdgjmipcaaGreatMk
namespace Go.Proofs.YtecjecdgjmipcaaGreat
open Go.RowKit Go.Mk

theorem tmod_bd (a : Int) (n : Nat) (h1 : 1 ≤ n) : -(n : Int) < a.tmod n ∧ a.tmod n < n := by
  refine ⟨?_, Int.tmod_lt_of_pos _ (by omega)⟩
  rcases Int.le_total 0 a with h | h
  · have := Int.tmod_nonneg (n : Int) h
    omega
  · have h3 := Int.tmod_lt_of_pos (-a) (show (0 : Int) < n by omega)
    rw [Int.neg_tmod] at h3
    omega
theorem rest_nn (a : Int) (n : Nat) (h1 : 1 ≤ n) (h2 : n ≤ 2147483647) : 0 ≤ (wrap64 (a.tmod n + n)).tmod n ∧ (wrap64 (a.tmod n + n)).tmod n < n := by
  have h := tmod_bd a n h1
  have e : wrap64 (a.tmod n + n) = a.tmod n + n := by unfold wrap64; omega
  rw [e]
  exact ⟨Int.tmod_nonneg _ (by omega), Int.tmod_lt_of_pos _ (by omega)⟩
theorem rest_eq (a : Int) (n : Nat) (h1 : 1 ≤ n) (h2 : n ≤ 2147483647) : (wrap64 (a.tmod n + n)).tmod n = (((wrap64 (a.tmod n + n)).tmod n).toNat : Int) := by
  have := rest_nn a n h1 h2
  omega
theorem rest_lt (a : Int) (n : Nat) (h1 : 1 ≤ n) (h2 : n ≤ 2147483647) : ((wrap64 (a.tmod n + n)).tmod n).toNat < n := by
  have := rest_nn a n h1 h2
  omega

set_option maxHeartbeats 400000 in
theorem rest_any (a : Int) (n : Nat) (w : World) (h1 : 1 ≤ n) (h2 : n ≤ 2147483647) :
    Calls Tryz.prog 26 #[.int .i64 a, .int .i64 n] w fun e w' => (∃ r : Nat, r < n ∧ e = .returned (.int .i64 r)) ∧ w = w' := by
  go_enter Tryz.func26, Tryz.ntmps26
  go_wp2
  go_ret
  refine ⟨⟨_, ?_, congrArg (fun x : Int => Ending.returned (.int .i64 x)) (rest_eq a n h1 h2)⟩, rfl⟩
  exact rest_lt a n h1 h2

end Go.Proofs.YtecjecdgjmipcaaGreat
