/-
  CONTRACTS of the reference of layer 1: what encodings are.
-/
import Derived.Test.YtecjecdgjmipcaaWr
namespace Go.Proofs.Ytecjecdgjmipcaa
open Go.RowKit Go.Mk

theorem asU64_lt (n : Int) : asU64 n < 18446744073709551616 := by
  unfold asU64
  rw [IntKind.wrap_u64]
  omega

/-- The encoding of a text, of a list of texts. -/
def encT (t : List UInt8) : List UInt8 := bigB 4 t.length ++ t
def encL (l : List (List UInt8)) : List UInt8 := bigB 4 l.length ++ (l.map encT).flatten

/-- The list's encoding up to its first j texts. -/
def encTo (l : List (List UInt8)) (n j : Nat) : List UInt8 := bigB 4 n ++ ((l.take j).map encT).flatten

theorem encT_len (t : List UInt8) : (encT t).length = 4 + t.length := by simp [encT, bigB_length]

theorem flat_len (l : List (List UInt8)) : ((l.map encT).flatten).length = sumL l := by
  induction l with
  | nil => rfl
  | cons t l ih => simp [sumL, encT_len] at *; omega
theorem encL_len (l : List (List UInt8)) : (encL l).length = 4 + sumL l := by simp only [encL, List.length_append, bigB_length, flat_len]

end Go.Proofs.Ytecjecdgjmipcaa
