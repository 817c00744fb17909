/-
  The laws of layer 3: Noughts and awake.
-/
import Derived.Test.YtgefbolnfenfcaaGreatDd
import Derived.Test.YtgefbolnfenfcaaGreatBy
namespace Go.Proofs.YtgefbolnfenfcaaGreat
open Go.RowKit Go.Mk

set_option maxHeartbeats 400000 in
theorem noughts_any (w : World) (n : Nat) (hn : n ≤ 1000000) : Calls Tryz.prog 26 #[.int .i64 n] w fun e w' => e = .returned (.string (bs (List.replicate n 0))) ∧ Below w.heap.size w w' := by
  obtain ⟨i0, hi, hz0, hz1, hz2⟩ := info_parts Tryz.infoByte
  have hm : i0.bytes * n ≤ 281474976710656 := by rw [hz2]; omega
  have hs := run_string_new (P := Tryz.prog) 34 9 5 Tryz.underlying34 Tryz.underlying5 Tryz.underlying9 w (List.replicate n 0) n (by simp) 5
  rw [← made_noughts] at hs
  go_enter Tryz.func26, Tryz.ntmps26
  go_wp2_with (at_make; refine wpList_make_row _ rfl (.tmp 3) (.tmp 3) 34 rfl 5 i0 (.int .u8 0) Tryz.underlying34 hi hz0 hz1 rfl .i64 .i64 n rfl rfl hm (by omega) ?_)
  go_ret
  exact ⟨rfl, (Below.refl _ _).alloc (Nat.le_refl _) _⟩

def la3 : List UInt8 := List.replicate 63 0 ++ [97]
def lb3 : List UInt8 := List.replicate 63 0 ++ [98]

theorem lies_row {w : World} {base : Nat} {e : TypeId} {ao : Option Addr} {n cap : Nat} {l : List UInt8} (h : w.ownsRow base e 1 (.slice ao n cap) n (l.map bv)) : Lies w w.heap.size ao (l.map bv) := owns_lies h

end Go.Proofs.YtgefbolnfenfcaaGreat
