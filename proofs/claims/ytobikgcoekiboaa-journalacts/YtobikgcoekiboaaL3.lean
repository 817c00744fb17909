/-
  The laws of layer 3: Noughts and awake.
-/
import Derived.Test.YtobikgcoekiboaaDd
import Derived.Test.YtobikgcoekiboaaBy
namespace Go.Proofs.Ytobikgcoekiboaa
open Go.RowKit Go.Mk

set_option maxHeartbeats 400000 in
theorem noughts_any (w : World) (n : Nat) (hn : n ≤ 1000000) : Calls Try.prog 32 #[.int .i64 n] w fun e w' => e = .returned (.string (bs (List.replicate n 0))) ∧ Below w.heap.size w w' := by
  obtain ⟨i0, hi, hz0, hz1, hz2⟩ := info_parts Try.infoByte
  have hm : i0.bytes * n ≤ 281474976710656 := by rw [hz2]; omega
  have hs := run_string_new (P := Try.prog) 35 9 5 Try.underlying35 Try.underlying5 Try.underlying9 w (List.replicate n 0) n (by simp) 5
  rw [← made_noughts] at hs
  go_enter Try.func32, Try.ntmps32
  go_wp2_with (at_make; refine wpList_make_row _ rfl (.tmp 3) (.tmp 3) 35 rfl 5 i0 (.int .u8 0) Try.underlying35 hi hz0 hz1 rfl .i64 .i64 n rfl rfl hm (by omega) ?_)
  go_ret
  exact ⟨rfl, (Below.refl _ _).alloc (Nat.le_refl _) _⟩

def la3 : List UInt8 := List.replicate 63 0 ++ [97]
def lb3 : List UInt8 := List.replicate 63 0 ++ [98]

theorem lies_row {w : World} {base : Nat} {e : TypeId} {ao : Option Addr} {n cap : Nat} {l : List UInt8} (h : w.ownsRow base e 1 (.slice ao n cap) n (l.map bv)) : Lies w w.heap.size ao (l.map bv) := owns_lies h

end Go.Proofs.Ytobikgcoekiboaa
