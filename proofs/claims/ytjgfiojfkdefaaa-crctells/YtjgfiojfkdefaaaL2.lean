/-
  The laws of layer 2: awake; CrcSums; CrcOpens; CrcTells (the walks).
-/
import Derived.Test.YtjgfiojfkdefaaaR2
import Derived.Test.YtjgfiojfkdefaaaRs
import Derived.Lib.SlBytesConst
import Derived.Lib.ConvBytes
namespace Go.Proofs.Ytjgfiojfkdefaaa
open Go.RowKit Go.Mk

theorem sealL_len (l : List UInt8) : (sealL l).length = l.length + 4 := by simp [sealL, le4]

theorem csum_none (w : World) : Calls Try.prog 7 #[.slice none 0 0] w fun e w' => e = .returned (.int .u32 0) ∧ w = w' := by
  have h := csum_any none 0 [] 0 w (Lies.nil _ _ _) (by simp) (by simp) (by simp)
  have e : sumN (allB []) = 0 := by decide
  rw [e] at h
  simpa using h

theorem lies_marked (w : World) (vs : List Value) (t : TypeId) (fr : Nat × Nat) : Lies (w.alloc (.cells vs.toArray t fr)) (w.alloc (.cells vs.toArray t fr)).heap.size (some ⟨w.heap.size, 0, none⟩) vs := by
  intro _
  refine ⟨w.heap.size, 0, rfl, by simp, fun j u hu => ?_⟩
  simp [World.cell?, World.alloc, -World.alloc_eq]
  simpa using hu

def digits : List UInt8 := [49, 50, 51, 52, 53, 54, 55, 56, 57]

set_option maxHeartbeats 400000 in
theorem awake2_any (w : World) : Calls Try.prog 6 #[] w fun e w' => e = .returned (.bool true) ∧ Below w.heap.size w w' := by
  have kc := Lib.run_convert_bytes_const (P := Try.prog) w 22 5 (digits.map bv).toArray 9 9 Try.underlying22 Try.underlying5
  rw [show (digits.map bv).toArray = #[.int .u8 49, .int .u8 50, .int .u8 51, .int .u8 52, .int .u8 53, .int .u8 54, .int .u8 55, .int .u8 56, .int .u8 57] from rfl] at kc
  have hl := lies_marked w (digits.map bv) 5 (9, 10)
  rw [show (digits.map bv).toArray = #[.int .u8 49, .int .u8 50, .int .u8 51, .int .u8 52, .int .u8 53, .int .u8 54, .int .u8 55, .int .u8 56, .int .u8 57] from rfl] at hl
  have hs := csum_one _ 9 digits _ 22 hl (by decide)
  rw [show sumN digits = 3421780262 by decide +kernel, show digits.length = 9 from rfl, World.size_alloc] at hs
  have HS := Lib.hid hs; clear hs hl
  go_enter Try.func6, Try.ntmps6
  go_wp2_with fail
  refine HS.out.mono ?_
  rintro e w1 ⟨rfl, rfl⟩
  go_wp2_with fail
  refine (csum_none _).mono ?_
  rintro e w1 ⟨rfl, rfl⟩
  go_wp2
  go_ret
  exact ⟨rfl, ((Below.refl _ _).alloc (Nat.le_refl _) _).alloc (by simp) _⟩

end Go.Proofs.Ytjgfiojfkdefaaa
