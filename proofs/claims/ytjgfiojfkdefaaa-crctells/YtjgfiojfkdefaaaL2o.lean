/-
  CrcOpens: the walk.
-/
import Derived.Test.YtjgfiojfkdefaaaL2
import Derived.Deep.RegionWith
namespace Go.Proofs.Ytjgfiojfkdefaaa
open Go.RowKit Go.Mk

set_option maxHeartbeats 400000 in
theorem opens_big (ba : Option Addr) (bc : Nat) (l : List UInt8) (w : World) (h : 500 < l.length) :
    Calls Try.prog 4 #[.slice ba l.length bc] w fun e w' => e = .returned (.bool true) ∧ Below w.heap.size w w' := by
  go_enter Try.func4, Try.ntmps4
  go_wp2_with fail
  refine (awake2_any w).mono ?_
  rintro e w1 ⟨rfl, b1⟩
  have B1 := Lib.hid b1; clear b1
  go_wp2_with fail
  refine (awake2_any w1).mono ?_
  rintro e w2 ⟨rfl, b2⟩
  have B2 := Lib.hid b2; clear b2
  go_wp2
  go_ret
  exact ⟨rfl, B1.out.trans (B2.out.mono B1.out.size)⟩

theorem open_seal (l : List UInt8) : openB (sealL l) = (l, 0) := by
  have h := sealL_len l
  have e1 : (sealL l).take l.length = l := by rw [sealL, List.take_append_of_le_length (Nat.le_refl _), List.take_length]
  have e2 : (sealL l).drop l.length = le4 (sumN l) := by rw [sealL, List.drop_append_of_le_length (Nat.le_refl _), List.drop_length, List.nil_append]
  rw [openB, if_neg (by omega), h, Nat.add_sub_cancel, e1, e2, if_pos (leN_le4 (sumN_lt l))]

theorem owns_cap {w : World} {base : Nat} {e : TypeId} {ao : Option Addr} {n c : Nat} {xs : List Value} (h : w.ownsRow base e 1 (.slice ao n c) n xs) : n ≤ c := by
  rcases h.2 with ⟨h1, h2⟩ | ⟨g, c', cur, h1, _, _, h2, _⟩
  · cases h1; exact Nat.le_refl _
  · cases h1; exact h2

set_option maxHeartbeats 400000 in
theorem opens_small (ba : Option Addr) (bc : Nat) (l : List UInt8) (w : World) (hB : Lies w w.heap.size ba (l.map bv)) (h1 : l.length ≤ 500) (hc : l.length ≤ bc) :
    Calls Try.prog 4 #[.slice ba l.length bc] w fun e w' => e = .returned (.bool true) ∧ Below w.heap.size w w' := by
  have HB := Lib.hid hB; clear hB
  go_enter Try.func4, Try.ntmps4
  go_wp2_with fail
  refine (awake2_any w).mono ?_
  rintro e w1 ⟨rfl, b1⟩
  have hca := run_string_of (P := Try.prog) w1 22 9 5 Try.underlying22 Try.underlying5 Try.underlying9 bc l.length rfl (HB.out.below b1)
  have hz1 := b1.size
  have HB1 := Lib.hid (HB.out.below b1); have B1 := Lib.hid b1; clear b1
  go_wp2_with fail
  refine (copen_any ba bc l w.heap.size w1 HB1.out (by omega) hc).mono ?_
  rintro e w2 ⟨xa, xc, rfl, hox, b2⟩
  have hz2 := b2.size
  have HB2 := Lib.hid (HB1.out.below (b2.mono hz1)); have B2 := Lib.hid b2; have HOX := Lib.hid hox; clear b2 hca hox
  go_wp2_with fail
  refine (ropen2_any l w2 (by omega)).mono ?_
  rintro e w3 ⟨rfl, b3⟩
  have hz3 := b3.size
  have HB3 := Lib.hid (HB2.out.below (b3.mono (by omega))); have B3 := Lib.hid b3; clear b3
  go_wp2_with fail
  refine (cseal_any ba bc l w.heap.size w3 HB3.out (by omega)).mono ?_
  rintro e w4 ⟨sa, sc, rfl, hos, b4⟩
  have hz4 := b4.size
  have hso := copen_any sa sc (sealL l) _ w4 (owns_lies hos) (by rw [sealL_len]; omega) (by rw [sealL_len]; exact owns_cap hos)
  rw [open_seal, sealL_len] at hso
  have HB4 := Lib.hid (HB3.out.below (b4.mono (by omega))); have B4 := Lib.hid b4; have HSO := Lib.hid hso; clear b4 hso hos
  go_wp2_with fail
  refine HSO.out.mono ?_
  rintro e w5 ⟨ya, yc, rfl, hoy, b5⟩
  have hz5 := b5.size
  have b25 : Below w2.heap.size w2 w5 := B3.out.trans ((B4.out.mono hz3).trans (b5.mono (by omega)))
  have b15 : Below w.heap.size w w5 := B1.out.trans ((B2.out.mono hz1).trans (b25.mono (by omega)))
  have hcx := run_string_of (P := Try.prog) w5 22 9 5 Try.underlying22 Try.underlying5 Try.underlying9 xc (openB l).1.length rfl ((owns_lies HOX.out).below b25)
  have hcy := run_string_of (P := Try.prog) w5 22 9 5 Try.underlying22 Try.underlying5 Try.underlying9 yc l.length rfl (owns_lies hoy)
  have hcb := run_string_of (P := Try.prog) w5 22 9 5 Try.underlying22 Try.underlying5 Try.underlying9 bc l.length rfl (HB.out.below b15)
  have B15 := Lib.hid b15
  clear b15 b25 hoy b5
  generalize openB l = q at *
  obtain ⟨q1, q2⟩ := q
  go_wp2
  go_ret
  exact ⟨rfl, B15.out⟩

theorem opens_any (ba : Option Addr) (bc : Nat) (l : List UInt8) (w : World) (hB : Lies w w.heap.size ba (l.map bv)) (hc : l.length ≤ bc) :
    Calls Try.prog 4 #[.slice ba l.length bc] w fun e w' => e = .returned (.bool true) ∧ Below w.heap.size w w' := by
  by_cases h : 500 < l.length
  · exact opens_big ba bc l w h
  · exact opens_small ba bc l w hB (by omega) hc

end Go.Proofs.Ytjgfiojfkdefaaa
