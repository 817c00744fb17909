/-
  CrcSums: the walk.
-/
import Derived.Test.YtjgfiojfkdefaaaL2
import Derived.Deep.RegionWith
namespace Go.Proofs.Ytjgfiojfkdefaaa
open Go.RowKit Go.Mk

set_option maxHeartbeats 400000 in
theorem sums_big (aa : Option Addr) (ac : Nat) (la : List UInt8) (ba : Option Addr) (bc : Nat) (lb : List UInt8) (w : World) (h : 500 < la.length ∨ 500 < lb.length) :
    Calls Try.prog 3 #[.slice aa la.length ac, .slice ba lb.length bc] w fun e w' => e = .returned (.bool true) ∧ Below w.heap.size w w' := by
  by_cases h1 : 500 < la.length
  · clear h
    go_enter Try.func3, Try.ntmps3
    go_wp2_with fail
    refine (awake2_any w).mono ?_
    rintro e w1 ⟨rfl, b1⟩
    have B1 := Lib.hid b1; clear b1
    go_wp2_with fail
    refine (awake2_any w1).mono ?_
    rintro e w2 ⟨rfl, b2⟩
    have B2 := Lib.hid b2; clear b2
    go_wp2
    go_ret
    exact ⟨rfl, B1.out.trans (B2.out.mono B1.out.size)⟩
  · have h2 : 500 < lb.length := by omega
    clear h
    go_enter Try.func3, Try.ntmps3
    go_wp2_with fail
    refine (awake2_any w).mono ?_
    rintro e w1 ⟨rfl, b1⟩
    have B1 := Lib.hid b1; clear b1
    go_wp2_with fail
    refine (awake2_any w1).mono ?_
    rintro e w2 ⟨rfl, b2⟩
    have B2 := Lib.hid b2; clear b2
    go_wp2
    go_ret
    exact ⟨rfl, B1.out.trans (B2.out.mono B1.out.size)⟩

theorem csum_two (aa : Option Addr) (ac : Nat) (la : List UInt8) (ba : Option Addr) (bc : Nat) (lb : List UInt8) (w : World) (t : TypeId) (hA : Lies w w.heap.size aa (la.map bv)) (hB : Lies w w.heap.size ba (lb.map bv)) (h1 : la.length ≤ 1099511627776) (h2 : lb.length ≤ 1099511627776) :
    Calls Try.prog 7 #[.slice (some ⟨w.heap.size, 0, none⟩) 2 2] (w.alloc (.cells #[.slice aa la.length ac, .slice ba lb.length bc] t)) fun e w' => e = .returned (.int .u32 (sumN (la ++ lb))) ∧ w.alloc (.cells #[.slice aa la.length ac, .slice ba lb.length bc] t) = w' := by
  have h := csum_any (some ⟨w.heap.size, 0, none⟩) 2 [(aa, ac, la), (ba, bc, lb)] (w.heap.size + 1) (w.alloc (.cells #[.slice aa la.length ac, .slice ba lb.length bc] t)) (lies_new w [pv (aa, ac, la), pv (ba, bc, lb)] t)
    (fun p hp => by
      simp at hp
      rcases hp with rfl | rfl
      · exact (hA.kept (S := fun _ => False) ((Kept.refl _ w).alloc _) (fun _ _ _ h => h)).mono (by omega)
      · exact (hB.kept (S := fun _ => False) ((Kept.refl _ w).alloc _) (fun _ _ _ h => h)).mono (by omega)) (by simp) (fun p hp => by simp at hp; rcases hp with rfl | rfl <;> assumption)
  simpa [allB] using h

theorem lies_bytes (w : World) (e : TypeId) (l : List UInt8) : Lies (Lib.bytesWorld w e (bs l)) (Lib.bytesWorld w e (bs l)).heap.size (some ⟨w.heap.size, 0, none⟩) (l.map bv) := by
  intro _
  refine ⟨w.heap.size, 0, rfl, by rw [Lib.bytesWorld_size]; omega, fun j u hu => ?_⟩
  rw [List.getElem?_map, Option.map_eq_some_iff] at hu
  obtain ⟨x, hx, rfl⟩ := hu
  obtain ⟨hj, rfl⟩ := List.getElem?_eq_some_iff.1 hx
  rw [Nat.zero_add, Lib.bytesWorld_cell w e (bs l) j hj, bs_toList, List.getD_eq_getElem?_getD, List.getElem?_eq_getElem hj]
  rfl

theorem below_drew {B : Nat} {a w : World} (h : Below B a w) : Below B a w.drew := ⟨h.os, h.tape, h.output, h.size, h.block⟩
theorem below_bytes {B : Nat} {a w : World} (h : Below B a w) (hB : B ≤ w.heap.size) (e : TypeId) (s : ByteArray) : Below B a (Lib.bytesWorld w e s) :=
  h.trans ⟨rfl, rfl, rfl, by rw [Lib.bytesWorld_size]; omega, fun k hk => Lib.bytesWorld_at_old w e s k (by omega)⟩

theorem cseal_bytes (l : List UInt8) (w : World) (n : Nat) (hn : n = w.heap.size) (hl : l.length ≤ 1073741824) :
    Calls Try.prog 9 #[.slice (some ⟨n, 0, none⟩) (bs l).size (grownCap w (bs l).size 0 5)] (Lib.bytesWorld w 5 (bs l)) fun e w' => ∃ ao' cap', e = .returned (.slice ao' (l.length + 4) cap') ∧ w'.ownsRow w.heap.size 5 1 (.slice ao' (l.length + 4) cap') (l.length + 4) ((sealL l).map bv) ∧ Below w.heap.size w w' := by
  subst hn
  refine (cseal_any (some ⟨w.heap.size, 0, none⟩) (grownCap w (bs l).size 0 5) l _ (Lib.bytesWorld w 5 (bs l)) (lies_bytes w _ l) hl).mono ?_
  rintro e w' ⟨ao', cap', rfl, ho, hb⟩
  have hz := Lib.bytesWorld_size w 5 (bs l)
  exact ⟨ao', cap', rfl, owns_base ho (fun k hk => by have := (owns_lt ho k hk).1; omega), (below_bytes (Below.refl _ _) (Nat.le_refl _) _ _).trans (hb.mono (by omega))⟩

set_option maxHeartbeats 400000 in
theorem sums_small (aa : Option Addr) (ac : Nat) (la : List UInt8) (ba : Option Addr) (bc : Nat) (lb : List UInt8) (w : World) (hA : Lies w w.heap.size aa (la.map bv)) (hB : Lies w w.heap.size ba (lb.map bv)) (h1 : la.length ≤ 500) (h2 : lb.length ≤ 500) :
    Calls Try.prog 3 #[.slice aa la.length ac, .slice ba lb.length bc] w fun e w' => e = .returned (.bool true) ∧ Below w.heap.size w w' := by
  have HA := Lib.hid hA; have HB := Lib.hid hB; clear hA hB
  go_enter Try.func3, Try.ntmps3
  go_wp2_with fail
  refine (awake2_any w).mono ?_
  rintro e w1 ⟨rfl, b1⟩
  have hca := run_string_of (P := Try.prog) w1 22 9 5 Try.underlying22 Try.underlying5 Try.underlying9 ac la.length rfl (HA.out.below b1)
  have hcb := run_string_of (P := Try.prog) w1 22 9 5 Try.underlying22 Try.underlying5 Try.underlying9 bc lb.length rfl (HB.out.below b1)
  have za : (bs la).size ≤ 500 := h1
  have zb : (bs lb).size ≤ 500 := h2
  have B1 := Lib.hid b1; clear b1
  have hsu := csum_two aa ac la ba bc lb w1.drew 22 (Lies.lt' (HA.out.below (below_drew B1.out))) (Lies.lt' (HB.out.below (below_drew B1.out))) (by omega) (by omega)
  have HSU := Lib.hid hsu; clear hsu
  have hsb := fun (w : World) => Lib.run_convert_string_bytes (P := Try.prog) w 9 22 5 (bs (la ++ lb)) Try.underlying9 Try.underlying22 Try.underlying5
  have hll : (la ++ lb).length ≤ 1000 := by simp; omega
  have HZ := Lib.hid hll; clear hll
  have hbt : ((sumN (la ++ lb) : Int) == (sumN (la ++ lb) : Int)) = true := by simp
  have hse := cseal_bytes (la ++ lb) (w1.alloc (.cells #[.slice aa la.length ac, .slice ba lb.length bc] 22)).drew (w1.heap.size + 1) (by simp) (by have := HZ.out; omega)
  have HSE := Lib.hid hse; clear hse
  go_wp2_with fail
  rw [bs_append]
  clear hca hcb za zb
  go_region_with (first
    | (go_at_call 7; refine HSU.out.mono ?_; rintro e w2 ⟨rfl, rfl⟩)
    | (go_at_call 8; refine (rsum2_any (la ++ lb) _ (by have := HZ.out; omega)).mono ?_; rintro e w2 ⟨rfl, rfl⟩)
    | (go_at_call 9; refine HSE.out.mono ?_; rintro e w3 ⟨ao3, cap3, rfl, ho3, b3⟩; have hcv3 := run_string_of (P := Try.prog) w3 22 9 5 Try.underlying22 Try.underlying5 Try.underlying9 cap3 (la.length + lb.length + 4) (by rw [sealL_len, List.length_append]) (owns_lies ho3); have HO3 := Lib.hid ho3; have B3 := Lib.hid b3; clear ho3 b3)
    | (go_at_call 10; refine (rseal2_any (la ++ lb) w3 (by have := HZ.out; omega)).mono ?_; rintro e w4 ⟨rfl, b4⟩; have hcv4 := run_string_of (P := Try.prog) w4 22 9 5 Try.underlying22 Try.underlying5 Try.underlying9 cap3 (la.length + lb.length + 4) (by rw [sealL_len, List.length_append]) ((owns_lies HO3.out).below b4); have B4 := Lib.hid b4; clear b4))
  all_goals
    clear hcv3 hcv4 hsb hbt HSE HSU
    go_wp2
    go_ret
    have hz := B1.out.size
    have b2 : Below w.heap.size w (w1.alloc (.cells #[.slice aa la.length ac, .slice ba lb.length bc] 22)).drew := below_drew (B1.out.alloc hz _)
    exact ⟨rfl, (b2.trans (B3.out.mono (by simp; omega))).trans (B4.out.mono (Nat.le_trans (by simp; omega) B3.out.size))⟩

theorem sums_any (aa : Option Addr) (ac : Nat) (la : List UInt8) (ba : Option Addr) (bc : Nat) (lb : List UInt8) (w : World) (hA : Lies w w.heap.size aa (la.map bv)) (hB : Lies w w.heap.size ba (lb.map bv)) :
    Calls Try.prog 3 #[.slice aa la.length ac, .slice ba lb.length bc] w fun e w' => e = .returned (.bool true) ∧ Below w.heap.size w w' := by
  by_cases h : 500 < la.length ∨ 500 < lb.length
  · exact sums_big aa ac la ba bc lb w h
  · exact sums_small aa ac la ba bc lb w hA hB (by omega) (by omega)

end Go.Proofs.Ytjgfiojfkdefaaa
