/-
  NameSelectors: the walk.
-/
import Derived.Test.YtinnmemmmpojoaaL6
import Derived.Test.YtinnmemmmpojoaaR6d
import Derived.Test.YtinnmemmmpojoaaSk
namespace Go.Proofs.Ytinnmemmmpojoaa
open Go.RowKit Go.Mk

set_option maxHeartbeats 1000000 in
theorem selectors_walk (l : List UInt8) (w : World) : Calls Try.prog 4 #[.string (bs l)] w fun e w' => e = .returned (.bool true) ∧ Below w.heap.size w w' := by
  have HW := Lib.hid (fun w => awake6_any w)
  by_cases h : 600 < (bs l).size
  · have h1 : (600 : Int) < ((bs l).size : Int) := by omega
    clear h
    generalize bs l = s at *
    go_enter Try.func4, Try.ntmps4
    go_wp2_with fail
    refine (HW.out _).mono ?_
    rintro e w1 ⟨rfl, k1⟩
    go_wp2_with fail
    refine (HW.out _).mono ?_
    rintro e w2 ⟨rfl, k2⟩
    go_wp2
    go_ret
    exact ⟨rfl, keeps_below (k1.trans k2 (fun _ _ h => h))⟩
  · have h1 : ((bs l).size : Int) ≤ 600 := by omega
    have h2 : ¬ (600 : Int) < ((bs l).size : Int) := by omega
    have hl : l.length ≤ 1099511627776 := by rw [bs_size] at h; omega
    have A1 := Lib.hid (fun w => nkind_any l w hl); have B1 := Lib.hid (fun w => rkind_any l w hl)
    have A2 := Lib.hid (fun w => nargs_any l w hl); have B2 := Lib.hid (fun w => rargs_any l w hl)
    have A3 := Lib.hid (fun w => nparts_any l w hl); have B3 := Lib.hid (fun w => rparts_any l w hl)
    have hpl := parts_len l
    have hka := kind_args l
    have hkz : decide (0 < (kindL l : Int)) = decide (0 < kindL l) := by
      rw [Bool.eq_iff_iff, decide_eq_true_iff, decide_eq_true_iff]
      omega
    rw [← hkz] at hka
    have HKA := Lib.hid hka
    clear h hl hka hkz
    generalize (kindL l : Int) = r1 at *
    generalize argsL l = r2 at *
    generalize partsL l = ps at *
    generalize bs l = s at *
    go_enter Try.func4, Try.ntmps4
    go_wp2_with fail
    refine (HW.out _).mono ?_
    rintro e w1 ⟨rfl, k1⟩
    go_wp2_with fail
    refine (A1.out _).mono ?_
    rintro e w2 ⟨rfl, k2⟩
    have k2 := k1.trans k2 (fun _ _ h => h)
    go_wp2_with fail
    refine (B1.out _).mono ?_
    rintro e w3 ⟨rfl, k3⟩
    have k3 := k2.trans k3 (fun _ _ h => h)
    go_wp2_with fail
    refine (A2.out _).mono ?_
    rintro e w4 ⟨rfl, k4⟩
    have k4 := k3.trans k4 (fun _ _ h => h)
    go_wp2_with fail
    refine (B2.out _).mono ?_
    rintro e w5 ⟨rfl, k5⟩
    have k5 := k4.trans k5 (fun _ _ h => h)
    go_wp2_with fail
    refine (A3.out _).mono ?_
    rintro e w6 ⟨ao, cap, rfl, hL, k6⟩
    have k6 := k5.trans k6 (fun _ _ h => h)
    have HL := Lib.hid hL; clear hL
    go_wp2_with fail
    refine (B3.out _).mono ?_
    rintro e w7 ⟨ao7, cap7, rfl, hL7, k7⟩
    have HL7 := Lib.hid hL7; have HL6 := Lib.hid ((HL.out.kept k7 (fun _ _ _ h => h)).mono k7.size); clear hL7
    have k7 := k6.trans k7 (fun _ _ h => h)
    have HS := Lib.hid (same_any ao cap ps ao7 cap7 ps w7.heap.size w7 HL6.out HL7.out (by omega) (by omega))
    go_wp2_with fail
    refine HS.out.mono ?_
    rintro e w8 ⟨rfl, k8⟩
    have k8 := k7.trans k8 (fun _ _ h => h)
    have hpp : (ps == ps) = true := by simp
    rw [hpp]
    clear hpp
    go_wp2_with fail
    refine (A2.out _).mono ?_
    rintro e w9 ⟨rfl, k9⟩
    have k9 := k8.trans k9 (fun _ _ h => h)
    go_wp2_with fail
    refine (A1.out _).mono ?_
    rintro e w10 ⟨rfl, k10⟩
    have k10 := k9.trans k10 (fun _ _ h => h)
    go_wp2
    go_ret
    refine ⟨?_, keeps_below k10⟩
    have := HKA.out
    simp [this]

end Go.Proofs.Ytinnmemmmpojoaa
