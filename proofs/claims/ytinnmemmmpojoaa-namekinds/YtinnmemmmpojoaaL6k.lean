/-
  NameKinds: the walk.
-/
import Derived.Test.YtinnmemmmpojoaaL6
import Derived.Test.YtinnmemmmpojoaaR6b
namespace Go.Proofs.Ytinnmemmmpojoaa
open Go.RowKit Go.Mk

set_option maxHeartbeats 1000000 in
theorem kinds_walk (l : List UInt8) (w : World) : Calls Try.prog 3 #[.string (bs l)] w fun e w' => e = .returned (.bool true) ∧ Below w.heap.size w w' := by
  have HW := Lib.hid (fun w => awake6_any w)
  by_cases h : 300 < (bs l).size
  · have h1 : (300 : Int) < ((bs l).size : Int) := by omega
    clear h
    generalize bs l = s at *
    go_enter Try.func3, Try.ntmps3
    go_wp2_with fail
    refine (HW.out _).mono ?_
    rintro e w1 ⟨rfl, k1⟩
    go_wp2_with fail
    refine (HW.out _).mono ?_
    rintro e w2 ⟨rfl, k2⟩
    go_wp2
    go_ret
    exact ⟨rfl, keeps_below (k1.trans k2 (fun _ _ h => h))⟩
  · have h1 : ((bs l).size : Int) ≤ 300 := by omega
    have h2 : ¬ (300 : Int) < ((bs l).size : Int) := by omega
    have A1 := Lib.hid (fun w => nis_any l w); have B1 := Lib.hid (fun w => ris_any l w)
    have A2 := Lib.hid (fun w => ncl_any l w); have B2 := Lib.hid (fun w => rcl_any l w)
    have A3 := Lib.hid (fun w => nvar_any l w); have B3 := Lib.hid (fun w => rvar_any l w)
    have A4 := Lib.hid (fun w => nalw_any l w); have B4 := Lib.hid (fun w => ralw_any l w)
    clear h
    generalize isNm l = r1 at *
    generalize isCl l = r2 at *
    generalize isVa l = r3 at *
    generalize builtins.contains l = r4 at *
    generalize bs l = s at *
    go_enter Try.func3, Try.ntmps3
    go_wp2_with fail
    refine (HW.out _).mono ?_
    rintro e w1 ⟨rfl, k1⟩
    go_wp2_with fail
    refine (A1.out _).mono ?_
    rintro e w2 ⟨rfl, k2⟩
    have k2 := k1.trans k2 (fun _ _ h => h)
    go_wp2_with fail
    refine (B1.out _).mono ?_
    rintro e w3 ⟨rfl, rfl⟩
    go_wp2_with fail
    refine (A2.out _).mono ?_
    rintro e w4 ⟨rfl, k4⟩
    have k4 := k2.trans k4 (fun _ _ h => h)
    go_wp2_with fail
    refine (B2.out _).mono ?_
    rintro e w3 ⟨rfl, rfl⟩
    go_wp2_with fail
    refine (A3.out _).mono ?_
    rintro e w5 ⟨rfl, k5⟩
    have k5 := k4.trans k5 (fun _ _ h => h)
    go_wp2_with fail
    refine (B3.out _).mono ?_
    rintro e w6 ⟨rfl, k6⟩
    have k6 := k5.trans k6 (fun _ _ h => h)
    go_wp2_with fail
    refine (A4.out _).mono ?_
    rintro e w7 ⟨rfl, k7⟩
    have k7 := k6.trans k7 (fun _ _ h => h)
    go_wp2_with fail
    refine (B4.out _).mono ?_
    rintro e w8 ⟨rfl, k8⟩
    have k8 := k7.trans k8 (fun _ _ h => h)
    go_wp2
    go_ret
    exact ⟨rfl, keeps_below k8⟩

end Go.Proofs.Ytinnmemmmpojoaa
