/-
  DefSplits: the walk.
-/
import Derived.Test.YtomdhljhjeeakaaL7
import Derived.Test.YtomdhljhjeeakaaR7c
namespace Go.Proofs.Ytomdhljhjeeakaa
open Go.RowKit Go.Mk

set_option maxHeartbeats 1000000 in
theorem splits_walk (l : List UInt8) (w : World) (hm : MaxAt w) : Calls Try.prog 4 #[.string (bs l)] w fun e w' => e = .returned (.bool true) ∧ Below w.heap.size w w' := by
  have HW := Lib.hid (fun w => awake7_any w)
  have hS : (bs l).size = l.length := rfl
  by_cases h : 700 < l.length
  · have h1 : (700 : Int) < (l.length : Int) := by omega
    clear h
    go_enter Try.func4, Try.ntmps4
    go_wp2_with fail
    refine (HW.out _).mono ?_
    rintro e w1 ⟨rfl, k1⟩
    go_wp2_with fail
    refine (HW.out _).mono ?_
    rintro e w2 ⟨rfl, k2⟩
    go_wp2
    go_ret
    exact ⟨rfl, keeps_below7 (k1.trans k2 (fun _ _ h => h))⟩
  · have h1 : ¬ (700 : Int) < (l.length : Int) := by omega
    have A1 := Lib.hid (fun (wx : World) (hk : Kept (fun _ => False) w wx) => dsplit_any l wx (hm.kept hk) (by omega))
    have B1 := Lib.hid (fun w => rsplit_any l w (by omega))
    clear h hm
    generalize splitD l = r at *
    obtain ⟨c, s, b⟩ := r
    dsimp only at *
    have b1 := bs_list c
    have b2 := bs_list s
    go_enter Try.func4, Try.ntmps4
    go_wp2_with fail
    refine (HW.out _).mono ?_
    rintro e w1 ⟨rfl, k1⟩
    go_wp2_with fail
    refine (A1.out _ k1).mono ?_
    rintro e w2 ⟨rfl, k2⟩
    have k2 := k1.trans k2 (fun _ _ h => h)
    go_wp2_with fail
    refine (B1.out _).mono ?_
    rintro e w3 ⟨rfl, k3⟩
    have k3 := k2.trans k3 (fun _ _ h => h)
    go_wp2
    all_goals go_ret
    all_goals exact ⟨by simp, keeps_below7 k3⟩

end Go.Proofs.Ytomdhljhjeeakaa
