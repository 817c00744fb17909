/-
  ScanQuotes: the walk.
-/
import Derived.Test.YtofpnlmlenffnaaDoorGL12
import Derived.Test.YtofpnlmlenffnaaDoorDe12
namespace Go.Proofs.YtofpnlmlenffnaaDoor
open Go.RowKit Go.Mk

set_option maxHeartbeats 2000000 in
set_option maxRecDepth 100000 in
theorem quotes_walk (l : List UInt8) (w : World) (hm : MaxAt w) : Calls Tryd.prog 5 #[.string (bs l)] w fun e w' => e = .returned (.bool true) ∧ Below w.heap.size w w' := by
  have HW := Lib.hid (fun w => awake12_any w)
  have hs := bs_size l
  by_cases h5 : 500 < l.length
  · have h1 : (500 : Int) < ((bs l).size : Int) := by omega
    clear h5 hs
    generalize bs l = s at *
    go_enter Tryd.func5, Tryd.ntmps5
    go_wp2_with fail
    refine (HW.out _).mono ?_
    rintro e w1 ⟨rfl, k1⟩
    go_wp2_with fail
    refine (HW.out _).mono ?_
    rintro e w2 ⟨rfl, k2⟩
    go_wp2
    go_ret
    exact ⟨rfl, keeps_below12 (k1.trans k2 (fun _ _ h => h))⟩
  · have h1 : ¬ (500 : Int) < ((bs l).size : Int) := by omega
    have HQ := Lib.hid (fun w (h : MaxAt w) => dquoteM_any l w h (by omega)); have HM := Lib.hid hm; clear hm; have HR := Lib.hid (fun w => r12quote_any l w (by omega))
    have hql : (quoteL l).length ≤ 1000000 := by have := dbl_len l; simp [quoteL]; omega
    have HA := Lib.hid (fun w => dall12_any (quoteL l) w hql)
    rw [quote_all l (by omega)] at HA
    have s1 : ((bs (quoteL l)).toList == (bs (quoteL l)).toList) = true := by simp
    have s2 : ((bs l).toList == (bs l).toList) = true := by simp
    generalize (quoteL l).length = ql at *
    generalize quoteL l = Q at *
    clear h5 hql
    go_enter Tryd.func5, Tryd.ntmps5
    go_wp2_with fail
    refine (HW.out _).mono ?_
    rintro e w1 ⟨rfl, k1⟩
    have K1 := Lib.hid k1; clear k1
    go_wp2_with fail
    refine (HQ.out _ (HM.out.kept K1.out)).mono ?_
    rintro e w2 ⟨rfl, k2⟩
    have K2 := Lib.hid (K1.out.trans k2 (fun _ _ h => h)); clear k2
    go_wp2_with fail
    refine (HA.out _).mono ?_
    rintro e w3 ⟨ao, cap, rfl, t3, k3, _⟩
    have K3 := Lib.hid (K2.out.trans k3 (fun _ _ h => h)); have T3 := Lib.hid t3; clear k3 t3
    go_wp2_with fail
    refine (HR.out _).mono ?_
    rintro e w4 ⟨rfl, k4⟩
    have K4 := Lib.hid (K3.out.trans k4 (fun _ _ h => h))
    obtain ⟨b, off, rfl, _, hc⟩ := (T3.out.keep k4).at (by simp)
    obtain ⟨a0, a1, a2, a3⟩ := hc 0 (by simp)
    simp only [List.getElem_cons_zero, Nat.zero_mul, Nat.add_zero] at a0 a1 a3
    clear k4 hc a2
    go_wp2
    go_ret
    exact ⟨rfl, keeps_below12 K4.out⟩

end Go.Proofs.YtofpnlmlenffnaaDoor
