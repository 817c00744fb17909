/-
  CONTRACTS of package def: areVars, Right, Key.
-/
import Derived.Test.YtecjecdgjmipcaaDf
namespace Go.Proofs.Ytecjecdgjmipcaa
open Go.RowKit Go.Mk

theorem strs_take (l : List (List UInt8)) (j : Nat) : strs (l.take j) = (strs l).take j := by simp [strs, List.map_take]

set_option maxHeartbeats 400000 in
theorem dvars_any (aa : Option Addr) (ca : Nat) (la : List (List UInt8)) (B : Nat) (w : World) (hA : Lies w B aa (strs la)) (hc : la.length ≤ ca) :
    Calls Try.prog 94 #[.slice aa la.length ca] w fun e w' => e = .returned (.bool (areVars la)) ∧ Kept (fun _ => False) w w' := by
  have HA := Lib.hid hA; clear hA
  by_cases hl : 20 < la.length
  · have E : Hid (areVars la = false) := by show _ = _; unfold areVars; rw [decide_eq_false (by omega), Bool.false_and]
    have h1 : (20 : Int) < (la.length : Int) := by omega
    go_enter Try.func94, Try.ntmps94
    go_wp2
    go_ret
    exact ⟨by rw [E.out]; rfl, Kept.refl _ _⟩
  · have E : Hid (areVars la = varsL la) := by show _ = _; unfold areVars; rw [decide_eq_true (by omega), Bool.true_and]
    have h1 : ¬ (20 : Int) < (la.length : Int) := by omega
    have h2 : la.length ≤ 20 := by omega
    go_enter Try.func94, Try.ntmps94
    go_wp2
    go_loopg [10] la.length (fun k v wr => ∃ j : Nat, k = la.length - j ∧ v = .int .i64 (j : Int) ∧ j ≤ la.length ∧ varsTo la j = true ∧ Kept (fun _ => False) w wr)
    case atStart => exact ⟨0, rfl, rfl, Nat.zero_le _, rfl, Kept.refl _ _⟩
    case round =>
      obtain ⟨j, hk, rfl, hj, hev, hkp⟩ := hrel
      have HK := Lib.hid hk; have HEV := Lib.hid hev; have HKP := Lib.hid hkp; clear hk hev hkp
      by_cases hlt : j < la.length
      · have hA1 := HA.out.kept HKP.out (fun _ _ _ h => h)
        obtain ⟨xb, xo, rfl, hxb, hc'⟩ := hA1 (by intro h; simp [strs] at h; rw [h] at hlt; simp at hlt)
        have hx : wr.cell? ⟨xb, xo + j, none⟩ = some (.string (bs la[j])) := hc' j _ (by simp [strs, hlt])
        clear hc'
        have i1 : (j : Int) < (la.length : Int) := by omega
        have i2 : (j : Int) ≤ (ca : Int) := by omega
        have hv := fun w => nvar_any la[j] w
        have htl : j = (la.take j).length := by rw [List.length_take]; omega
        have hcn := fun (w1 : World) (h : Kept (fun _ => False) wr w1) => scont_any (some ⟨xb, xo, none⟩) ca (la.take j) la[j] B j htl w1 (by rw [strs_take]; exact (hA1.kept h (fun _ _ _ h => h)).take j) (by omega)
        have hva := varAt_lt hlt
        have hno := fun h => varsL_no hlt h
        have hsu := varsTo_succ la j
        have HC := Lib.hid hcn; have HV := Lib.hid hv; have HVA := Lib.hid hva; have HNO := Lib.hid hno; have HSU := Lib.hid hsu; clear hcn hv hva hno hsu hA1 htl
        generalize (la.take j).contains la[j] = r2 at *
        generalize isVa la[j] = r1 at *
        generalize la[j] = x at *
        cases r1 with
        | false =>
          go_wp2_with fail
          refine (HV.out _).mono ?_; rintro e w1 ⟨rfl, k1⟩
          go_wp2
          go_ret
          exact ⟨by rw [E.out, HNO.out (by rw [HVA.out]; rfl)]; rfl, HKP.out.trans k1 (fun _ _ h => h)⟩
        | true =>
          cases r2 with
          | true =>
            go_wp2_with fail
            refine (HV.out _).mono ?_; rintro e w1 ⟨rfl, k1⟩
            go_wp2_with fail
            refine (HC.out _ k1).mono ?_; rintro e w2 ⟨rfl, rfl⟩
            go_wp2
            go_ret
            exact ⟨by rw [E.out, HNO.out (by rw [HVA.out]; rfl)]; rfl, HKP.out.trans k1 (fun _ _ h => h)⟩
          | false =>
            go_wp2_with fail
            refine (HV.out _).mono ?_; rintro e w1 ⟨rfl, k1⟩
            go_wp2_with fail
            refine (HC.out _ k1).mono ?_; rintro e w2 ⟨rfl, rfl⟩
            go_wp2
            go_roundg (la.length - (j + 1))
            case measure => have := HK.out; omega
            case rel => exact ⟨j + 1, rfl, by go_num, by omega, by rw [HSU.out, HEV.out, HVA.out]; rfl, HKP.out.trans k1 (fun _ _ h => h)⟩
      · obtain rfl : j = la.length := by omega
        go_wp2
        go_ret
        exact ⟨by rw [E.out, varsL, HEV.out]; rfl, HKP.out⟩

end Go.Proofs.Ytecjecdgjmipcaa
