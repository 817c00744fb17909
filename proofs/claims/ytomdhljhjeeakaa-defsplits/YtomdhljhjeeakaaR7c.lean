/-
  CONTRACT of the reference of layer 7: Split.
-/
import Derived.Test.YtomdhljhjeeakaaR7
import Derived.Test.YtomdhljhjeeakaaPn
import Derived.Test.YtomdhljhjeeakaaNc
namespace Go.Proofs.Ytomdhljhjeeakaa
open Go.RowKit Go.Mk

set_option maxHeartbeats 2000000 in
set_option maxRecDepth 100000 in
theorem rsplit_any (l : List UInt8) (w : World) (hl : l.length ≤ 1000000) :
    Calls Try.prog 18 #[.string (bs l)] w fun e w' => e = .returned (.tuple #[.string (bs (splitD l).1), .string (bs (splitD l).2.1), .bool (splitD l).2.2]) ∧ Kept (fun _ => False) w w' := by
  have hS : (bs l).size = l.length := rfl
  have hR1 := fun w => rright_any ⟨1, l, [79, 98, 106, 101, 99, 116], [], [], []⟩ none 0 0 w (Lies.nil _ _ _) (by simp) (by simp) (by simp)
  have hc1 := fun h h2 => split_c (l := l) h h2
  have hc2 := fun h h2 => split_cno (l := l) h h2
  have HC1 := Lib.hid hc1; have HC2 := Lib.hid hc2; clear hc1 hc2
  generalize hres : splitD l = res at *
  generalize hr1 : rightD ⟨1, l, [79, 98, 106, 101, 99, 116], [], [], []⟩ = r1 at *
  dsimp only [List.length_nil] at hR1
  rw [show bs [79, 98, 106, 101, 99, 116] = ⟨#[79, 98, 106, 101, 99, 116]⟩ from rfl, show bs [] = ⟨#[]⟩ from rfl] at hR1
  have HR1 := Lib.hid hR1; have HRES := Lib.hid hres; have HRR := Lib.hid hr1; clear hR1 hres hr1
  go_enter Try.func18, Try.ntmps18
  go_wp2
  go_loopg [5] l.length (fun k v wr => ∃ j : Nat, k = l.length - j ∧ v = .int .i64 (j : Int) ∧ j ≤ l.length ∧ Lib.NoOcc l [62, 62] j ∧ w = wr)
  case atStart => exact ⟨0, rfl, rfl, Nat.zero_le _, Lib.NoOcc.zero _ _, rfl⟩
  case round =>
    obtain ⟨j, hk, rfl, hj, hev, rfl⟩ := hrel
    have HK := Lib.hid hk; have HEV := Lib.hid hev; clear hk hev
    by_cases hlt : j + 1 < l.length
    · have i1 : (j : Int) + 1 < (l.length : Int) := by omega
      have i3 : (j : Int) + 2 ≤ (l.length : Int) := by omega
      have i4 : IntKind.i64.wrap ((j : Int) + 2) = (j : Int) + 2 := by rw [IntKind.wrap_i64]; omega
      have i5 : ((j : Int) + 2).toNat = j + 2 := by omega
      have i0 : j < (bs l).size := by rw [bs_size]; omega
      have i2 : j + 1 < (bs l).size := by rw [bs_size]; omega
      have g0 : (bs l)[j]'i0 = l[j]'(by omega) := rfl
      have g1 : (bs l)[j + 1]'i2 = l[j + 1] := rfl
      have ho := occ2 hlt
      have x1 := bs_extract l 0 j
      have x2 := bs_extract l (j + 2) l.length
      rw [List.drop_zero] at x1
      rw [List.take_length] at x2
      have hR2 := fun w => rright_any ⟨2, l.take j, [], [], l.drop (j + 2), []⟩ none 0 0 w (Lies.nil _ _ _) (by simp) (by simp) (by simp; omega)
      have hm1 := fun ho h2 => split_m (l := l) (cut_at hlt HEV.out ho) h2
      have hm2 := fun ho h2 => split_mno (l := l) (cut_at hlt HEV.out ho) h2
      dsimp only [List.length_nil] at hR2
      rw [show bs [] = ⟨#[]⟩ from rfl] at hR2
      have HO := Lib.hid ho; have HR2 := Lib.hid hR2; have HM1 := Lib.hid hm1; have HM2 := Lib.hid hm2; clear ho hR2 hm1 hm2
      generalize l[j]'(by omega) = x at *
      generalize l[j + 1] = y at *
      cases hx : x == 62 with
      | false =>
        have hx1 : ((x.toNat : Int) != 62) = true := by
          have : x ≠ 62 := by simpa using hx
          rw [bne_iff_ne]
          intro e
          exact this (by apply UInt8.toNat.inj; show x.toNat = 62; omega)
        rw [hx] at HO
        go_wp2
        go_roundg (l.length - (j + 1))
        case measure => have := HK.out; omega
        case rel => exact ⟨j + 1, rfl, by go_num, by omega, HEV.out.succ HO.out, rfl⟩
      | true =>
        have hx1 : ((x.toNat : Int) != 62) = false := by
          have : x = 62 := by simpa using hx
          subst this; rfl
        cases hy : y == 62 with
        | false =>
          have hy1 : ((y.toNat : Int) != 62) = true := by
            have : y ≠ 62 := by simpa using hy
            rw [bne_iff_ne]
            intro e
            exact this (by apply UInt8.toNat.inj; show y.toNat = 62; omega)
          rw [hx, hy] at HO
          go_wp2
          go_roundg (l.length - (j + 1))
          case measure => have := HK.out; omega
          case rel => exact ⟨j + 1, rfl, by go_num, by omega, HEV.out.succ HO.out, rfl⟩
        | true =>
          have hy1 : ((y.toNat : Int) != 62) = false := by
            have : y = 62 := by simpa using hy
            subst this; rfl
          rw [hx, hy] at HO
          have hm1 := HM1.out HO.out
          have hm2 := HM2.out HO.out
          have hb := bx_new w.drew none 0 ⟨2, l.take j, [], [], l.drop (j + 2), []⟩ 24
          have HBB := Lib.hid hb; clear hb
          generalize hr2 : rightD ⟨2, l.take j, [], [], l.drop (j + 2), []⟩ = r2 at *
          have HX1 := Lib.hid hm1; have HX2 := Lib.hid hm2; clear hm1 hm2 hr2
          go_wp2_with fail
          go_region
          all_goals
            go_wp2_with fail
            refine (HR2.out _).mono ?_
            rintro e w1 ⟨rfl, k1⟩
            have hb1 : Bx w1 w.heap.size none 0 ⟨2, l.take j, [], [], l.drop (j + 2), []⟩ := HBB.out.kept (S := fun _ => False) k1 (fun h => h)
            obtain ⟨_, c1, _, _, c4, _⟩ := hb1
            dsimp only at c1 c4
            have K1 : Hid (Kept (fun _ => False) w w1) := Lib.hid (((Kept.refl (fun _ => False) w).alloc _).drew.trans k1 (fun _ _ h => h))
            clear k1
            cases r2 with
            | true =>
              go_wp2_with fail
              go_region
              all_goals
                go_wp2
                go_ret3
                have e := HRES.out.symm.trans (HX1.out (by simp))
                exact ⟨by rw [e]; rfl, K1.out.drew⟩
            | false =>
              go_wp2
              go_ret3
              have e := HRES.out.symm.trans (HX2.out (by simp))
              exact ⟨by rw [e]; rfl, K1.out⟩
    · have i1 : ¬ (j : Int) + 1 < (l.length : Int) := by omega
      have hcn := cut_none HEV.out (by omega)
      have HC1 := Lib.hid (HC1.out hcn); have HC2 := Lib.hid (HC2.out hcn); clear hcn
      cases r1 with
      | true =>
        go_wp2_with fail
        refine (HR1.out _).mono ?_; rintro e w1 ⟨rfl, k1⟩
        go_wp2
        go_ret3
        have e := HC1.out (by simp)
        exact ⟨by rw [e]; rfl, k1⟩
      | false =>
        go_wp2_with fail
        refine (HR1.out _).mono ?_; rintro e w1 ⟨rfl, k1⟩
        go_wp2
        go_ret3
        have e := HC2.out (by simp)
        exact ⟨by rw [e]; rfl, k1⟩

end Go.Proofs.Ytomdhljhjeeakaa
