/-
  Lemmas towards the claim of this folder: contracts of the functions that the law reaches; joined texts.
-/
import Derived.Test.YtecjecdgjmipcaaGreatSs
import Derived.Test.YtecjecdgjmipcaaGreatCl
import Derived.Lib.Builder
import Derived.Lib.UnsafeStr
import Derived.Test.YtecjecdgjmipcaaGreatNe
import Derived.Test.YtecjecdgjmipcaaGreatSk
/-
  CONTRACTS of strings.Builder (one that the call made itself): WriteString, String.
-/
namespace Go.Proofs.YtecjecdgjmipcaaGreat
open Go.RowKit Go.Mk

/-- append(nil, ""...). -/
theorem app_nil (w : World) (ty : TypeId) : (Builtin.append_ #[55, 9] ty #[.slice none 0 0, .string (bs [])]).run Tryz.prog w = .ok (.slice none 0 0) w := by
  obtain ⟨i0, hi, hz0, hz1, hz2⟩ := info_parts Tryz.infoByte
  have hs := Src.ofString (P := Tryz.prog) w Tryz.underlying9 (bs [])
  rcases hs.kind with ⟨e', hk⟩ | hk <;> simp [Builtin.append_, run_underlying Tryz.underlying55, run_underlying hk, sizeOf, typeInfo, hi, hs.len] <;> rfl

end Go.Proofs.YtecjecdgjmipcaaGreat

/-
  CONTRACTS of slices.Equal (texts) and of package name's Join.
-/
namespace Go.Proofs.YtecjecdgjmipcaaGreat
open Go.RowKit Go.Mk

set_option maxHeartbeats 400000 in
theorem sequal_any (aa : Option Addr) (ca : Nat) (la : List (List UInt8)) (ba : Option Addr) (cb : Nat) (lb : List (List UInt8)) (B : Nat) (w : World) (hA : Lies w B aa (strs la)) (hB : Lies w B ba (strs lb)) (hl : la.length ≤ 1099511627776) (hl2 : lb.length ≤ 1099511627776) :
    Calls Tryz.prog 86 #[.slice aa la.length ca, .slice ba lb.length cb] w fun e w' => e = .returned (.bool (la == lb)) ∧ Kept (fun _ => False) w w' := by
  have HA := Lib.hid hA; have HB := Lib.hid hB; clear hA hB
  by_cases hlen : la.length = lb.length
  · have hne : ((la.length : Int) != (lb.length : Int)) = false := by simp [hlen]
    have HLEN := Lib.hid hlen; clear hlen
    go_enter Tryz.func86, Tryz.ntmps86
    go_wp2
    go_loopg [13] la.length (fun k c wr => ∃ j, k = la.length - j ∧ j ≤ la.length ∧ c = .int .i64 (j : Int) ∧ la.take j = lb.take j ∧ Kept (fun _ => False) w wr)
    case atStart => exact ⟨0, rfl, Nat.zero_le _, rfl, rfl, Kept.refl _ _⟩
    case round =>
      obtain ⟨j, hk, hj, rfl, hpre, hkp⟩ := hrel
      have HK := Lib.hid hk; have HPRE := Lib.hid hpre; have HKP := Lib.hid hkp; clear hk hpre hkp
      by_cases hlt : j < la.length
      · have hlt2 : j < lb.length := by rw [← HLEN.out]; exact hlt
        obtain ⟨xb, xo, rfl, hxb, hc⟩ := (HA.out.kept HKP.out (fun _ _ _ h => h)) (by intro h; simp [strs] at h; rw [h] at hlt; simp at hlt)
        obtain ⟨yb, yo, rfl, hyb, hc2⟩ := (HB.out.kept HKP.out (fun _ _ _ h => h)) (by intro h; simp [strs] at h; rw [h] at hlt2; simp at hlt2)
        have hx : wr.cell? ⟨xb, xo + j, none⟩ = some (.string (bs la[j])) := hc j _ (by simp [strs, hlt])
        have hy : wr.cell? ⟨yb, yo + j, none⟩ = some (.string (bs lb[j])) := hc2 j _ (by simp [strs, hlt2])
        clear hc hc2
        have i1 : (j : Int) < (la.length : Int) := by omega
        have i2 : (j : Int) < (lb.length : Int) := by omega
        have b1 := bs_list la[j]
        have b2 := bs_list lb[j]
        have htk : la.take (j + 1) = la.take j ++ [la[j]] := by rw [List.take_add_one, List.getElem?_eq_getElem hlt]; rfl
        have htk2 : lb.take (j + 1) = lb.take j ++ [lb[j]] := by rw [List.take_add_one, List.getElem?_eq_getElem hlt2]; rfl
        have hne2 : la[j] ≠ lb[j] → la ≠ lb := fun h e => h (by subst e; rfl)
        have HTK := Lib.hid htk; have HTK2 := Lib.hid htk2; have HNE2 := Lib.hid hne2; clear htk htk2 hne2
        generalize la[j] = x at *
        generalize lb[j] = y at *
        by_cases hxy : x = y
        · have hxy1 : (x == y) = true := by simp [hxy]
          have HXY := Lib.hid hxy; clear hxy
          go_wp2_with fail
          go_quiet (fail)
          go_wp2
          go_roundg (la.length - (j + 1))
          case measure => have := HK.out; omega
          case rel => exact ⟨j + 1, rfl, by omega, by go_num, by rw [HTK.out, HTK2.out, HPRE.out, HXY.out], kept_drewN HKP.out _⟩
        · have hxy1 : (x == y) = false := by simp [hxy]
          have HXY := Lib.hid hxy; clear hxy
          go_wp2_with fail
          go_quiet (fail)
          go_wp2
          go_ret
          have E : (la == lb) = false := by rw [beq_eq_false_iff_ne]; exact HNE2.out HXY.out
          exact ⟨by rw [E]; rfl, kept_drewN HKP.out _⟩
      · obtain rfl : j = la.length := by omega
        have e : la = lb := by
          have := HPRE.out
          rwa [List.take_length, HLEN.out, List.take_length] at this
        have E : Hid ((la == lb) = true) := by
          show _ = _
          rw [e]; simp
        clear e
        go_wp2
        go_ret
        exact ⟨by rw [E.out]; rfl, HKP.out⟩
  · have hne : ((la.length : Int) != (lb.length : Int)) = true := by simp; omega
    have e : (la == lb) = false := by
      rw [beq_eq_false_iff_ne]; intro e; exact hlen (by rw [e])
    have E := Lib.hid e; clear e hlen
    go_enter Tryz.func86, Tryz.ntmps86
    go_wp2
    go_ret
    exact ⟨by rw [E.out]; rfl, Kept.refl _ _⟩

end Go.Proofs.YtecjecdgjmipcaaGreat
