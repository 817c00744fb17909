/-
  DiskSizes: the walk.
-/
import Derived.Test.YtgkkbigcfhfagaaL3
import Derived.Deep.RegionHeld
import Derived.Deep.CutBlock
import Derived.Deep.DeepCutAuto
namespace Go.Proofs.Ytgkkbigcfhfagaa
open Go.RowKit Go.Mk

theorem kept_of_below {B : Nat} {x y : World} (h : Below B x y) (hB : x.heap.size ≤ B) : Kept (fun _ => False) x y := ⟨h.os, h.tape, h.output, h.size, fun k hk _ => h.block k (by omega)⟩

/-- Is it no size? -/
def badN (n : Int) : Bool := decide (n < 1) || decide (65536 < n)

set_option maxRecDepth 100000 in
set_option maxHeartbeats 2000000 in
theorem sizes_walk (n : Int) (hn : -9223372036854775808 ≤ n ∧ n ≤ 9223372036854775807) (ao : Option Addr) (cap N : Nat) (l : List UInt8) (hlN : l.length = N) (w : World) (hL : Lies w w.heap.size ao (l.map bv)) (hl : N ≤ maxLen) :
    Calls Try.prog 4 #[.int .i64 n, .slice ao N cap] w fun e w' => e = .returned (.bool true) ∧ Below w.heap.size w w' := by
  have HL := Lib.hid hL; have HLN := Lib.hid hlN; clear hL hlN
  have hl2 : (N : Int) ≤ 9223372036854775807 := by unfold maxLen at hl; omega
  clear hl
  by_cases hbig : N ≤ 2000
  · have hb : ¬ (2000 : Int) < (N : Int) := by omega
    have hN4 : N ≤ 4194304 := by omega
    -- the ways behind Of
    have hways : N = 0 ∨ (N % 64 ≠ 0 ∧ N ≠ 0) ∨ ∃ q, N = 64 * q ∧ 1 ≤ q ∧ q ≤ 65536 := by
      by_cases h : N = 0
      · exact .inl h
      · by_cases h2 : N % 64 = 0
        · exact .inr (.inr ⟨N / 64, by omega, by omega, by omega⟩)
        · exact .inr (.inl ⟨h2, h⟩)
    go_enter Try.func4, Try.ntmps4
    go_wp2_with fail
    refine (awake3_any w).mono ?_
    rintro e w1 ⟨rfl, b1⟩
    have B1 := Lib.hid b1; clear b1
    go_upto_region 3 with fail
    go_cut [24] (fun v wx => v = .bool (badN n) ∧ w1 = wx)
    case first =>
      by_cases h1 : n < 1
      · have hbn : badN n = true := by simp [badN]; omega
        have HBN := Lib.hid hbn; clear hbn
        go_wp2_with fail
        go_meet
        case rel => exact ⟨by rw [HBN.out], rfl⟩
      · have hbn : badN n = decide (65536 < n) := by simp [badN]; omega
        have HBN := Lib.hid hbn; clear hbn
        go_wp2_with fail
        go_meet
        case rel => exact ⟨by rw [HBN.out], rfl⟩
    case rest =>
      obtain ⟨rfl, rfl⟩ := hcut
      go_upto_if 24 with fail
      go_cut [] (fun wx => Below w.heap.size w wx)
      case first =>
        have hcs : n < 1 ∨ (1 ≤ n ∧ 65536 < n) ∨ (1 ≤ n ∧ n ≤ 500) ∨ (500 < n ∧ n ≤ 65536) := by omega
        rcases hcs with h | ⟨h, h2⟩ | ⟨h, h2⟩ | ⟨h, h2⟩
        · have HNN := Lib.hid (new_not w1 n (by omega))
          have hbn : badN n = true := by simp [badN]; omega
          rw [hbn]
          clear hbn
          go_wp2_with fail
          refine HNN.out.mono ?_
          rintro e wy ⟨rfl, hwy⟩
          subst wy
          go_wp2_with fail
          go_meet
          case rel => exact B1.out
        · have HNN := Lib.hid (new_not w1 n (by omega))
          have hbn : badN n = true := by simp [badN]; omega
          rw [hbn]
          clear hbn
          go_wp2_with fail
          refine HNN.out.mono ?_
          rintro e wy ⟨rfl, hwy⟩
          subst wy
          go_wp2_with fail
          go_meet
          case rel => exact B1.out
        · obtain ⟨m, rfl⟩ : ∃ m : Nat, n = m := ⟨n.toNat, by omega⟩
          have hbn : badN (m : Int) = false := by simp [badN]; omega
          rw [hbn]
          clear hbn
          have hm1 : wrap64 (64 * (m : Int)) = 64 * (m : Int) := by unfold wrap64; omega
          have hm2 : IntKind.i64.wrap (64 * (m : Int)) = 64 * (m : Int) := by rw [IntKind.wrap_i64]; omega
          have hno : ∀ W : World, Calls Try.prog 26 #[.int .i64 (64 * (m : Int))] W fun e w' => e = .returned (.string (bs (List.replicate (64 * m) 0))) ∧ Below W.heap.size W w' := fun W => by
            have := noughts_any W (64 * m) (by omega)
            rw [show ((64 * m : Nat) : Int) = 64 * (m : Int) by omega] at this
            exact this
          have HNO := Lib.hid hno; have HNN := Lib.hid (dnew_any w1 m (by omega) (by omega)); clear hno
          go_wp2_with fail
          refine HNN.out.mono ?_
          rintro e wy ⟨b, D, rfl, hd, hD, by_⟩
          have HY := Lib.hid (B1.out.trans (by_.mono B1.out.size)); clear by_ hD
          have hdd : Dk wy.drew D b m (List.replicate (64 * m) 0) [] (-1) := hd.kept (S := fun _ => False) (Kept.drew (Kept.refl _ wy)) (fun _ _ h => h)
          have himg := dimage_any hdd
          rw [show image (List.replicate (64 * m) 0) [] = List.replicate (64 * m) 0 from rfl] at himg
          have hrl : 64 * m = (List.replicate (64 * m) (0 : UInt8)).length := by simp
          generalize List.replicate (64 * m) (0 : UInt8) = rl at *
          have HSZ := Lib.hid (dsize_any hdd); have HIMG := Lib.hid himg; have HDD := Lib.hid hdd; have HRL := Lib.hid hrl; clear himg hdd hd hrl
          go_wp2_with fail
          go_region_held (fun _ => True) (trivial) (first
            | (go_at_call 25; refine HSZ.out.mono ?_; rintro e wz ⟨rfl, hwz⟩; subst wz)
            | (go_at_call 22; refine HIMG.out.mono ?_; rintro e wz ⟨ao1, cap1, rfl, ho1, b1⟩; have hli := owns_lies ho1; have hs1 := run_string_of (P := Try.prog) wz 32 9 5 Try.underlying32 Try.underlying5 Try.underlying9 cap1 (64 * m) HRL.out hli; have HLI := Lib.hid hli; have BZ := Lib.hid (HY.out.trans ((Mk.Below.of_drew b1).mono HY.out.size)); clear ho1 b1 hli)
            | (go_at_call 26; refine (HNO.out _).mono ?_; rintro e wz2 ⟨rfl, b2⟩; have hs2 := run_string_of (P := Try.prog) wz2 32 9 5 Try.underlying32 Try.underlying5 Try.underlying9 cap1 (64 * m) HRL.out (HLI.out.kept (kept_of_below b2 (Nat.le_refl _)) (fun _ _ _ h => h)); have BZ2 := Lib.hid (BZ.out.trans (b2.mono BZ.out.size)); clear b2))
          all_goals go_wp2_with fail
          all_goals go_meet
          all_goals first | exact BZ2.out | skip
        · have hbn : badN n = false := by simp [badN]; omega
          rw [hbn]
          clear hbn
          go_wp2_with fail
          go_meet
          case rel => exact B1.out
      case rest =>
        have BX := Lib.hid hcut; clear hcut
        rcases hways with h0 | ⟨hr1, hr2⟩ | ⟨q, hq, hq1, hq2⟩
        · subst h0
          have HOF := Lib.hid (of_not wc ao cap 0 (.inl rfl) (by omega))
          go_wp2_with fail
          refine HOF.out.mono ?_
          rintro e wy ⟨rfl, hwy⟩
          subst wy
          go_wp2
          go_ret
          exact ⟨rfl, BX.out⟩
        · have hr3 : ((N : Int) % 64 != 0) = true := by simp; omega
          have hr4 : ¬ (N : Int) = 0 := by omega
          have hr5 : ¬ (N : Int) % 64 = 0 := by omega
          have HOF := Lib.hid (of_not wc ao cap N (.inr hr1) hN4)
          go_wp2_with fail
          refine HOF.out.mono ?_
          rintro e wy ⟨rfl, hwy⟩
          subst wy
          go_wp2
          go_ret
          exact ⟨rfl, BX.out⟩
        · have HQ := Lib.hid hq
          have hr4 : ¬ (N : Int) = 0 := by omega
          have hr5 : (N : Int) % 64 = 0 := by omega
          have hr6 : (N : Int) / 64 = (q : Int) := by omega
          have hr7 : wrap64 (q : Int) = (q : Int) := by unfold wrap64; omega
          have hr8 : IntKind.i64.wrap (q : Int) = (q : Int) := by rw [IntKind.wrap_i64]; omega
          clear hq
          have hlx : Lies wc w.heap.size ao (l.map bv) := HL.out.below BX.out
          have hof := dof_any wc ao cap l q w.heap.size hlx (HLN.out.trans HQ.out) hq1 hq2
          rw [HLN.out] at hof
          have HOF := Lib.hid hof; have HLX := Lib.hid hlx; clear hof hlx
          go_wp2_with fail
          refine HOF.out.mono ?_
          rintro e wy ⟨b, D, rfl, hd, hD, by_⟩
          have HY := Lib.hid (BX.out.trans (by_.mono BX.out.size)); have HLY := Lib.hid (HLX.out.below (by_.mono BX.out.size)); clear by_ hD
          have hdd : Dk wy.drew D b q l [] (-1) := hd.kept (S := fun _ => False) (Kept.drew (Kept.refl _ wy)) (fun _ _ h => h)
          have hsz := dsize_any hdd
          have himg := dimage_any hdd
          rw [show image l [] = l from rfl, ← HQ.out] at himg
          have hs0 := run_string_of (P := Try.prog) wy.drew 32 9 5 Try.underlying32 Try.underlying5 Try.underlying9 cap N HLN.out.symm (HLY.out.kept (Kept.drew (Kept.refl (fun _ => False) wy)) (fun _ _ _ h => h))
          have HSZ := Lib.hid hsz; have HIMG := Lib.hid himg; have HDD := Lib.hid hdd; clear hsz himg hdd hd
          go_wp2_with fail
          go_region_held (fun _ => True) (trivial) (first
            | (go_at_call 25; refine HSZ.out.mono ?_; rintro e wz ⟨rfl, hwz⟩; subst wz)
            | (go_at_call 22; refine HIMG.out.mono ?_; rintro e wz ⟨ao1, cap1, rfl, ho1, b1⟩; have hs1 := run_string_of (P := Try.prog) wz 32 9 5 Try.underlying32 Try.underlying5 Try.underlying9 cap1 N HLN.out.symm (owns_lies ho1); have hs2 := run_string_of (P := Try.prog) wz 32 9 5 Try.underlying32 Try.underlying5 Try.underlying9 cap N HLN.out.symm ((HLY.out.kept (Kept.drew (Kept.refl (fun _ => False) wy)) (fun _ _ _ h => h)).kept (kept_of_below b1 (Nat.le_refl _)) (fun _ _ _ h => h)); have hdz := HDD.out.kept (kept_of_below b1 (Nat.le_refl _)) (fun _ _ h => h); have HWT := Lib.hid (dwaiting_any hdz); have BZ := Lib.hid (HY.out.trans ((Mk.Below.of_drew b1).mono HY.out.size)); clear ho1 b1 hdz)
            | (go_at_call 24; refine HWT.out.mono ?_; rintro e wz2 ⟨rfl, hwz⟩; subst wz2))
          all_goals go_wp2
          all_goals go_ret
          all_goals exact ⟨rfl, BZ.out⟩
  · have hb : (2000 : Int) < (N : Int) := by omega
    go_enter Try.func4, Try.ntmps4
    go_wp2_with fail
    refine (awake3_any w).mono ?_
    rintro e w1 ⟨rfl, b1⟩
    have B1 := Lib.hid b1; clear b1
    go_wp2_with fail
    refine (awake3_any w1).mono ?_
    rintro e w2 ⟨rfl, b2⟩
    have B2 := Lib.hid (B1.out.trans (b2.mono B1.out.size)); clear b2
    go_wp2
    go_ret
    exact ⟨rfl, B2.out⟩

end Go.Proofs.Ytgkkbigcfhfagaa
