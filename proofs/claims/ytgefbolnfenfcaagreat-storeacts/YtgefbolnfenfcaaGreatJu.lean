/-
  CONTRACTS of package journal: Get.
-/
import Derived.Test.YtgefbolnfenfcaaGreatJr
namespace Go.Proofs.YtgefbolnfenfcaaGreat
open Go.RowKit Go.Mk

/-- What Get leaves: a row of its own, all else as it was. -/
def JGot (w : World) (l : List UInt8) (er : Int) (e : Ending) (w' : World) : Prop :=
  ∃ ao cap, e = .returned (.tuple #[.slice ao l.length cap, .int .i64 er]) ∧ Lies w' w'.heap.size ao (l.map bv) ∧ (l ≠ [] → ∀ a, ao = some a → w.heap.size ≤ a.block) ∧ l.length ≤ cap ∧ cap ≤ maxLen ∧ Below w.heap.size w w'

theorem jgot_nil (w w' : World) (er : Int) (hb : Below w.heap.size w w') : JGot w [] er (.returned (.tuple #[.slice none 0 0, .int .i64 er])) w' :=
  ⟨none, 0, rfl, Lies.nil _ _ _, fun h => (h rfl).elim, Nat.le_refl _, Nat.zero_le _, hb⟩

section
variable {w : World} {D : Nat → Prop} {b n : Nat} {s : DS}

set_option maxHeartbeats 1000000 in
set_option maxRecDepth 100000 in
theorem jget_any (h : DkS w D b n s) :
    Calls Tryz.prog 40 #[.pointer (some ⟨b, 0, none⟩)] w (JGot w (jget n (image s.base s.ws)).1 (jget n (image s.base s.ws)).2) := by
  obtain ⟨hn1, hn2⟩ := h.n1
  have h3 : areaN n ≤ 32767 := by unfold areaN; omega
  have HHA := Lib.hid (jhas_any h)
  by_cases h0 : areaN n = 0
  · have er : jget n (image s.base s.ws) = ([], 2) := by unfold jget; rw [if_pos h0]
    clear h
    have e2 : decide (areaN n ≠ 0) = false := by simp [h0]
    rw [e2] at HHA
    rw [er]
    clear er h0 e2
    go_enter Tryz.func40, Tryz.ntmps40
    go_wp2_with fail
    refine HHA.out.mono ?_
    rintro e w1 ⟨rfl, rfl⟩
    go_wp2
    go_ret2
    exact jgot_nil _ _ _ (Below.refl _ _)
  · have hll := areaN_le h0
    have e2 : decide (areaN n ≠ 0) = true := by simp [h0]
    rw [e2] at HHA
    have hil := h.ilen
    have hhl := hmL_length (n := n) hil
    have er : jget n (image s.base s.ws) = if 64 * areaN n < 12 + natB ((hmL n (image s.base s.ws)).take 4) then ([], 11) else (((hmL n (image s.base s.ws)).drop 4).take (natB ((hmL n (image s.base s.ws)).take 4)), 0) := by unfold jget; rw [if_neg h0]
    have HHM := Lib.hid (jhome_any h)
    have har := jarea_any h (1 + areaN n) (by omega) h0
    have hjr : ((image s.base s.ws).drop (64 * (1 + areaN n))).take (64 * areaN n) = hmL n (image s.base s.ws) := by unfold hmL; rw [show 64 * (1 + areaN n) = 64 + 64 * areaN n by omega]
    rw [hjr] at har
    have hroom := roomI_nat n hn1 hn2
    rw [if_neg h0] at hroom
    generalize hmL n (image s.base s.ws) = H at *
    have hn0 : (⟨H, 0⟩ : RS).num = if 2147483647 < natB (H.take 4) then (⟨H, 11⟩, 0) else (⟨H.drop 4, 0⟩, (natB (H.take 4) : Int)) := by
      have e1 : ¬ H.length < 4 := by omega
      unfold RS.num
      simp only [ne_eq, not_true_eq_false, if_false, if_neg e1]
    generalize hk : natB (H.take 4) = k at *
    have HAR := Lib.hid har; have ER := Lib.hid er; have HD := Lib.hid h; have H0 := Lib.hid h0; have HRM := Lib.hid hroom; have HNU := Lib.hid hn0; have HHL := Lib.hid hhl; have HLL := Lib.hid hll
    clear h er e2 h0 hjr har hroom hn0 hk hil hhl hll
    go_enter Tryz.func40, Tryz.ntmps40
    go_wp2_with fail
    refine HHA.out.mono ?_
    rintro e w1 ⟨rfl, rfl⟩
    go_wp2_with fail
    refine HHM.out.mono ?_
    rintro e w1 ⟨rfl, rfl⟩
    go_wp2_with fail
    refine HAR.out.mono ?_
    rintro e w2 ⟨g2, off2, cap2, rfl, hc2, hm2, l2, hg2, b2⟩
    have hop := open_any (some ⟨g2, off2, none⟩) cap2 H _ w2 l2 (by rw [HHL.out]; omega)
    rw [HHL.out] at hop
    have HOP := Lib.hid hop; have D2 := Lib.hid (Dk.fresh HD.out b2); have L2 := Lib.hid l2; have B2 := Lib.hid b2; have HC2 := Lib.hid hc2
    clear hop l2 b2 hm2 HHA HHM HAR hc2
    go_wp2_with fail
    refine HOP.out.mono ?_
    rintro e w3 ⟨rb, ao3, cap3, rfl, hrb1, hrb2, rd3, b3⟩
    have hnu := rnum_any' _ rb ao3 cap3 _ w3 rd3
    have B3 := Lib.hid (B2.out.trans (b3.mono B2.out.size)); have D3 := Lib.hid (Dk.fresh D2.out b3); have L3 := Lib.hid (lfresh L2.out b3)
    rw [HNU.out] at hnu
    have hg3 : g2 < w2.heap.size := by
      obtain ⟨_, _, e, hlt, _⟩ := L2.out (by intro e; have h1 := congrArg List.length e; rw [List.length_map, HHL.out] at h1; have h2 := H0.out; simp only [List.length_nil] at h1; omega)
      cases e; exact hlt
    have hsz2 := B2.out.size
    clear rd3 b3 HOP D2 HNU B2
    by_cases hbig : 2147483647 < k
    · rw [if_pos hbig] at hnu
      have er : jget n (image s.base s.ws) = ([], 11) := by rw [ER.out, if_pos (by omega)]
      have ER2 := Lib.hid er
      have HNU := Lib.hid hnu; clear hnu er hbig
      go_wp2_with fail
      refine HNU.out.mono ?_
      rintro e w4 ⟨rfl, ⟨ao4, cap4, rd4⟩, k4⟩
      have HER := Lib.hid rd4.errs; have K4 := Lib.hid k4
      clear rd4 k4 HNU
      go_wp2_with fail
      refine HER.out.mono ?_
      rintro e w5 ⟨rfl, rfl⟩
      go_wp2
      go_ret2
      rw [ER2.out]
      exact jgot_nil _ _ _ (B3.out.trans (K4.out.below B3.out.size (fun k e => by omega)))
    · rw [if_neg hbig] at hnu
      have HNU := Lib.hid hnu; clear hnu
      go_wp2_with fail
      refine HNU.out.mono ?_
      rintro e w4 ⟨rfl, ⟨ao4, cap4, rd4⟩, k4⟩
      have hleft := rd4.left
      have e1 : (((⟨H.drop 4, 0⟩ : RS).rest.length : Nat) : Int) = ((64 * areaN n : Nat) : Int) - 4 := by simp only [List.length_drop, HHL.out]; have := H0.out; omega
      rw [e1] at hleft
      have l4 : Lies w4 w4.heap.size (some ⟨g2, off2, none⟩) (H.map bv) := (L3.out.kept k4 (fun _ a ha e => by cases ha; simp only at e; omega)).mono k4.size
      have d4 : DkS w4 D b n s := Dk.kept D3.out k4 (fun i hi e => by have := HD.out.lt _ hi; omega)
      have b4 := B3.out.trans (k4.below B3.out.size (fun k e => by omega))
      have HER := Lib.hid rd4.errs; have HLE := Lib.hid hleft; have L4 := Lib.hid l4; have B4 := Lib.hid b4
      have HSZ := Lib.hid (dsize_any d4); have HR4 := Lib.hid (jroom_any n w4)
      rw [HRM.out] at HR4
      clear rd4 k4 HNU hleft e1 l4 d4 b4 D3 L3 B3 HD hbig
      by_cases hc : 64 * areaN n < 12 + k
      · have er : jget n (image s.base s.ws) = ([], 11) := by rw [ER.out, if_pos hc]
        have hb : decide (64 * (areaN n : Int) - 12 < (k : Int)) = true := by simp; omega
        have ER2 := Lib.hid er
        clear er hc
        go_wp2_with fail
        refine HER.out.mono ?_
        rintro e w5 ⟨rfl, rfl⟩
        go_wp2_with fail
        refine HSZ.out.mono ?_
        rintro e w5 ⟨rfl, rfl⟩
        go_wp2_with fail
        refine HR4.out.mono ?_
        rintro e w5 ⟨rfl, rfl⟩
        go_wp2
        go_ret2
        rw [ER2.out]
        exact jgot_nil _ _ _ B4.out
      · have er : jget n (image s.base s.ws) = ((H.drop 4).take k, 0) := by rw [ER.out, if_neg hc]
        have hb : decide (64 * (areaN n : Int) - 12 < (k : Int)) = false := by simp; omega
        have ER2 := Lib.hid er
        have hkl : ((H.drop 4).take k).length = k := by rw [List.length_take, List.length_drop, HHL.out]; omega
        have hl5 : Lies w4 w4.heap.size (some ⟨g2, off2 + 4, none⟩) (((H.drop 4).take k).map bv) := by
          have := (L4.out.drop 4).take k
          rw [← List.map_drop, ← List.map_take] at this
          simpa [Addr.add_lit] using this
        have hcl := clone_any (some ⟨g2, off2 + 4, none⟩) (cap2 - 4) _ _ w4 hl5 (by rw [hkl]; omega)
        rw [hkl] at hcl
        have HCL := Lib.hid hcl; have HKL := Lib.hid hkl
        have hcap : 4 + k ≤ cap2 := by have := HC2.out; omega
        have hcap' : ¬ cap2 = 4 := by have := HC2.out; have := H0.out; omega
        have hstart : 64 * (areaN n : Int) - (64 * (areaN n : Int) - 4) = 4 := by omega
        have hk4 : wrap64 (4 + (k : Int)) = ((4 + k : Nat) : Int) := by unfold wrap64; omega
        have htn : 4 + k - 4 = k := Nat.add_sub_cancel_left _ _
        clear er hc hcl hkl hl5
        go_wp2_with fail
        refine HER.out.mono ?_
        rintro e w5 ⟨rfl, rfl⟩
        go_wp2_with fail
        refine HSZ.out.mono ?_
        rintro e w5 ⟨rfl, rfl⟩
        go_wp2_with fail
        refine HR4.out.mono ?_
        rintro e w5 ⟨rfl, rfl⟩
        go_wp2_with fail
        refine HLE.out.mono ?_
        rintro e w5 ⟨rfl, rfl⟩
        go_wp2_with fail
        refine HCL.out.mono ?_
        rintro e w6 ⟨ao6, cap6, rfl, o6, b6⟩
        have hl6 := owns_lies o6
        have hlt := owns_lt o6
        have hmx : k ≤ cap6 ∧ cap6 ≤ maxLen := by
          rcases o6.2 with ⟨h1, h2⟩ | ⟨g, c, cur, h1, _, _, h2, h3, _⟩
          · injection h1 with _ e2 e3; rw [e2, e3]; exact ⟨Nat.le_refl _, Nat.zero_le _⟩
          · injection h1 with _ e2 e3; rw [e3]; exact ⟨h2, h3⟩
        have HL6 := Lib.hid hl6; have HLT := Lib.hid hlt; have HMX := Lib.hid hmx; have B6 := Lib.hid (B4.out.trans (b6.mono B4.out.size))
        clear o6 b6 hl6 hlt hmx HCL
        go_wp2
        go_ret2
        rw [ER2.out]
        refine ⟨ao6, cap6, ?_, HL6.out, fun _ a ha => ?_, ?_, HMX.out.2, B6.out⟩
        · simp only [HKL.out]; rfl
        · exact Nat.le_trans B4.out.size (HLT.out a.block (by rw [ha]; rfl)).1
        · simp only [HKL.out]; exact HMX.out.1

end

end Go.Proofs.YtgefbolnfenfcaaGreat
