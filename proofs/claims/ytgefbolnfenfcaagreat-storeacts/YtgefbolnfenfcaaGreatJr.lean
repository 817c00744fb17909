/-
  CONTRACTS of package journal: Recover.
-/
import Derived.Test.YtgefbolnfenfcaaGreatJq
namespace Go.Proofs.YtgefbolnfenfcaaGreat
open Go.RowKit Go.Mk

theorem hsum_lt (h : List UInt8) : hsum h < 4294967296 := by
  unfold hsum
  refine Nat.lt_of_lt_of_le (leN_lt _) ?_
  have : ((h.drop 8).take 4).length ≤ 4 := by rw [List.length_take]; omega
  exact Nat.le_trans (Nat.pow_le_pow_right (by omega) (show 8 * ((h.drop 8).take 4).length ≤ 32 by omega)) (by decide)

section
variable {w : World} {D : Nat → Prop} {b n : Nat} {s : DS}

set_option maxHeartbeats 1000000 in
set_option maxRecDepth 100000 in
theorem jrec_any (h : DkS w D b n s) (hp : s.ws.length ≤ 900000) :
    Calls Tryz.prog 39 #[.pointer (some ⟨b, 0, none⟩)] w fun e w' => e = .returned (.int .i64 (jrec n s).2) ∧ JDid w D b n (jrec n s).1 w' := by
  obtain ⟨hn1, hn2⟩ := h.n1
  have h3 : areaN n ≤ 32767 := by unfold areaN; omega
  have HHA := Lib.hid (jhas_any h)
  by_cases h0 : areaN n = 0
  · have er : jrec n s = (s, 2) := by unfold jrec; rw [if_pos h0]
    have JR := Lib.hid (JDid.refl h); clear h
    have e2 : decide (areaN n ≠ 0) = false := by simp [h0]
    rw [e2] at HHA
    rw [er]
    clear er h0 e2
    go_enter Tryz.func39, Tryz.ntmps39
    go_wp2_with fail
    refine HHA.out.mono ?_
    rintro e w1 ⟨rfl, rfl⟩
    go_wp2
    go_ret
    exact ⟨rfl, JR.out⟩
  · have hll := areaN_le h0
    have e2 : decide (areaN n ≠ 0) = true := by simp [h0]
    rw [e2] at HHA
    have er : jrec n s = s.run (recOps n (image s.base s.ws)) := by unfold jrec; rw [if_neg h0]
    have hil := h.ilen
    have HIM := Lib.hid (dimage_any h)
    have ER := Lib.hid er; have HD := Lib.hid h; have H0 := Lib.hid h0; clear h er e2 h0
    go_enter Tryz.func39, Tryz.ntmps39
    go_wp2_with fail
    refine HHA.out.mono ?_
    rintro e w1 ⟨rfl, rfl⟩
    go_wp2_with fail
    refine HIM.out.mono ?_
    rintro e w2 ⟨ao2, cap2, rfl, o2, b2⟩
    obtain ⟨g2, rfl, hg2, _, hc2, hm2⟩ := owns_some o2 (by omega)
    have l2 : Lies w2 w2.heap.size (some ⟨g2, 0, none⟩) ((hdL (image s.base s.ws)).map bv) := by
      have := (owns_lies o2).take 64
      rwa [← List.map_take] at this
    have hhl : (hdL (image s.base s.ws)).length = 64 := by unfold hdL; rw [List.length_take]; omega
    have d2 : DkS w2 D b n s := HD.out.fresh b2
    have hhl' := hhl
    unfold recOps at ER
    have har : ∀ W : World, DkS W D b n s → _ := fun W hW => jarea_any hW 1 (by omega) H0.out
    have hjr : ((image s.base s.ws).drop (64 * 1)).take (64 * areaN n) = jrL n (image s.base s.ws) := rfl
    rw [hjr] at har
    have HAR := Lib.hid har; clear har
    have hjl := jrL_length (n := n) hil
    generalize jrL n (image s.base s.ws) = J at *
    generalize hdL (image s.base s.ws) = hd at *
    have HSI := Lib.hid (jsumin_any (some ⟨g2, 0, none⟩) cap2 64 hd _ w2 l2 hhl rfl)
    have HHE := Lib.hid (jheader_any 0 (hsum hd) w2 (by omega) (hsum_lt hd))
    have D2 := Lib.hid d2; have B2 := Lib.hid b2; have L2 := Lib.hid l2; have HJL := Lib.hid hjl; have HHL := Lib.hid hhl
    clear d2 b2 l2 HIM HHA o2 hm2 hjl hhl hhl' hil hjr
    generalize hsum hd = hu at *
    go_wp2_with fail
    refine HSI.out.mono ?_
    rintro e w3 ⟨rfl, rfl⟩
    go_wp2_with fail
    refine HHE.out.mono ?_
    rintro e w4 ⟨ao4, cap4, rfl, o4, b4⟩
    have HEQ := Lib.hid (bequal_any (some ⟨g2, 0, none⟩) ao4 cap2 cap4 64 64 hd (headL 0 hu) _ _ w4 (lfresh L2.out b4) (owns_lies o4) HHL.out.symm (headL_length 0 hu).symm)
    have D4 := Lib.hid (Dk.fresh D2.out b4); have L4 := Lib.hid (lfresh L2.out b4); have B4 := Lib.hid (B2.out.trans (b4.mono B2.out.size))
    clear b4 o4 D2 L2 HSI HHE B2
    by_cases hq : hd = headL 0 hu
    · have er : jrec n s = (s, 0) := by rw [ER.out, if_pos hq]; rfl
      rw [decide_eq_true hq] at HEQ
      have ER2 := Lib.hid er; clear er hq
      go_wp2_with fail
      refine HEQ.out.mono ?_
      rintro e w5 ⟨rfl, rfl⟩
      go_wp2
      go_ret
      rw [ER2.out]
      exact ⟨rfl, D, D4.out, fun _ h => .inl h, kob B4.out (Nat.le_refl _)⟩
    · rw [decide_eq_false hq] at HEQ
      rw [if_neg hq] at ER
      clear hq
      have HA5 := Lib.hid (HAR.out _ D4.out)
      clear HAR
      go_wp2_with fail
      refine HEQ.out.mono ?_
      rintro e w5 ⟨rfl, rfl⟩
      go_wp2_with fail
      refine HA5.out.mono ?_
      rintro e w6 ⟨g6, off6, cap6, rfl, hc6, hm6, l6, hg6, b6⟩
      have hsu := csum_one (some ⟨g6, off6, none⟩) cap6 J w6 34 l6 (by rw [HJL.out]; omega)
      rw [HJL.out] at hsu
      have hgD : ¬ D g6 := fun h => by have := D4.out.lt _ h; omega
      have HSU := Lib.hid hsu; have D6 := Lib.hid (Dk.fresh D4.out b6); have L6 := Lib.hid (lfresh L4.out b6); have B6 := Lib.hid (B4.out.trans (b6.mono B4.out.size)); have LJ6 := Lib.hid l6; have HM6 := Lib.hid hm6
      clear hsu b6 l6 hm6 D4 L4 B4 HEQ HA5
      go_wp2_with fail
      refine HSU.out.mono ?_
      rintro e w7 ⟨rfl, hw7⟩
      have b7 : Below w6.heap.size w6 w7 := by rw [← hw7]; exact (Below.refl _ _).alloc (Nat.le_refl _) _
      clear hw7
      have hult := sumN_lt J
      unfold homeOps at ER
      generalize sumN J = u at *
      have HH8 := Lib.hid (jheader_any 1 u w7 (by omega) hult)
      have D7 := Lib.hid (Dk.fresh D6.out b7); have L7 := Lib.hid (lfresh L6.out b7); have B7 := Lib.hid (B6.out.trans (b7.mono B6.out.size)); have LJ7 := Lib.hid (lfresh LJ6.out b7)
      clear b7 D6 L6 B6 LJ6 HSU
      go_wp2_with fail
      refine HH8.out.mono ?_
      rintro e w8 ⟨ao8, cap8, rfl, o8, b8⟩
      have HE2 := Lib.hid (bequal_any (some ⟨g2, 0, none⟩) ao8 cap2 cap8 64 64 hd (headL 1 u) _ _ w8 (lfresh L7.out b8) (owns_lies o8) HHL.out.symm (headL_length 1 u).symm)
      have D8 := Lib.hid (Dk.fresh D7.out b8); have B8 := Lib.hid (B7.out.trans (b8.mono B7.out.size)); have LJ8 := Lib.hid (lfresh LJ7.out b8)
      clear b8 o8 D7 L7 B7 LJ7 HH8
      by_cases hq : hd = headL 1 u
      · rw [decide_eq_true hq] at HE2
        rw [if_pos hq] at ER
        clear hq
        have HHM := Lib.hid (jhome_any D8.out)
        go_wp2_with fail
        refine HE2.out.mono ?_
        rintro e w9 ⟨rfl, rfl⟩
        go_wp2_with fail
        refine HHM.out.mono ?_
        rintro e w9 ⟨rfl, rfl⟩
        have HM4 := Lib.hid (jmake_any (b := b) (n := n) D8.out.lt (1 + areaN n) (areaN n) (1 + (areaN n : Int)) (by omega) J HJL.out (by have := H0.out; omega) (by omega) g6 off6 (64 * areaN n) cap6 HJL.out.symm (by rw [HJL.out]; exact hc6) HM6.out LJ8.out hgD)
        clear HHM HE2
        go_wp2_with fail
        refine HM4.out.mono ?_
        rintro e wa ⟨rfl, sta, ba⟩
        have HHB := Lib.hid (jheader_any 0 u wa (by omega) hult)
        have Da := Lib.hid (Dk.fresh D8.out ba); have STa := Lib.hid sta; have Ba := Lib.hid (B8.out.trans (ba.mono B8.out.size))
        clear sta ba D8 LJ8 B8 HM4
        go_wp2_with fail
        refine HHB.out.mono ?_
        rintro e wb ⟨aob, capb, rfl, ob, bb⟩
        obtain ⟨gb, rfl, hgb, _, hcb, hmb⟩ := owns_some ob (by omega)
        have db := Dk.fresh Da.out bb
        have hgbD : ¬ D gb := fun h => by have := Da.out.lt _ h; omega
        have HMb := Lib.hid (jmake_any (b := b) (n := n) db.lt 0 1 0 rfl (headL 0 u) (headL_length 0 u) (by omega) (by omega) gb 0 64 capb (headL_length 0 u).symm (by rw [headL_length]; exact hcb) hmb (owns_lies ob) hgbD)
        have Db := Lib.hid db; have STb := Lib.hid (STa.out.fresh bb); have Bb := Lib.hid (Ba.out.trans (bb.mono Ba.out.size))
        clear db bb ob Da STa Ba HHB hcb hmb
        go_wp2_with fail
        refine HMb.out.mono ?_
        rintro e wA ⟨rfl, suA, bA⟩
        have DA := Dk.fresh Db.out bA
        have stA := STb.out.fresh bA
        have bbA := Bb.out.trans (bA.mono Bb.out.size)
        have hsy : StepAt wA D b n (syncV b, [.sync]) := .inl rfl
        have hin : ∀ x y, StepAt wA D b n (stepV x, secs (1 + areaN n) J) → StepAt wA D b n (stepV y, secs 0 (headL 0 u)) → _ := fun x y hx hy => jsteps_any (s := s) DA [(stepV x, secs (1 + areaN n) J), (syncV b, [.sync]), (stepV y, secs 0 (headL 0 u)), (syncV b, [.sync])] 4 rfl 106
          (by
            intro p hp
            simp only [List.mem_cons, List.not_mem_nil, or_false] at hp
            rcases hp with rfl | rfl | rfl | rfl <;> assumption)
          (by simp only [flat, List.flatMap_cons, List.flatMap_nil, List.length_append, secs_length, headL_length, HJL.out, List.length_nil, List.length_singleton]; omega) (by simp)
        have hin := hin _ _ stA suA
        have hflat : ∀ x y, flat [(stepV x, secs (1 + areaN n) J), (syncV b, [.sync]), (stepV y, secs 0 (headL 0 u)), (syncV b, [.sync])] = blk (1 + areaN n) J ++ blk 0 (headL 0 u) := by
          intro x y
          simp only [flat, blk, List.flatMap_cons, List.flatMap_nil, List.append_assoc, List.append_nil]
        rw [hflat] at hin
        rw [← ER.out] at hin
        simp only [List.map_cons, List.map_nil, stepV, syncV] at hin
        have HIN := Lib.hid hin; have BBA := Lib.hid bbA
        clear hin hflat hsy bbA stA suA DA bA Db STb Bb HMb
        go_wp2_with fail
        refine HIN.out.mono ?_
        rintro e wB ⟨rfl, D', dB, hDB, kB⟩
        have DB := Lib.hid dB; have HDB := Lib.hid hDB; have KB := Lib.hid kB; clear dB hDB kB HIN
        go_wp2
        go_ret
        exact ⟨rfl, D', DB.out, fun i hi => (HDB.out i hi).imp id (fun h => by have := BBA.out.size; omega), (kob (S := D) BBA.out (Nat.le_refl _)).trans KB.out (fun _ _ h => h)⟩
      · rw [decide_eq_false hq] at HE2
        rw [if_neg hq] at ER
        clear hq
        have HHB := Lib.hid (jheader_any 0 0 w8 (by omega) (by omega))
        go_wp2_with fail
        refine HE2.out.mono ?_
        rintro e w9 ⟨rfl, rfl⟩
        go_wp2_with fail
        refine HHB.out.mono ?_
        rintro e wb ⟨aob, capb, rfl, ob, bb⟩
        obtain ⟨gb, rfl, hgb, _, hcb, hmb⟩ := owns_some ob (by omega)
        have db := Dk.fresh D8.out bb
        have hgbD : ¬ D gb := fun h => by have := D8.out.lt _ h; omega
        have HMb := Lib.hid (jmake_any (b := b) (n := n) db.lt 0 1 0 rfl (headL 0 0) (headL_length 0 0) (by omega) (by omega) gb 0 64 capb (headL_length 0 0).symm (by rw [headL_length]; exact hcb) hmb (owns_lies ob) hgbD)
        have Db := Lib.hid db; have Bb := Lib.hid (B8.out.trans (bb.mono B8.out.size))
        clear db bb ob D8 B8 HHB hcb hmb LJ8 HE2
        go_wp2_with fail
        refine HMb.out.mono ?_
        rintro e wA ⟨rfl, suA, bA⟩
        have DA := Dk.fresh Db.out bA
        have bbA := Bb.out.trans (bA.mono Bb.out.size)
        have hsy : StepAt wA D b n (syncV b, [.sync]) := .inl rfl
        have hin : ∀ y, StepAt wA D b n (stepV y, secs 0 (headL 0 0)) → _ := fun y hy => jsteps_any (s := s) DA [(stepV y, secs 0 (headL 0 0)), (syncV b, [.sync])] 2 rfl 106
          (by
            intro p hp
            simp only [List.mem_cons, List.not_mem_nil, or_false] at hp
            rcases hp with rfl | rfl <;> assumption)
          (by simp only [flat, List.flatMap_cons, List.flatMap_nil, List.length_append, secs_length, headL_length, List.length_nil, List.length_singleton]; omega) (by simp)
        have hin := hin _ suA
        have hflat : ∀ y, flat [(stepV y, secs 0 (headL 0 0)), (syncV b, [.sync])] = blk 0 (headL 0 0) := by
          intro y
          simp only [flat, blk, List.flatMap_cons, List.flatMap_nil, List.append_nil]
        rw [hflat] at hin
        rw [← ER.out] at hin
        simp only [List.map_cons, List.map_nil, stepV, syncV] at hin
        have HIN := Lib.hid hin; have BBA := Lib.hid bbA
        clear hin hflat hsy bbA suA DA bA Db Bb HMb
        go_wp2_with fail
        refine HIN.out.mono ?_
        rintro e wB ⟨rfl, D', dB, hDB, kB⟩
        have DB := Lib.hid dB; have HDB := Lib.hid hDB; have KB := Lib.hid kB; clear dB hDB kB HIN
        go_wp2
        go_ret
        exact ⟨rfl, D', DB.out, fun i hi => (HDB.out i hi).imp id (fun h => by have := BBA.out.size; omega), (kob (S := D) BBA.out (Nat.le_refl _)).trans KB.out (fun _ _ h => h)⟩

end

theorem jrec_nil (w : World) :
    Calls Tryz.prog 39 #[.pointer none] w fun e w' => e = .returned (.int .i64 2) ∧ w = w' := by
  have HH := Lib.hid (jhas_nil w)
  go_enter Tryz.func39, Tryz.ntmps39
  go_wp2_with fail
  refine HH.out.mono ?_
  rintro e w1 ⟨rfl, rfl⟩
  go_wp2
  go_ret
  exact ⟨rfl, rfl⟩

end Go.Proofs.YtgefbolnfenfcaaGreat
