/-
  CONTRACTS of package journal: Format.
-/
import Derived.Test.YtgefbolnfenfcaaGreatJp
namespace Go.Proofs.YtgefbolnfenfcaaGreat
open Go.RowKit Go.Mk

section
variable {w : World} {D : Nat → Prop} {b n : Nat} {s : DS}

set_option maxHeartbeats 1000000 in
set_option maxRecDepth 100000 in
theorem jformat_any (h : DkS w D b n s) (ao : Option Addr) (len cap : Nat) (t : List UInt8) (hlen : len = t.length) (hL : Lies w w.heap.size ao (t.map bv)) (hp : s.ws.length ≤ 900000) :
    Calls Tryz.prog 45 #[.pointer (some ⟨b, 0, none⟩), .slice ao len cap] w fun e w' => e = .returned (.int .i64 (jformat n t s).2) ∧ JDid w D b n (jformat n t s).1 w' := by
  subst hlen
  obtain ⟨hn1, hn2⟩ := h.n1
  have h3 : areaN n ≤ 32767 := by unfold areaN; omega
  have HCK := Lib.hid (jcheck_any h ao cap t t.length rfl)
  by_cases hf : jfits n t = 0
  · obtain ⟨h0, ht⟩ := jfits_zero.1 hf
    have hfl := formL_length (areaN n) t (by omega)
    have hll := areaN_le h0
    have er : jformat n t s = s.run (formatOps n t) := by unfold jformat; rw [if_neg (by simp [hf])]
    rw [hf] at HCK
    have HST := Lib.hid (jstored_any h h0 ao t.length cap t rfl hL ht)
    have HHM := Lib.hid (jhome_any h)
    have HD := Lib.hid h; have ER := Lib.hid er; clear h hL hf er
    go_enter Tryz.func45, Tryz.ntmps45
    go_wp2_with fail
    refine HCK.out.mono ?_
    rintro e w1 ⟨rfl, rfl⟩
    go_wp2_with fail
    refine HHM.out.mono ?_
    rintro e w1 ⟨rfl, rfl⟩
    go_wp2_with fail
    refine HST.out.mono ?_
    rintro e w3 ⟨g, rfl, l3, hg2, b3⟩
    have d3 : DkS w3 D b n s := HD.out.fresh b3
    have hgD : ¬ D g := fun h => by have := HD.out.lt _ h; omega
    unfold formatOps at ER
    generalize formL (areaN n) t = F at *
    have hmx : 64 * areaN n ≤ maxLen := by unfold maxLen; omega
    have HM4 := Lib.hid (jmake_any (b := b) (n := n) d3.lt (1 + areaN n) (areaN n) (1 + (areaN n : Int)) (by omega) F hfl (by omega) (by omega) g 0 (64 * areaN n) (64 * areaN n) hfl.symm (by omega) hmx l3 hgD)
    have BB3 := Lib.hid b3; have D3 := Lib.hid d3; clear b3 d3 l3 HCK HST HHM hmx
    go_wp2_with fail
    refine HM4.out.mono ?_
    rintro e w4 ⟨rfl, st4, b4⟩
    have HH5 := Lib.hid (jheader_any 0 0 w4 (by omega) (by omega))
    have BB4 := Lib.hid (BB3.out.trans (b4.mono BB3.out.size)); have D4 := Lib.hid (Dk.fresh D3.out b4); have ST4 := Lib.hid st4; clear b4 st4 D3 BB3 HM4
    go_wp2_with fail
    refine HH5.out.mono ?_
    rintro e w5 ⟨ao5, cap5, rfl, o5, b5⟩
    obtain ⟨g5, rfl, hg5, _, hc5, hm5⟩ := owns_some o5 (by omega)
    have d5 := Dk.fresh D4.out b5
    have hg5D : ¬ D g5 := fun h => by have := D4.out.lt _ h; omega
    have HM6 := Lib.hid (jmake_any (b := b) (n := n) d5.lt 0 1 0 rfl (headL 0 0) (headL_length 0 0) (by omega) (by omega) g5 0 64 cap5 (headL_length 0 0).symm (by rw [headL_length]; exact hc5) hm5 (owns_lies o5) hg5D)
    have BB5 := Lib.hid (BB4.out.trans (b5.mono BB4.out.size)); have D5 := Lib.hid d5; have ST5 := Lib.hid (ST4.out.fresh b5); clear b5 d5 D4 BB4 ST4 HH5 o5 hm5 hc5
    go_wp2_with fail
    refine HM6.out.mono ?_
    rintro e wA ⟨rfl, suA, bA⟩
    have DA := Dk.fresh D5.out bA
    have stA := ST5.out.fresh bA
    have bbA := BB5.out.trans (bA.mono BB5.out.size)
    have hsy : StepAt wA D b n (syncV b, [.sync]) := .inl rfl
    have hflat : flat [(stepV w3.heap.size, secs (1 + areaN n) F), (syncV b, [.sync]), (stepV w5.heap.size, secs 0 (headL 0 0)), (syncV b, [.sync])] = blk (1 + areaN n) F ++ blk 0 (headL 0 0) := by
      simp only [flat, blk, List.flatMap_cons, List.flatMap_nil, List.append_assoc, List.append_nil]
    have hin := jsteps_any (s := s) DA [(stepV w3.heap.size, secs (1 + areaN n) F), (syncV b, [.sync]), (stepV w5.heap.size, secs 0 (headL 0 0)), (syncV b, [.sync])] 4 rfl 106
      (by
        intro p hp
        simp only [List.mem_cons, List.not_mem_nil, or_false] at hp
        rcases hp with rfl | rfl | rfl | rfl <;> assumption)
      (by rw [hflat]; simp only [List.length_append, blk_length, headL_length, hfl]; omega) (by simp)
    rw [hflat] at hin
    rw [← ER.out] at hin
    simp only [List.map_cons, List.map_nil, stepV, syncV] at hin
    have HIN := Lib.hid hin; have BBA := Lib.hid bbA
    clear hin hflat hsy bbA stA suA DA bA D5 ST5 BB5 HM6
    go_wp2_with fail
    refine HIN.out.mono ?_
    rintro e wB ⟨rfl, D', dB, hDB, kB⟩
    have DB := Lib.hid dB; have HDB := Lib.hid hDB; have KB := Lib.hid kB; clear dB hDB kB HIN
    go_wp2
    go_ret
    exact ⟨rfl, D', DB.out, fun i hi => (HDB.out i hi).imp id (fun h => by have := BBA.out.size; omega), (kob (S := D) BBA.out (Nat.le_refl _)).trans KB.out (fun _ _ h => h)⟩
  · have er : jformat n t s = (s, jfits n t) := by unfold jformat; rw [if_pos hf]
    have hb : (jfits n t != 0) = true := by simp [hf]
    have JR := Lib.hid (JDid.refl h); clear h
    rw [er]
    clear er hf
    generalize jfits n t = f at *
    go_enter Tryz.func45, Tryz.ntmps45
    go_wp2_with fail
    refine HCK.out.mono ?_
    rintro e w1 ⟨rfl, rfl⟩
    go_wp2
    go_ret
    exact ⟨rfl, JR.out⟩

end

end Go.Proofs.YtgefbolnfenfcaaGreat
