/-
  CONTRACTS of package journal: Put, Format.
-/
import Derived.Test.YtgefbolnfenfcaaGreatJo
namespace Go.Proofs.YtgefbolnfenfcaaGreat
open Go.RowKit Go.Mk

theorem kob {S : Nat → Prop} {B : Nat} {w w' : World} (h : Below B w w') (hB : w.heap.size ≤ B) : Kept S w w' := ⟨h.os, h.tape, h.output, h.size, fun k hk _ => h.block k (by omega)⟩

theorem Dk.fresh {w w' : World} {D : Nat → Prop} {b n : Nat} {base : List UInt8} {ws : List Wt} {calls : Int} (h : Dk w D b n base ws calls) (hb : Below w.heap.size w w') : Dk w' D b n base ws calls :=
  h.kept (kob (S := fun _ => False) hb (Nat.le_refl _)) (fun _ _ h => h)
theorem StepAt.fresh {w w' : World} {D : Nat → Prop} {b n : Nat} {p : Value × List Jop} (h : StepAt w D b n p) (hb : Below w.heap.size w w') : StepAt w' D b n p := h.kept (kob hb (Nat.le_refl _)) (fun _ h => .inl h)
theorem lfresh {w w' : World} {ao : Option Addr} {l : List Value} (h : Lies w w.heap.size ao l) (hb : Below w.heap.size w w') : Lies w' w'.heap.size ao l := Lies.lt' (h.below hb)

/-- Sync, as a step. -/
def syncV (b : Nat) : Value := .func (.func 61) #[.pointer (some ⟨b, 0, none⟩)] #[]

/-- What a call on a disk leaves. -/
def JDid (w : World) (D : Nat → Prop) (b n : Nat) (s' : DS) (w' : World) : Prop :=
  ∃ D', DkS w' D' b n s' ∧ (∀ i, D' i → D i ∨ w.heap.size ≤ i) ∧ Kept D w w'

theorem steps_cells (w : World) (ps : List (Value × List Jop)) (t : TypeId) : ∀ j p, ps[j]? = some p → (w.alloc (.cells (ps.map (·.1)).toArray t)).cell? ⟨w.heap.size, j, none⟩ = some p.1 := by
  intro j p hp
  have e : (w.alloc (.cells (ps.map (·.1)).toArray t)).cell? ⟨w.heap.size, j, none⟩ = _ := World.cell?_alloc_new w (ps.map (·.1)).toArray t j
  rw [e]
  simp [hp]

/-- inOrder on a new row of steps. -/
theorem jsteps_any {w : World} {D : Nat → Prop} {b n : Nat} {s : DS} (h : DkS w D b n s) (ps : List (Value × List Jop)) (len : Nat) (hlen : len = ps.length) (t : TypeId) (hst : ∀ p ∈ ps, StepAt w D b n p) (hp : s.ws.length + (flat ps).length ≤ 1000000) (hps : ps.length ≤ 1000) :
    Calls Tryz.prog 59 #[.slice (some ⟨w.heap.size, 0, none⟩) len len] (w.alloc (.cells (ps.map (·.1)).toArray t)) fun e w' => e = .returned (.int .i64 (DS.run (flat ps) s).2) ∧ JDid w D b n (DS.run (flat ps) s).1 w' := by
  have hb : Below w.heap.size w (w.alloc (.cells (ps.map (·.1)).toArray t)) := (Below.refl _ _).alloc (Nat.le_refl _) _
  refine (jorder_any (h.fresh hb) w.heap.size len ps len hlen (steps_cells w ps t) (fun hd => by have := h.lt _ hd; omega) (by simp) (fun p hp => (hst p hp).fresh hb) hp hps).mono ?_
  rintro e w' ⟨rfl, D', h1, h2, h3⟩
  refine ⟨rfl, D', h1.out, fun i hi => (h2.out i hi).imp id (fun h => by simp at h; omega), (kob (S := D) hb (Nat.le_refl _)).trans h3.out (fun _ _ h => h)⟩

section
variable {w : World} {D : Nat → Prop} {b n : Nat} {s : DS}

theorem JDid.refl (h : DkS w D b n s) : JDid w D b n s w := ⟨D, h, fun _ h => .inl h, Kept.refl _ _⟩

set_option maxHeartbeats 1000000 in
set_option maxRecDepth 100000 in
theorem jput_any (h : DkS w D b n s) (ao : Option Addr) (len cap : Nat) (t : List UInt8) (hlen : len = t.length) (hL : Lies w w.heap.size ao (t.map bv)) (hp : s.ws.length ≤ 900000) :
    Calls Tryz.prog 29 #[.pointer (some ⟨b, 0, none⟩), .slice ao len cap] w fun e w' => e = .returned (.int .i64 (jput n t s).2) ∧ JDid w D b n (jput n t s).1 w' := by
  subst hlen
  obtain ⟨hn1, hn2⟩ := h.n1
  have h3 : areaN n ≤ 32767 := by unfold areaN; omega
  have HCK := Lib.hid (jcheck_any h ao cap t t.length rfl)
  by_cases hf : jfits n t = 0
  · obtain ⟨h0, ht⟩ := jfits_zero.1 hf
    have hfl := formL_length (areaN n) t (by omega)
    have hll := areaN_le h0
    have er : jput n t s = s.run (putOps n t) := by unfold jput; rw [if_neg (by simp [hf])]
    rw [hf] at HCK
    have HST := Lib.hid (jstored_any h h0 ao t.length cap t rfl hL ht)
    have HD := Lib.hid h; have ER := Lib.hid er; clear h hL hf er
    go_enter Tryz.func29, Tryz.ntmps29
    go_wp2_with fail
    refine HCK.out.mono ?_
    rintro e w1 ⟨rfl, rfl⟩
    go_wp2_with fail
    refine HST.out.mono ?_
    rintro e w2 ⟨g, rfl, l2, hg2, b2⟩
    have d2 : DkS w2 D b n s := HD.out.fresh b2
    have hgD : ¬ D g := fun h => by have := HD.out.lt _ h; omega
    have hsu := csum_one (some ⟨g, 0, none⟩) (64 * areaN n) (formL (areaN n) t) w2 34 l2 (by omega)
    rw [hfl] at hsu
    have HSU := Lib.hid hsu; have D2 := Lib.hid d2; have B2 := Lib.hid b2; have L2 := Lib.hid l2; clear hsu d2 b2 l2 HST HCK
    go_wp2_with fail
    refine HSU.out.mono ?_
    rintro e w3 ⟨rfl, hw3⟩
    have b3 : Below w2.heap.size w2 w3 := by rw [← hw3]; exact (Below.refl _ _).alloc (Nat.le_refl _) _
    have d3 : DkS w3 D b n s := D2.out.fresh b3
    have l3 := lfresh L2.out b3
    clear hw3
    have hu := sumN_lt (formL (areaN n) t)
    unfold putOps homeOps at ER
    generalize formL (areaN n) t = F at *
    generalize sumN F = u at *
    have hmx : 64 * areaN n ≤ maxLen := by unfold maxLen; omega
    have HM4 := Lib.hid (jmake_any (b := b) (n := n) d3.lt 1 (areaN n) 1 rfl F hfl (by omega) (by omega) g 0 (64 * areaN n) (64 * areaN n) hfl.symm (by omega) hmx l3 hgD)
    have HMX := Lib.hid hmx; have BB3 := Lib.hid (B2.out.trans (b3.mono B2.out.size)); have D3 := Lib.hid d3; have L3 := Lib.hid l3; clear b3 d3 l3 HSU D2 L2 B2 hmx
    go_wp2_with fail
    refine HM4.out.mono ?_
    rintro e w4 ⟨rfl, st4, b4⟩
    have d4 := D3.out.fresh b4
    have l4 := lfresh L3.out b4
    have HH5 := Lib.hid (jheader_any 1 u w4 (by omega) hu)
    have BB4 := Lib.hid (BB3.out.trans (b4.mono BB3.out.size)); have D4 := Lib.hid d4; have L4 := Lib.hid l4; have ST4 := Lib.hid st4; clear b4 d4 l4 st4 D3 L3 BB3 HM4
    go_wp2_with fail
    refine HH5.out.mono ?_
    rintro e w5 ⟨ao5, cap5, rfl, o5, b5⟩
    obtain ⟨g5, rfl, hg5, _, hc5, hm5⟩ := owns_some o5 (by omega)
    have d5 := D4.out.fresh b5
    have l5 := lfresh L4.out b5
    have st5 := ST4.out.fresh b5
    have hg5D : ¬ D g5 := fun h => by have := D4.out.lt _ h; omega
    have HM6 := Lib.hid (jmake_any (b := b) (n := n) d5.lt 0 1 0 rfl (headL 1 u) (headL_length 1 u) (by omega) (by omega) g5 0 64 cap5 (headL_length 1 u).symm (by rw [headL_length]; exact hc5) hm5 (owns_lies o5) hg5D)
    have BB5 := Lib.hid (BB4.out.trans (b5.mono BB4.out.size)); have D5 := Lib.hid d5; have L5 := Lib.hid l5; have ST5 := Lib.hid st5; clear b5 d5 l5 st5 D4 L4 BB4 ST4 HH5 o5 hm5 hc5
    go_wp2_with fail
    refine HM6.out.mono ?_
    rintro e w6 ⟨rfl, su6, b6⟩
    have d6 := D5.out.fresh b6
    have HH7 := Lib.hid (jhome_any d6)
    have D6 := Lib.hid d6; have L6 := Lib.hid (lfresh L5.out b6); have ST6 := Lib.hid (ST5.out.fresh b6); have SU6 := Lib.hid su6; have BB6 := Lib.hid (BB5.out.trans (b6.mono BB5.out.size))
    clear b6 d6 su6 D5 L5 ST5 BB5 HM6
    go_wp2_with fail
    refine HH7.out.mono ?_
    rintro e w7 ⟨rfl, hw7⟩
    subst hw7
    have HM8 := Lib.hid (jmake_any (b := b) (n := n) D6.out.lt (1 + areaN n) (areaN n) (1 + (areaN n : Int)) (by omega) F hfl (by omega) (by omega) g 0 (64 * areaN n) (64 * areaN n) hfl.symm (by omega) HMX.out L6.out hgD)
    clear HH7
    go_wp2_with fail
    refine HM8.out.mono ?_
    rintro e w8 ⟨rfl, sv8, b8⟩
    have HH9 := Lib.hid (jheader_any 0 u w8 (by omega) hu)
    have D8 := Lib.hid (Dk.fresh D6.out b8); have ST8 := Lib.hid (ST6.out.fresh b8); have SU8 := Lib.hid (SU6.out.fresh b8); have SV8 := Lib.hid sv8; have BB8 := Lib.hid (BB6.out.trans (b8.mono BB6.out.size))
    clear b8 sv8 D6 L6 ST6 SU6 BB6 HM8
    go_wp2_with fail
    refine HH9.out.mono ?_
    rintro e w9 ⟨ao9, cap9, rfl, o9, b9⟩
    obtain ⟨g9, rfl, hg9, _, hc9, hm9⟩ := owns_some o9 (by omega)
    have d9 := Dk.fresh D8.out b9
    have hg9D : ¬ D g9 := fun h => by have := D8.out.lt _ h; omega
    have HMA := Lib.hid (jmake_any (b := b) (n := n) d9.lt 0 1 0 rfl (headL 0 u) (headL_length 0 u) (by omega) (by omega) g9 0 64 cap9 (headL_length 0 u).symm (by rw [headL_length]; exact hc9) hm9 (owns_lies o9) hg9D)
    have D9 := Lib.hid d9; have ST9 := Lib.hid (ST8.out.fresh b9); have SU9 := Lib.hid (SU8.out.fresh b9); have SV9 := Lib.hid (SV8.out.fresh b9); have BB9 := Lib.hid (BB8.out.trans (b9.mono BB8.out.size))
    clear b9 d9 o9 D8 ST8 SU8 SV8 BB8 HH9 hc9 hm9
    go_wp2_with fail
    refine HMA.out.mono ?_
    rintro e wA ⟨rfl, sx, bA⟩
    have DA := Dk.fresh D9.out bA
    have stA := ST9.out.fresh bA
    have suA := SU9.out.fresh bA
    have svA := SV9.out.fresh bA
    have bbA := BB9.out.trans (bA.mono BB9.out.size)
    have hsy : StepAt wA D b n (syncV b, [.sync]) := .inl rfl
    have hflat : flat [(stepV w3.heap.size, secs 1 F), (syncV b, [.sync]), (stepV w5.heap.size, secs 0 (headL 1 u)), (syncV b, [.sync]), (stepV w6.heap.size, secs (1 + areaN n) F), (syncV b, [.sync]), (stepV w9.heap.size, secs 0 (headL 0 u)), (syncV b, [.sync])] = blk 1 F ++ (blk 0 (headL 1 u) ++ (blk (1 + areaN n) F ++ blk 0 (headL 0 u))) := by
      simp only [flat, blk, List.flatMap_cons, List.flatMap_nil, List.append_assoc, List.append_nil]
    have hin := jsteps_any (s := s) DA [(stepV w3.heap.size, secs 1 F), (syncV b, [.sync]), (stepV w5.heap.size, secs 0 (headL 1 u)), (syncV b, [.sync]), (stepV w6.heap.size, secs (1 + areaN n) F), (syncV b, [.sync]), (stepV w9.heap.size, secs 0 (headL 0 u)), (syncV b, [.sync])] 8 rfl 106
      (by
        intro p hp
        simp only [List.mem_cons, List.not_mem_nil, or_false] at hp
        rcases hp with rfl | rfl | rfl | rfl | rfl | rfl | rfl | rfl <;> assumption)
      (by rw [hflat]; simp only [List.length_append, blk_length, headL_length, hfl]; omega) (by simp)
    rw [hflat] at hin
    rw [← ER.out] at hin
    simp only [List.map_cons, List.map_nil, stepV, syncV] at hin
    have HIN := Lib.hid hin; have BBA := Lib.hid bbA
    clear hin hflat hsy bbA svA suA stA DA bA sx D9 ST9 SU9 SV9 BB9 HMA
    go_wp2_with fail
    refine HIN.out.mono ?_
    rintro e wB ⟨rfl, D', dB, hDB, kB⟩
    have DB := Lib.hid dB; have HDB := Lib.hid hDB; have KB := Lib.hid kB; clear dB hDB kB HIN
    go_wp2
    go_ret
    exact ⟨rfl, D', DB.out, fun i hi => (HDB.out i hi).imp id (fun h => by have := BBA.out.size; omega), (kob (S := D) BBA.out (Nat.le_refl _)).trans KB.out (fun _ _ h => h)⟩
  · have er : jput n t s = (s, jfits n t) := by unfold jput; rw [if_pos hf]
    have hb : (jfits n t != 0) = true := by simp [hf]
    have JR := Lib.hid (JDid.refl h); clear h
    rw [er]
    clear er hf
    generalize jfits n t = f at *
    go_enter Tryz.func29, Tryz.ntmps29
    go_wp2_with fail
    refine HCK.out.mono ?_
    rintro e w1 ⟨rfl, rfl⟩
    go_wp2
    go_ret
    exact ⟨rfl, JR.out⟩

end

theorem jput_nil (w : World) (v : Value) :
    Calls Tryz.prog 29 #[.pointer none, v] w fun e w' => e = .returned (.int .i64 2) ∧ w = w' := by
  have HH := Lib.hid (jcheck_nil w v)
  go_enter Tryz.func29, Tryz.ntmps29
  go_wp2_with fail
  refine HH.out.mono ?_
  rintro e w1 ⟨rfl, rfl⟩
  go_wp2
  go_ret
  exact ⟨rfl, rfl⟩

end Go.Proofs.YtgefbolnfenfcaaGreat
