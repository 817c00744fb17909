/-
  DefBack: the walk.
-/
import Derived.Test.YtomdhljhjeeakaaDw7
import Derived.Test.YtomdhljhjeeakaaRo7
import Derived.Test.YtomdhljhjeeakaaDv
import Derived.Test.YtomdhljhjeeakaaR7
import Derived.Test.YtomdhljhjeeakaaR7b
import Derived.Test.YtomdhljhjeeakaaL7
import Derived.Deep.RegionHeld
import Derived.Deep.CutBlock
import Derived.Deep.DeepCutAuto
namespace Go.Proofs.Ytomdhljhjeeakaa
open Go.RowKit Go.Mk

theorem O7.kept {F : Nat → Prop} {w : World} {ao : Option Addr} {cap : Nat} {d : DD} {wx wy : World} (h : O7 w ao cap d wx) (hk : Kept F wx wy) (hf : ∀ k, F k → w.heap.size < k) : O7 w ao cap d wy :=
  ⟨h.bx.kept hk (fun e => by have := hf _ e; omega), h.k.trans (hk.below (Nat.le_of_lt h.sz) (fun k e => Nat.le_of_lt (hf k e))), Nat.lt_of_lt_of_le h.sz hk.size⟩

theorem O7.new (w : World) (ao : Option Addr) (cap : Nat) (d : DD) : O7 w ao cap d (w.alloc (.cells #[.int .i64 d.k, .string (bs d.c), .string (bs d.p), .slice ao d.vs.length cap, .string (bs d.s), .string (bs d.t)] 24)) :=
  ⟨bx_new w ao cap d _, keeps_below7 ((Kept.refl (fun _ => False) w).alloc _), by rw [World.size_alloc]; omega⟩

set_option maxHeartbeats 400000 in
set_option maxRecDepth 100000 in
theorem back_big (d : DD) (ao : Option Addr) (cap : Nat) (w : World) (hA : Lies w w.heap.size ao (strs d.vs)) (hs : smallD d = false) :
    Calls Try.prog 5 #[.agg #[.int .i64 d.k, .string (bs d.c), .string (bs d.p), .slice ao d.vs.length cap, .string (bs d.s), .string (bs d.t)]] w fun e w' => e = .returned (.bool true) ∧ Below w.heap.size w w' := by
  have HW := Lib.hid (fun w => awake7_any w)
  have O0 := Lib.hid (O7.new w ao cap d)
  have H1 := Lib.hid (fun (wx : World) (h : O7 w ao cap d wx) => rsmall_any d ao cap _ wx (hA.below h.k))
  rw [hs] at H1
  clear hA hs
  go_enter Try.func5, Try.ntmps5
  go_wp2_with fail
  refine (HW.out _).mono ?_
  rintro e w1 ⟨rfl, k1⟩
  have O1 := Lib.hid (O0.out.step (keeps_below7 k1)); clear k1
  obtain ⟨c0, c1, c2, c3, c4, c5⟩ := O1.out.bx
  go_wp2_with fail
  refine (H1.out _ O1.out).mono ?_
  rintro e w2 ⟨rfl, k2⟩
  have O2 := Lib.hid (O1.out.step (keeps_below7 k2)); clear k2
  go_wp2_with fail
  refine (HW.out _).mono ?_
  rintro e w3 ⟨rfl, k3⟩
  have O3 := Lib.hid (O2.out.step (keeps_below7 k3)); clear k3
  go_wp2
  go_ret
  exact ⟨rfl, O3.out.k⟩

set_option maxHeartbeats 1600000 in
set_option maxRecDepth 100000 in
theorem back_small (d : DD) (ao : Option Addr) (cap : Nat) (w : World) (hA : Lies w w.heap.size ao (strs d.vs)) (hc : d.vs.length ≤ cap) (hs : smallD d = true) :
    Calls Try.prog 5 #[.agg #[.int .i64 d.k, .string (bs d.c), .string (bs d.p), .slice ao d.vs.length cap, .string (bs d.s), .string (bs d.t)]] w fun e w' => e = .returned (.bool true) ∧ Below w.heap.size w w' := by
  have HSD := Lib.hid (smallD_of hs)
  have HW := Lib.hid (fun w => awake7_any w)
  have O0 := Lib.hid (O7.new w ao cap d)
  have H1 := Lib.hid (fun (wx : World) (h : O7 w ao cap d wx) => rsmall_any d ao cap _ wx (hA.below h.k))
  rw [hs] at H1
  have hn3 := HSD.out.n; have hn4 := HSD.out.s
  have HRR := Lib.hid (fun (wx : World) (h : O7 w ao cap d wx) => rright_any d ao cap _ wx (hA.below h.k) hc (by omega) (by omega))
  have hna : d.vs ≠ [] → ∀ a, ao = some a → ¬ w.heap.size < a.block := fun hn a ha => by
    obtain ⟨b', o', e', hl', _⟩ := hA (by intro e; exact hn (by simpa [strs] using e))
    rw [e'] at ha; cases ha; simp; omega
  have HDW := Lib.hid (fun (wx : World) (b : Nat) (s : WS) (h : O7 w ao cap d wx) (hw : WrF wx (fun k => w.heap.size < k) b s) (hl : s.out.length ≤ 1000) =>
    dwrite7_any hw (fun k hk => by have := h.sz; omega) d ao cap ((hA.below h.k).mono (Nat.le_of_lt h.sz)) hna hc HSD.out hl)
  have HRO := Lib.hid (fun (wx : World) (h : O7 w ao cap d wx) (hr : rightD d = true) => roctets_any d ao cap wx ((hA.below h.k).mono (Nat.le_of_lt h.sz)) HSD.out hr)
  have HLA := Lib.hid (fun (wx : World) (h : O7 w ao cap d wx) => (hA.below h.k).mono (Nat.le_of_lt h.sz))
  have HN3 := Lib.hid hn3
  have e7 : (⟨[], 0⟩ : WS).num 7 = ⟨bigB 4 7, 0⟩ := by rw [show (7 : Int) = ((7 : Nat) : Int) from rfl, WS.num_enc _ 7 (by omega)]; simp [WS.enc]
  have l7 : (bigB 4 7).length = 4 := bigB_length 4 7
  have E7 := Lib.hid e7; have L7 := Lib.hid l7
  clear hA hs hna hc hn3 hn4 e7 l7
  go_enter Try.func5, Try.ntmps5
  go_wp2_with fail
  refine (HW.out _).mono ?_
  rintro e w1 ⟨rfl, k1⟩
  have O1 := Lib.hid (O0.out.step (keeps_below7 k1)); clear k1
  obtain ⟨c0, c1, c2, c3, c4, c5⟩ := O1.out.bx
  go_wp2_with fail
  refine (H1.out _ O1.out).mono ?_
  rintro e w2 ⟨rfl, k2⟩
  have O2 := Lib.hid (O1.out.step (keeps_below7 k2)); clear k2 c0 c1 c2 c3 c4 c5
  have hz2 := O2.out.sz
  have WN := Lib.hid (WrF.new w2 (fun k => w.heap.size < k) (fun k hk => by omega) 36)
  have O2' := Lib.hid (O2.out.step (keeps_below7 ((Kept.refl (fun _ => False) w2).alloc (.cells #[.slice none 0 0, .int .i64 0] 36))))
  go_wp2_with fail
  refine (WN.out.num (fun k hk => by have := O2'.out.sz; omega) 7 (by simp)).mono ?_
  rintro e w3 ⟨rfl, h3, k3⟩
  rw [E7.out] at h3
  have W3 := Lib.hid h3
  have O3 := Lib.hid (O2'.out.kept k3 (fun k h => h)); clear h3 k3 WN
  obtain ⟨c0, c1, c2, c3, c4, c5⟩ := O3.out.bx
  go_wp2_with fail
  refine (HDW.out w3 _ _ O3.out W3.out (by dsimp only; rw [L7.out]; omega)).mono ?_
  rintro e w4 ⟨rfl, h4, k4⟩
  have W4 := Lib.hid h4
  have O4 := Lib.hid (O3.out.kept k4 (fun k h => h)); clear h4 k4 c0 c1 c2 c3 c4 c5
  obtain ⟨c0, c1, c2, c3, c4, c5⟩ := O4.out.bx
  go_wp2_with fail
  refine (HRR.out w4 O4.out).mono ?_
  rintro e w5 ⟨rfl, k5⟩
  have W5 := Lib.hid (W4.out.kept (keeps_below7 k5))
  have O5 := Lib.hid (O4.out.step (keeps_below7 k5)); clear k5 c0 c1 c2 c3 c4 c5
  cases hr : rightD d with
  | false =>
    have w5' := W5.out
    rw [writeD_wrong _ d hr] at w5'
    have W6 := Lib.hid w5'; clear w5' hr
    go_wp2_with fail
    refine W6.out.errs.mono ?_
    rintro e w6 ⟨rfl, rfl⟩
    go_wp2_with fail
    refine (W6.out.bytes (by dsimp only; rw [L7.out]; omega)).mono ?_
    rintro e w7 ⟨ao7, cap7, rfl, ho7, b7⟩
    have O7' := Lib.hid (O5.out.step b7); clear ho7 b7
    have hl7 : (((bigB 4 7).length : Int) == 4) = true := by rw [L7.out]; rfl
    go_wp2
    go_ret
    exact ⟨by simp, O7'.out.k⟩
  | true =>
    have w5' := W5.out
    rw [writeD_right _ d hr HSD.out] at w5'
    have W6 := Lib.hid w5'
    have hol := octD_len d HSD.out
    have HOL := Lib.hid (show (bigB 4 7 ++ octD d).length ≤ 20000 by rw [List.length_append, L7.out]; omega)
    have HOL2 := Lib.hid (show (octD d).length ≤ 20000 by omega)
    have HRO2 := Lib.hid (fun (wx : World) (h : O7 w ao cap d wx) => HRO.out wx h hr)
    have hJ := judge_oct d [] hr HSD.out
    have hFR := read_oct d [] hr HSD.out
    rw [List.append_nil] at hJ hFR
    have HJ := Lib.hid hJ; have HFR := Lib.hid hFR; clear hJ hFR
    have HRN := Lib.hid (read_num 7 (octD d) (by omega))
    have HBY := Lib.hid (fun (wx : World) (hw : WrF wx (fun k => w.heap.size < k) w2.heap.size ⟨bigB 4 7 ++ octD d, 0⟩) => (show Calls Try.prog 22 #[.pointer (some ⟨w2.heap.size, 0, none⟩)] wx fun e w' => ∃ ao' cap', e = .returned (.slice ao' (bigB 4 7 ++ octD d).length cap') ∧ w'.ownsRow wx.heap.size 5 1 (.slice ao' (bigB 4 7 ++ octD d).length cap') (bigB 4 7 ++ octD d).length ((bigB 4 7 ++ octD d).map bv) ∧ Below wx.heap.size wx w' from hw.bytes (Nat.le_trans HOL.out (by omega))))
    have HER := Lib.hid (fun (wx : World) (hw : WrF wx (fun k => w.heap.size < k) w2.heap.size ⟨bigB 4 7 ++ octD d, 0⟩) => (show Calls Try.prog 21 #[.pointer (some ⟨w2.heap.size, 0, none⟩)] wx fun e w' => e = .returned (.int .i64 0) ∧ wx = w' from hw.errs))
    have HCV := Lib.hid (fun (wx : World) (z : Nat) (ao8 : Option Addr) (cap8 : Nat) (ho : wx.ownsRow z 5 1 (.slice ao8 (bigB 4 7 ++ octD d).length cap8) (bigB 4 7 ++ octD d).length ((bigB 4 7 ++ octD d).map bv)) => run_string_of (P := Try.prog) wx 33 9 5 Try.underlying33 Try.underlying5 Try.underlying9 cap8 _ rfl (owns_lies ho))
    clear w5' hr hol
    have HEQ := Lib.hid (bs_append (bigB 4 7) (octD d))
    generalize bigB 4 7 ++ octD d = o at *
    go_wp2_with fail
    refine (rnum_ok 7 w5 (by omega)).mono ?_
    rintro e w6 ⟨rfl, b6⟩
    have W7 := Lib.hid (W6.out.kept b6)
    have O6 := Lib.hid (O5.out.step b6).drew; clear b6
    have W7d := Lib.hid (W7.out.kept (keeps_below7 (Kept.drew (Kept.refl (fun _ => False) w6))))
    have hS := O6.out.cells
    have y0 : (bs (bigB 4 7)).size ≤ 100 := by simp [bs_size, bigB_length]
    have y1 : (bs (octD d)).size ≤ 20000 := by rw [bs_size]; exact HOL2.out
    have heq := HEQ.out
    go_upto_region 9 with fail
    go_cut [46] (fun v46 wx => v46 = .bool false ∧ O7 w ao cap d wx ∧ WrF wx (fun k => w.heap.size < k) w2.heap.size ⟨o, 0⟩)
    case first =>
      go_region_held (fun w' => w'.cell? ⟨w.heap.size, 0, none⟩ = some (.int .i64 d.k) ∧ w'.cell? ⟨w.heap.size, 1, none⟩ = some (.string (bs d.c)) ∧ w'.cell? ⟨w.heap.size, 2, none⟩ = some (.string (bs d.p)) ∧ w'.cell? ⟨w.heap.size, 3, none⟩ = some (.slice ao d.vs.length cap) ∧ w'.cell? ⟨w.heap.size, 4, none⟩ = some (.string (bs d.s)) ∧ w'.cell? ⟨w.heap.size, 5, none⟩ = some (.string (bs d.t))) (assumption) (first
        | (go_at_call 21; refine (HER.out _ W7d.out).mono ?_; rintro e w7 ⟨rfl, rfl⟩)
        | (go_at_call 22; refine (HBY.out _ W7d.out).mono ?_; rintro e w8 ⟨ao8, cap8, rfl, ho8, b8⟩; have O8 := Lib.hid (O6.out.step b8); have W8 := Lib.hid (W7d.out.kept b8); have hS8 := O8.out.cells; have HO8 := Lib.hid ho8; have hcv8 := HCV.out _ _ _ _ ho8; clear b8 ho8)
        | (go_at_call 24; go_must (refine (HRO2.out _ O8.out).mono ?_; rintro e w9 ⟨rfl, b9⟩; have O9 := Lib.hid (O8.out.step b9); have W9 := Lib.hid (W8.out.kept b9); have hS9 := O9.out.cells; have hcv9 := HCV.out _ _ _ _ (owns_kept HO8.out (Kept.of_below b9) (fun k hk e => by have := (owns_lt HO8.out k hk).2; omega)); clear b9)))
      all_goals go_wp2_with fail
      all_goals go_meet
      all_goals exact ⟨by simp, O9.out, W9.out⟩
    case rest =>
      obtain ⟨rfl, hoc, hwc⟩ := hcut
      have O10 := Lib.hid hoc; have W10 := Lib.hid hwc; clear hoc hwc hS
      go_wp2_with fail
      refine (HBY.out _ W10.out).mono ?_
      rintro e w11 ⟨ao11, cap11, rfl, ho11, b11⟩
      have O11 := Lib.hid (O10.out.step b11)
      have HO11 := Lib.hid ho11; clear ho11 b11
      go_wp2_with fail
      refine (open_any ao11 cap11 o w11.heap.size w11 (owns_lies HO11.out) (by have := HOL.out; omega)).mono ?_
      rintro e w12 ⟨rb, a12, c12, rfl, hrb, hrb2, hrd, b12⟩
      have hz11 := O11.out.sz
      have O12 := Lib.hid (O11.out.step b12)
      have hN := rnum_any' _ rb a12 c12 _ w12 hrd
      rw [HRN.out] at hN
      have HN := Lib.hid hN; clear hN hrd b12
      go_wp2_with fail
      refine HN.out.mono ?_
      rintro e w13 ⟨rfl, ⟨a13, c13, r13⟩, k13⟩
      have O13 := Lib.hid (O12.out.kept k13 (fun k h => by omega))
      have R13 := Lib.hid r13
      have hz13 := k13.size
      have hR := dread_any _ rb a13 c13 _ w13 (fun k h => by omega) r13 (Nat.le_trans HOL2.out (by omega))
      rw [HJ.out, HFR.out] at hR
      have HR := Lib.hid hR; clear hR r13 k13 HN
      go_wp2_with fail
      refine R13.out.errs.mono ?_
      rintro e w14 ⟨rfl, rfl⟩
      go_wp2_with fail
      refine HR.out.mono ?_
      rintro e w15 ⟨ao2, cap2, rfl, ho2, ⟨a15, c15, r15⟩, k15⟩
      have ka : Kept (fun _ => False) w15 (w15.alloc (.cells #[.int .i64 d.k, .string (bs d.c), .string (bs d.p), .slice ao2 d.vs.length cap2, .string (bs d.s), .string (bs d.t)] 24)) := (Kept.refl _ w15).alloc _
      have O15 := Lib.hid ((O13.out.kept k15 (fun k h => by omega)).step (keeps_below7 ka))
      have R15 := Lib.hid (r15.kept ka (fun h => h) (fun _ _ _ h => h))
      have B15 := Lib.hid (bx_new w15 ao2 cap2 d 24)
      have hSm := rsame7_any d d ao2 ao cap2 cap _ _ (owns_lies (owns_kept ho2 ka (fun _ _ h => h))) ((HLA.out _ O15.out)) (by have := HN3.out; omega) (by have := HN3.out; omega)
      rw [sameB_refl] at hSm
      have HSm := Lib.hid hSm; clear hSm ka ho2 r15 k15
      obtain ⟨c0, c1, c2, c3, c4, c5⟩ := O15.out.bx
      obtain ⟨d0, d1, d2, d3, d4, d5⟩ := B15.out
      go_wp2_with fail
      refine HSm.out.mono ?_
      rintro e w16 ⟨rfl, k16⟩
      have O16 := Lib.hid (O15.out.step (keeps_below7 k16))
      have R16 := Lib.hid (R15.out.kept k16 (fun h => h) (fun _ _ _ h => h)); clear k16 c0 c1 c2 c3 c4 c5 d0 d1 d2 d3 d4 d5
      go_wp2_with fail
      refine R16.out.ends.mono ?_
      rintro e w17 ⟨rfl, rfl⟩
      have he : (((⟨[], 0⟩ : RS).endE) == 0) = true := by simp [RS.endE]
      go_wp2
      go_ret
      exact ⟨by simp [RS.endE], O16.out.k⟩

theorem back_any (d : DD) (ao : Option Addr) (cap : Nat) (w : World) (hA : Lies w w.heap.size ao (strs d.vs)) (hc : d.vs.length ≤ cap) :
    Calls Try.prog 5 #[.agg #[.int .i64 d.k, .string (bs d.c), .string (bs d.p), .slice ao d.vs.length cap, .string (bs d.s), .string (bs d.t)]] w fun e w' => e = .returned (.bool true) ∧ Below w.heap.size w w' := by
  cases hs : smallD d with
  | false => exact back_big d ao cap w hA hs
  | true => exact back_small d ao cap w hA hc hs

end Go.Proofs.Ytomdhljhjeeakaa
