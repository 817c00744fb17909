/-
  DefReads: the walk.
-/
import Derived.Test.YtomdhljhjeeakaaL7
import Derived.Test.YtomdhljhjeeakaaRv
import Derived.Test.YtomdhljhjeeakaaR7b
import Derived.Test.YtomdhljhjeeakaaRt
import Derived.Deep.RegionHeld
import Derived.Deep.CutBlock
import Derived.Deep.DeepCutAuto
namespace Go.Proofs.Ytomdhljhjeeakaa
open Go.RowKit Go.Mk

/-- Both readers and both boxes. -/
structure Q7 (W0 : World) (D : Nat → Prop) (rb mb x y : Nat) (ao ao' : Option Addr) (cap cap' : Nat) (s : RS) (d : DD) (wx : World) : Prop where
  rd : ∃ a c, Rd wx D rb a c s
  mr : Mr wx mb s
  a : Bx wx x ao cap d
  b : Bx wx y ao' cap' d
  la : Lies wx wx.heap.size ao (strs d.vs)
  lb : Lies wx wx.heap.size ao' (strs d.vs)
  k : Below W0.heap.size W0 wx

theorem Q7.kept {W0 : World} {D : Nat → Prop} {rb mb x y : Nat} {ao ao' : Option Addr} {cap cap' : Nat} {s : RS} {d : DD} {wx wy : World} (h : Q7 W0 D rb mb x y ao ao' cap cap' s d wx) (hk : Kept (fun _ => False) wx wy) : Q7 W0 D rb mb x y ao ao' cap cap' s d wy := by
  obtain ⟨a, c, hr⟩ := h.rd
  have hz := h.k.size
  exact ⟨⟨a, c, hr.kept hk (fun h => h) (fun _ _ _ h => h)⟩, h.mr.kept hk (fun h => h), h.a.kept hk (fun h => h), h.b.kept hk (fun h => h), (h.la.kept hk (fun _ _ _ h => h)).mono hk.size, (h.lb.kept hk (fun _ _ _ h => h)).mono hk.size, h.k.trans (hk.below hz (fun _ h => h.elim))⟩

theorem Q7.drew {W0 : World} {D : Nat → Prop} {rb mb x y : Nat} {ao ao' : Option Addr} {cap cap' : Nat} {s : RS} {d : DD} {wx : World} (h : Q7 W0 D rb mb x y ao ao' cap cap' s d wx) : Q7 W0 D rb mb x y ao ao' cap cap' s d wx.drew := h.kept (Kept.drew (Kept.refl _ wx))

theorem Q7.cells {W0 : World} {D : Nat → Prop} {rb mb x y : Nat} {ao ao' : Option Addr} {cap cap' : Nat} {s : RS} {d : DD} {w' : World} (h : Q7 W0 D rb mb x y ao ao' cap cap' s d w') :
    w'.cell? ⟨x, 0, none⟩ = some (.int .i64 d.k) ∧ w'.cell? ⟨x, 1, none⟩ = some (.string (bs d.c)) ∧ w'.cell? ⟨x, 2, none⟩ = some (.string (bs d.p)) ∧ w'.cell? ⟨x, 3, none⟩ = some (.slice ao d.vs.length cap) ∧ w'.cell? ⟨x, 4, none⟩ = some (.string (bs d.s)) ∧ w'.cell? ⟨x, 5, none⟩ = some (.string (bs d.t)) ∧ w'.cell? ⟨y, 0, none⟩ = some (.int .i64 d.k) ∧ w'.cell? ⟨y, 1, none⟩ = some (.string (bs d.c)) ∧ w'.cell? ⟨y, 2, none⟩ = some (.string (bs d.p)) ∧ w'.cell? ⟨y, 3, none⟩ = some (.slice ao' d.vs.length cap') ∧ w'.cell? ⟨y, 4, none⟩ = some (.string (bs d.s)) ∧ w'.cell? ⟨y, 5, none⟩ = some (.string (bs d.t)) ∧ w'.cell? ⟨mb, 0, none⟩ = some (.string (bs s.rest)) ∧ w'.cell? ⟨mb, 1, none⟩ = some (.int .i64 s.err) :=
  ⟨h.a.c0, h.a.c1, h.a.c2, h.a.c3, h.a.c4, h.a.c5, h.b.c0, h.b.c1, h.b.c2, h.b.c3, h.b.c4, h.b.c5, h.mr.c0, h.mr.c1⟩

theorem Q7.same {W0 : World} {D : Nat → Prop} {rb mb x y : Nat} {ao ao' : Option Addr} {cap cap' : Nat} {s : RS} {d : DD} {wx : World} (h : Q7 W0 D rb mb x y ao ao' cap cap' s d wx) (hv : d.vs.length ≤ 1099511627776) :
    Calls Try.prog 15 #[.agg #[.int .i64 d.k, .string (bs d.c), .string (bs d.p), .slice ao d.vs.length cap, .string (bs d.s), .string (bs d.t)], .agg #[.int .i64 d.k, .string (bs d.c), .string (bs d.p), .slice ao' d.vs.length cap', .string (bs d.s), .string (bs d.t)]] wx fun e w' => e = .returned (.bool true) ∧ Kept (fun _ => False) wx w' := by
  have := rsame7_any d d ao ao' cap cap' _ wx h.la h.lb hv hv
  rwa [sameB_refl] at this

set_option maxHeartbeats 400000 in
theorem dreads_big (ba : Option Addr) (bc : Nat) (l : List UInt8) (w : World) (h : 600 < l.length) :
    Calls Try.prog 6 #[.slice ba l.length bc] w fun e w' => e = .returned (.bool true) ∧ Below w.heap.size w w' := by
  have h1 : (600 : Int) < (l.length : Int) := by omega
  clear h
  go_enter Try.func6, Try.ntmps6
  go_wp2_with fail
  refine (awake7_any w).mono ?_
  rintro e w1 ⟨rfl, b1⟩
  have B1 := Lib.hid b1; clear b1
  go_wp2_with fail
  refine (awake7_any w1).mono ?_
  rintro e w2 ⟨rfl, b2⟩
  have B2 := Lib.hid b2; clear b2
  go_wp2
  go_ret
  exact ⟨rfl, keeps_below7 (B1.out.trans B2.out (fun _ _ h => h))⟩

set_option maxHeartbeats 1600000 in
set_option maxRecDepth 100000 in
theorem dreads_small (ba : Option Addr) (bc : Nat) (l : List UInt8) (w : World) (hL : Lies w w.heap.size ba (l.map bv)) (h1 : l.length ≤ 600) :
    Calls Try.prog 6 #[.slice ba l.length bc] w fun e w' => e = .returned (.bool true) ∧ Below w.heap.size w w' := by
  have HL := Lib.hid hL; clear hL
  have g1 : ¬ (600 : Int) < (l.length : Int) := by omega
  go_enter Try.func6, Try.ntmps6
  go_wp2_with fail
  refine (awake7_any w).mono ?_
  rintro e w1 ⟨rfl, k1⟩
  have b1 := keeps_below7 k1
  have HL1 := Lib.hid (HL.out.below b1); have B1 := Lib.hid b1; clear b1 k1
  have hz := B1.out.size
  go_wp2_with fail
  refine (open_any ba bc l w.heap.size w1 HL1.out (by omega)).mono ?_
  rintro e w2 ⟨rb, a1, c1, rfl, hrb, hrb2, hrd, b2⟩
  have hb2s := b2.size
  have hcv := run_string_of (P := Try.prog) w2 33 9 5 Try.underlying33 Try.underlying5 Try.underlying9 bc _ rfl (HL1.out.below (b2.mono hz))
  have hrd2 := hrd.kept (S := fun _ => False) ((Kept.refl _ w2).alloc (.cells #[.string (bs l), .int .i64 0] 51)) (fun h => h) (fun _ _ _ h => h)
  have hmr : Mr (w2.alloc (.cells #[.string (bs l), .int .i64 0] 51)) w2.heap.size ⟨l, 0⟩ := ⟨by simp, by simp, by simp, by simp⟩
  have hb3 := b2.alloc hb2s (.cells #[.string (bs l), .int .i64 0] 51)
  have HRD := Lib.hid hrd2; have HMR := Lib.hid hmr; have HB3 := Lib.hid hb3; clear hrd hrd2 hmr hb3 b2
  go_wp2
  clear hcv
  go_loopg [5] 6 (fun m c wr => ∃ j s, m = 6 - j ∧ j ≤ 6 ∧ c = .int .i64 (j : Int) ∧ s.rest.length ≤ 600 ∧
    (∃ ao1 cap1, Rd wr (fun k => w1.heap.size ≤ k ∧ k < rb) rb ao1 cap1 s) ∧ Mr wr w2.heap.size s ∧ Below w1.heap.size w1 wr)
  case atStart => exact ⟨0, ⟨l, 0⟩, rfl, Nat.zero_le _, rfl, h1, ⟨_, _, HRD.out⟩, HMR.out, HB3.out⟩
  case round =>
    obtain ⟨j, s0, hm, hj, rfl, hsl, ⟨a1, c1, r1⟩, m1, hbl⟩ := hrel
    have HM := Lib.hid hm; have R1 := Lib.hid r1; have M1 := Lib.hid m1; have HBL := Lib.hid hbl
    have hzr := hbl.size
    have hmb := m1.lt
    clear hm r1 m1 hbl
    by_cases hlt : j < 6
    · have i1 : (j : Int) < 6 := by omega
      generalize hmbe : w2.heap.size = mb at *
      have HMBE := Lib.hid hmbe; clear hmbe
      have HR := Lib.hid (dread_any _ rb a1 c1 s0 wr (fun k h => by omega) R1.out (by omega))
      have HR2 := Lib.hid (fun (wx : World) (hm : Mr wx mb s0) => rread_any mb s0 wx hm (by omega))
      have HV := Lib.hid (judge_v s0)
      have HLN := Lib.hid (show (fieldsR s0).1.rest.length ≤ 600 from Nat.le_trans (fields_len s0) hsl)
      generalize judgeR (fieldsR s0) = jj at *
      generalize fieldsR s0 = r at *
      obtain ⟨s, d0⟩ := r
      obtain ⟨d, er⟩ := jj
      dsimp only at HR HR2 HV HLN
      go_wp2_with fail
      refine HR.out.mono ?_
      rintro e w3 ⟨ao, cap, rfl, ho, r3, k3⟩
      have hz3 := k3.size
      have HO := Lib.hid ho; have R3 := Lib.hid r3
      have M3 := Lib.hid ((M1.out.kept k3 (by omega)).kept (S := fun _ => False) ((Kept.refl _ w3).alloc (.cells #[.int .i64 d.k, .string (bs d.c), .string (bs d.p), .slice ao d.vs.length cap, .string (bs d.s), .string (bs d.t)] 24)) (fun h => h))
      have B3 := Lib.hid (HBL.out.trans (k3.below (by omega) (fun k h => by omega)))
      clear ho r3 k3
      go_wp2_with fail
      refine (HR2.out _ M3.out).mono ?_
      rintro e w4 ⟨ao', cap', rfl, ho', m4, k4⟩
      have hz4 := k4.size
      rw [World.size_alloc] at hz4
      have hq : Q7 w1 (fun k => w1.heap.size ≤ k ∧ k < rb) rb mb w3.heap.size w4.heap.size ao ao' cap cap' s d (w4.alloc (.cells #[.int .i64 d.k, .string (bs d.c), .string (bs d.p), .slice ao' d.vs.length cap', .string (bs d.s), .string (bs d.t)] 24)) := by
        have ka : Kept (fun _ => False) w3 (w3.alloc (.cells #[.int .i64 d.k, .string (bs d.c), .string (bs d.p), .slice ao d.vs.length cap, .string (bs d.s), .string (bs d.t)] 24)) := (Kept.refl _ w3).alloc _
        have kb : Kept (fun _ => False) w4 (w4.alloc (.cells #[.int .i64 d.k, .string (bs d.c), .string (bs d.p), .slice ao' d.vs.length cap', .string (bs d.s), .string (bs d.t)] 24)) := (Kept.refl _ w4).alloc _
        obtain ⟨a3, c3, r3⟩ := R3.out
        have o1 := owns_kept (owns_kept HO.out ka (fun _ _ h => h)) k4 (fun k hk e => by have := (owns_lt HO.out k hk).1; omega)
        have hb4 : Below w1.heap.size w1 w4 := (B3.out.trans (ka.below B3.out.size (fun _ h => h.elim))).trans (k4.below (by rw [World.size_alloc]; have := B3.out.size; omega) (fun k h => by omega))
        exact ⟨⟨a3, c3, ((r3.kept ka (fun h => h) (fun _ _ _ h => h)).kept k4 (by omega) (fun k _ h e => by omega)).kept kb (fun h => h) (fun _ _ _ h => h)⟩, m4.kept kb (fun h => h),
          ((bx_new w3 ao cap d _).kept k4 (by omega)).kept kb (fun h => h), bx_new w4 ao' cap' d _, owns_lies (owns_kept o1 kb (fun _ _ h => h)), owns_lies (owns_kept ho' kb (fun _ _ h => h)), hb4.trans (kb.below hb4.size (fun _ h => h.elim))⟩
      have HQ := Lib.hid hq.drew; clear hq ho' m4 k4 M3 HO R3
      have hS := HQ.out.cells
      have es : (bs s.rest).size = s.rest.length := rfl
      have n2 : ((s.rest.length : Int) != (((bs s.rest).size : Nat) : Int)) = false := by rw [es]; simp
      clear es
      go_upto_region 10 with fail
      go_region_held (fun w' => w'.cell? ⟨w3.heap.size, 0, none⟩ = some (.int .i64 d.k) ∧ w'.cell? ⟨w3.heap.size, 1, none⟩ = some (.string (bs d.c)) ∧ w'.cell? ⟨w3.heap.size, 2, none⟩ = some (.string (bs d.p)) ∧ w'.cell? ⟨w3.heap.size, 3, none⟩ = some (.slice ao d.vs.length cap) ∧ w'.cell? ⟨w3.heap.size, 4, none⟩ = some (.string (bs d.s)) ∧ w'.cell? ⟨w3.heap.size, 5, none⟩ = some (.string (bs d.t)) ∧ w'.cell? ⟨w4.heap.size, 0, none⟩ = some (.int .i64 d.k) ∧ w'.cell? ⟨w4.heap.size, 1, none⟩ = some (.string (bs d.c)) ∧ w'.cell? ⟨w4.heap.size, 2, none⟩ = some (.string (bs d.p)) ∧ w'.cell? ⟨w4.heap.size, 3, none⟩ = some (.slice ao' d.vs.length cap') ∧ w'.cell? ⟨w4.heap.size, 4, none⟩ = some (.string (bs d.s)) ∧ w'.cell? ⟨w4.heap.size, 5, none⟩ = some (.string (bs d.t)) ∧ w'.cell? ⟨mb, 0, none⟩ = some (.string (bs s.rest)) ∧ w'.cell? ⟨mb, 1, none⟩ = some (.int .i64 s.err)) (assumption) (first
        | (go_at_call 15; refine (HQ.out.same HV.out).mono ?_; rintro e w6 ⟨rfl, k6⟩; have HQ6 := Lib.hid (HQ.out.kept k6); have hS6 := HQ6.out.cells; clear k6)
        | (go_at_call 31; go_must (refine HQ6.out.rd.choose_spec.choose_spec.left.mono ?_; rintro e w7 ⟨rfl, rfl⟩))
        | (go_at_call 27; go_must (refine HQ6.out.rd.choose_spec.choose_spec.errs.mono ?_; rintro e w8 ⟨rfl, rfl⟩)))
      all_goals go_wp2_with fail
      all_goals
        go_roundg (6 - (j + 1))
        case measure => have := HM.out; omega
        case rel =>
          obtain rfl := HMBE.out
          exact ⟨j + 1, s, rfl, by omega, by go_num, HLN.out, HQ6.out.rd, HQ6.out.mr, HQ6.out.k⟩
    · have i1 : ¬ (j : Int) < 6 := by omega
      go_wp2
      go_ret
      exact ⟨by simp, B1.out.trans (HBL.out.mono hz)⟩

theorem dreads_any (ba : Option Addr) (bc : Nat) (l : List UInt8) (w : World) (hL : Lies w w.heap.size ba (l.map bv)) :
    Calls Try.prog 6 #[.slice ba l.length bc] w fun e w' => e = .returned (.bool true) ∧ Below w.heap.size w w' := by
  by_cases h : 600 < l.length
  · exact dreads_big ba bc l w h
  · exact dreads_small ba bc l w hL (by omega)

end Go.Proofs.Ytomdhljhjeeakaa
