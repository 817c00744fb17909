/-
  DefRights: the walk.
-/
import Derived.Test.YtomdhljhjeeakaaL7
import Derived.Test.YtomdhljhjeeakaaR7b
import Derived.Test.YtomdhljhjeeakaaDcm
import Derived.Test.YtomdhljhjeeakaaPn
import Derived.Test.YtomdhljhjeeakaaPq
import Derived.Deep.RegionHeld
import Derived.Deep.CutBlock
import Derived.Deep.DeepCutAuto
namespace Go.Proofs.Ytomdhljhjeeakaa
open Go.RowKit Go.Mk

def lessI (x y : List UInt8) : Int := if Op.bytesLess x y = true then -1 else 0

theorem bx_both {w' : World} {x y : Nat} {ao ao' : Option Addr} {cap cap' : Nat} {a b : DD} (h : Bx w' x ao cap a) (h' : Bx w' y ao' cap' b) :
    w'.cell? ⟨x, 0, none⟩ = some (.int .i64 a.k) ∧ w'.cell? ⟨x, 1, none⟩ = some (.string (bs a.c)) ∧ w'.cell? ⟨x, 2, none⟩ = some (.string (bs a.p)) ∧ w'.cell? ⟨x, 3, none⟩ = some (.slice ao a.vs.length cap) ∧ w'.cell? ⟨x, 4, none⟩ = some (.string (bs a.s)) ∧ w'.cell? ⟨x, 5, none⟩ = some (.string (bs a.t)) ∧ w'.cell? ⟨y, 0, none⟩ = some (.int .i64 b.k) ∧ w'.cell? ⟨y, 1, none⟩ = some (.string (bs b.c)) ∧ w'.cell? ⟨y, 2, none⟩ = some (.string (bs b.p)) ∧ w'.cell? ⟨y, 3, none⟩ = some (.slice ao' b.vs.length cap') ∧ w'.cell? ⟨y, 4, none⟩ = some (.string (bs b.s)) ∧ w'.cell? ⟨y, 5, none⟩ = some (.string (bs b.t)) :=
  ⟨h.c0, h.c1, h.c2, h.c3, h.c4, h.c5, h'.c0, h'.c1, h'.c2, h'.c3, h'.c4, h'.c5⟩

/-- Two boxes in a world that keeps w. -/
structure BB (w wx : World) (ao ao' : Option Addr) (cap cap' : Nat) (a b : DD) : Prop where
  a : Bx wx w.heap.size ao cap a
  b : Bx wx (w.heap.size + 1) ao' cap' b
  k : Kept (fun _ => False) w wx

theorem BB.kept {w wx wy : World} {ao ao' : Option Addr} {cap cap' : Nat} {a b : DD} (h : BB w wx ao ao' cap cap' a b) (hk : Kept (fun _ => False) wx wy) : BB w wy ao ao' cap cap' a b :=
  ⟨h.a.kept hk (fun h => h), h.b.kept hk (fun h => h), h.k.trans hk (fun _ _ h => h)⟩

theorem BB.new (w : World) (ao ao' : Option Addr) (cap cap' : Nat) (a b : DD) : BB w ((w.alloc (.cells #[.int .i64 a.k, .string (bs a.c), .string (bs a.p), .slice ao a.vs.length cap, .string (bs a.s), .string (bs a.t)] 24)).alloc (.cells #[.int .i64 b.k, .string (bs b.c), .string (bs b.p), .slice ao' b.vs.length cap', .string (bs b.s), .string (bs b.t)] 24)) ao ao' cap cap' a b :=
  ⟨(bx_new2 w ao ao' cap cap' a b _).1, (bx_new2 w ao ao' cap cap' a b _).2, ((Kept.refl (fun _ => False) w).alloc _).alloc _⟩

theorem BB.drew {w wx : World} {ao ao' : Option Addr} {cap cap' : Nat} {a b : DD} (h : BB w wx ao ao' cap cap' a b) : BB w wx.drew ao ao' cap cap' a b := h.kept (Kept.drew (Kept.refl _ wx))

set_option maxHeartbeats 1000000 in
set_option maxRecDepth 100000 in
theorem rights_big (a b : DD) (ao ao' : Option Addr) (cap cap' : Nat) (w : World) (hA : Lies w w.heap.size ao (strs a.vs)) (hB : Lies w w.heap.size ao' (strs b.vs)) (hs : smallD a = false ∨ smallD b = false) :
    Calls Try.prog 3 #[.agg #[.int .i64 a.k, .string (bs a.c), .string (bs a.p), .slice ao a.vs.length cap, .string (bs a.s), .string (bs a.t)], .agg #[.int .i64 b.k, .string (bs b.c), .string (bs b.p), .slice ao' b.vs.length cap', .string (bs b.s), .string (bs b.t)]] w fun e w' => e = .returned (.bool true) ∧ Below w.heap.size w w' := by
  have HW := Lib.hid (fun w => awake7_any w)
  have HBB := Lib.hid (BB.new w ao ao' cap cap' a b)
  have H1 := Lib.hid (fun (wx : World) (hk : Kept (fun _ => False) w wx) => rsmall_any a ao cap _ wx (hA.kept hk (fun _ _ _ h => h)))
  have H2 := Lib.hid (fun (wx : World) (hk : Kept (fun _ => False) w wx) => rsmall_any b ao' cap' _ wx (hB.kept hk (fun _ _ _ h => h)))
  clear hA hB
  cases hsa : smallD a with
  | false =>
    rw [hsa] at H1
    clear hsa hs
    go_enter Try.func3, Try.ntmps3
    go_wp2_with fail
    refine (HW.out _).mono ?_
    rintro e w1 ⟨rfl, k1⟩
    have HB1 := Lib.hid (HBB.out.kept k1); clear k1
    obtain ⟨c0, c1, c2, c3, c4, c5⟩ := HB1.out.a
    go_wp2_with fail
    refine (H1.out _ HB1.out.k).mono ?_
    rintro e w2 ⟨rfl, k2⟩
    have K2 := Lib.hid (HB1.out.k.trans k2 (fun _ _ h => h)); clear k2
    go_wp2_with fail
    refine (HW.out _).mono ?_
    rintro e w3 ⟨rfl, k3⟩
    go_wp2
    go_ret
    exact ⟨rfl, keeps_below7 (K2.out.trans k3 (fun _ _ h => h))⟩
  | true =>
    have hsb : smallD b = false := by rcases hs with h | h; rw [h] at hsa; cases hsa; exact h
    rw [hsa] at H1
    rw [hsb] at H2
    clear hsa hs hsb
    go_enter Try.func3, Try.ntmps3
    go_wp2_with fail
    refine (HW.out _).mono ?_
    rintro e w1 ⟨rfl, k1⟩
    have HB1 := Lib.hid (HBB.out.kept k1); clear k1
    obtain ⟨c0, c1, c2, c3, c4, c5⟩ := HB1.out.a
    go_wp2_with fail
    refine (H1.out _ HB1.out.k).mono ?_
    rintro e w2 ⟨rfl, k2⟩
    have HB2 := Lib.hid (HB1.out.kept k2); clear k2
    obtain ⟨d0, d1, d2, d3, d4, d5⟩ := HB2.out.b
    go_wp2_with fail
    refine (H2.out _ HB2.out.k).mono ?_
    rintro e w3 ⟨rfl, k3⟩
    have K3 := Lib.hid (HB2.out.k.trans k3 (fun _ _ h => h)); clear k3
    go_wp2_with fail
    refine (HW.out _).mono ?_
    rintro e w4 ⟨rfl, k4⟩
    go_wp2
    go_ret
    exact ⟨rfl, keeps_below7 (K3.out.trans k4 (fun _ _ h => h))⟩

set_option maxHeartbeats 4000000 in
set_option maxRecDepth 100000 in
theorem rights_small (a b : DD) (ao ao' : Option Addr) (cap cap' : Nat) (w : World) (hm : MaxAt w) (hA : Lies w w.heap.size ao (strs a.vs)) (hB : Lies w w.heap.size ao' (strs b.vs)) (hc : a.vs.length ≤ cap) (hc2 : b.vs.length ≤ cap') (hsa : smallD a = true) (hsb : smallD b = true) :
    Calls Try.prog 3 #[.agg #[.int .i64 a.k, .string (bs a.c), .string (bs a.p), .slice ao a.vs.length cap, .string (bs a.s), .string (bs a.t)], .agg #[.int .i64 b.k, .string (bs b.c), .string (bs b.p), .slice ao' b.vs.length cap', .string (bs b.s), .string (bs b.t)]] w fun e w' => e = .returned (.bool true) ∧ Below w.heap.size w w' := by
  obtain ⟨a1, a2, a3, a4, a5, _⟩ := smallD_of hsa
  obtain ⟨b1, b2, b3, b4, b5, _⟩ := smallD_of hsb
  have HW := Lib.hid (fun w => awake7_any w)
  have HBB := Lib.hid (BB.new w ao ao' cap cap' a b)
  have HS1 := Lib.hid (fun (wx : World) (hk : Kept (fun _ => False) w wx) => rsmall_any a ao cap _ wx (hA.kept hk (fun _ _ _ h => h)))
  have HS2 := Lib.hid (fun (wx : World) (hk : Kept (fun _ => False) w wx) => rsmall_any b ao' cap' _ wx (hB.kept hk (fun _ _ _ h => h)))
  rw [hsa] at HS1
  rw [hsb] at HS2
  have KA := Lib.hid (fun (wx : World) (hk : Kept (fun _ => False) w wx) => rkey_any a ao cap _ wx (hA.kept hk (fun _ _ _ h => h)) hc (by omega) (by omega) (by omega))
  have KB := Lib.hid (fun (wx : World) (hk : Kept (fun _ => False) w wx) => rkey_any b ao' cap' _ wx (hB.kept hk (fun _ _ _ h => h)) hc2 (by omega) (by omega) (by omega))
  have DK := Lib.hid (fun (wx : World) (hk : Kept (fun _ => False) w wx) => dkey_any a ao cap _ wx (hA.kept hk (fun _ _ _ h => h)) hc (by omega) (by omega))
  have DR := Lib.hid (fun (wx : World) (hk : Kept (fun _ => False) w wx) => dright_any a ao cap _ wx (hA.kept hk (fun _ _ _ h => h)) hc (by omega))
  have RR := Lib.hid (fun (wx : World) (hk : Kept (fun _ => False) w wx) => rright_any a ao cap _ wx (hA.kept hk (fun _ _ _ h => h)) hc (by omega) (by omega))
  have DS := Lib.hid (fun (wx : World) (hk : Kept (fun _ => False) w wx) => dsame_any a b ao ao' cap cap' _ wx (hA.kept hk (fun _ _ _ h => h)) (hB.kept hk (fun _ _ _ h => h)) (by omega) (by omega))
  have RSm := Lib.hid (fun (wx : World) (hk : Kept (fun _ => False) w wx) => rsame7_any a b ao ao' cap cap' _ wx (hA.kept hk (fun _ _ _ h => h)) (hB.kept hk (fun _ _ _ h => h)) (by omega) (by omega))
  have DC := Lib.hid (fun (wx : World) (hk : Kept (fun _ => False) w wx) => dcmp_any a b ao ao' cap cap' _ wx (hA.kept hk (fun _ _ _ h => h)) (hB.kept hk (fun _ _ _ h => h)) hc hc2 (by omega) (by omega) (by omega) (by omega))
  have hkl : (keyD a).length ≤ 1000000 := by unfold keyD; repeat' split
                                             all_goals (try simp) <;> omega
  have DP := Lib.hid (fun (wx : World) (hk : Kept (fun _ => False) w wx) => dsplit_any (keyD a) wx (hm.kept hk) hkl)
  -- what is plain
  have p1 : rightD a = false → keyD a = [] := fun h => by simp [keyD, h]
  have p2 : rightD a = true → keyD a ≠ [] := fun h => key_ne h
  have p3 : rightD a = true → splitD (keyD a) = (a.c, a.s, true) := fun h => split_key h
  have p4 : rightD a = true → keyD a = keyD b → a.k = b.k := fun h e => by
    cases hb : rightD b with
    | true => exact key_kind h hb e
    | false => exact (key_ne h (by rw [e]; simp [keyD, hb])).elim
  have P1 := Lib.hid p1; have P2 := Lib.hid p2; have P3 := Lib.hid p3; have P4 := Lib.hid p4
  clear p1 p2 p3 p4 hkl hsa hsb hA hB hm a1 a2 a3 a4 a5 b1 b2 b3 b4 b5 hc hc2
  have hcmp : cmpD a b = Lib.compareBytes (keyD a) (keyD b) := rfl
  rw [hcmp] at DC; clear hcmp
  have hcc := cmp_cases (keyD a) (keyD b)
  have HCC := Lib.hid hcc; clear hcc
  generalize splitD (keyD a) = sp at *
  generalize Lib.compareBytes (keyD a) (keyD b) = cm at *
  generalize keyD a = x at *
  generalize keyD b = y at *
  generalize rightD a = r at *
  generalize sameB a b = sm at *
  have z1 := bs_list x
  have z2 := bs_list y
  have z3 := bs_list a.c
  have z4 := bs_list a.s
  go_enter Try.func3, Try.ntmps3
  go_wp2_with fail
  refine (HW.out _).mono ?_
  rintro e w1 ⟨rfl, k1⟩
  have HB1 := Lib.hid (HBB.out.kept k1); clear k1
  obtain ⟨c0, c1, c2, c3, c4, c5⟩ := HB1.out.a
  go_wp2_with fail
  refine (HS1.out _ HB1.out.k).mono ?_
  rintro e w2 ⟨rfl, k2⟩
  have HB2 := Lib.hid (HB1.out.kept k2); clear k2
  clear c0 c1 c2 c3 c4 c5
  obtain ⟨d0, d1, d2, d3, d4, d5⟩ := HB2.out.b
  go_wp2_with fail
  refine (HS2.out _ HB2.out.k).mono ?_
  rintro e w3 ⟨rfl, k3⟩
  have HB3 := Lib.hid (HB2.out.kept k3); clear k3
  clear d0 d1 d2 d3 d4 d5
  have hS3 := bx_both HB3.out.drew.a HB3.out.drew.b
  go_upto_region 3 with fail
  go_cut [5, 6] (fun v5 v6 wx => v5 = .string (bs x) ∧ v6 = .string (bs y) ∧ BB w wx ao ao' cap cap' a b)
  case first =>
    go_region_held (fun w' => w'.cell? ⟨w.heap.size, 0, none⟩ = some (.int .i64 a.k) ∧ w'.cell? ⟨w.heap.size, 1, none⟩ = some (.string (bs a.c)) ∧ w'.cell? ⟨w.heap.size, 2, none⟩ = some (.string (bs a.p)) ∧ w'.cell? ⟨w.heap.size, 3, none⟩ = some (.slice ao a.vs.length cap) ∧ w'.cell? ⟨w.heap.size, 4, none⟩ = some (.string (bs a.s)) ∧ w'.cell? ⟨w.heap.size, 5, none⟩ = some (.string (bs a.t)) ∧ w'.cell? ⟨w.heap.size + 1, 0, none⟩ = some (.int .i64 b.k) ∧ w'.cell? ⟨w.heap.size + 1, 1, none⟩ = some (.string (bs b.c)) ∧ w'.cell? ⟨w.heap.size + 1, 2, none⟩ = some (.string (bs b.p)) ∧ w'.cell? ⟨w.heap.size + 1, 3, none⟩ = some (.slice ao' b.vs.length cap') ∧ w'.cell? ⟨w.heap.size + 1, 4, none⟩ = some (.string (bs b.s)) ∧ w'.cell? ⟨w.heap.size + 1, 5, none⟩ = some (.string (bs b.t))) (assumption) (first
      | (go_at_call_of 10 (Value.agg #[.int .i64 a.k, .string (bs a.c), .string (bs a.p), .slice ao a.vs.length cap, .string (bs a.s), .string (bs a.t)]); refine (KA.out _ HB3.out.drew.k).mono ?_; rintro e w4 ⟨rfl, k4⟩; have HB4 := Lib.hid (HB3.out.drew.kept k4); have hS4 := bx_both HB4.out.a HB4.out.b; clear k4)
      | (go_at_call 10; go_must (refine (KB.out _ HB4.out.k).mono ?_; rintro e w5 ⟨rfl, k5⟩; have HB5 := Lib.hid (HB4.out.kept k5); have hS5 := bx_both HB5.out.a HB5.out.b; clear k5)))
    all_goals go_wp2_with fail
    all_goals go_meet
    all_goals exact ⟨rfl, rfl, HB5.out⟩
  case rest =>
    obtain ⟨rfl, rfl, hbb⟩ := hcut
    have HB6 := Lib.hid hbb; clear hbb hS3
    go_upto_if 30 with fail
    go_cut [7] (fun v7 wx => v7 = .int .i64 (lessI x y) ∧ wx = wc)
    case first =>
      cases hbl : Op.bytesLess x y with
      | true =>
        have hli : lessI x y = -1 := by simp [lessI, hbl]
        have HLI := Lib.hid hli; clear hli
        go_wp2_with fail
        go_meet
        case rel => exact ⟨by rw [HLI.out], rfl⟩
      | false =>
        have hli : lessI x y = 0 := by simp [lessI, hbl]
        have HLI := Lib.hid hli; clear hli
        go_wp2_with fail
        go_meet
        case rel => exact ⟨by rw [HLI.out], rfl⟩
    case rest =>
    obtain ⟨rfl, rfl⟩ := hcut
    go_upto_if 33 with fail
    go_cut [7] (fun v7 wx => v7 = .int .i64 cm ∧ BB w wx ao ao' cap cap' a b)
    case first =>
      rcases HCC.out with ⟨g1, g2, g3⟩ | ⟨g1, g2, g3⟩ | ⟨g1, g2, g3⟩
      · have HLI : Hid (lessI x y = cm) := by show _ = _; rw [g3]; simp [lessI, g1]
        clear g3
        simp only [g1, g2, Bool.or_true, Bool.true_or, Bool.or_false, Bool.or_self, Bool.not_true, Bool.not_false]
        go_wp2_with fail
        go_meet
        case rel => exact ⟨by rw [HLI.out], HB6.out⟩
      · have HLI : Hid (lessI x y = cm) := by show _ = _; rw [g3]; simp [lessI, g1]
        clear g3
        simp only [g1, g2, Bool.or_true, Bool.true_or, Bool.or_false, Bool.or_self, Bool.not_true, Bool.not_false]
        go_wp2_with fail
        go_meet
        case rel => exact ⟨by rw [HLI.out], HB6.out⟩
      · have HLI : Hid (cm = 1) := Lib.hid g3
        clear g3
        simp only [g1, g2, Bool.or_true, Bool.true_or, Bool.or_false, Bool.or_self, Bool.not_true, Bool.not_false]
        go_wp2_with fail
        go_meet
        case rel => exact ⟨by rw [HLI.out], HB6.out⟩
    case rest =>
    obtain ⟨rfl, hbb⟩ := hcut
    have HB7 := Lib.hid hbb; clear hbb
    have hS7 := bx_both HB7.out.drew.a HB7.out.drew.b
    go_upto_region 9 with fail
    go_cut [60] (fun v60 wx => v60 = .bool false ∧ BB w wx ao ao' cap cap' a b)
    case first =>
      go_region_held (fun w' => w'.cell? ⟨w.heap.size, 0, none⟩ = some (.int .i64 a.k) ∧ w'.cell? ⟨w.heap.size, 1, none⟩ = some (.string (bs a.c)) ∧ w'.cell? ⟨w.heap.size, 2, none⟩ = some (.string (bs a.p)) ∧ w'.cell? ⟨w.heap.size, 3, none⟩ = some (.slice ao a.vs.length cap) ∧ w'.cell? ⟨w.heap.size, 4, none⟩ = some (.string (bs a.s)) ∧ w'.cell? ⟨w.heap.size, 5, none⟩ = some (.string (bs a.t)) ∧ w'.cell? ⟨w.heap.size + 1, 0, none⟩ = some (.int .i64 b.k) ∧ w'.cell? ⟨w.heap.size + 1, 1, none⟩ = some (.string (bs b.c)) ∧ w'.cell? ⟨w.heap.size + 1, 2, none⟩ = some (.string (bs b.p)) ∧ w'.cell? ⟨w.heap.size + 1, 3, none⟩ = some (.slice ao' b.vs.length cap') ∧ w'.cell? ⟨w.heap.size + 1, 4, none⟩ = some (.string (bs b.s)) ∧ w'.cell? ⟨w.heap.size + 1, 5, none⟩ = some (.string (bs b.t))) (assumption) (first
        | (go_at_call 11; refine (DR.out _ HB7.out.drew.k).mono ?_; rintro e w8 ⟨rfl, k8⟩; have HB8 := Lib.hid (HB7.out.drew.kept k8); have hS8 := bx_both HB8.out.a HB8.out.b; clear k8)
        | (go_at_call 12; go_must (refine (RR.out _ HB8.out.k).mono ?_; rintro e w9 ⟨rfl, k9⟩; have HB9 := Lib.hid (HB8.out.kept k9); have hS9 := bx_both HB9.out.a HB9.out.b; clear k9))
        | (go_at_call 13; go_must (refine (DK.out _ HB9.out.k).mono ?_; rintro e w10 ⟨rfl, k10⟩; have HB10 := Lib.hid (HB9.out.kept k10); have hS10 := bx_both HB10.out.a HB10.out.b; clear k10))
        | (go_at_call 14; go_must (refine (DS.out _ HB10.out.k).mono ?_; rintro e w11 ⟨rfl, k11⟩; have HB11 := Lib.hid (HB10.out.kept k11); have hS11 := bx_both HB11.out.a HB11.out.b; clear k11))
        | (go_at_call 15; go_must (refine (RSm.out _ HB11.out.k).mono ?_; rintro e w12 ⟨rfl, k12⟩; have HB12 := Lib.hid (HB11.out.kept k12); have hS12 := bx_both HB12.out.a HB12.out.b; clear k12))
        | (go_at_call 16; go_must (refine (DC.out _ HB12.out.k).mono ?_; rintro e w13 ⟨rfl, k13⟩; have HB13 := Lib.hid (HB12.out.kept k13); have hS13 := bx_both HB13.out.a HB13.out.b; clear k13)))
      all_goals go_wp2_with fail
      all_goals go_meet
      all_goals exact ⟨by simp, HB13.out⟩
    case rest =>
      obtain ⟨rfl, hbb⟩ := hcut
      have HB14 := Lib.hid hbb; clear hbb hS7
      obtain ⟨c0, c1, c2, c3, c4, c5⟩ := HB14.out.a
      obtain ⟨d0, d1, d2, d3, d4, d5⟩ := HB14.out.b
      cases r with
      | false =>
        obtain rfl : x = [] := P1.out rfl
        go_wp2_with fail
        refine (DR.out _ HB14.out.k).mono ?_; rintro e w15 ⟨rfl, k15⟩
        go_wp2
        go_ret
        exact ⟨rfl, keeps_below7 (HB14.out.k.trans k15 (fun _ _ h => h))⟩
      | true =>
        have hx0 : ¬ x = [] := P2.out rfl
        have hx1 : x.isEmpty = false := by cases x with
          | nil => exact (hx0 rfl).elim
          | cons _ _ => rfl
        have hx2 : (x == []) = false := by simpa using hx0
        have hsp := P3.out rfl
        subst hsp
        have hkk : (x == y) = true → (a.k == b.k) = true := fun h => by rw [P4.out rfl (eq_of_beq h)]; simp
        have HKK := Lib.hid hkk; clear hkk
        dsimp only at DP
        go_wp2_with fail
        refine (DP.out _ HB14.out.k).mono ?_; rintro e w15 ⟨rfl, k15⟩
        have HB15 := Lib.hid (HB14.out.kept k15); clear k15
        clear c0 c1 c2 c3 c4 c5 d0 d1 d2 d3 d4 d5
        obtain ⟨c0, c1, c2, c3, c4, c5⟩ := HB15.out.a
        obtain ⟨d0, d1, d2, d3, d4, d5⟩ := HB15.out.b
        cases hxy : x == y with
        | false =>
          go_wp2
          go_ret
          exact ⟨by simp, keeps_below7 HB15.out.k⟩
        | true =>
          have hk1 := HKK.out hxy
          go_wp2
          go_ret
          exact ⟨by simp, keeps_below7 HB15.out.k⟩

theorem rights_any (a b : DD) (ao ao' : Option Addr) (cap cap' : Nat) (w : World) (hm : MaxAt w) (hA : Lies w w.heap.size ao (strs a.vs)) (hB : Lies w w.heap.size ao' (strs b.vs)) (hc : a.vs.length ≤ cap) (hc2 : b.vs.length ≤ cap') :
    Calls Try.prog 3 #[.agg #[.int .i64 a.k, .string (bs a.c), .string (bs a.p), .slice ao a.vs.length cap, .string (bs a.s), .string (bs a.t)], .agg #[.int .i64 b.k, .string (bs b.c), .string (bs b.p), .slice ao' b.vs.length cap', .string (bs b.s), .string (bs b.t)]] w fun e w' => e = .returned (.bool true) ∧ Below w.heap.size w w' := by
  cases hsa : smallD a with
  | false => exact rights_big a b ao ao' cap cap' w hA hB (.inl hsa)
  | true =>
    cases hsb : smallD b with
    | false => exact rights_big a b ao ao' cap cap' w hA hB (.inr hsb)
    | true => exact rights_small a b ao ao' cap cap' w hm hA hB hc hc2 hsa hsb

end Go.Proofs.Ytomdhljhjeeakaa
