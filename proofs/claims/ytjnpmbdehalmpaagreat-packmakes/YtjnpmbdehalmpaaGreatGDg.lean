/-
  Lemmas towards the claim of this folder: contracts of the functions that the law reaches; joined texts.
-/
import Derived.Test.YtjnpmbdehalmpaaGreatGNe
import Derived.Test.YtjnpmbdehalmpaaGreatGNc
/-
  CONTRACTS of package def: areVars, Right, Key.
-/
namespace Go.Proofs.YtjnpmbdehalmpaaGreat
open Go.RowKit Go.Mk

theorem strs_take (l : List (List UInt8)) (j : Nat) : strs (l.take j) = (strs l).take j := by simp [strs, List.map_take]

set_option maxHeartbeats 400000 in
theorem dvars_any (aa : Option Addr) (ca : Nat) (la : List (List UInt8)) (B : Nat) (w : World) (hA : Lies w B aa (strs la)) (hc : la.length ≤ ca) :
    Calls Tryz.prog 107 #[.slice aa la.length ca] w fun e w' => e = .returned (.bool (areVars la)) ∧ Kept (fun _ => False) w w' := by
  have HA := Lib.hid hA; clear hA
  by_cases hl : 20 < la.length
  · have E : Hid (areVars la = false) := by show _ = _; unfold areVars; rw [decide_eq_false (by omega), Bool.false_and]
    have h1 : (20 : Int) < (la.length : Int) := by omega
    go_enter Tryz.func107, Tryz.ntmps107
    go_wp2
    go_ret
    exact ⟨by rw [E.out]; rfl, Kept.refl _ _⟩
  · have E : Hid (areVars la = varsL la) := by show _ = _; unfold areVars; rw [decide_eq_true (by omega), Bool.true_and]
    have h1 : ¬ (20 : Int) < (la.length : Int) := by omega
    have h2 : la.length ≤ 20 := by omega
    go_enter Tryz.func107, Tryz.ntmps107
    go_wp2
    go_loopg [10] la.length (fun k v wr => ∃ j : Nat, k = la.length - j ∧ v = .int .i64 (j : Int) ∧ j ≤ la.length ∧ varsTo la j = true ∧ Kept (fun _ => False) w wr)
    case atStart => exact ⟨0, rfl, rfl, Nat.zero_le _, rfl, Kept.refl _ _⟩
    case round =>
      obtain ⟨j, hk, rfl, hj, hev, hkp⟩ := hrel
      have HK := Lib.hid hk; have HEV := Lib.hid hev; have HKP := Lib.hid hkp; clear hk hev hkp
      by_cases hlt : j < la.length
      · have hA1 := HA.out.kept HKP.out (fun _ _ _ h => h)
        obtain ⟨xb, xo, rfl, hxb, hc'⟩ := hA1 (by intro h; simp [strs] at h; rw [h] at hlt; simp at hlt)
        have hx : wr.cell? ⟨xb, xo + j, none⟩ = some (.string (bs la[j])) := hc' j _ (by simp [strs, hlt])
        clear hc'
        have i1 : (j : Int) < (la.length : Int) := by omega
        have i2 : (j : Int) ≤ (ca : Int) := by omega
        have hv := fun w => nvar_any la[j] w
        have htl : j = (la.take j).length := by rw [List.length_take]; omega
        have hcn := fun (w1 : World) (h : Kept (fun _ => False) wr w1) => scont_any (some ⟨xb, xo, none⟩) ca (la.take j) la[j] B j htl w1 (by rw [strs_take]; exact (hA1.kept h (fun _ _ _ h => h)).take j) (by omega)
        have hva := varAt_lt hlt
        have hno := fun h => varsL_no hlt h
        have hsu := varsTo_succ la j
        have HC := Lib.hid hcn; have HV := Lib.hid hv; have HVA := Lib.hid hva; have HNO := Lib.hid hno; have HSU := Lib.hid hsu; clear hcn hv hva hno hsu hA1 htl
        generalize (la.take j).contains la[j] = r2 at *
        generalize isVa la[j] = r1 at *
        generalize la[j] = x at *
        cases r1 with
        | false =>
          go_wp2_with fail
          refine (HV.out _).mono ?_; rintro e w1 ⟨rfl, k1⟩
          go_wp2
          go_ret
          exact ⟨by rw [E.out, HNO.out (by rw [HVA.out]; rfl)]; rfl, HKP.out.trans k1 (fun _ _ h => h)⟩
        | true =>
          cases r2 with
          | true =>
            go_wp2_with fail
            refine (HV.out _).mono ?_; rintro e w1 ⟨rfl, k1⟩
            go_wp2_with fail
            refine (HC.out _ k1).mono ?_; rintro e w2 ⟨rfl, rfl⟩
            go_wp2
            go_ret
            exact ⟨by rw [E.out, HNO.out (by rw [HVA.out]; rfl)]; rfl, HKP.out.trans k1 (fun _ _ h => h)⟩
          | false =>
            go_wp2_with fail
            refine (HV.out _).mono ?_; rintro e w1 ⟨rfl, k1⟩
            go_wp2_with fail
            refine (HC.out _ k1).mono ?_; rintro e w2 ⟨rfl, rfl⟩
            go_wp2
            go_roundg (la.length - (j + 1))
            case measure => have := HK.out; omega
            case rel => exact ⟨j + 1, rfl, by go_num, by omega, by rw [HSU.out, HEV.out, HVA.out]; rfl, HKP.out.trans k1 (fun _ _ h => h)⟩
      · obtain rfl : j = la.length := by omega
        go_wp2
        go_ret
        exact ⟨by rw [E.out, varsL, HEV.out]; rfl, HKP.out⟩

end Go.Proofs.YtjnpmbdehalmpaaGreat

/-
  CONTRACTS of package def: Right, Key.
-/
namespace Go.Proofs.YtjnpmbdehalmpaaGreat
open Go.RowKit Go.Mk

theorem emp_yes {l : List UInt8} (h : l.isEmpty = true) : l = [] := by simpa using h

set_option maxHeartbeats 1000000 in
set_option maxRecDepth 100000 in
theorem dright_class (d : DD) (ao : Option Addr) (cap : Nat) (B : Nat) (w : World) (hk : d.k = 1) (hA : Lies w B ao (strs d.vs)) (hc : d.vs.length ≤ cap) :
    Calls Tryz.prog 92 #[.agg #[.int .i64 d.k, .string (bs d.c), .string (bs d.p), .slice ao d.vs.length cap, .string (bs d.s), .string (bs d.t)]] w fun e w' => e = .returned (.bool (rightC d)) ∧ Kept (fun _ => False) w w' := by
  have hbx := bx_new w ao cap d 46
  have hk0 := (Kept.refl (fun _ => False) w).alloc (.cells #[.int .i64 d.k, .string (bs d.c), .string (bs d.p), .slice ao d.vs.length cap, .string (bs d.s), .string (bs d.t)] 46)
  obtain ⟨k, c, p, vs, s, t⟩ := d
  dsimp only at *
  subst hk
  have h1 := fun w => down_any c w
  have h2 := fun w => ncl_any p w
  have h3 := fun (wx : World) (h : Kept (fun _ => False) w wx) => dvars_any ao cap vs B wx (hA.kept h (fun _ _ _ h => h)) hc
  unfold rightC
  dsimp only
  generalize ownCl c = r1 at *
  generalize isCl p = r2 at *
  generalize areVars vs = r3 at *
  have H1 := Lib.hid h1; have H2 := Lib.hid h2; have H3 := Lib.hid h3; have HB := Lib.hid hbx; have HK0 := Lib.hid hk0
  clear h1 h2 h3 hbx hk0 hA
  cases r1 with
  | false =>
    go_enter Tryz.func92, Tryz.ntmps92
    go_wp2_with fail
    refine (H1.out _).mono ?_; rintro e w1 ⟨rfl, k1⟩
    go_wp2
    go_ret
    exact ⟨rfl, HK0.out.trans k1 (fun _ _ h => h)⟩
  | true =>
    cases r2 with
    | false =>
      go_enter Tryz.func92, Tryz.ntmps92
      go_wp2_with fail
      refine (H1.out _).mono ?_; rintro e w1 ⟨rfl, k1⟩
      obtain ⟨_, _, c2, c3, c4, c5⟩ := HB.out.kept k1 (fun h => h)
      have k1 := HK0.out.trans k1 (fun _ _ h => h)
      go_wp2_with fail
      refine (H2.out _).mono ?_; rintro e w2 ⟨rfl, k2⟩
      go_wp2
      go_ret
      exact ⟨rfl, k1.trans k2 (fun _ _ h => h)⟩
    | true =>
      go_enter Tryz.func92, Tryz.ntmps92
      go_wp2_with fail
      refine (H1.out _).mono ?_; rintro e w1 ⟨rfl, k1⟩
      have HB := Lib.hid (HB.out.kept k1 (fun h => h))
      obtain ⟨_, _, c2, c3, c4, c5⟩ := HB.out
      have k1 := HK0.out.trans k1 (fun _ _ h => h)
      go_wp2_with fail
      refine (H2.out _).mono ?_; rintro e w2 ⟨rfl, k2⟩
      have HB := Lib.hid (HB.out.kept k2 (fun h => h))
      have k2 := k1.trans k2 (fun _ _ h => h)
      clear c2 c3 c4 c5
      obtain ⟨_, _, c2, c3, c4, c5⟩ := HB.out
      go_wp2_with fail
      refine (H3.out _ k2).mono ?_; rintro e w3 ⟨rfl, k3⟩
      have HB := Lib.hid (HB.out.kept k3 (fun h => h))
      have k3 := k2.trans k3 (fun _ _ h => h)
      clear c2 c3 c4 c5
      obtain ⟨_, _, c2, c3, c4, c5⟩ := HB.out
      cases r3 with
      | false =>
        go_wp2
        go_ret
        exact ⟨rfl, k3⟩
      | true =>
        have z1 := bs_list s
        have z2 := bs_list t
        cases s with
        | cons b s =>
          go_wp2
          go_ret
          exact ⟨rfl, k3⟩
        | nil =>
          go_wp2
          go_ret
          exact ⟨by simp, k3⟩

set_option maxHeartbeats 1000000 in
set_option maxRecDepth 100000 in
theorem dright_method (d : DD) (ao : Option Addr) (cap : Nat) (w : World) (hk : d.k = 2) (hl : d.s.length ≤ 1099511627776) :
    Calls Tryz.prog 92 #[.agg #[.int .i64 d.k, .string (bs d.c), .string (bs d.p), .slice ao d.vs.length cap, .string (bs d.s), .string (bs d.t)]] w fun e w' => e = .returned (.bool (rightM d)) ∧ Kept (fun _ => False) w w' := by
  have hbx := bx_new w ao cap d 46
  have hk0 := (Kept.refl (fun _ => False) w).alloc (.cells #[.int .i64 d.k, .string (bs d.c), .string (bs d.p), .slice ao d.vs.length cap, .string (bs d.s), .string (bs d.t)] 46)
  obtain ⟨k, c, p, vs, s, t⟩ := d
  dsimp only at *
  subst hk
  have h1 := fun w => ncl_any c w
  have h2 := fun w => dsel_any s w hl
  unfold rightM
  dsimp only
  generalize isCl c = r1 at *
  generalize isSel s = r2 at *
  have H1 := Lib.hid h1; have H2 := Lib.hid h2; have HB := Lib.hid hbx; have HK0 := Lib.hid hk0
  clear h1 h2 hbx hk0
  cases r1 with
  | false =>
    go_enter Tryz.func92, Tryz.ntmps92
    go_wp2_with fail
    refine (H1.out _).mono ?_; rintro e w1 ⟨rfl, k1⟩
    go_wp2
    go_ret
    exact ⟨rfl, HK0.out.trans k1 (fun _ _ h => h)⟩
  | true =>
    have z0 : (bs t).size = t.length := rfl
    have z1 := bs_list p
    go_enter Tryz.func92, Tryz.ntmps92
    go_wp2_with fail
    refine (H1.out _).mono ?_; rintro e w1 ⟨rfl, k1⟩
    have HB := Lib.hid (HB.out.kept k1 (fun h => h))
    obtain ⟨_, _, c2, c3, c4, c5⟩ := HB.out
    have k1 := HK0.out.trans k1 (fun _ _ h => h)
    go_wp2_with fail
    refine (H2.out _).mono ?_; rintro e w2 ⟨rfl, k2⟩
    have HB := Lib.hid (HB.out.kept k2 (fun h => h))
    have k2 := k1.trans k2 (fun _ _ h => h)
    clear c2 c3 c4 c5
    obtain ⟨_, _, c2, c3, c4, c5⟩ := HB.out
    cases r2 with
    | false =>
      go_wp2
      go_ret
      exact ⟨rfl, k2⟩
    | true =>
      by_cases ht : t.length ≤ 4000
      · have ht1 : (t.length : Int) ≤ 4000 := by omega
        have e1 : decide (t.length ≤ 4000) = true := decide_eq_true ht
        have E1 := Lib.hid e1; clear e1 ht
        cases p with
        | cons b p =>
          go_wp2
          go_ret
          exact ⟨by rw [E1.out]; rfl, k2⟩
        | nil =>
          cases vs with
          | nil =>
            go_wp2
            go_ret
            exact ⟨by rw [E1.out]; rfl, k2⟩
          | cons v vs =>
            have hn : ((((v :: vs).length : Nat) : Int) == 0) = false := by rw [beq_eq_false_iff_ne]; simp only [List.length_cons]; omega
            go_wp2
            go_ret
            exact ⟨by rw [E1.out]; rfl, k2⟩
      · have ht1 : ¬ (t.length : Int) ≤ 4000 := by omega
        have e1 : decide (t.length ≤ 4000) = false := decide_eq_false ht
        have E1 := Lib.hid e1; clear e1 ht
        go_wp2
        go_ret
        exact ⟨by rw [E1.out]; rfl, k2⟩

set_option maxHeartbeats 400000 in
theorem dright_any (d : DD) (ao : Option Addr) (cap : Nat) (B : Nat) (w : World) (hA : Lies w B ao (strs d.vs)) (hc : d.vs.length ≤ cap) (hl : d.s.length ≤ 1099511627776) :
    Calls Tryz.prog 92 #[.agg #[.int .i64 d.k, .string (bs d.c), .string (bs d.p), .slice ao d.vs.length cap, .string (bs d.s), .string (bs d.t)]] w fun e w' => e = .returned (.bool (rightD d)) ∧ Kept (fun _ => False) w w' := by
  by_cases h1 : d.k = 1
  · rw [rightD_one h1]; exact dright_class d ao cap B w h1 hA hc
  · by_cases h2 : d.k = 2
    · rw [rightD_two h2]; exact dright_method d ao cap w h2 hl
    · rw [rightD_no h1 h2]
      have b1 : (d.k == 1) = false := by simpa using h1
      have b2 : (d.k == 2) = false := by simpa using h2
      have hk0 := (Kept.refl (fun _ => False) w).alloc (.cells #[.int .i64 d.k, .string (bs d.c), .string (bs d.p), .slice ao d.vs.length cap, .string (bs d.s), .string (bs d.t)] 46)
      have HK0 := Lib.hid hk0
      clear h1 h2 hA hk0
      go_enter Tryz.func92, Tryz.ntmps92
      go_wp2
      go_ret
      exact ⟨rfl, HK0.out⟩

end Go.Proofs.YtjnpmbdehalmpaaGreat

/-
  CONTRACTS of package def: Key.
-/
namespace Go.Proofs.YtjnpmbdehalmpaaGreat
open Go.RowKit Go.Mk

theorem key_no {d : DD} (h : rightD d = false) : keyD d = [] := by simp [keyD, h]
theorem key_m {d : DD} (h : rightD d = true) (hk : d.k = 2) : keyD d = d.c ++ [62, 62] ++ d.s := by simp [keyD, h, hk]
theorem key_c {d : DD} (h : rightD d = true) (hk : d.k ≠ 2) : keyD d = d.c := by simp [keyD, h, hk]

set_option maxHeartbeats 1000000 in
theorem dkey_any (d : DD) (ao : Option Addr) (cap : Nat) (B : Nat) (w : World) (hA : Lies w B ao (strs d.vs)) (hc : d.vs.length ≤ cap) (hl : d.s.length ≤ 1000000) (hl2 : d.c.length ≤ 1000000) :
    Calls Tryz.prog 56 #[.agg #[.int .i64 d.k, .string (bs d.c), .string (bs d.p), .slice ao d.vs.length cap, .string (bs d.s), .string (bs d.t)]] w fun e w' => e = .returned (.string (bs (keyD d))) ∧ Kept (fun _ => False) w w' := by
  have hbx := bx_new w ao cap d 46
  have hk0 := (Kept.refl (fun _ => False) w).alloc (.cells #[.int .i64 d.k, .string (bs d.c), .string (bs d.p), .slice ao d.vs.length cap, .string (bs d.s), .string (bs d.t)] 46)
  have h1 := fun (wx : World) (h : Kept (fun _ => False) w wx) => dright_any d ao cap B wx (hA.kept h (fun _ _ _ h => h)) hc (by omega)
  have HK0 := Lib.hid hk0; have HB := Lib.hid hbx; clear hk0 hbx hA
  cases hr : rightD d with
  | false =>
    rw [hr] at h1
    rw [key_no hr]
    have H1 := Lib.hid h1; clear h1 hr
    go_enter Tryz.func56, Tryz.ntmps56
    go_wp2_with fail
    refine (H1.out _ HK0.out).mono ?_; rintro e w1 ⟨rfl, k1⟩
    go_wp2
    go_ret
    exact ⟨rfl, HK0.out.trans k1 (fun _ _ h => h)⟩
  | true =>
    rw [hr] at h1
    by_cases hk : d.k = 2
    · rw [key_m hr hk]
      have hk1 : (d.k == 2) = true := by simp [hk]
      have H1 := Lib.hid h1; clear h1 hr hk
      have z1 : (bs d.c).size ≤ 1000000 := hl2
      have z2 : (bs d.s).size ≤ 1000000 := hl
      have z3 : (bs d.c ++ ⟨#[62, 62]⟩ : ByteArray).size ≤ 1000002 := by rw [ByteArray.size_append]; show d.c.length + 2 ≤ _; omega
      have z4 : (⟨#[62, 62]⟩ : ByteArray).size = 2 := rfl
      go_enter Tryz.func56, Tryz.ntmps56
      go_wp2_with fail
      refine (H1.out _ HK0.out).mono ?_; rintro e w1 ⟨rfl, k1⟩
      obtain ⟨c0, c1, c2, c3, c4, c5⟩ := HB.out.kept k1 (fun h => h)
      go_wp2
      go_ret
      exact ⟨by rw [← bs_append, ← bs_append]; rfl, HK0.out.trans k1 (fun _ _ h => h)⟩
    · rw [key_c hr hk]
      have hk1 : (d.k == 2) = false := by simp [hk]
      have H1 := Lib.hid h1; clear h1 hr hk
      have H2 := Lib.hid (fun w => sclone_any d.c w (by omega))
      go_enter Tryz.func56, Tryz.ntmps56
      go_wp2_with fail
      refine (H1.out _ HK0.out).mono ?_; rintro e w1 ⟨rfl, k1⟩
      obtain ⟨c0, c1, c2, c3, c4, c5⟩ := HB.out.kept k1 (fun h => h)
      go_wp2_with fail
      refine (H2.out _).mono ?_; rintro e w2 ⟨rfl, k2⟩
      go_wp2
      go_ret
      exact ⟨rfl, (HK0.out.trans k1 (fun _ _ h => h)).trans k2 (fun _ _ h => h)⟩

end Go.Proofs.YtjnpmbdehalmpaaGreat
