/-
  CONTRACTS of package def: Right, Key.
-/
import Derived.Test.YtecjecdgjmipcaaDg
namespace Go.Proofs.Ytecjecdgjmipcaa
open Go.RowKit Go.Mk

theorem emp_yes {l : List UInt8} (h : l.isEmpty = true) : l = [] := by simpa using h

set_option maxHeartbeats 1000000 in
set_option maxRecDepth 100000 in
theorem dright_class (d : DD) (ao : Option Addr) (cap : Nat) (B : Nat) (w : World) (hk : d.k = 1) (hA : Lies w B ao (strs d.vs)) (hc : d.vs.length ≤ cap) :
    Calls Try.prog 67 #[.agg #[.int .i64 d.k, .string (bs d.c), .string (bs d.p), .slice ao d.vs.length cap, .string (bs d.s), .string (bs d.t)]] w fun e w' => e = .returned (.bool (rightC d)) ∧ Kept (fun _ => False) w w' := by
  have hbx := bx_new w ao cap d 43
  have hk0 := (Kept.refl (fun _ => False) w).alloc (.cells #[.int .i64 d.k, .string (bs d.c), .string (bs d.p), .slice ao d.vs.length cap, .string (bs d.s), .string (bs d.t)] 43)
  obtain ⟨k, c, p, vs, s, t⟩ := d
  dsimp only at *
  subst hk
  have h1 := fun w => down_any c w
  have h2 := fun w => ncl_any p w
  have h3 := fun (wx : World) (h : Kept (fun _ => False) w wx) => dvars_any ao cap vs B wx (hA.kept h (fun _ _ _ h => h)) hc
  unfold rightC
  dsimp only
  generalize ownCl c = r1 at *
  generalize isCl p = r2 at *
  generalize areVars vs = r3 at *
  have H1 := Lib.hid h1; have H2 := Lib.hid h2; have H3 := Lib.hid h3; have HB := Lib.hid hbx; have HK0 := Lib.hid hk0
  clear h1 h2 h3 hbx hk0 hA
  cases r1 with
  | false =>
    go_enter Try.func67, Try.ntmps67
    go_wp2_with fail
    refine (H1.out _).mono ?_; rintro e w1 ⟨rfl, k1⟩
    go_wp2
    go_ret
    exact ⟨rfl, HK0.out.trans k1 (fun _ _ h => h)⟩
  | true =>
    cases r2 with
    | false =>
      go_enter Try.func67, Try.ntmps67
      go_wp2_with fail
      refine (H1.out _).mono ?_; rintro e w1 ⟨rfl, k1⟩
      obtain ⟨_, _, c2, c3, c4, c5⟩ := HB.out.kept k1 (fun h => h)
      have k1 := HK0.out.trans k1 (fun _ _ h => h)
      go_wp2_with fail
      refine (H2.out _).mono ?_; rintro e w2 ⟨rfl, k2⟩
      go_wp2
      go_ret
      exact ⟨rfl, k1.trans k2 (fun _ _ h => h)⟩
    | true =>
      go_enter Try.func67, Try.ntmps67
      go_wp2_with fail
      refine (H1.out _).mono ?_; rintro e w1 ⟨rfl, k1⟩
      have HB := Lib.hid (HB.out.kept k1 (fun h => h))
      obtain ⟨_, _, c2, c3, c4, c5⟩ := HB.out
      have k1 := HK0.out.trans k1 (fun _ _ h => h)
      go_wp2_with fail
      refine (H2.out _).mono ?_; rintro e w2 ⟨rfl, k2⟩
      have HB := Lib.hid (HB.out.kept k2 (fun h => h))
      have k2 := k1.trans k2 (fun _ _ h => h)
      clear c2 c3 c4 c5
      obtain ⟨_, _, c2, c3, c4, c5⟩ := HB.out
      go_wp2_with fail
      refine (H3.out _ k2).mono ?_; rintro e w3 ⟨rfl, k3⟩
      have HB := Lib.hid (HB.out.kept k3 (fun h => h))
      have k3 := k2.trans k3 (fun _ _ h => h)
      clear c2 c3 c4 c5
      obtain ⟨_, _, c2, c3, c4, c5⟩ := HB.out
      cases r3 with
      | false =>
        go_wp2
        go_ret
        exact ⟨rfl, k3⟩
      | true =>
        have z1 := bs_list s
        have z2 := bs_list t
        cases s with
        | cons b s =>
          go_wp2
          go_ret
          exact ⟨rfl, k3⟩
        | nil =>
          go_wp2
          go_ret
          exact ⟨by simp, k3⟩

set_option maxHeartbeats 1000000 in
set_option maxRecDepth 100000 in
theorem dright_method (d : DD) (ao : Option Addr) (cap : Nat) (w : World) (hk : d.k = 2) (hl : d.s.length ≤ 1099511627776) :
    Calls Try.prog 67 #[.agg #[.int .i64 d.k, .string (bs d.c), .string (bs d.p), .slice ao d.vs.length cap, .string (bs d.s), .string (bs d.t)]] w fun e w' => e = .returned (.bool (rightM d)) ∧ Kept (fun _ => False) w w' := by
  have hbx := bx_new w ao cap d 43
  have hk0 := (Kept.refl (fun _ => False) w).alloc (.cells #[.int .i64 d.k, .string (bs d.c), .string (bs d.p), .slice ao d.vs.length cap, .string (bs d.s), .string (bs d.t)] 43)
  obtain ⟨k, c, p, vs, s, t⟩ := d
  dsimp only at *
  subst hk
  have h1 := fun w => ncl_any c w
  have h2 := fun w => dsel_any s w hl
  unfold rightM
  dsimp only
  generalize isCl c = r1 at *
  generalize isSel s = r2 at *
  have H1 := Lib.hid h1; have H2 := Lib.hid h2; have HB := Lib.hid hbx; have HK0 := Lib.hid hk0
  clear h1 h2 hbx hk0
  cases r1 with
  | false =>
    go_enter Try.func67, Try.ntmps67
    go_wp2_with fail
    refine (H1.out _).mono ?_; rintro e w1 ⟨rfl, k1⟩
    go_wp2
    go_ret
    exact ⟨rfl, HK0.out.trans k1 (fun _ _ h => h)⟩
  | true =>
    have z0 : (bs t).size = t.length := rfl
    have z1 := bs_list p
    go_enter Try.func67, Try.ntmps67
    go_wp2_with fail
    refine (H1.out _).mono ?_; rintro e w1 ⟨rfl, k1⟩
    have HB := Lib.hid (HB.out.kept k1 (fun h => h))
    obtain ⟨_, _, c2, c3, c4, c5⟩ := HB.out
    have k1 := HK0.out.trans k1 (fun _ _ h => h)
    go_wp2_with fail
    refine (H2.out _).mono ?_; rintro e w2 ⟨rfl, k2⟩
    have HB := Lib.hid (HB.out.kept k2 (fun h => h))
    have k2 := k1.trans k2 (fun _ _ h => h)
    clear c2 c3 c4 c5
    obtain ⟨_, _, c2, c3, c4, c5⟩ := HB.out
    cases r2 with
    | false =>
      go_wp2
      go_ret
      exact ⟨rfl, k2⟩
    | true =>
      by_cases ht : t.length ≤ 4000
      · have ht1 : (t.length : Int) ≤ 4000 := by omega
        have e1 : decide (t.length ≤ 4000) = true := decide_eq_true ht
        have E1 := Lib.hid e1; clear e1 ht
        cases p with
        | cons b p =>
          go_wp2
          go_ret
          exact ⟨by rw [E1.out]; rfl, k2⟩
        | nil =>
          cases vs with
          | nil =>
            go_wp2
            go_ret
            exact ⟨by rw [E1.out]; rfl, k2⟩
          | cons v vs =>
            have hn : ((((v :: vs).length : Nat) : Int) == 0) = false := by rw [beq_eq_false_iff_ne]; simp only [List.length_cons]; omega
            go_wp2
            go_ret
            exact ⟨by rw [E1.out]; rfl, k2⟩
      · have ht1 : ¬ (t.length : Int) ≤ 4000 := by omega
        have e1 : decide (t.length ≤ 4000) = false := decide_eq_false ht
        have E1 := Lib.hid e1; clear e1 ht
        go_wp2
        go_ret
        exact ⟨by rw [E1.out]; rfl, k2⟩

set_option maxHeartbeats 400000 in
theorem dright_any (d : DD) (ao : Option Addr) (cap : Nat) (B : Nat) (w : World) (hA : Lies w B ao (strs d.vs)) (hc : d.vs.length ≤ cap) (hl : d.s.length ≤ 1099511627776) :
    Calls Try.prog 67 #[.agg #[.int .i64 d.k, .string (bs d.c), .string (bs d.p), .slice ao d.vs.length cap, .string (bs d.s), .string (bs d.t)]] w fun e w' => e = .returned (.bool (rightD d)) ∧ Kept (fun _ => False) w w' := by
  by_cases h1 : d.k = 1
  · rw [rightD_one h1]; exact dright_class d ao cap B w h1 hA hc
  · by_cases h2 : d.k = 2
    · rw [rightD_two h2]; exact dright_method d ao cap w h2 hl
    · rw [rightD_no h1 h2]
      have b1 : (d.k == 1) = false := by simpa using h1
      have b2 : (d.k == 2) = false := by simpa using h2
      have hk0 := (Kept.refl (fun _ => False) w).alloc (.cells #[.int .i64 d.k, .string (bs d.c), .string (bs d.p), .slice ao d.vs.length cap, .string (bs d.s), .string (bs d.t)] 43)
      have HK0 := Lib.hid hk0
      clear h1 h2 hA hk0
      go_enter Try.func67, Try.ntmps67
      go_wp2
      go_ret
      exact ⟨rfl, HK0.out⟩

end Go.Proofs.Ytecjecdgjmipcaa
