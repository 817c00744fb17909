/-
  CONTRACTS of package def: Key, Split, Same.
-/
import Derived.Test.YtomdhljhjeeakaaDh
import Derived.Test.YtomdhljhjeeakaaCt
import Derived.Test.YtomdhljhjeeakaaNg
namespace Go.Proofs.Ytomdhljhjeeakaa
open Go.RowKit Go.Mk

theorem key_no {d : DD} (h : rightD d = false) : keyD d = [] := by simp [keyD, h]
theorem key_m {d : DD} (h : rightD d = true) (hk : d.k = 2) : keyD d = d.c ++ [62, 62] ++ d.s := by simp [keyD, h, hk]
theorem key_c {d : DD} (h : rightD d = true) (hk : d.k ≠ 2) : keyD d = d.c := by simp [keyD, h, hk]

set_option maxHeartbeats 1000000 in
theorem dkey_any (d : DD) (ao : Option Addr) (cap : Nat) (B : Nat) (w : World) (hA : Lies w B ao (strs d.vs)) (hc : d.vs.length ≤ cap) (hl : d.s.length ≤ 1000000) (hl2 : d.c.length ≤ 1000000) :
    Calls Try.prog 13 #[.agg #[.int .i64 d.k, .string (bs d.c), .string (bs d.p), .slice ao d.vs.length cap, .string (bs d.s), .string (bs d.t)]] w fun e w' => e = .returned (.string (bs (keyD d))) ∧ Kept (fun _ => False) w w' := by
  have hbx := bx_new w ao cap d 24
  have hk0 := (Kept.refl (fun _ => False) w).alloc (.cells #[.int .i64 d.k, .string (bs d.c), .string (bs d.p), .slice ao d.vs.length cap, .string (bs d.s), .string (bs d.t)] 24)
  have h1 := fun (wx : World) (h : Kept (fun _ => False) w wx) => dright_any d ao cap B wx (hA.kept h (fun _ _ _ h => h)) hc (by omega)
  have HK0 := Lib.hid hk0; have HB := Lib.hid hbx; clear hk0 hbx hA
  cases hr : rightD d with
  | false =>
    rw [hr] at h1
    rw [key_no hr]
    have H1 := Lib.hid h1; clear h1 hr
    go_enter Try.func13, Try.ntmps13
    go_wp2_with fail
    refine (H1.out _ HK0.out).mono ?_; rintro e w1 ⟨rfl, k1⟩
    go_wp2
    go_ret
    exact ⟨rfl, HK0.out.trans k1 (fun _ _ h => h)⟩
  | true =>
    rw [hr] at h1
    by_cases hk : d.k = 2
    · rw [key_m hr hk]
      have hk1 : (d.k == 2) = true := by simp [hk]
      have H1 := Lib.hid h1; clear h1 hr hk
      have z1 : (bs d.c).size ≤ 1000000 := hl2
      have z2 : (bs d.s).size ≤ 1000000 := hl
      have z3 : (bs d.c ++ ⟨#[62, 62]⟩ : ByteArray).size ≤ 1000002 := by rw [ByteArray.size_append]; show d.c.length + 2 ≤ _; omega
      have z4 : (⟨#[62, 62]⟩ : ByteArray).size = 2 := rfl
      go_enter Try.func13, Try.ntmps13
      go_wp2_with fail
      refine (H1.out _ HK0.out).mono ?_; rintro e w1 ⟨rfl, k1⟩
      obtain ⟨c0, c1, c2, c3, c4, c5⟩ := HB.out.kept k1 (fun h => h)
      go_wp2
      go_ret
      exact ⟨by rw [← bs_append, ← bs_append]; rfl, HK0.out.trans k1 (fun _ _ h => h)⟩
    · rw [key_c hr hk]
      have hk1 : (d.k == 2) = false := by simp [hk]
      have H1 := Lib.hid h1; clear h1 hr hk
      have H2 := Lib.hid (fun w => sclone_any d.c w (by omega))
      go_enter Try.func13, Try.ntmps13
      go_wp2_with fail
      refine (H1.out _ HK0.out).mono ?_; rintro e w1 ⟨rfl, k1⟩
      obtain ⟨c0, c1, c2, c3, c4, c5⟩ := HB.out.kept k1 (fun h => h)
      go_wp2_with fail
      refine (H2.out _).mono ?_; rintro e w2 ⟨rfl, k2⟩
      go_wp2
      go_ret
      exact ⟨rfl, (HK0.out.trans k1 (fun _ _ h => h)).trans k2 (fun _ _ h => h)⟩

theorem cut_len (l : List UInt8) : (Lib.cut l [62, 62]).1.length ≤ l.length ∧ (Lib.cut l [62, 62]).2.1.length ≤ l.length := by
  unfold Lib.cut
  split
  · simp only [List.length_take, List.length_drop]; omega
  · simp

set_option maxHeartbeats 1000000 in
theorem dsplit_any (l : List UInt8) (w : World) (hm : MaxAt w) (hl : l.length ≤ 1000000) :
    Calls Try.prog 17 #[.string (bs l)] w fun e w' => e = .returned (.tuple #[.string (bs (splitD l).1), .string (bs (splitD l).2.1), .bool (splitD l).2.2]) ∧ Kept (fun _ => False) w w' := by
  have H0 := Lib.hid (scut_any l w hm hl)
  have hcl := cut_len l
  unfold splitD
  generalize Lib.cut l [62, 62] = r at *
  obtain ⟨c, s, b⟩ := r
  dsimp only at *
  have H1 := Lib.hid (fun w => ncl_any c w)
  have H2 := Lib.hid (fun w => dsel_any s w (by omega))
  have H3 := Lib.hid (fun w => down_any c w)
  have H4 := Lib.hid (fun w => sclone_any c w (by omega))
  have H5 := Lib.hid (fun w => sclone_any s w (by omega))
  clear hcl hl hm
  cases b with
  | true =>
    have hS : splitC (c, s, true) = if (isCl c && isSel s) = true then (c, s, true) else ([], [], false) := rfl
    rw [hS]; clear hS
    generalize isCl c = r1 at *
    generalize isSel s = r2 at *
    cases r1 with
    | false =>
      go_enter Try.func17, Try.ntmps17
      go_wp2_with fail
      refine H0.out.mono ?_; rintro e w1 ⟨rfl, k1⟩
      go_wp2_with fail
      refine (H1.out _).mono ?_; rintro e w2 ⟨rfl, k2⟩
      go_wp2
      go_ret3
      exact ⟨rfl, k1.trans k2 (fun _ _ h => h)⟩
    | true =>
      cases r2 with
      | false =>
        go_enter Try.func17, Try.ntmps17
        go_wp2_with fail
        refine H0.out.mono ?_; rintro e w1 ⟨rfl, k1⟩
        go_wp2_with fail
        refine (H1.out _).mono ?_; rintro e w2 ⟨rfl, k2⟩
        go_wp2_with fail
        refine (H2.out _).mono ?_; rintro e w3 ⟨rfl, k3⟩
        go_wp2
        go_ret3
        exact ⟨rfl, (k1.trans k2 (fun _ _ h => h)).trans k3 (fun _ _ h => h)⟩
      | true =>
        go_enter Try.func17, Try.ntmps17
        go_wp2_with fail
        refine H0.out.mono ?_; rintro e w1 ⟨rfl, k1⟩
        go_wp2_with fail
        refine (H1.out _).mono ?_; rintro e w2 ⟨rfl, k2⟩
        go_wp2_with fail
        refine (H2.out _).mono ?_; rintro e w3 ⟨rfl, k3⟩
        go_wp2_with fail
        refine (H4.out _).mono ?_; rintro e w4 ⟨rfl, k4⟩
        go_wp2_with fail
        refine (H5.out _).mono ?_; rintro e w5 ⟨rfl, k5⟩
        go_wp2
        go_ret3
        exact ⟨rfl, (((k1.trans k2 (fun _ _ h => h)).trans k3 (fun _ _ h => h)).trans k4 (fun _ _ h => h)).trans k5 (fun _ _ h => h)⟩
  | false =>
    have hS : splitC (c, s, false) = if ownCl c = true then (c, [], true) else ([], [], false) := rfl
    rw [hS]; clear hS
    generalize ownCl c = r1 at *
    cases r1 with
    | false =>
      go_enter Try.func17, Try.ntmps17
      go_wp2_with fail
      refine H0.out.mono ?_; rintro e w1 ⟨rfl, k1⟩
      go_wp2_with fail
      refine (H3.out _).mono ?_; rintro e w2 ⟨rfl, k2⟩
      go_wp2
      go_ret3
      exact ⟨rfl, k1.trans k2 (fun _ _ h => h)⟩
    | true =>
      go_enter Try.func17, Try.ntmps17
      go_wp2_with fail
      refine H0.out.mono ?_; rintro e w1 ⟨rfl, k1⟩
      go_wp2_with fail
      refine (H3.out _).mono ?_; rintro e w2 ⟨rfl, k2⟩
      go_wp2_with fail
      refine (H4.out _).mono ?_; rintro e w3 ⟨rfl, k3⟩
      go_wp2
      go_ret3
      exact ⟨rfl, (k1.trans k2 (fun _ _ h => h)).trans k3 (fun _ _ h => h)⟩

end Go.Proofs.Ytomdhljhjeeakaa
