/-
  CONTRACTS of package def: Key.
-/
import Derived.Test.YtecjecdgjmipcaaDh
import Derived.Test.YtecjecdgjmipcaaNc
namespace Go.Proofs.Ytecjecdgjmipcaa
open Go.RowKit Go.Mk

theorem key_no {d : DD} (h : rightD d = false) : keyD d = [] := by simp [keyD, h]
theorem key_m {d : DD} (h : rightD d = true) (hk : d.k = 2) : keyD d = d.c ++ [62, 62] ++ d.s := by simp [keyD, h, hk]
theorem key_c {d : DD} (h : rightD d = true) (hk : d.k ≠ 2) : keyD d = d.c := by simp [keyD, h, hk]

set_option maxHeartbeats 1000000 in
theorem dkey_any (d : DD) (ao : Option Addr) (cap : Nat) (B : Nat) (w : World) (hA : Lies w B ao (strs d.vs)) (hc : d.vs.length ≤ cap) (hl : d.s.length ≤ 1000000) (hl2 : d.c.length ≤ 1000000) :
    Calls Try.prog 35 #[.agg #[.int .i64 d.k, .string (bs d.c), .string (bs d.p), .slice ao d.vs.length cap, .string (bs d.s), .string (bs d.t)]] w fun e w' => e = .returned (.string (bs (keyD d))) ∧ Kept (fun _ => False) w w' := by
  have hbx := bx_new w ao cap d 43
  have hk0 := (Kept.refl (fun _ => False) w).alloc (.cells #[.int .i64 d.k, .string (bs d.c), .string (bs d.p), .slice ao d.vs.length cap, .string (bs d.s), .string (bs d.t)] 43)
  have h1 := fun (wx : World) (h : Kept (fun _ => False) w wx) => dright_any d ao cap B wx (hA.kept h (fun _ _ _ h => h)) hc (by omega)
  have HK0 := Lib.hid hk0; have HB := Lib.hid hbx; clear hk0 hbx hA
  cases hr : rightD d with
  | false =>
    rw [hr] at h1
    rw [key_no hr]
    have H1 := Lib.hid h1; clear h1 hr
    go_enter Try.func35, Try.ntmps35
    go_wp2_with fail
    refine (H1.out _ HK0.out).mono ?_; rintro e w1 ⟨rfl, k1⟩
    go_wp2
    go_ret
    exact ⟨rfl, HK0.out.trans k1 (fun _ _ h => h)⟩
  | true =>
    rw [hr] at h1
    by_cases hk : d.k = 2
    · rw [key_m hr hk]
      have hk1 : (d.k == 2) = true := by simp [hk]
      have H1 := Lib.hid h1; clear h1 hr hk
      have z1 : (bs d.c).size ≤ 1000000 := hl2
      have z2 : (bs d.s).size ≤ 1000000 := hl
      have z3 : (bs d.c ++ ⟨#[62, 62]⟩ : ByteArray).size ≤ 1000002 := by rw [ByteArray.size_append]; show d.c.length + 2 ≤ _; omega
      have z4 : (⟨#[62, 62]⟩ : ByteArray).size = 2 := rfl
      go_enter Try.func35, Try.ntmps35
      go_wp2_with fail
      refine (H1.out _ HK0.out).mono ?_; rintro e w1 ⟨rfl, k1⟩
      obtain ⟨c0, c1, c2, c3, c4, c5⟩ := HB.out.kept k1 (fun h => h)
      go_wp2
      go_ret
      exact ⟨by rw [← bs_append, ← bs_append]; rfl, HK0.out.trans k1 (fun _ _ h => h)⟩
    · rw [key_c hr hk]
      have hk1 : (d.k == 2) = false := by simp [hk]
      have H1 := Lib.hid h1; clear h1 hr hk
      have H2 := Lib.hid (fun w => sclone_any d.c w (by omega))
      go_enter Try.func35, Try.ntmps35
      go_wp2_with fail
      refine (H1.out _ HK0.out).mono ?_; rintro e w1 ⟨rfl, k1⟩
      obtain ⟨c0, c1, c2, c3, c4, c5⟩ := HB.out.kept k1 (fun h => h)
      go_wp2_with fail
      refine (H2.out _).mono ?_; rintro e w2 ⟨rfl, k2⟩
      go_wp2
      go_ret
      exact ⟨rfl, (HK0.out.trans k1 (fun _ _ h => h)).trans k2 (fun _ _ h => h)⟩

end Go.Proofs.Ytecjecdgjmipcaa
