/-
  CONTRACTS of package journal: Room, areaSectors, homeAt, hasRoom, check.
-/
import Derived.Test.YtgefbolnfenfcaaGreatJm
namespace Go.Proofs.YtgefbolnfenfcaaGreat
open Go.RowKit Go.Mk

theorem jareas_any (n : Nat) (w : World) (h1 : 1 ≤ n) (h2 : n ≤ 65536) :
    Calls Tryz.prog 90 #[.int .i64 n] w fun e w' => e = .returned (.int .i64 (areaN n)) ∧ w = w' := by
  have E := Lib.hid (area_tdiv n h1)
  go_enter Tryz.func90, Tryz.ntmps90
  go_wp2
  go_ret
  rw [E.out]
  exact ⟨rfl, rfl⟩

set_option maxHeartbeats 400000 in
theorem jroom_any (k : Int) (w : World) :
    Calls Tryz.prog 83 #[.int .i64 k] w fun e w' => e = .returned (.int .i64 (roomI k)) ∧ w = w' := by
  by_cases h : k < 1 ∨ 65536 < k
  · have e : roomI k = -1 := by unfold roomI; rw [if_pos h]
    have E := Lib.hid e; clear e
    go_enter Tryz.func83, Tryz.ntmps83
    go_wp2 <;> (go_ret; exact ⟨by rw [E.out]; rfl, rfl⟩)
  · obtain ⟨n, rfl⟩ : ∃ n : Nat, k = n := ⟨k.toNat, by omega⟩
    have h1 : 1 ≤ n := by omega
    have h2 : n ≤ 65536 := by omega
    have h3 : areaN n ≤ 32767 := by unfold areaN; omega
    have e : roomI n = max ((areaN n : Int) * 64 - 12) (-1) := by unfold roomI; rw [if_neg h, area_tdiv n h1]
    have E := Lib.hid e; clear e
    have HA := Lib.hid (jareas_any n w h1 h2)
    go_enter Tryz.func83, Tryz.ntmps83
    go_wp2_with fail
    refine HA.out.mono ?_
    rintro e w1 ⟨rfl, rfl⟩
    go_wp2
    go_ret
    rw [E.out]
    exact ⟨rfl, rfl⟩

section
variable {w : World} {D : Nat → Prop} {b n : Nat} {base : List UInt8} {ws : List Wt} {calls : Int}

theorem jhome_any (h : Dk w D b n base ws calls) :
    Calls Tryz.prog 63 #[.pointer (some ⟨b, 0, none⟩)] w fun e w' => e = .returned (.int .i64 (1 + areaN n : Nat)) ∧ w = w' := by
  obtain ⟨h1, h2⟩ := h.n1
  have h3 : areaN n ≤ 32767 := by unfold areaN; omega
  have HS := Lib.hid (dsize_any h)
  have HA := Lib.hid (jareas_any n w h1 h2)
  clear h
  go_enter Tryz.func63, Tryz.ntmps63
  go_wp2_with fail
  refine HS.out.mono ?_
  rintro e w1 ⟨rfl, rfl⟩
  go_wp2_with fail
  refine HA.out.mono ?_
  rintro e w1 ⟨rfl, rfl⟩
  go_wp2
  go_ret
  exact ⟨rfl, rfl⟩

theorem jhas_any (h : Dk w D b n base ws calls) :
    Calls Tryz.prog 76 #[.pointer (some ⟨b, 0, none⟩)] w fun e w' => e = .returned (.bool (decide (areaN n ≠ 0))) ∧ w = w' := by
  obtain ⟨h1, h2⟩ := h.n1
  have h3 : areaN n ≤ 32767 := by unfold areaN; omega
  have HS := Lib.hid (dsize_any h)
  have hr := jroom_any n w
  have e : (roomI n != -1) = decide (areaN n ≠ 0) := by
    rw [roomI_nat n h1 h2]
    by_cases h0 : areaN n = 0
    · simp [h0]
    · simp [h0]; omega
  rw [← e]
  generalize roomI n = r at hr
  have HR := Lib.hid hr
  clear h hr e
  go_enter Tryz.func76, Tryz.ntmps76
  go_wp2_with fail
  refine HS.out.mono ?_
  rintro e w1 ⟨rfl, rfl⟩
  go_wp2_with fail
  refine HR.out.mono ?_
  rintro e w1 ⟨rfl, rfl⟩
  go_wp2
  go_ret
  exact ⟨rfl, rfl⟩

theorem jhas_nil (w : World) :
    Calls Tryz.prog 76 #[.pointer none] w fun e w' => e = .returned (.bool false) ∧ w = w' := by
  go_enter Tryz.func76, Tryz.ntmps76
  go_wp2
  go_ret
  exact ⟨rfl, rfl⟩

set_option maxHeartbeats 400000 in
theorem jcheck_any (h : Dk w D b n base ws calls) (ao : Option Addr) (cap : Nat) (t : List UInt8) (len : Nat) (hl : len = t.length) :
    Calls Tryz.prog 56 #[.pointer (some ⟨b, 0, none⟩), .slice ao len cap] w fun e w' => e = .returned (.int .i64 (jfits n t)) ∧ w = w' := by
  obtain ⟨h1, h2⟩ := h.n1
  have h3 : areaN n ≤ 32767 := by unfold areaN; omega
  have HS := Lib.hid (dsize_any h)
  have HR := Lib.hid (jroom_any n w)
  have HH := Lib.hid (jhas_any h)
  have HE := Lib.hid (roomI_nat n h1 h2)
  by_cases h0 : areaN n = 0
  · have e : jfits n t = 2 := by unfold jfits; rw [if_pos h0]
    have E := Lib.hid e; clear e h
    have e2 : decide (areaN n ≠ 0) = false := by simp [h0]
    rw [e2] at HH
    clear h0 e2
    go_enter Tryz.func56, Tryz.ntmps56
    go_wp2_with fail
    refine HH.out.mono ?_
    rintro e w1 ⟨rfl, rfl⟩
    go_wp2
    go_ret
    rw [E.out]
    exact ⟨rfl, rfl⟩
  · have e2 : decide (areaN n ≠ 0) = true := by simp [h0]
    rw [e2] at HH
    have e3 : roomI n = 64 * (areaN n : Int) - 12 := by rw [HE.out, if_neg h0]
    rw [e3] at HR
    clear e2 e3 HE
    by_cases hc : 64 * areaN n < 12 + t.length
    · have e : jfits n t = 21 := by unfold jfits; rw [if_neg h0, if_pos hc]
      have E := Lib.hid e; clear e h h0
      have hb : decide (64 * (areaN n : Int) - 12 < (len : Int)) = true := by simp; omega
      go_enter Tryz.func56, Tryz.ntmps56
      go_wp2_with fail
      refine HH.out.mono ?_
      rintro e w1 ⟨rfl, rfl⟩
      go_wp2_with fail
      refine HS.out.mono ?_
      rintro e w1 ⟨rfl, rfl⟩
      go_wp2_with fail
      refine HR.out.mono ?_
      rintro e w1 ⟨rfl, rfl⟩
      go_wp2
      go_ret
      rw [E.out]
      exact ⟨rfl, rfl⟩
    · have e : jfits n t = 0 := by unfold jfits; rw [if_neg h0, if_neg hc]
      have E := Lib.hid e; clear e h h0
      have hb : decide (64 * (areaN n : Int) - 12 < (len : Int)) = false := by simp; omega
      go_enter Tryz.func56, Tryz.ntmps56
      go_wp2_with fail
      refine HH.out.mono ?_
      rintro e w1 ⟨rfl, rfl⟩
      go_wp2_with fail
      refine HS.out.mono ?_
      rintro e w1 ⟨rfl, rfl⟩
      go_wp2_with fail
      refine HR.out.mono ?_
      rintro e w1 ⟨rfl, rfl⟩
      go_wp2
      go_ret
      rw [E.out]
      exact ⟨rfl, rfl⟩

theorem jcheck_nil (w : World) (v : Value) :
    Calls Tryz.prog 56 #[.pointer none, v] w fun e w' => e = .returned (.int .i64 2) ∧ w = w' := by
  have HH := Lib.hid (jhas_nil w)
  go_enter Tryz.func56, Tryz.ntmps56
  go_wp2_with fail
  refine HH.out.mono ?_
  rintro e w1 ⟨rfl, rfl⟩
  go_wp2
  go_ret
  exact ⟨rfl, rfl⟩

end

end Go.Proofs.YtgefbolnfenfcaaGreat
