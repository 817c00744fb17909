/-
  Lemmas towards the claim of this folder: contracts of the functions that the law reaches; joined texts.
-/
import Derived.Test.YtofpnlmlenffnaaDoorGDm12
/-
  The laws of layer 12: awake.
-/
namespace Go.Proofs.YtofpnlmlenffnaaDoor
open Go.RowKit Go.Mk

def txt12 : List UInt8 := [120, 58, 61, 35, 97, 116, 58, 112, 117, 116, 58, 32, 115, 105, 122, 101, 46]
def toks12 : List TK := [⟨1, [120], 0, 0⟩, ⟨7, [58, 61], 0, 1⟩, ⟨6, [97, 116, 58, 112, 117, 116, 58], 0, 3⟩, ⟨1, [115, 105, 122, 101], 0, 12⟩, ⟨7, [46], 0, 16⟩, ⟨0, [], 0, 17⟩]

theorem all_txt12 : allL txt12 = (0, 0, toks12) := by decide +kernel

set_option maxHeartbeats 2000000 in
set_option maxRecDepth 100000 in
theorem awake12_any (w : World) : Calls Tryd.prog 8 #[] w fun e w' => e = .returned (.bool true) ∧ Kept (fun _ => False) w w' := by
  have HA := Lib.hid (show Calls Tryd.prog 9 #[.string ⟨#[120, 58, 61, 35, 97, 116, 58, 112, 117, 116, 58, 32, 115, 105, 122, 101, 46]⟩] w (TkQ w (0, 0, toks12)) by
    have h := dall12_any txt12 w (by decide)
    rw [all_txt12] at h
    exact h)
  go_enter Tryd.func8, Tryd.ntmps8
  go_wp2_with fail
  refine HA.out.mono ?_
  rintro e w1 ⟨ao, cap, rfl, ht, k1, _⟩
  obtain ⟨b, off, rfl, _, hc⟩ := ht.at (by simp [toks12])
  obtain ⟨a0, a1, a2, a3⟩ := hc 0 (by decide)
  obtain ⟨b0, b1, b2, b3⟩ := hc 1 (by decide)
  obtain ⟨c0, c1, c2, c3⟩ := hc 2 (by decide)
  obtain ⟨d0, d1, d2, d3⟩ := hc 5 (by decide)
  have K1 := Lib.hid k1
  simp only [toks12, List.getElem_cons_zero, List.getElem_cons_succ, Nat.zero_mul, Nat.add_zero, Nat.one_mul, Nat.reduceMul] at a0 b1 c0 c1 d3
  have s1 : ((bs [58, 61]).toList == [58, 61]) = true := by rw [bs_list]; rfl
  have s2 : ((bs [97, 116, 58, 112, 117, 116, 58]).toList == [97, 116, 58, 112, 117, 116, 58]) = true := by rw [bs_list]; rfl
  clear hc ht k1 a1 a2 a3 b0 b2 b3 c2 c3 d0 d1 d2
  go_wp2
  go_ret
  exact ⟨rfl, K1.out⟩

end Go.Proofs.YtofpnlmlenffnaaDoor

/-
  ScanAlls: the walk.
-/
namespace Go.Proofs.YtofpnlmlenffnaaDoor
open Go.RowKit Go.Mk

theorem keeps_below12 {w w' : World} (h : Kept (fun _ => False) w w') : Below w.heap.size w w' := h.below (Nat.le_refl _) (fun _ h => h.elim)

theorem go_cnt : ∀ (n f a : Nat) (l : List UInt8), l.length ≤ n → (goAll f a l).2.2.length ≤ l.length + 1
  | _, 0, a, l, _ => by simp [goAll]
  | _, f + 1, a, [], _ => by simp [goAll]
  | n, f + 1, a, c :: r, hn => by
    cases n with
    | zero => simp at hn
    | succ n =>
      simp only [List.length_cons] at hn
      rw [go_cons]
      split
      · have := go_cnt n f (a + 1) r (by omega)
        simp only [List.length_cons]
        omega
      · split
        · split
          · simp
          · have := go_cnt n f (a + (r.takeWhile (· != 34)).length + 2) (r.drop ((r.takeWhile (· != 34)).length + 1)) (by simp only [List.length_drop]; omega)
            simp only [List.length_drop, List.length_cons] at this ⊢
            omega
        · cases ht : tokL (c :: r) with
          | none => simp
          | some t =>
            obtain ⟨k, x, m, j⟩ := t
            obtain ⟨h1, h2⟩ := tok_len ht
            have := go_cnt n f (a + j) ((c :: r).drop j) (by simp only [List.length_drop, List.length_cons]; omega)
            simp only [List.length_drop, List.length_cons] at this h2 ⊢
            split
            · simp only [List.length_cons]; omega
            · omega

theorem all_cnt (l : List UInt8) : (allL l).2.2.length ≤ l.length + 1 := by
  unfold allL
  split
  · simp
  · exact go_cnt l.length _ _ l (Nat.le_refl _)

set_option maxHeartbeats 2000000 in
set_option maxRecDepth 100000 in
theorem alls_walk (l : List UInt8) (w : World) : Calls Tryd.prog 3 #[.string (bs l)] w fun e w' => e = .returned (.bool true) ∧ Below w.heap.size w w' := by
  have HW := Lib.hid (fun w => awake12_any w)
  have hs := bs_size l
  by_cases h5 : 5000 < l.length
  · have h1 : (1000 : Int) < ((bs l).size : Int) := by omega
    have h2 : ¬ ((bs l).size : Int) ≤ 4000 := by omega
    have h3 : (5000 : Int) < ((bs l).size : Int) := by omega
    clear h5 hs
    generalize bs l = s at *
    go_enter Tryd.func3, Tryd.ntmps3
    go_wp2_with fail
    refine (HW.out _).mono ?_
    rintro e w1 ⟨rfl, k1⟩
    go_wp2_with fail
    refine (HW.out _).mono ?_
    rintro e w2 ⟨rfl, k2⟩
    go_wp2
    go_ret
    exact ⟨rfl, keeps_below12 (k1.trans k2 (fun _ _ h => h))⟩
  · have h3 : ¬ (5000 : Int) < ((bs l).size : Int) := by omega
    have HTS := Lib.hid (all_cnt l)
    by_cases h : 1000 < l.length
    · have h1 : (1000 : Int) < ((bs l).size : Int) := by omega
      by_cases h4 : l.length ≤ 4000
      · have h2 : ((bs l).size : Int) ≤ 4000 := by omega
        clear h5 hs h h4
        generalize bs l = s at *
        go_enter Tryd.func3, Tryd.ntmps3
        go_wp2_with fail
        refine (HW.out _).mono ?_
        rintro e w1 ⟨rfl, k1⟩
        go_wp2_with fail
        refine (HW.out _).mono ?_
        rintro e w2 ⟨rfl, k2⟩
        go_wp2
        go_ret
        exact ⟨rfl, keeps_below12 (k1.trans k2 (fun _ _ h => h))⟩
      · have h2 : ¬ ((bs l).size : Int) ≤ 4000 := by omega
        have HA := Lib.hid (fun w => dall12_any l w (by omega)); have HB := Lib.hid (fun w => r12all_any l w (by omega))
        generalize allL l = r at *
        obtain ⟨re, rp, ts⟩ := r
        have e1 : (re == re) = true := by simp
        have e2 : (rp == rp) = true := by simp
        clear h
        go_enter Tryd.func3, Tryd.ntmps3
        go_wp2_with fail
        refine (HW.out _).mono ?_
        rintro e w1 ⟨rfl, k1⟩
        have K1 := Lib.hid k1; clear k1
        go_wp2_with fail
        refine (HA.out _).mono ?_
        rintro e w2 ⟨ao, cap, rfl, t2, k2, _⟩
        have K2 := Lib.hid (K1.out.trans k2 (fun _ _ h => h)); have T2 := Lib.hid t2; clear k2 t2
        go_wp2_with fail
        refine (HB.out _).mono ?_
        rintro e w3 ⟨bo, cbp, rfl, t3, k3, _⟩
        have K3 := Lib.hid (K2.out.trans k3 (fun _ _ h => h)); have T3 := Lib.hid t3; have T23 := Lib.hid (T2.out.keep k3); clear k3 t3
        have HS := Lib.hid (fun (hn : ts.length ≤ 1000000) => r12same_yes ao bo cap cbp ts ts _ _ w3 T23.out T3.out true rfl (fun j _ _ => ⟨rfl, rfl, rfl, fun _ => rfl⟩) hn)
        go_wp2_with fail
        refine (HS.out ?_).mono ?_
        · exact Nat.le_trans HTS.out (by omega)
        rintro e w4 ⟨rfl, k4⟩
        have K4 := Lib.hid (K3.out.trans k4 (fun _ _ h => h)); clear k4
        go_wp2
        go_ret
        exact ⟨rfl, keeps_below12 K4.out⟩
    · have h1 : ¬ (1000 : Int) < ((bs l).size : Int) := by omega
      have HA := Lib.hid (fun w => dall12_any l w (by omega)); have HB := Lib.hid (fun w => r12all_any l w (by omega))
      generalize allL l = r at *
      obtain ⟨re, rp, ts⟩ := r
      have e1 : (re == re) = true := by simp
      have e2 : (rp == rp) = true := by simp
      clear h
      go_enter Tryd.func3, Tryd.ntmps3
      go_wp2_with fail
      refine (HW.out _).mono ?_
      rintro e w1 ⟨rfl, k1⟩
      have K1 := Lib.hid k1; clear k1
      go_wp2_with fail
      refine (HA.out _).mono ?_
      rintro e w2 ⟨ao, cap, rfl, t2, k2, _⟩
      have K2 := Lib.hid (K1.out.trans k2 (fun _ _ h => h)); have T2 := Lib.hid t2; clear k2 t2
      go_wp2_with fail
      refine (HB.out _).mono ?_
      rintro e w3 ⟨bo, cbp, rfl, t3, k3, _⟩
      have K3 := Lib.hid (K2.out.trans k3 (fun _ _ h => h)); have T3 := Lib.hid t3; have T23 := Lib.hid (T2.out.keep k3); clear k3 t3
      have HS := Lib.hid (fun (hn : ts.length ≤ 1000000) => r12same_yes ao bo cap cbp ts ts _ _ w3 T23.out T3.out true rfl (fun j _ _ => ⟨rfl, rfl, rfl, fun _ => rfl⟩) hn)
      go_wp2_with fail
      refine (HS.out ?_).mono ?_
      · exact Nat.le_trans HTS.out (by omega)
      rintro e w4 ⟨rfl, k4⟩
      have K4 := Lib.hid (K3.out.trans k4 (fun _ _ h => h)); clear k4
      go_wp2
      go_ret
      exact ⟨rfl, keeps_below12 K4.out⟩

end Go.Proofs.YtofpnlmlenffnaaDoor
