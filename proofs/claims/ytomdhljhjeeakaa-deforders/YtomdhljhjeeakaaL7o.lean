/-
  DefOrders: the walk.
-/
import Derived.Test.YtomdhljhjeeakaaL7
import Derived.Test.YtomdhljhjeeakaaR7b
import Derived.Test.YtomdhljhjeeakaaDcm
import Derived.Test.YtomdhljhjeeakaaPq
import Derived.Deep.RegionHeld
import Derived.Deep.CutBlock
import Derived.Deep.DeepCutAuto
namespace Go.Proofs.Ytomdhljhjeeakaa
open Go.RowKit Go.Mk

/-- Three definitions beside each other, in a world that keeps w. -/
structure A7 (w w' : World) (ao0 ao1 ao2 : Option Addr) (cap0 cap1 cap2 : Nat) (a b c : DD) : Prop where
  cells : w'.cell? ⟨w.heap.size, 0, none⟩ = some (.int .i64 a.k) ∧ w'.cell? ⟨w.heap.size, 1, none⟩ = some (.string (bs a.c)) ∧ w'.cell? ⟨w.heap.size, 2, none⟩ = some (.string (bs a.p)) ∧ w'.cell? ⟨w.heap.size, 3, none⟩ = some (.slice ao0 a.vs.length cap0) ∧ w'.cell? ⟨w.heap.size, 4, none⟩ = some (.string (bs a.s)) ∧ w'.cell? ⟨w.heap.size, 5, none⟩ = some (.string (bs a.t)) ∧ w'.cell? ⟨w.heap.size, 6, none⟩ = some (.int .i64 b.k) ∧ w'.cell? ⟨w.heap.size, 7, none⟩ = some (.string (bs b.c)) ∧ w'.cell? ⟨w.heap.size, 8, none⟩ = some (.string (bs b.p)) ∧ w'.cell? ⟨w.heap.size, 9, none⟩ = some (.slice ao1 b.vs.length cap1) ∧ w'.cell? ⟨w.heap.size, 10, none⟩ = some (.string (bs b.s)) ∧ w'.cell? ⟨w.heap.size, 11, none⟩ = some (.string (bs b.t)) ∧ w'.cell? ⟨w.heap.size, 12, none⟩ = some (.int .i64 c.k) ∧ w'.cell? ⟨w.heap.size, 13, none⟩ = some (.string (bs c.c)) ∧ w'.cell? ⟨w.heap.size, 14, none⟩ = some (.string (bs c.p)) ∧ w'.cell? ⟨w.heap.size, 15, none⟩ = some (.slice ao2 c.vs.length cap2) ∧ w'.cell? ⟨w.heap.size, 16, none⟩ = some (.string (bs c.s)) ∧ w'.cell? ⟨w.heap.size, 17, none⟩ = some (.string (bs c.t))
  k : Kept (fun _ => False) w w'

theorem A7.kept {w wx wy : World} {ao0 ao1 ao2 : Option Addr} {cap0 cap1 cap2 : Nat} {a b c : DD} (h : A7 w wx ao0 ao1 ao2 cap0 cap1 cap2 a b c) (hk : Kept (fun _ => False) wx wy) : A7 w wy ao0 ao1 ao2 cap0 cap1 cap2 a b c := by
  obtain ⟨e0, e1, e2, e3, e4, e5, e6, e7, e8, e9, e10, e11, e12, e13, e14, e15, e16, e17⟩ := h.cells
  have hlt : w.heap.size < wx.heap.size := World.block_lt_of_cell? _ _ e0
  exact ⟨⟨(hk.cell (p := ⟨w.heap.size, 0, none⟩) hlt (fun h => h)).trans e0, (hk.cell (p := ⟨w.heap.size, 1, none⟩) hlt (fun h => h)).trans e1, (hk.cell (p := ⟨w.heap.size, 2, none⟩) hlt (fun h => h)).trans e2, (hk.cell (p := ⟨w.heap.size, 3, none⟩) hlt (fun h => h)).trans e3, (hk.cell (p := ⟨w.heap.size, 4, none⟩) hlt (fun h => h)).trans e4, (hk.cell (p := ⟨w.heap.size, 5, none⟩) hlt (fun h => h)).trans e5, (hk.cell (p := ⟨w.heap.size, 6, none⟩) hlt (fun h => h)).trans e6, (hk.cell (p := ⟨w.heap.size, 7, none⟩) hlt (fun h => h)).trans e7, (hk.cell (p := ⟨w.heap.size, 8, none⟩) hlt (fun h => h)).trans e8, (hk.cell (p := ⟨w.heap.size, 9, none⟩) hlt (fun h => h)).trans e9, (hk.cell (p := ⟨w.heap.size, 10, none⟩) hlt (fun h => h)).trans e10, (hk.cell (p := ⟨w.heap.size, 11, none⟩) hlt (fun h => h)).trans e11, (hk.cell (p := ⟨w.heap.size, 12, none⟩) hlt (fun h => h)).trans e12, (hk.cell (p := ⟨w.heap.size, 13, none⟩) hlt (fun h => h)).trans e13, (hk.cell (p := ⟨w.heap.size, 14, none⟩) hlt (fun h => h)).trans e14, (hk.cell (p := ⟨w.heap.size, 15, none⟩) hlt (fun h => h)).trans e15, (hk.cell (p := ⟨w.heap.size, 16, none⟩) hlt (fun h => h)).trans e16, (hk.cell (p := ⟨w.heap.size, 17, none⟩) hlt (fun h => h)).trans e17⟩, h.k.trans hk (fun _ _ h => h)⟩

theorem A7.drew {w wx : World} {ao0 ao1 ao2 : Option Addr} {cap0 cap1 cap2 : Nat} {a b c : DD} (h : A7 w wx ao0 ao1 ao2 cap0 cap1 cap2 a b c) : A7 w wx.drew ao0 ao1 ao2 cap0 cap1 cap2 a b c := h.kept (Kept.drew (Kept.refl _ wx))

theorem A7.new (ao0 ao1 ao2 : Option Addr) (cap0 cap1 cap2 : Nat) (a b c : DD) (w : World) : A7 w (w.alloc (.cells #[.int .i64 a.k, .string (bs a.c), .string (bs a.p), .slice ao0 a.vs.length cap0, .string (bs a.s), .string (bs a.t), .int .i64 b.k, .string (bs b.c), .string (bs b.p), .slice ao1 b.vs.length cap1, .string (bs b.s), .string (bs b.t), .int .i64 c.k, .string (bs c.c), .string (bs c.p), .slice ao2 c.vs.length cap2, .string (bs c.s), .string (bs c.t)] 55)) ao0 ao1 ao2 cap0 cap1 cap2 a b c :=
  ⟨by refine ⟨?_, ?_, ?_, ?_, ?_, ?_, ?_, ?_, ?_, ?_, ?_, ?_, ?_, ?_, ?_, ?_, ?_, ?_⟩ <;> simp, (Kept.refl _ w).alloc _⟩

/-- The order of three keys. -/
theorem cmp3 (a b c : DD) : (cmpD a b = -1 ∨ cmpD a b = 0 ∨ cmpD a b = 1) ∧ (cmpD b c = -1 ∨ cmpD b c = 0 ∨ cmpD b c = 1) ∧ (cmpD a c = -1 ∨ cmpD a c = 0 ∨ cmpD a c = 1) ∧ cmpD a a = 0 ∧ cmpD b a = - cmpD a b ∧ (cmpD a b ≤ 0 → cmpD b c ≤ 0 → cmpD a c ≤ 0) ∧ (cmpD a b = 0 → cmpD b c = 0 → cmpD a c = 0) := by
  have h3 : ∀ x y : DD, cmpD x y = -1 ∨ cmpD x y = 0 ∨ cmpD x y = 1 := fun x y => by
    unfold cmpD
    rcases cmp_cases (keyD x) (keyD y) with ⟨_, _, h⟩ | ⟨_, _, h⟩ | ⟨_, _, h⟩
    · exact .inl h
    · exact .inr (.inl h)
    · exact .inr (.inr h)
  refine ⟨h3 a b, h3 b c, h3 a c, cmp_self _, cmp_neg _ _, cmp_trans _ _ _, fun h1 h2 => ?_⟩
  unfold cmpD at *
  rw [cmp_zero h1, cmp_zero h2]
  exact cmp_self _

set_option maxHeartbeats 1000000 in
set_option maxRecDepth 100000 in
theorem orders_big0 (ao0 ao1 ao2 : Option Addr) (cap0 cap1 cap2 : Nat) (a b c : DD) (w : World) (h0 : Lies w w.heap.size ao0 (strs a.vs)) (h1 : Lies w w.heap.size ao1 (strs b.vs)) (h2 : Lies w w.heap.size ao2 (strs c.vs)) (s0 : smallD a = false) :
    Calls Try.prog 7 #[.agg #[.int .i64 a.k, .string (bs a.c), .string (bs a.p), .slice ao0 a.vs.length cap0, .string (bs a.s), .string (bs a.t), .int .i64 b.k, .string (bs b.c), .string (bs b.p), .slice ao1 b.vs.length cap1, .string (bs b.s), .string (bs b.t), .int .i64 c.k, .string (bs c.c), .string (bs c.p), .slice ao2 c.vs.length cap2, .string (bs c.s), .string (bs c.t)]] w fun e w' => e = .returned (.bool true) ∧ Below w.heap.size w w' := by
  have HW := Lib.hid (fun w => awake7_any w)
  have A0 := Lib.hid (A7.new ao0 ao1 ao2 cap0 cap1 cap2 a b c w)
  have S0 := Lib.hid (fun (wx : World) (h : A7 w wx ao0 ao1 ao2 cap0 cap1 cap2 a b c) => rsmall_any a ao0 cap0 _ wx (h0.kept h.k (fun _ _ _ h => h)))
  rw [s0] at S0
  clear h0 h1 h2 s0
  go_enter Try.func7, Try.ntmps7
  go_wp2_with fail
  refine (HW.out _).mono ?_
  rintro e w1 ⟨rfl, k1⟩
  have A1 := Lib.hid (A0.out.kept k1); clear k1
  obtain ⟨e0, e1, e2, e3, e4, e5, e6, e7, e8, e9, e10, e11, e12, e13, e14, e15, e16, e17⟩ := A1.out.cells
  go_wp2_with fail
  refine (S0.out _ A1.out).mono ?_
  rintro e w2 ⟨rfl, k2⟩
  have A2 := Lib.hid (A1.out.kept k2); clear k2 e0 e1 e2 e3 e4 e5 e6 e7 e8 e9 e10 e11 e12 e13 e14 e15 e16 e17
  go_wp2_with fail
  refine (HW.out _).mono ?_
  rintro e w3 ⟨rfl, k3⟩
  go_wp2
  go_ret
  exact ⟨rfl, keeps_below7 (A2.out.k.trans k3 (fun _ _ h => h))⟩

set_option maxHeartbeats 1000000 in
set_option maxRecDepth 100000 in
theorem orders_big1 (ao0 ao1 ao2 : Option Addr) (cap0 cap1 cap2 : Nat) (a b c : DD) (w : World) (h0 : Lies w w.heap.size ao0 (strs a.vs)) (h1 : Lies w w.heap.size ao1 (strs b.vs)) (h2 : Lies w w.heap.size ao2 (strs c.vs)) (s0 : smallD a = true) (s1 : smallD b = false) :
    Calls Try.prog 7 #[.agg #[.int .i64 a.k, .string (bs a.c), .string (bs a.p), .slice ao0 a.vs.length cap0, .string (bs a.s), .string (bs a.t), .int .i64 b.k, .string (bs b.c), .string (bs b.p), .slice ao1 b.vs.length cap1, .string (bs b.s), .string (bs b.t), .int .i64 c.k, .string (bs c.c), .string (bs c.p), .slice ao2 c.vs.length cap2, .string (bs c.s), .string (bs c.t)]] w fun e w' => e = .returned (.bool true) ∧ Below w.heap.size w w' := by
  have HW := Lib.hid (fun w => awake7_any w)
  have A0 := Lib.hid (A7.new ao0 ao1 ao2 cap0 cap1 cap2 a b c w)
  have S0 := Lib.hid (fun (wx : World) (h : A7 w wx ao0 ao1 ao2 cap0 cap1 cap2 a b c) => rsmall_any a ao0 cap0 _ wx (h0.kept h.k (fun _ _ _ h => h)))
  rw [s0] at S0
  have S1 := Lib.hid (fun (wx : World) (h : A7 w wx ao0 ao1 ao2 cap0 cap1 cap2 a b c) => rsmall_any b ao1 cap1 _ wx (h1.kept h.k (fun _ _ _ h => h)))
  rw [s1] at S1
  clear h0 h1 h2 s0 s1
  go_enter Try.func7, Try.ntmps7
  go_wp2_with fail
  refine (HW.out _).mono ?_
  rintro e w1 ⟨rfl, k1⟩
  have A1 := Lib.hid (A0.out.kept k1); clear k1
  obtain ⟨e0, e1, e2, e3, e4, e5, e6, e7, e8, e9, e10, e11, e12, e13, e14, e15, e16, e17⟩ := A1.out.cells
  go_wp2_with fail
  refine (S0.out _ A1.out).mono ?_
  rintro e w2 ⟨rfl, k2⟩
  have A2 := Lib.hid (A1.out.kept k2); clear k2 e0 e1 e2 e3 e4 e5 e6 e7 e8 e9 e10 e11 e12 e13 e14 e15 e16 e17
  obtain ⟨e0, e1, e2, e3, e4, e5, e6, e7, e8, e9, e10, e11, e12, e13, e14, e15, e16, e17⟩ := A2.out.cells
  go_wp2_with fail
  refine (S1.out _ A2.out).mono ?_
  rintro e w3 ⟨rfl, k3⟩
  have A3 := Lib.hid (A2.out.kept k3); clear k3 e0 e1 e2 e3 e4 e5 e6 e7 e8 e9 e10 e11 e12 e13 e14 e15 e16 e17
  go_wp2_with fail
  refine (HW.out _).mono ?_
  rintro e w4 ⟨rfl, k4⟩
  go_wp2
  go_ret
  exact ⟨rfl, keeps_below7 (A3.out.k.trans k4 (fun _ _ h => h))⟩

set_option maxHeartbeats 1000000 in
set_option maxRecDepth 100000 in
theorem orders_big2 (ao0 ao1 ao2 : Option Addr) (cap0 cap1 cap2 : Nat) (a b c : DD) (w : World) (h0 : Lies w w.heap.size ao0 (strs a.vs)) (h1 : Lies w w.heap.size ao1 (strs b.vs)) (h2 : Lies w w.heap.size ao2 (strs c.vs)) (s0 : smallD a = true) (s1 : smallD b = true) (s2 : smallD c = false) :
    Calls Try.prog 7 #[.agg #[.int .i64 a.k, .string (bs a.c), .string (bs a.p), .slice ao0 a.vs.length cap0, .string (bs a.s), .string (bs a.t), .int .i64 b.k, .string (bs b.c), .string (bs b.p), .slice ao1 b.vs.length cap1, .string (bs b.s), .string (bs b.t), .int .i64 c.k, .string (bs c.c), .string (bs c.p), .slice ao2 c.vs.length cap2, .string (bs c.s), .string (bs c.t)]] w fun e w' => e = .returned (.bool true) ∧ Below w.heap.size w w' := by
  have HW := Lib.hid (fun w => awake7_any w)
  have A0 := Lib.hid (A7.new ao0 ao1 ao2 cap0 cap1 cap2 a b c w)
  have S0 := Lib.hid (fun (wx : World) (h : A7 w wx ao0 ao1 ao2 cap0 cap1 cap2 a b c) => rsmall_any a ao0 cap0 _ wx (h0.kept h.k (fun _ _ _ h => h)))
  rw [s0] at S0
  have S1 := Lib.hid (fun (wx : World) (h : A7 w wx ao0 ao1 ao2 cap0 cap1 cap2 a b c) => rsmall_any b ao1 cap1 _ wx (h1.kept h.k (fun _ _ _ h => h)))
  rw [s1] at S1
  have S2 := Lib.hid (fun (wx : World) (h : A7 w wx ao0 ao1 ao2 cap0 cap1 cap2 a b c) => rsmall_any c ao2 cap2 _ wx (h2.kept h.k (fun _ _ _ h => h)))
  rw [s2] at S2
  clear h0 h1 h2 s0 s1 s2
  go_enter Try.func7, Try.ntmps7
  go_wp2_with fail
  refine (HW.out _).mono ?_
  rintro e w1 ⟨rfl, k1⟩
  have A1 := Lib.hid (A0.out.kept k1); clear k1
  obtain ⟨e0, e1, e2, e3, e4, e5, e6, e7, e8, e9, e10, e11, e12, e13, e14, e15, e16, e17⟩ := A1.out.cells
  go_wp2_with fail
  refine (S0.out _ A1.out).mono ?_
  rintro e w2 ⟨rfl, k2⟩
  have A2 := Lib.hid (A1.out.kept k2); clear k2 e0 e1 e2 e3 e4 e5 e6 e7 e8 e9 e10 e11 e12 e13 e14 e15 e16 e17
  obtain ⟨e0, e1, e2, e3, e4, e5, e6, e7, e8, e9, e10, e11, e12, e13, e14, e15, e16, e17⟩ := A2.out.cells
  go_wp2_with fail
  refine (S1.out _ A2.out).mono ?_
  rintro e w3 ⟨rfl, k3⟩
  have A3 := Lib.hid (A2.out.kept k3); clear k3 e0 e1 e2 e3 e4 e5 e6 e7 e8 e9 e10 e11 e12 e13 e14 e15 e16 e17
  obtain ⟨e0, e1, e2, e3, e4, e5, e6, e7, e8, e9, e10, e11, e12, e13, e14, e15, e16, e17⟩ := A3.out.cells
  go_wp2_with fail
  refine (S2.out _ A3.out).mono ?_
  rintro e w4 ⟨rfl, k4⟩
  have A4 := Lib.hid (A3.out.kept k4); clear k4 e0 e1 e2 e3 e4 e5 e6 e7 e8 e9 e10 e11 e12 e13 e14 e15 e16 e17
  go_wp2_with fail
  refine (HW.out _).mono ?_
  rintro e w5 ⟨rfl, k5⟩
  go_wp2
  go_ret
  exact ⟨rfl, keeps_below7 (A4.out.k.trans k5 (fun _ _ h => h))⟩

set_option maxHeartbeats 4000000 in
set_option maxRecDepth 100000 in
theorem orders_small (ao0 ao1 ao2 : Option Addr) (cap0 cap1 cap2 : Nat) (a b c : DD) (w : World) (h0 : Lies w w.heap.size ao0 (strs a.vs)) (h1 : Lies w w.heap.size ao1 (strs b.vs)) (h2 : Lies w w.heap.size ao2 (strs c.vs)) (s0 : smallD a = true) (s1 : smallD b = true) (s2 : smallD c = true) (l0 : a.vs.length ≤ cap0) (l1 : b.vs.length ≤ cap1) (l2 : c.vs.length ≤ cap2) :
    Calls Try.prog 7 #[.agg #[.int .i64 a.k, .string (bs a.c), .string (bs a.p), .slice ao0 a.vs.length cap0, .string (bs a.s), .string (bs a.t), .int .i64 b.k, .string (bs b.c), .string (bs b.p), .slice ao1 b.vs.length cap1, .string (bs b.s), .string (bs b.t), .int .i64 c.k, .string (bs c.c), .string (bs c.p), .slice ao2 c.vs.length cap2, .string (bs c.s), .string (bs c.t)]] w fun e w' => e = .returned (.bool true) ∧ Below w.heap.size w w' := by
  have HW := Lib.hid (fun w => awake7_any w)
  have A0 := Lib.hid (A7.new ao0 ao1 ao2 cap0 cap1 cap2 a b c w)
  have S0 := Lib.hid (fun (wx : World) (h : A7 w wx ao0 ao1 ao2 cap0 cap1 cap2 a b c) => rsmall_any a ao0 cap0 _ wx (h0.kept h.k (fun _ _ _ h => h)))
  rw [s0] at S0
  have S1 := Lib.hid (fun (wx : World) (h : A7 w wx ao0 ao1 ao2 cap0 cap1 cap2 a b c) => rsmall_any b ao1 cap1 _ wx (h1.kept h.k (fun _ _ _ h => h)))
  rw [s1] at S1
  have S2 := Lib.hid (fun (wx : World) (h : A7 w wx ao0 ao1 ao2 cap0 cap1 cap2 a b c) => rsmall_any c ao2 cap2 _ wx (h2.kept h.k (fun _ _ _ h => h)))
  rw [s2] at S2
  have m0 : a.s.length ≤ 600 ∧ a.c.length ≤ 100 := ⟨(smallD_of s0).s, (smallD_of s0).c⟩
  have m1 : b.s.length ≤ 600 ∧ b.c.length ≤ 100 := ⟨(smallD_of s1).s, (smallD_of s1).c⟩
  have m2 : c.s.length ≤ 600 ∧ c.c.length ≤ 100 := ⟨(smallD_of s2).s, (smallD_of s2).c⟩
  have CAB := Lib.hid (fun (wx : World) (h : A7 w wx ao0 ao1 ao2 cap0 cap1 cap2 a b c) => dcmp_any a b ao0 ao1 cap0 cap1 w.heap.size wx (h0.kept h.k (fun _ _ _ h => h)) (h1.kept h.k (fun _ _ _ h => h)) l0 l1 (by have := m0; omega) (by have := m0; omega) (by have := m1; omega) (by have := m1; omega))
  have CBC := Lib.hid (fun (wx : World) (h : A7 w wx ao0 ao1 ao2 cap0 cap1 cap2 a b c) => dcmp_any b c ao1 ao2 cap1 cap2 w.heap.size wx (h1.kept h.k (fun _ _ _ h => h)) (h2.kept h.k (fun _ _ _ h => h)) l1 l2 (by have := m1; omega) (by have := m1; omega) (by have := m2; omega) (by have := m2; omega))
  have CAC := Lib.hid (fun (wx : World) (h : A7 w wx ao0 ao1 ao2 cap0 cap1 cap2 a b c) => dcmp_any a c ao0 ao2 cap0 cap2 w.heap.size wx (h0.kept h.k (fun _ _ _ h => h)) (h2.kept h.k (fun _ _ _ h => h)) l0 l2 (by have := m0; omega) (by have := m0; omega) (by have := m2; omega) (by have := m2; omega))
  have CAA := Lib.hid (fun (wx : World) (h : A7 w wx ao0 ao1 ao2 cap0 cap1 cap2 a b c) => dcmp_any a a ao0 ao0 cap0 cap0 w.heap.size wx (h0.kept h.k (fun _ _ _ h => h)) (h0.kept h.k (fun _ _ _ h => h)) l0 l0 (by have := m0; omega) (by have := m0; omega) (by have := m0; omega) (by have := m0; omega))
  have CBA := Lib.hid (fun (wx : World) (h : A7 w wx ao0 ao1 ao2 cap0 cap1 cap2 a b c) => dcmp_any b a ao1 ao0 cap1 cap0 w.heap.size wx (h1.kept h.k (fun _ _ _ h => h)) (h0.kept h.k (fun _ _ _ h => h)) l1 l0 (by have := m1; omega) (by have := m1; omega) (by have := m0; omega) (by have := m0; omega))
  have hq := cmp3 a b c
  rw [hq.2.2.2.1] at CAA
  rw [hq.2.2.2.2.1] at CBA
  generalize cmpD a b = p at *
  generalize cmpD b c = q at *
  generalize cmpD a c = r at *
  have HQ := Lib.hid (show (p = -1 ∨ p = 0 ∨ p = 1) ∧ (q = -1 ∨ q = 0 ∨ q = 1) ∧ (r = -1 ∨ r = 0 ∨ r = 1) ∧ (p ≤ 0 → q ≤ 0 → r ≤ 0) ∧ (p = 0 → q = 0 → r = 0) from ⟨hq.1, hq.2.1, hq.2.2.1, hq.2.2.2.2.2⟩)
  clear h0 h1 h2 s0 s1 s2 m0 m1 m2 l0 l1 l2 hq
  go_enter Try.func7, Try.ntmps7
  go_wp2_with fail
  refine (HW.out _).mono ?_
  rintro e w1 ⟨rfl, k1⟩
  have A1 := Lib.hid (A0.out.kept k1); clear k1
  obtain ⟨e0, e1, e2, e3, e4, e5, e6, e7, e8, e9, e10, e11, e12, e13, e14, e15, e16, e17⟩ := A1.out.cells
  go_wp2_with fail
  refine (S0.out _ A1.out).mono ?_
  rintro e w2 ⟨rfl, k2⟩
  have A2 := Lib.hid (A1.out.kept k2); clear k2 e0 e1 e2 e3 e4 e5 e6 e7 e8 e9 e10 e11 e12 e13 e14 e15 e16 e17
  obtain ⟨e0, e1, e2, e3, e4, e5, e6, e7, e8, e9, e10, e11, e12, e13, e14, e15, e16, e17⟩ := A2.out.cells
  go_wp2_with fail
  refine (S1.out _ A2.out).mono ?_
  rintro e w3 ⟨rfl, k3⟩
  have A3 := Lib.hid (A2.out.kept k3); clear k3 e0 e1 e2 e3 e4 e5 e6 e7 e8 e9 e10 e11 e12 e13 e14 e15 e16 e17
  obtain ⟨e0, e1, e2, e3, e4, e5, e6, e7, e8, e9, e10, e11, e12, e13, e14, e15, e16, e17⟩ := A3.out.cells
  go_wp2_with fail
  refine (S2.out _ A3.out).mono ?_
  rintro e w4 ⟨rfl, k4⟩
  have A4 := Lib.hid (A3.out.kept k4); clear k4 e0 e1 e2 e3 e4 e5 e6 e7 e8 e9 e10 e11 e12 e13 e14 e15 e16 e17
  have hS := A4.out.drew.cells
  have AD := Lib.hid A4.out.drew
  go_upto_region 3 with fail
  go_cut [3, 4, 5] (fun v3 v4 v5 wx => v3 = .int .i64 p ∧ v4 = .int .i64 q ∧ v5 = .int .i64 r ∧ A7 w wx ao0 ao1 ao2 cap0 cap1 cap2 a b c)
  case first =>
    go_region_held (fun w' => w'.cell? ⟨w.heap.size, 0, none⟩ = some (.int .i64 a.k) ∧ w'.cell? ⟨w.heap.size, 1, none⟩ = some (.string (bs a.c)) ∧ w'.cell? ⟨w.heap.size, 2, none⟩ = some (.string (bs a.p)) ∧ w'.cell? ⟨w.heap.size, 3, none⟩ = some (.slice ao0 a.vs.length cap0) ∧ w'.cell? ⟨w.heap.size, 4, none⟩ = some (.string (bs a.s)) ∧ w'.cell? ⟨w.heap.size, 5, none⟩ = some (.string (bs a.t)) ∧ w'.cell? ⟨w.heap.size, 6, none⟩ = some (.int .i64 b.k) ∧ w'.cell? ⟨w.heap.size, 7, none⟩ = some (.string (bs b.c)) ∧ w'.cell? ⟨w.heap.size, 8, none⟩ = some (.string (bs b.p)) ∧ w'.cell? ⟨w.heap.size, 9, none⟩ = some (.slice ao1 b.vs.length cap1) ∧ w'.cell? ⟨w.heap.size, 10, none⟩ = some (.string (bs b.s)) ∧ w'.cell? ⟨w.heap.size, 11, none⟩ = some (.string (bs b.t)) ∧ w'.cell? ⟨w.heap.size, 12, none⟩ = some (.int .i64 c.k) ∧ w'.cell? ⟨w.heap.size, 13, none⟩ = some (.string (bs c.c)) ∧ w'.cell? ⟨w.heap.size, 14, none⟩ = some (.string (bs c.p)) ∧ w'.cell? ⟨w.heap.size, 15, none⟩ = some (.slice ao2 c.vs.length cap2) ∧ w'.cell? ⟨w.heap.size, 16, none⟩ = some (.string (bs c.s)) ∧ w'.cell? ⟨w.heap.size, 17, none⟩ = some (.string (bs c.t))) (assumption) (first
      | (go_at_call_of 16 (Value.int IntKind.i64 a.k); go_at_call_of 16 (Value.int IntKind.i64 b.k); refine (CAB.out _ AD.out).mono ?_; rintro e w5 ⟨rfl, k5⟩; have A5 := Lib.hid (AD.out.kept k5); have hS5 := A5.out.cells; clear k5)
      | (go_at_call_of 16 (Value.int IntKind.i64 b.k); go_at_call_of 16 (Value.int IntKind.i64 c.k); refine (CBC.out _ A5.out).mono ?_; rintro e w6 ⟨rfl, k6⟩; have A6 := Lib.hid (A5.out.kept k6); have hS6 := A6.out.cells; clear k6)
      | (go_at_call_of 16 (Value.int IntKind.i64 a.k); go_at_call_of 16 (Value.int IntKind.i64 c.k); go_must (refine (CAC.out _ A6.out).mono ?_; rintro e w7 ⟨rfl, k7⟩; have A7' := Lib.hid (A6.out.kept k7); have hS7 := A7'.out.cells; clear k7)))
    all_goals go_wp2_with fail
    all_goals go_meet
    all_goals exact ⟨rfl, rfl, rfl, A7'.out⟩
  case rest =>
    obtain ⟨rfl, rfl, rfl, ha⟩ := hcut
    have A8 := Lib.hid ha; clear ha hS
    obtain ⟨e0, e1, e2, e3, e4, e5, e6, e7, e8, e9, e10, e11, e12, e13, e14, e15, e16, e17⟩ := A8.out.cells
    go_wp2_with fail
    refine (CAA.out _ A8.out).mono ?_
    rintro e w9 ⟨rfl, k9⟩
    have A9 := Lib.hid (A8.out.kept k9); clear k9 e0 e1 e2 e3 e4 e5 e6 e7 e8 e9 e10 e11 e12 e13 e14 e15 e16 e17
    obtain ⟨e0, e1, e2, e3, e4, e5, e6, e7, e8, e9, e10, e11, e12, e13, e14, e15, e16, e17⟩ := A9.out.cells
    go_wp2_with fail
    refine (CBA.out _ A9.out).mono ?_
    rintro e w10 ⟨rfl, k10⟩
    have A10 := Lib.hid (A9.out.kept k10); clear k10 e0 e1 e2 e3 e4 e5 e6 e7 e8 e9 e10 e11 e12 e13 e14 e15 e16 e17
    obtain ⟨hp, hq, hr, h1, h2⟩ := HQ.out
    rcases hp with rfl | rfl | rfl <;> rcases hq with rfl | rfl | rfl <;> rcases hr with rfl | rfl | rfl <;> first
      | (exfalso; revert h1 h2; decide)
      | (clear h1 h2; go_wp2; go_ret; exact ⟨by simp, keeps_below7 A10.out.k⟩)

theorem orders_any (ao0 ao1 ao2 : Option Addr) (cap0 cap1 cap2 : Nat) (a b c : DD) (w : World) (h0 : Lies w w.heap.size ao0 (strs a.vs)) (h1 : Lies w w.heap.size ao1 (strs b.vs)) (h2 : Lies w w.heap.size ao2 (strs c.vs)) (l0 : a.vs.length ≤ cap0) (l1 : b.vs.length ≤ cap1) (l2 : c.vs.length ≤ cap2) :
    Calls Try.prog 7 #[.agg #[.int .i64 a.k, .string (bs a.c), .string (bs a.p), .slice ao0 a.vs.length cap0, .string (bs a.s), .string (bs a.t), .int .i64 b.k, .string (bs b.c), .string (bs b.p), .slice ao1 b.vs.length cap1, .string (bs b.s), .string (bs b.t), .int .i64 c.k, .string (bs c.c), .string (bs c.p), .slice ao2 c.vs.length cap2, .string (bs c.s), .string (bs c.t)]] w fun e w' => e = .returned (.bool true) ∧ Below w.heap.size w w' := by
  cases s0 : smallD a with
  | false => exact orders_big0 ao0 ao1 ao2 cap0 cap1 cap2 a b c w h0 h1 h2 s0
  | true =>
    cases s1 : smallD b with
    | false => exact orders_big1 ao0 ao1 ao2 cap0 cap1 cap2 a b c w h0 h1 h2 s0 s1
    | true =>
      cases s2 : smallD c with
      | false => exact orders_big2 ao0 ao1 ao2 cap0 cap1 cap2 a b c w h0 h1 h2 s0 s1 s2
      | true => exact orders_small ao0 ao1 ao2 cap0 cap1 cap2 a b c w h0 h1 h2 s0 s1 s2 l0 l1 l2

end Go.Proofs.Ytomdhljhjeeakaa
