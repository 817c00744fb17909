/-
  The reference's Octets.
-/
import Derived.Test.YtjnpmbdehalmpaaGreatGPo
import Derived.Test.YtjnpmbdehalmpaaGreatGL7
namespace Go.Proofs.YtjnpmbdehalmpaaGreat
open Go.RowKit Go.Mk

structure O7 (w : World) (ao : Option Addr) (cap : Nat) (d : DD) (wx : World) : Prop where
  bx : Bx wx w.heap.size ao cap d
  k : Below w.heap.size w wx
  sz : w.heap.size < wx.heap.size

theorem O7.step {w : World} {ao : Option Addr} {cap : Nat} {d : DD} {wx wy : World} (h : O7 w ao cap d wx) (hb : Below wx.heap.size wx wy) : O7 w ao cap d wy :=
  ⟨h.bx.kept (Kept.of_below hb) (by have := h.sz; omega), h.k.trans (hb.mono (Nat.le_of_lt h.sz)), Nat.lt_of_lt_of_le h.sz hb.size⟩

theorem O7.drew {w : World} {ao : Option Addr} {cap : Nat} {d : DD} {wx : World} (h : O7 w ao cap d wx) : O7 w ao cap d wx.drew :=
  ⟨h.bx.kept (S := fun _ => False) (Kept.drew (Kept.refl _ wx)) (fun h => h), ⟨h.k.os, h.k.tape, h.k.output, h.k.size, h.k.block⟩, h.sz⟩

theorem O7.cells {w : World} {ao : Option Addr} {cap : Nat} {d : DD} {w' : World} (h : O7 w ao cap d w') : w'.cell? ⟨w.heap.size, 0, none⟩ = some (.int .i64 d.k) ∧ w'.cell? ⟨w.heap.size, 1, none⟩ = some (.string (bs d.c)) ∧ w'.cell? ⟨w.heap.size, 2, none⟩ = some (.string (bs d.p)) ∧ w'.cell? ⟨w.heap.size, 3, none⟩ = some (.slice ao d.vs.length cap) ∧ w'.cell? ⟨w.heap.size, 4, none⟩ = some (.string (bs d.s)) ∧ w'.cell? ⟨w.heap.size, 5, none⟩ = some (.string (bs d.t)) := ⟨h.bx.c0, h.bx.c1, h.bx.c2, h.bx.c3, h.bx.c4, h.bx.c5⟩

set_option maxHeartbeats 1000000 in
set_option maxRecDepth 100000 in
theorem roctets_1 (c p : List UInt8) (vs : List (List UInt8)) (s t : List UInt8) (ao : Option Addr) (cap : Nat) (w : World) (hA : Lies w w.heap.size ao (strs vs)) (hs : SmallD ⟨1, c, p, vs, s, t⟩) :
    Calls Tryz.prog 89 #[.agg #[.int .i64 1, .string (bs c), .string (bs p), .slice ao vs.length cap, .string (bs s), .string (bs t)]] w fun e w' => e = .returned (.string (bs (octD ⟨1, c, p, vs, s, t⟩))) ∧ Below w.heap.size w w' := by
  have h1 := hs.c; have h2 := hs.p; have h3 := hs.n; have h4 := hs.s; have h5 := hs.t
  have hsu := sumL_le vs hs.v
  have hv : ∀ t ∈ vs, t.length ≤ 2147483647 := fun t ht => by have : t.length ≤ 100 := hs.v t ht; omega
  dsimp only at h1 h2 h3 h4 h5
  have y1 : (bs (encT c)).size ≤ 10000 := by rw [bs_size, encT_len]; omega
  have y2 : (bs (encT p)).size ≤ 10000 := by rw [bs_size, encT_len]; omega
  have y3 : (bs (encL vs)).size ≤ 10000 := by rw [bs_size, encL_len]; omega
  have y0 : (bs (bigB 4 1)).size ≤ 100 := by simp [bs_size, bigB_length]
  have O0 := Lib.hid (show O7 w ao cap ⟨1, c, p, vs, s, t⟩ (w.alloc (.cells #[.int .i64 1, .string (bs c), .string (bs p), .slice ao vs.length cap, .string (bs s), .string (bs t)] 46)) from ⟨bx_new w ao cap ⟨1, c, p, vs, s, t⟩ _, keeps_below7 ((Kept.refl (fun _ => False) w).alloc _), by rw [World.size_alloc]; omega⟩)
  have HN := Lib.hid (fun wx => rnum_ok 1 wx (by omega))
  have HC := Lib.hid (fun wx => rtext_any c wx (by omega)); have HX := Lib.hid (fun wx => rtext_any p wx (by omega))
  have HV := Lib.hid (fun wx (h : O7 w ao cap ⟨1, c, p, vs, s, t⟩ wx) => rtextsL_any ao cap vs w.heap.size wx (Nat.le_of_lt h.sz) (hA.below h.k) (by omega) hv (by omega))
  have HQ := Lib.hid (show bs (bigB 4 1) ++ bs (encT c) ++ bs (encT p) ++ bs (encL vs) = bs (octD ⟨1, c, p, vs, s, t⟩) by simp only [bs_append]; simp [octD, List.append_assoc])
  clear hA hs hv hsu h1 h2 h3 h4 h5
  go_enter Tryz.func89, Tryz.ntmps89
  go_wp2_with fail
  refine (HN.out _).mono ?_
  rintro e w1 ⟨rfl, b1⟩
  have O1 := Lib.hid (O0.out.step b1).drew; clear b1
  have hS := O1.out.cells
  have hd : w1.cell? ⟨w.heap.size, 0, none⟩ = some (.int .i64 1) := O1.out.bx.c0
  go_upto_region 3 with fail
  clear hd
  go_region_held (fun w' => w'.cell? ⟨w.heap.size, 0, none⟩ = some (.int .i64 1) ∧ w'.cell? ⟨w.heap.size, 1, none⟩ = some (.string (bs c)) ∧ w'.cell? ⟨w.heap.size, 2, none⟩ = some (.string (bs p)) ∧ w'.cell? ⟨w.heap.size, 3, none⟩ = some (.slice ao vs.length cap) ∧ w'.cell? ⟨w.heap.size, 4, none⟩ = some (.string (bs s)) ∧ w'.cell? ⟨w.heap.size, 5, none⟩ = some (.string (bs t))) (assumption) (first
    | (go_at_call_of 46 (Value.string (bs c)); refine (HC.out _).mono ?_; rintro e w2 ⟨rfl, b2⟩; have O2 := Lib.hid (O1.out.step b2); have hS2 := O2.out.cells; clear b2)
    | (go_at_call_of 46 (Value.string (bs p)); go_must (refine (HX.out _).mono ?_; rintro e w3 ⟨rfl, b3⟩; have O3 := Lib.hid (O2.out.step b3); have hS3 := O3.out.cells; clear b3))
    | (go_at_call 47; go_must (refine (HV.out _ O3.out).mono ?_; rintro e w4 ⟨rfl, b4⟩; have O4 := Lib.hid (O3.out.step b4); have hS4 := O4.out.cells; clear b4)))
  all_goals go_wp2
  all_goals go_ret
  all_goals exact ⟨congrArg (fun z => Ending.returned (.string z)) HQ.out, O4.out.k⟩

set_option maxHeartbeats 1000000 in
set_option maxRecDepth 100000 in
theorem roctets_2 (c p : List UInt8) (vs : List (List UInt8)) (s t : List UInt8) (ao : Option Addr) (cap : Nat) (w : World) (_hA : Lies w w.heap.size ao (strs vs)) (hs : SmallD ⟨2, c, p, vs, s, t⟩) :
    Calls Tryz.prog 89 #[.agg #[.int .i64 2, .string (bs c), .string (bs p), .slice ao vs.length cap, .string (bs s), .string (bs t)]] w fun e w' => e = .returned (.string (bs (octD ⟨2, c, p, vs, s, t⟩))) ∧ Below w.heap.size w w' := by
  have h1 := hs.c; have h2 := hs.p; have h3 := hs.n; have h4 := hs.s; have h5 := hs.t
  have hsu := sumL_le vs hs.v
  have hv : ∀ t ∈ vs, t.length ≤ 2147483647 := fun t ht => by have : t.length ≤ 100 := hs.v t ht; omega
  dsimp only at h1 h2 h3 h4 h5
  have y1 : (bs (encT c)).size ≤ 10000 := by rw [bs_size, encT_len]; omega
  have y2 : (bs (encT s)).size ≤ 10000 := by rw [bs_size, encT_len]; omega
  have y3 : (bs (encT t)).size ≤ 10000 := by rw [bs_size, encT_len]; omega
  have y0 : (bs (bigB 4 2)).size ≤ 100 := by simp [bs_size, bigB_length]
  have O0 := Lib.hid (show O7 w ao cap ⟨2, c, p, vs, s, t⟩ (w.alloc (.cells #[.int .i64 2, .string (bs c), .string (bs p), .slice ao vs.length cap, .string (bs s), .string (bs t)] 46)) from ⟨bx_new w ao cap ⟨2, c, p, vs, s, t⟩ _, keeps_below7 ((Kept.refl (fun _ => False) w).alloc _), by rw [World.size_alloc]; omega⟩)
  have HN := Lib.hid (fun wx => rnum_ok 2 wx (by omega))
  have HC := Lib.hid (fun wx => rtext_any c wx (by omega)); have HX := Lib.hid (fun wx => rtext_any s wx (by omega))
  have HT := Lib.hid (fun wx => rtext_any t wx (by omega))
  have HQ := Lib.hid (show bs (bigB 4 2) ++ bs (encT c) ++ bs (encT s) ++ bs (encT t) = bs (octD ⟨2, c, p, vs, s, t⟩) by simp only [bs_append]; simp [octD, List.append_assoc])
  clear hs hv hsu h1 h2 h3 h4 h5
  go_enter Tryz.func89, Tryz.ntmps89
  go_wp2_with fail
  refine (HN.out _).mono ?_
  rintro e w1 ⟨rfl, b1⟩
  have O1 := Lib.hid (O0.out.step b1).drew; clear b1
  have hS := O1.out.cells
  have hd : w1.cell? ⟨w.heap.size, 0, none⟩ = some (.int .i64 2) := O1.out.bx.c0
  go_upto_region 4 with fail
  clear hd
  go_region_held (fun w' => w'.cell? ⟨w.heap.size, 0, none⟩ = some (.int .i64 2) ∧ w'.cell? ⟨w.heap.size, 1, none⟩ = some (.string (bs c)) ∧ w'.cell? ⟨w.heap.size, 2, none⟩ = some (.string (bs p)) ∧ w'.cell? ⟨w.heap.size, 3, none⟩ = some (.slice ao vs.length cap) ∧ w'.cell? ⟨w.heap.size, 4, none⟩ = some (.string (bs s)) ∧ w'.cell? ⟨w.heap.size, 5, none⟩ = some (.string (bs t))) (assumption) (first
    | (go_at_call_of 46 (Value.string (bs c)); refine (HC.out _).mono ?_; rintro e w2 ⟨rfl, b2⟩; have O2 := Lib.hid (O1.out.step b2); have hS2 := O2.out.cells; clear b2)
    | (go_at_call_of 46 (Value.string (bs s)); go_must (refine (HX.out _).mono ?_; rintro e w3 ⟨rfl, b3⟩; have O3 := Lib.hid (O2.out.step b3); have hS3 := O3.out.cells; clear b3))
    | (go_at_call_of 46 (Value.string (bs t)); go_must (refine (HT.out _).mono ?_; rintro e w4 ⟨rfl, b4⟩; have O4 := Lib.hid (O3.out.step b4); have hS4 := O4.out.cells; clear b4)))
  all_goals go_wp2
  all_goals go_ret
  all_goals exact ⟨congrArg (fun z => Ending.returned (.string z)) HQ.out, O4.out.k⟩


theorem roctets_any (d : DD) (ao : Option Addr) (cap : Nat) (w : World) (hA : Lies w w.heap.size ao (strs d.vs)) (hs : SmallD d) (hr : rightD d = true) :
    Calls Tryz.prog 89 #[.agg #[.int .i64 d.k, .string (bs d.c), .string (bs d.p), .slice ao d.vs.length cap, .string (bs d.s), .string (bs d.t)]] w fun e w' => e = .returned (.string (bs (octD d))) ∧ Below w.heap.size w w' := by
  obtain ⟨k, c, p, vs, s, t⟩ := d
  rcases right_kind hr with hk | hk
  · dsimp only at hk; subst hk; exact roctets_1 c p vs s t ao cap w hA hs
  · dsimp only at hk; subst hk; exact roctets_2 c p vs s t ao cap w hA hs

end Go.Proofs.YtjnpmbdehalmpaaGreat
