/-
  CONTRACT of package def: Compare.
-/
import Derived.Test.YtomdhljhjeeakaaDi
import Derived.Test.YtomdhljhjeeakaaDj
namespace Go.Proofs.Ytomdhljhjeeakaa
open Go.RowKit Go.Mk

def cmpD (a b : DD) : Int := Lib.compareBytes (keyD a) (keyD b)

set_option maxHeartbeats 1000000 in
set_option maxRecDepth 100000 in
theorem dcmp_any (a b : DD) (ao ao' : Option Addr) (cap cap' : Nat) (B : Nat) (w : World) (hA : Lies w B ao (strs a.vs)) (hB : Lies w B ao' (strs b.vs)) (hc : a.vs.length ≤ cap) (hc2 : b.vs.length ≤ cap') (hl : a.s.length ≤ 1000000) (hl2 : a.c.length ≤ 1000000) (hl3 : b.s.length ≤ 1000000) (hl4 : b.c.length ≤ 1000000) :
    Calls Try.prog 16 #[.agg #[.int .i64 a.k, .string (bs a.c), .string (bs a.p), .slice ao a.vs.length cap, .string (bs a.s), .string (bs a.t)], .agg #[.int .i64 b.k, .string (bs b.c), .string (bs b.p), .slice ao' b.vs.length cap', .string (bs b.s), .string (bs b.t)]] w fun e w' => e = .returned (.int .i64 (cmpD a b)) ∧ Kept (fun _ => False) w w' := by
  have hbx := bx_new2 w ao ao' cap cap' a b 24
  have hk0 := ((Kept.refl (fun _ => False) w).alloc (.cells #[.int .i64 a.k, .string (bs a.c), .string (bs a.p), .slice ao a.vs.length cap, .string (bs a.s), .string (bs a.t)] 24)).alloc (.cells #[.int .i64 b.k, .string (bs b.c), .string (bs b.p), .slice ao' b.vs.length cap', .string (bs b.s), .string (bs b.t)] 24)
  have h1 := fun (wx : World) (h : Kept (fun _ => False) w wx) => dkey_any a ao cap B wx (hA.kept h (fun _ _ _ h => h)) hc hl hl2
  have h2 := fun (wx : World) (h : Kept (fun _ => False) w wx) => dkey_any b ao' cap' B wx (hB.kept h (fun _ _ _ h => h)) hc2 hl3 hl4
  have h3 := fun w => scmp_any (keyD a) (keyD b) w
  have HK0 := Lib.hid hk0; have HB := Lib.hid hbx; have H1 := Lib.hid h1; have H2 := Lib.hid h2; have H3 := Lib.hid h3; clear hk0 hbx hA hB h1 h2 h3 hl hl2 hl3 hl4 hc hc2
  have hs : cmpD a b = Lib.compareBytes (keyD a) (keyD b) := rfl
  rw [hs]; clear hs
  generalize Lib.compareBytes (keyD a) (keyD b) = r at *
  generalize keyD a = ka at *
  generalize keyD b = kb at *
  go_enter Try.func16, Try.ntmps16
  go_wp2_with fail
  go_region_with (first
    | (go_at_call_of 13 (Value.agg #[.int .i64 a.k, .string (bs a.c), .string (bs a.p), .slice ao a.vs.length cap, .string (bs a.s), .string (bs a.t)]); refine (H1.out _ HK0.out.drew).mono ?_; rintro e w1 ⟨rfl, k1⟩; have kx := HB.out.2.kept (Mk.Kept.of_drew k1) (fun h => h); obtain ⟨c0, c1, c2, c3, c4, c5⟩ := kx; have K1 := Lib.hid (HK0.out.drew.trans k1 (fun _ _ h => h)); clear k1)
    | (go_at_call 13; go_must (refine (H2.out _ K1.out).mono ?_; rintro e w2 ⟨rfl, k2⟩; have K2 := Lib.hid (K1.out.trans k2 (fun _ _ h => h)); clear k2))
    | (go_at_call 44; refine (H3.out _).mono ?_; rintro e w3 ⟨rfl, rfl⟩))
  all_goals go_wp2
  all_goals go_ret
  all_goals exact ⟨rfl, K2.out⟩

end Go.Proofs.Ytomdhljhjeeakaa
