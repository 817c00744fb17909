/-
  CONTRACTS of package def: Same.
-/
import Derived.Test.YtecjecdgjmipcaaGreatGDg
import Derived.Test.YtecjecdgjmipcaaGreatGNf
namespace Go.Proofs.YtecjecdgjmipcaaGreat
open Go.RowKit Go.Mk

theorem bx_new2 (w : World) (ao ao' : Option Addr) (cap cap' : Nat) (a b : DD) (t : TypeId) :
    Bx ((w.alloc (.cells #[.int .i64 a.k, .string (bs a.c), .string (bs a.p), .slice ao a.vs.length cap, .string (bs a.s), .string (bs a.t)] t)).alloc (.cells #[.int .i64 b.k, .string (bs b.c), .string (bs b.p), .slice ao' b.vs.length cap', .string (bs b.s), .string (bs b.t)] t)) w.heap.size ao cap a ∧
    Bx ((w.alloc (.cells #[.int .i64 a.k, .string (bs a.c), .string (bs a.p), .slice ao a.vs.length cap, .string (bs a.s), .string (bs a.t)] t)).alloc (.cells #[.int .i64 b.k, .string (bs b.c), .string (bs b.p), .slice ao' b.vs.length cap', .string (bs b.s), .string (bs b.t)] t)) (w.heap.size + 1) ao' cap' b := by
  refine ⟨(bx_new w ao cap a t).kept ((Kept.refl (fun _ => False) _).alloc _) (fun h => h), ?_⟩
  have := bx_new (w.alloc (.cells #[.int .i64 a.k, .string (bs a.c), .string (bs a.p), .slice ao a.vs.length cap, .string (bs a.s), .string (bs a.t)] t)) ao' cap' b t
  rwa [World.size_alloc] at this

set_option maxHeartbeats 1000000 in
set_option maxRecDepth 100000 in
theorem dsame_any (a b : DD) (ao ao' : Option Addr) (cap cap' : Nat) (B : Nat) (w : World) (hA : Lies w B ao (strs a.vs)) (hB : Lies w B ao' (strs b.vs)) (hl : a.vs.length ≤ 1099511627776) (hl2 : b.vs.length ≤ 1099511627776) :
    Calls Tryz.prog 54 #[.agg #[.int .i64 a.k, .string (bs a.c), .string (bs a.p), .slice ao a.vs.length cap, .string (bs a.s), .string (bs a.t)], .agg #[.int .i64 b.k, .string (bs b.c), .string (bs b.p), .slice ao' b.vs.length cap', .string (bs b.s), .string (bs b.t)]] w fun e w' => e = .returned (.bool (sameB a b)) ∧ Kept (fun _ => False) w w' := by
  have hbx := bx_new2 w ao ao' cap cap' a b 49
  have hk0 := ((Kept.refl (fun _ => False) w).alloc (.cells #[.int .i64 a.k, .string (bs a.c), .string (bs a.p), .slice ao a.vs.length cap, .string (bs a.s), .string (bs a.t)] 49)).alloc (.cells #[.int .i64 b.k, .string (bs b.c), .string (bs b.p), .slice ao' b.vs.length cap', .string (bs b.s), .string (bs b.t)] 49)
  have h1 := fun (wx : World) (h : Kept (fun _ => False) w wx) => sequal_any ao cap a.vs ao' cap' b.vs B wx (hA.kept h (fun _ _ _ h => h)) (hB.kept h (fun _ _ _ h => h)) hl hl2
  have HK0 := Lib.hid hk0; have HB := Lib.hid hbx; have H1 := Lib.hid h1; clear hk0 hbx hA hB h1 hl hl2
  have hs : sameB a b = (a.k == b.k && a.c == b.c && a.p == b.p && a.vs == b.vs && a.s == b.s && a.t == b.t) := rfl
  rw [hs]; clear hs
  obtain ⟨ka, ca, pa, va, sa, ta⟩ := a
  obtain ⟨kb, cb, pb, vb, sb, tb⟩ := b
  dsimp only at *
  have z1 := bs_list ca; have z2 := bs_list pa; have z3 := bs_list sa; have z4 := bs_list ta
  have y1 := bs_list cb; have y2 := bs_list pb; have y3 := bs_list sb; have y4 := bs_list tb
  cases e1 : ka == kb with
  | false =>
    go_enter Tryz.func54, Tryz.ntmps54
    go_wp2
    go_ret
    exact ⟨rfl, HK0.out⟩
  | true =>
  cases e2 : ca == cb with
  | false =>
    go_enter Tryz.func54, Tryz.ntmps54
    go_wp2
    go_ret
    exact ⟨rfl, HK0.out⟩
  | true =>
  cases e3 : pa == pb with
  | false =>
    go_enter Tryz.func54, Tryz.ntmps54
    go_wp2
    go_ret
    exact ⟨rfl, HK0.out⟩
  | true =>
  generalize (va == vb) = r4 at *
  go_enter Tryz.func54, Tryz.ntmps54
  go_wp2_with fail
  refine (H1.out _ HK0.out).mono ?_; rintro e w1 ⟨rfl, k1⟩
  obtain ⟨_, _, _, _, c4, c5⟩ := HB.out.1.kept k1 (fun h => h)
  obtain ⟨_, _, _, _, d4, d5⟩ := HB.out.2.kept k1 (fun h => h)
  cases r4 with
  | false =>
    go_wp2
    go_ret
    exact ⟨rfl, HK0.out.trans k1 (fun _ _ h => h)⟩
  | true =>
  cases e5 : sa == sb with
  | false =>
    go_wp2
    go_ret
    exact ⟨by rw [e5]; rfl, HK0.out.trans k1 (fun _ _ h => h)⟩
  | true =>
  cases e6 : ta == tb with
  | false =>
    go_wp2
    go_ret
    exact ⟨by rw [e5, e6]; rfl, HK0.out.trans k1 (fun _ _ h => h)⟩
  | true =>
    go_wp2
    go_ret
    exact ⟨by rw [e5, e6]; rfl, HK0.out.trans k1 (fun _ _ h => h)⟩

end Go.Proofs.YtecjecdgjmipcaaGreat
