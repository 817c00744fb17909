/-
  Lemmas towards the claim of this folder: contracts of the functions that the law reaches; joined texts.
-/
import Derived.Test.YtlnincdmdegaoaaGreatGNb
import Derived.BigQuiet
import Derived.Deep.QuietTactic
import Derived.Test.YtlnincdmdegaoaaGreatGNe
import Derived.Test.YtlnincdmdegaoaaGreatGR7
import Derived.Test.YtlnincdmdegaoaaGreatGDh
/-
  CONTRACT of the reference's Same: two lists of texts.
-/
namespace Go.Proofs.YtlnincdmdegaoaaGreat
open Go.RowKit Go.Mk

theorem kept_drewN {S : Nat → Prop} {a w : World} (h : Kept S a w) (n : Nat) : Kept S a (w.drewN n) := ⟨h.os, h.tape, h.output, h.size, h.block⟩
theorem lies_drewN {w : World} {B : Nat} {ao : Option Addr} {vs : List Value} (h : Lies w B ao vs) (n : Nat) : Lies (w.drewN n) B ao vs := h

set_option maxHeartbeats 400000 in
theorem same_any (aa : Option Addr) (ca : Nat) (la : List (List UInt8)) (ba : Option Addr) (cb : Nat) (lb : List (List UInt8)) (B : Nat) (w : World) (hA : Lies w B aa (strs la)) (hB : Lies w B ba (strs lb)) (hl : la.length ≤ 1099511627776) (hl2 : lb.length ≤ 1099511627776) :
    Calls Tryz.prog 13 #[.slice aa la.length ca, .slice ba lb.length cb] w fun e w' => e = .returned (.bool (la == lb)) ∧ Kept (fun _ => False) w w' := by
  have HA := Lib.hid hA; have HB := Lib.hid hB; clear hA hB
  by_cases hlen : la.length = lb.length
  · have hne : ((la.length : Int) != (lb.length : Int)) = false := by simp [hlen]
    have HLEN := Lib.hid hlen; clear hlen
    go_enter Tryz.func13, Tryz.ntmps13
    go_wp2
    go_loopg [5] la.length (fun k c wr => ∃ j, k = la.length - j ∧ j ≤ la.length ∧ c = .int .i64 (j : Int) ∧ la.take j = lb.take j ∧ Kept (fun _ => False) w wr)
    case atStart => exact ⟨0, rfl, Nat.zero_le _, rfl, rfl, Kept.refl _ _⟩
    case round =>
      obtain ⟨j, hk, hj, rfl, hpre, hkp⟩ := hrel
      have HK := Lib.hid hk; have HPRE := Lib.hid hpre; have HKP := Lib.hid hkp; clear hk hpre hkp
      by_cases hlt : j < la.length
      · have hlt2 : j < lb.length := by rw [← HLEN.out]; exact hlt
        obtain ⟨xb, xo, rfl, hxb, hc⟩ := (HA.out.kept HKP.out (fun _ _ _ h => h)) (by intro h; simp [strs] at h; rw [h] at hlt; simp at hlt)
        obtain ⟨yb, yo, rfl, hyb, hc2⟩ := (HB.out.kept HKP.out (fun _ _ _ h => h)) (by intro h; simp [strs] at h; rw [h] at hlt2; simp at hlt2)
        have hx : wr.cell? ⟨xb, xo + j, none⟩ = some (.string (bs la[j])) := hc j _ (by simp [strs, hlt])
        have hy : wr.cell? ⟨yb, yo + j, none⟩ = some (.string (bs lb[j])) := hc2 j _ (by simp [strs, hlt2])
        clear hc hc2
        have i1 : (j : Int) < (la.length : Int) := by omega
        have i2 : (j : Int) < (lb.length : Int) := by omega
        have b1 := bs_list la[j]
        have b2 := bs_list lb[j]
        have htk : la.take (j + 1) = la.take j ++ [la[j]] := by rw [List.take_add_one, List.getElem?_eq_getElem hlt]; rfl
        have htk2 : lb.take (j + 1) = lb.take j ++ [lb[j]] := by rw [List.take_add_one, List.getElem?_eq_getElem hlt2]; rfl
        have hne2 : la[j] ≠ lb[j] → la ≠ lb := fun h e => h (by subst e; rfl)
        have HTK := Lib.hid htk; have HTK2 := Lib.hid htk2; have HNE2 := Lib.hid hne2; clear htk htk2 hne2
        generalize la[j] = x at *
        generalize lb[j] = y at *
        by_cases hxy : x = y
        · have hxy1 : (x == y) = true := by simp [hxy]
          have HXY := Lib.hid hxy; clear hxy
          go_wp2_with fail
          go_quiet (fail)
          go_wp2
          go_roundg (la.length - (j + 1))
          case measure => have := HK.out; omega
          case rel => exact ⟨j + 1, rfl, by omega, by go_num, by rw [HTK.out, HTK2.out, HPRE.out, HXY.out], kept_drewN HKP.out _⟩
        · have hxy1 : (x == y) = false := by simp [hxy]
          have HXY := Lib.hid hxy; clear hxy
          go_wp2_with fail
          go_quiet (fail)
          go_wp2
          go_ret
          have E : (la == lb) = false := by rw [beq_eq_false_iff_ne]; exact HNE2.out HXY.out
          exact ⟨by rw [E]; rfl, kept_drewN HKP.out _⟩
      · obtain rfl : j = la.length := by omega
        have e : la = lb := by
          have := HPRE.out
          rwa [List.take_length, HLEN.out, List.take_length] at this
        have E : Hid ((la == lb) = true) := by
          show _ = _
          rw [e]; simp
        clear e
        go_wp2
        go_ret
        exact ⟨by rw [E.out]; rfl, HKP.out⟩
  · have hne : ((la.length : Int) != (lb.length : Int)) = true := by simp; omega
    have e : (la == lb) = false := by
      rw [beq_eq_false_iff_ne]; intro e; exact hlen (by rw [e])
    have E := Lib.hid e; clear e hlen
    go_enter Tryz.func13, Tryz.ntmps13
    go_wp2
    go_ret
    exact ⟨by rw [E.out]; rfl, Kept.refl _ _⟩

end Go.Proofs.YtlnincdmdegaoaaGreat

/-
  CONTRACTS of slices.Equal (texts) and of package name's Join.
-/
namespace Go.Proofs.YtlnincdmdegaoaaGreat
open Go.RowKit Go.Mk

set_option maxHeartbeats 400000 in
theorem sequal_any (aa : Option Addr) (ca : Nat) (la : List (List UInt8)) (ba : Option Addr) (cb : Nat) (lb : List (List UInt8)) (B : Nat) (w : World) (hA : Lies w B aa (strs la)) (hB : Lies w B ba (strs lb)) (hl : la.length ≤ 1099511627776) (hl2 : lb.length ≤ 1099511627776) :
    Calls Tryz.prog 53 #[.slice aa la.length ca, .slice ba lb.length cb] w fun e w' => e = .returned (.bool (la == lb)) ∧ Kept (fun _ => False) w w' := by
  have HA := Lib.hid hA; have HB := Lib.hid hB; clear hA hB
  by_cases hlen : la.length = lb.length
  · have hne : ((la.length : Int) != (lb.length : Int)) = false := by simp [hlen]
    have HLEN := Lib.hid hlen; clear hlen
    go_enter Tryz.func53, Tryz.ntmps53
    go_wp2
    go_loopg [13] la.length (fun k c wr => ∃ j, k = la.length - j ∧ j ≤ la.length ∧ c = .int .i64 (j : Int) ∧ la.take j = lb.take j ∧ Kept (fun _ => False) w wr)
    case atStart => exact ⟨0, rfl, Nat.zero_le _, rfl, rfl, Kept.refl _ _⟩
    case round =>
      obtain ⟨j, hk, hj, rfl, hpre, hkp⟩ := hrel
      have HK := Lib.hid hk; have HPRE := Lib.hid hpre; have HKP := Lib.hid hkp; clear hk hpre hkp
      by_cases hlt : j < la.length
      · have hlt2 : j < lb.length := by rw [← HLEN.out]; exact hlt
        obtain ⟨xb, xo, rfl, hxb, hc⟩ := (HA.out.kept HKP.out (fun _ _ _ h => h)) (by intro h; simp [strs] at h; rw [h] at hlt; simp at hlt)
        obtain ⟨yb, yo, rfl, hyb, hc2⟩ := (HB.out.kept HKP.out (fun _ _ _ h => h)) (by intro h; simp [strs] at h; rw [h] at hlt2; simp at hlt2)
        have hx : wr.cell? ⟨xb, xo + j, none⟩ = some (.string (bs la[j])) := hc j _ (by simp [strs, hlt])
        have hy : wr.cell? ⟨yb, yo + j, none⟩ = some (.string (bs lb[j])) := hc2 j _ (by simp [strs, hlt2])
        clear hc hc2
        have i1 : (j : Int) < (la.length : Int) := by omega
        have i2 : (j : Int) < (lb.length : Int) := by omega
        have b1 := bs_list la[j]
        have b2 := bs_list lb[j]
        have htk : la.take (j + 1) = la.take j ++ [la[j]] := by rw [List.take_add_one, List.getElem?_eq_getElem hlt]; rfl
        have htk2 : lb.take (j + 1) = lb.take j ++ [lb[j]] := by rw [List.take_add_one, List.getElem?_eq_getElem hlt2]; rfl
        have hne2 : la[j] ≠ lb[j] → la ≠ lb := fun h e => h (by subst e; rfl)
        have HTK := Lib.hid htk; have HTK2 := Lib.hid htk2; have HNE2 := Lib.hid hne2; clear htk htk2 hne2
        generalize la[j] = x at *
        generalize lb[j] = y at *
        by_cases hxy : x = y
        · have hxy1 : (x == y) = true := by simp [hxy]
          have HXY := Lib.hid hxy; clear hxy
          go_wp2_with fail
          go_quiet (fail)
          go_wp2
          go_roundg (la.length - (j + 1))
          case measure => have := HK.out; omega
          case rel => exact ⟨j + 1, rfl, by omega, by go_num, by rw [HTK.out, HTK2.out, HPRE.out, HXY.out], kept_drewN HKP.out _⟩
        · have hxy1 : (x == y) = false := by simp [hxy]
          have HXY := Lib.hid hxy; clear hxy
          go_wp2_with fail
          go_quiet (fail)
          go_wp2
          go_ret
          have E : (la == lb) = false := by rw [beq_eq_false_iff_ne]; exact HNE2.out HXY.out
          exact ⟨by rw [E]; rfl, kept_drewN HKP.out _⟩
      · obtain rfl : j = la.length := by omega
        have e : la = lb := by
          have := HPRE.out
          rwa [List.take_length, HLEN.out, List.take_length] at this
        have E : Hid ((la == lb) = true) := by
          show _ = _
          rw [e]; simp
        clear e
        go_wp2
        go_ret
        exact ⟨by rw [E.out]; rfl, HKP.out⟩
  · have hne : ((la.length : Int) != (lb.length : Int)) = true := by simp; omega
    have e : (la == lb) = false := by
      rw [beq_eq_false_iff_ne]; intro e; exact hlen (by rw [e])
    have E := Lib.hid e; clear e hlen
    go_enter Tryz.func53, Tryz.ntmps53
    go_wp2
    go_ret
    exact ⟨by rw [E.out]; rfl, Kept.refl _ _⟩

end Go.Proofs.YtlnincdmdegaoaaGreat

/-
  CONTRACTS of package def: Same.
-/
namespace Go.Proofs.YtlnincdmdegaoaaGreat
open Go.RowKit Go.Mk

theorem bx_new2 (w : World) (ao ao' : Option Addr) (cap cap' : Nat) (a b : DD) (t : TypeId) :
    Bx ((w.alloc (.cells #[.int .i64 a.k, .string (bs a.c), .string (bs a.p), .slice ao a.vs.length cap, .string (bs a.s), .string (bs a.t)] t)).alloc (.cells #[.int .i64 b.k, .string (bs b.c), .string (bs b.p), .slice ao' b.vs.length cap', .string (bs b.s), .string (bs b.t)] t)) w.heap.size ao cap a ∧
    Bx ((w.alloc (.cells #[.int .i64 a.k, .string (bs a.c), .string (bs a.p), .slice ao a.vs.length cap, .string (bs a.s), .string (bs a.t)] t)).alloc (.cells #[.int .i64 b.k, .string (bs b.c), .string (bs b.p), .slice ao' b.vs.length cap', .string (bs b.s), .string (bs b.t)] t)) (w.heap.size + 1) ao' cap' b := by
  refine ⟨(bx_new w ao cap a t).kept ((Kept.refl (fun _ => False) _).alloc _) (fun h => h), ?_⟩
  have := bx_new (w.alloc (.cells #[.int .i64 a.k, .string (bs a.c), .string (bs a.p), .slice ao a.vs.length cap, .string (bs a.s), .string (bs a.t)] t)) ao' cap' b t
  rwa [World.size_alloc] at this

set_option maxHeartbeats 1000000 in
set_option maxRecDepth 100000 in
theorem dsame_any (a b : DD) (ao ao' : Option Addr) (cap cap' : Nat) (B : Nat) (w : World) (hA : Lies w B ao (strs a.vs)) (hB : Lies w B ao' (strs b.vs)) (hl : a.vs.length ≤ 1099511627776) (hl2 : b.vs.length ≤ 1099511627776) :
    Calls Tryz.prog 36 #[.agg #[.int .i64 a.k, .string (bs a.c), .string (bs a.p), .slice ao a.vs.length cap, .string (bs a.s), .string (bs a.t)], .agg #[.int .i64 b.k, .string (bs b.c), .string (bs b.p), .slice ao' b.vs.length cap', .string (bs b.s), .string (bs b.t)]] w fun e w' => e = .returned (.bool (sameB a b)) ∧ Kept (fun _ => False) w w' := by
  have hbx := bx_new2 w ao ao' cap cap' a b 43
  have hk0 := ((Kept.refl (fun _ => False) w).alloc (.cells #[.int .i64 a.k, .string (bs a.c), .string (bs a.p), .slice ao a.vs.length cap, .string (bs a.s), .string (bs a.t)] 43)).alloc (.cells #[.int .i64 b.k, .string (bs b.c), .string (bs b.p), .slice ao' b.vs.length cap', .string (bs b.s), .string (bs b.t)] 43)
  have h1 := fun (wx : World) (h : Kept (fun _ => False) w wx) => sequal_any ao cap a.vs ao' cap' b.vs B wx (hA.kept h (fun _ _ _ h => h)) (hB.kept h (fun _ _ _ h => h)) hl hl2
  have HK0 := Lib.hid hk0; have HB := Lib.hid hbx; have H1 := Lib.hid h1; clear hk0 hbx hA hB h1 hl hl2
  have hs : sameB a b = (a.k == b.k && a.c == b.c && a.p == b.p && a.vs == b.vs && a.s == b.s && a.t == b.t) := rfl
  rw [hs]; clear hs
  obtain ⟨ka, ca, pa, va, sa, ta⟩ := a
  obtain ⟨kb, cb, pb, vb, sb, tb⟩ := b
  dsimp only at *
  have z1 := bs_list ca; have z2 := bs_list pa; have z3 := bs_list sa; have z4 := bs_list ta
  have y1 := bs_list cb; have y2 := bs_list pb; have y3 := bs_list sb; have y4 := bs_list tb
  cases e1 : ka == kb with
  | false =>
    go_enter Tryz.func36, Tryz.ntmps36
    go_wp2
    go_ret
    exact ⟨rfl, HK0.out⟩
  | true =>
  cases e2 : ca == cb with
  | false =>
    go_enter Tryz.func36, Tryz.ntmps36
    go_wp2
    go_ret
    exact ⟨rfl, HK0.out⟩
  | true =>
  cases e3 : pa == pb with
  | false =>
    go_enter Tryz.func36, Tryz.ntmps36
    go_wp2
    go_ret
    exact ⟨rfl, HK0.out⟩
  | true =>
  generalize (va == vb) = r4 at *
  go_enter Tryz.func36, Tryz.ntmps36
  go_wp2_with fail
  refine (H1.out _ HK0.out).mono ?_; rintro e w1 ⟨rfl, k1⟩
  obtain ⟨_, _, _, _, c4, c5⟩ := HB.out.1.kept k1 (fun h => h)
  obtain ⟨_, _, _, _, d4, d5⟩ := HB.out.2.kept k1 (fun h => h)
  cases r4 with
  | false =>
    go_wp2
    go_ret
    exact ⟨rfl, HK0.out.trans k1 (fun _ _ h => h)⟩
  | true =>
  cases e5 : sa == sb with
  | false =>
    go_wp2
    go_ret
    exact ⟨by rw [e5]; rfl, HK0.out.trans k1 (fun _ _ h => h)⟩
  | true =>
  cases e6 : ta == tb with
  | false =>
    go_wp2
    go_ret
    exact ⟨by rw [e5, e6]; rfl, HK0.out.trans k1 (fun _ _ h => h)⟩
  | true =>
    go_wp2
    go_ret
    exact ⟨by rw [e5, e6]; rfl, HK0.out.trans k1 (fun _ _ h => h)⟩

end Go.Proofs.YtlnincdmdegaoaaGreat
