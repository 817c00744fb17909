/-
  Lemmas towards the claim of this folder: contracts of the functions that the law reaches; joined texts.
-/
import Derived.Test.YtjnpmbdehalmpaaGreatGNe
import Derived.Test.YtjnpmbdehalmpaaGreatGR7
import Derived.Test.YtjnpmbdehalmpaaGreatGDg
/-
  CONTRACTS of slices.Equal (texts) and of package name's Join.
-/
namespace Go.Proofs.YtjnpmbdehalmpaaGreat
open Go.RowKit Go.Mk

set_option maxHeartbeats 400000 in
theorem sequal_any (aa : Option Addr) (ca : Nat) (la : List (List UInt8)) (ba : Option Addr) (cb : Nat) (lb : List (List UInt8)) (B : Nat) (w : World) (hA : Lies w B aa (strs la)) (hB : Lies w B ba (strs lb)) (hl : la.length ≤ 1099511627776) (hl2 : lb.length ≤ 1099511627776) :
    Calls Tryz.prog 33 #[.slice aa la.length ca, .slice ba lb.length cb] w fun e w' => e = .returned (.bool (la == lb)) ∧ Kept (fun _ => False) w w' := by
  have HA := Lib.hid hA; have HB := Lib.hid hB; clear hA hB
  by_cases hlen : la.length = lb.length
  · have hne : ((la.length : Int) != (lb.length : Int)) = false := by simp [hlen]
    have HLEN := Lib.hid hlen; clear hlen
    go_enter Tryz.func33, Tryz.ntmps33
    go_wp2
    go_loopg [13] la.length (fun k c wr => ∃ j, k = la.length - j ∧ j ≤ la.length ∧ c = .int .i64 (j : Int) ∧ la.take j = lb.take j ∧ Kept (fun _ => False) w wr)
    case atStart => exact ⟨0, rfl, Nat.zero_le _, rfl, rfl, Kept.refl _ _⟩
    case round =>
      obtain ⟨j, hk, hj, rfl, hpre, hkp⟩ := hrel
      have HK := Lib.hid hk; have HPRE := Lib.hid hpre; have HKP := Lib.hid hkp; clear hk hpre hkp
      by_cases hlt : j < la.length
      · have hlt2 : j < lb.length := by rw [← HLEN.out]; exact hlt
        obtain ⟨xb, xo, rfl, hxb, hc⟩ := (HA.out.kept HKP.out (fun _ _ _ h => h)) (by intro h; simp [strs] at h; rw [h] at hlt; simp at hlt)
        obtain ⟨yb, yo, rfl, hyb, hc2⟩ := (HB.out.kept HKP.out (fun _ _ _ h => h)) (by intro h; simp [strs] at h; rw [h] at hlt2; simp at hlt2)
        have hx : wr.cell? ⟨xb, xo + j, none⟩ = some (.string (bs la[j])) := hc j _ (by simp [strs, hlt])
        have hy : wr.cell? ⟨yb, yo + j, none⟩ = some (.string (bs lb[j])) := hc2 j _ (by simp [strs, hlt2])
        clear hc hc2
        have i1 : (j : Int) < (la.length : Int) := by omega
        have i2 : (j : Int) < (lb.length : Int) := by omega
        have b1 := bs_list la[j]
        have b2 := bs_list lb[j]
        have htk : la.take (j + 1) = la.take j ++ [la[j]] := by rw [List.take_add_one, List.getElem?_eq_getElem hlt]; rfl
        have htk2 : lb.take (j + 1) = lb.take j ++ [lb[j]] := by rw [List.take_add_one, List.getElem?_eq_getElem hlt2]; rfl
        have hne2 : la[j] ≠ lb[j] → la ≠ lb := fun h e => h (by subst e; rfl)
        have HTK := Lib.hid htk; have HTK2 := Lib.hid htk2; have HNE2 := Lib.hid hne2; clear htk htk2 hne2
        generalize la[j] = x at *
        generalize lb[j] = y at *
        by_cases hxy : x = y
        · have hxy1 : (x == y) = true := by simp [hxy]
          have HXY := Lib.hid hxy; clear hxy
          go_wp2_with fail
          go_quiet (fail)
          go_wp2
          go_roundg (la.length - (j + 1))
          case measure => have := HK.out; omega
          case rel => exact ⟨j + 1, rfl, by omega, by go_num, by rw [HTK.out, HTK2.out, HPRE.out, HXY.out], kept_drewN HKP.out _⟩
        · have hxy1 : (x == y) = false := by simp [hxy]
          have HXY := Lib.hid hxy; clear hxy
          go_wp2_with fail
          go_quiet (fail)
          go_wp2
          go_ret
          have E : (la == lb) = false := by rw [beq_eq_false_iff_ne]; exact HNE2.out HXY.out
          exact ⟨by rw [E]; rfl, kept_drewN HKP.out _⟩
      · obtain rfl : j = la.length := by omega
        have e : la = lb := by
          have := HPRE.out
          rwa [List.take_length, HLEN.out, List.take_length] at this
        have E : Hid ((la == lb) = true) := by
          show _ = _
          rw [e]; simp
        clear e
        go_wp2
        go_ret
        exact ⟨by rw [E.out]; rfl, HKP.out⟩
  · have hne : ((la.length : Int) != (lb.length : Int)) = true := by simp; omega
    have e : (la == lb) = false := by
      rw [beq_eq_false_iff_ne]; intro e; exact hlen (by rw [e])
    have E := Lib.hid e; clear e hlen
    go_enter Tryz.func33, Tryz.ntmps33
    go_wp2
    go_ret
    exact ⟨by rw [E.out]; rfl, Kept.refl _ _⟩

end Go.Proofs.YtjnpmbdehalmpaaGreat

/-
  CONTRACTS of package def: Same.
-/
namespace Go.Proofs.YtjnpmbdehalmpaaGreat
open Go.RowKit Go.Mk

theorem bx_new2 (w : World) (ao ao' : Option Addr) (cap cap' : Nat) (a b : DD) (t : TypeId) :
    Bx ((w.alloc (.cells #[.int .i64 a.k, .string (bs a.c), .string (bs a.p), .slice ao a.vs.length cap, .string (bs a.s), .string (bs a.t)] t)).alloc (.cells #[.int .i64 b.k, .string (bs b.c), .string (bs b.p), .slice ao' b.vs.length cap', .string (bs b.s), .string (bs b.t)] t)) w.heap.size ao cap a ∧
    Bx ((w.alloc (.cells #[.int .i64 a.k, .string (bs a.c), .string (bs a.p), .slice ao a.vs.length cap, .string (bs a.s), .string (bs a.t)] t)).alloc (.cells #[.int .i64 b.k, .string (bs b.c), .string (bs b.p), .slice ao' b.vs.length cap', .string (bs b.s), .string (bs b.t)] t)) (w.heap.size + 1) ao' cap' b := by
  refine ⟨(bx_new w ao cap a t).kept ((Kept.refl (fun _ => False) _).alloc _) (fun h => h), ?_⟩
  have := bx_new (w.alloc (.cells #[.int .i64 a.k, .string (bs a.c), .string (bs a.p), .slice ao a.vs.length cap, .string (bs a.s), .string (bs a.t)] t)) ao' cap' b t
  rwa [World.size_alloc] at this

set_option maxHeartbeats 1000000 in
set_option maxRecDepth 100000 in
theorem dsame_any (a b : DD) (ao ao' : Option Addr) (cap cap' : Nat) (B : Nat) (w : World) (hA : Lies w B ao (strs a.vs)) (hB : Lies w B ao' (strs b.vs)) (hl : a.vs.length ≤ 1099511627776) (hl2 : b.vs.length ≤ 1099511627776) :
    Calls Tryz.prog 35 #[.agg #[.int .i64 a.k, .string (bs a.c), .string (bs a.p), .slice ao a.vs.length cap, .string (bs a.s), .string (bs a.t)], .agg #[.int .i64 b.k, .string (bs b.c), .string (bs b.p), .slice ao' b.vs.length cap', .string (bs b.s), .string (bs b.t)]] w fun e w' => e = .returned (.bool (sameB a b)) ∧ Kept (fun _ => False) w w' := by
  have hbx := bx_new2 w ao ao' cap cap' a b 46
  have hk0 := ((Kept.refl (fun _ => False) w).alloc (.cells #[.int .i64 a.k, .string (bs a.c), .string (bs a.p), .slice ao a.vs.length cap, .string (bs a.s), .string (bs a.t)] 46)).alloc (.cells #[.int .i64 b.k, .string (bs b.c), .string (bs b.p), .slice ao' b.vs.length cap', .string (bs b.s), .string (bs b.t)] 46)
  have h1 := fun (wx : World) (h : Kept (fun _ => False) w wx) => sequal_any ao cap a.vs ao' cap' b.vs B wx (hA.kept h (fun _ _ _ h => h)) (hB.kept h (fun _ _ _ h => h)) hl hl2
  have HK0 := Lib.hid hk0; have HB := Lib.hid hbx; have H1 := Lib.hid h1; clear hk0 hbx hA hB h1 hl hl2
  have hs : sameB a b = (a.k == b.k && a.c == b.c && a.p == b.p && a.vs == b.vs && a.s == b.s && a.t == b.t) := rfl
  rw [hs]; clear hs
  obtain ⟨ka, ca, pa, va, sa, ta⟩ := a
  obtain ⟨kb, cb, pb, vb, sb, tb⟩ := b
  dsimp only at *
  have z1 := bs_list ca; have z2 := bs_list pa; have z3 := bs_list sa; have z4 := bs_list ta
  have y1 := bs_list cb; have y2 := bs_list pb; have y3 := bs_list sb; have y4 := bs_list tb
  cases e1 : ka == kb with
  | false =>
    go_enter Tryz.func35, Tryz.ntmps35
    go_wp2
    go_ret
    exact ⟨rfl, HK0.out⟩
  | true =>
  cases e2 : ca == cb with
  | false =>
    go_enter Tryz.func35, Tryz.ntmps35
    go_wp2
    go_ret
    exact ⟨rfl, HK0.out⟩
  | true =>
  cases e3 : pa == pb with
  | false =>
    go_enter Tryz.func35, Tryz.ntmps35
    go_wp2
    go_ret
    exact ⟨rfl, HK0.out⟩
  | true =>
  generalize (va == vb) = r4 at *
  go_enter Tryz.func35, Tryz.ntmps35
  go_wp2_with fail
  refine (H1.out _ HK0.out).mono ?_; rintro e w1 ⟨rfl, k1⟩
  obtain ⟨_, _, _, _, c4, c5⟩ := HB.out.1.kept k1 (fun h => h)
  obtain ⟨_, _, _, _, d4, d5⟩ := HB.out.2.kept k1 (fun h => h)
  cases r4 with
  | false =>
    go_wp2
    go_ret
    exact ⟨rfl, HK0.out.trans k1 (fun _ _ h => h)⟩
  | true =>
  cases e5 : sa == sb with
  | false =>
    go_wp2
    go_ret
    exact ⟨by rw [e5]; rfl, HK0.out.trans k1 (fun _ _ h => h)⟩
  | true =>
  cases e6 : ta == tb with
  | false =>
    go_wp2
    go_ret
    exact ⟨by rw [e5, e6]; rfl, HK0.out.trans k1 (fun _ _ h => h)⟩
  | true =>
    go_wp2
    go_ret
    exact ⟨by rw [e5, e6]; rfl, HK0.out.trans k1 (fun _ _ h => h)⟩

end Go.Proofs.YtjnpmbdehalmpaaGreat

/-
  CONTRACTS of the reference of layer 7: Key, Same, Small.
-/
namespace Go.Proofs.YtjnpmbdehalmpaaGreat
open Go.RowKit Go.Mk

set_option maxHeartbeats 1000000 in
set_option maxRecDepth 100000 in
theorem rsame7_any (a b : DD) (ao ao' : Option Addr) (cap cap' : Nat) (B : Nat) (w : World) (hA : Lies w B ao (strs a.vs)) (hB : Lies w B ao' (strs b.vs)) (hl : a.vs.length ≤ 1099511627776) (hl2 : b.vs.length ≤ 1099511627776) :
    Calls Tryz.prog 50 #[.agg #[.int .i64 a.k, .string (bs a.c), .string (bs a.p), .slice ao a.vs.length cap, .string (bs a.s), .string (bs a.t)], .agg #[.int .i64 b.k, .string (bs b.c), .string (bs b.p), .slice ao' b.vs.length cap', .string (bs b.s), .string (bs b.t)]] w fun e w' => e = .returned (.bool (sameB a b)) ∧ Kept (fun _ => False) w w' := by
  have hbx := bx_new2 w ao ao' cap cap' a b 46
  have hk0 := ((Kept.refl (fun _ => False) w).alloc (.cells #[.int .i64 a.k, .string (bs a.c), .string (bs a.p), .slice ao a.vs.length cap, .string (bs a.s), .string (bs a.t)] 46)).alloc (.cells #[.int .i64 b.k, .string (bs b.c), .string (bs b.p), .slice ao' b.vs.length cap', .string (bs b.s), .string (bs b.t)] 46)
  have h1 := fun (wx : World) (h : Kept (fun _ => False) w wx) => same_any ao cap a.vs ao' cap' b.vs B wx (hA.kept h (fun _ _ _ h => h)) (hB.kept h (fun _ _ _ h => h)) hl hl2
  have HK0 := Lib.hid hk0; have HB := Lib.hid hbx; have H1 := Lib.hid h1; clear hk0 hbx hA hB h1 hl hl2
  have hs : sameB a b = (a.k == b.k && a.c == b.c && a.p == b.p && a.s == b.s && a.t == b.t && a.vs == b.vs) := by unfold sameB; cases (a.k == b.k) <;> cases (a.c == b.c) <;> cases (a.p == b.p) <;> cases (a.vs == b.vs) <;> cases (a.s == b.s) <;> cases (a.t == b.t) <;> rfl
  rw [hs]; clear hs
  obtain ⟨ka, ca, pa, va, sa, ta⟩ := a
  obtain ⟨kb, cb, pb, vb, sb, tb⟩ := b
  dsimp only at *
  have z1 := bs_list ca; have z2 := bs_list pa; have z3 := bs_list sa; have z4 := bs_list ta
  have y1 := bs_list cb; have y2 := bs_list pb; have y3 := bs_list sb; have y4 := bs_list tb
  cases e1 : ka == kb with
  | false =>
    go_enter Tryz.func50, Tryz.ntmps50
    go_wp2
    go_ret
    exact ⟨rfl, HK0.out⟩
  | true =>
  cases e2 : ca == cb with
  | false =>
    go_enter Tryz.func50, Tryz.ntmps50
    go_wp2
    go_ret
    exact ⟨rfl, HK0.out⟩
  | true =>
  cases e3 : pa == pb with
  | false =>
    go_enter Tryz.func50, Tryz.ntmps50
    go_wp2
    go_ret
    exact ⟨rfl, HK0.out⟩
  | true =>
  cases e4 : sa == sb with
  | false =>
    go_enter Tryz.func50, Tryz.ntmps50
    go_wp2
    go_ret
    exact ⟨rfl, HK0.out⟩
  | true =>
  cases e5 : ta == tb with
  | false =>
    go_enter Tryz.func50, Tryz.ntmps50
    go_wp2
    go_ret
    exact ⟨rfl, HK0.out⟩
  | true =>
  generalize (va == vb) = r4 at *
  go_enter Tryz.func50, Tryz.ntmps50
  go_wp2_with fail
  refine (H1.out _ HK0.out).mono ?_; rintro e w1 ⟨rfl, k1⟩
  go_wp2
  go_ret
  exact ⟨by simp, HK0.out.trans k1 (fun _ _ h => h)⟩

set_option maxHeartbeats 1000000 in
theorem rkey_any (d : DD) (ao : Option Addr) (cap : Nat) (B : Nat) (w : World) (hA : Lies w B ao (strs d.vs)) (hc : d.vs.length ≤ cap) (hv : d.vs.length ≤ 1000000) (hl : d.s.length ≤ 1000000) (hl2 : d.c.length ≤ 1000000) :
    Calls Tryz.prog 23 #[.agg #[.int .i64 d.k, .string (bs d.c), .string (bs d.p), .slice ao d.vs.length cap, .string (bs d.s), .string (bs d.t)]] w fun e w' => e = .returned (.string (bs (keyD d))) ∧ Kept (fun _ => False) w w' := by
  have hbx := bx_new w ao cap d 46
  have hk0 := (Kept.refl (fun _ => False) w).alloc (.cells #[.int .i64 d.k, .string (bs d.c), .string (bs d.p), .slice ao d.vs.length cap, .string (bs d.s), .string (bs d.t)] 46)
  have h1 := fun (wx : World) (h : Kept (fun _ => False) w wx) => rright_any d ao cap B wx (hA.kept h (fun _ _ _ h => h)) hc (by omega) (by omega)
  have HK0 := Lib.hid hk0; have HB := Lib.hid hbx; clear hk0 hbx hA
  cases hr : rightD d with
  | false =>
    rw [hr] at h1
    have E : keyD d = [] := by simp [keyD, hr]
    rw [E]
    have H1 := Lib.hid h1; clear h1 hr E
    go_enter Tryz.func23, Tryz.ntmps23
    go_wp2_with fail
    refine (H1.out _ HK0.out).mono ?_; rintro e w1 ⟨rfl, k1⟩
    go_wp2
    go_ret
    exact ⟨rfl, HK0.out.trans k1 (fun _ _ h => h)⟩
  | true =>
    rw [hr] at h1
    rcases right_kind hr with hk | hk
    · have E : keyD d = d.c := by simp [keyD, hr, hk]
      rw [E]
      have hk1 : (d.k == 1) = true := by simp [hk]
      have H1 := Lib.hid h1; clear h1 hr hk E
      go_enter Tryz.func23, Tryz.ntmps23
      go_wp2_with fail
      refine (H1.out _ HK0.out).mono ?_; rintro e w1 ⟨rfl, k1⟩
      obtain ⟨c0, c1, c2, c3, c4, c5⟩ := HB.out.kept k1 (fun h => h)
      go_wp2
      go_ret
      exact ⟨rfl, HK0.out.trans k1 (fun _ _ h => h)⟩
    · have E : keyD d = d.c ++ [62, 62] ++ d.s := by simp [keyD, hr, hk]
      rw [E]
      have hk1 : (d.k == 1) = false := by simp [hk]
      have H1 := Lib.hid h1; clear h1 hr hk E
      have z1 : (bs d.c).size ≤ 1000000 := hl2
      have z2 : (bs d.s).size ≤ 1000000 := hl
      have z3 : (bs d.c ++ ⟨#[62, 62]⟩ : ByteArray).size ≤ 1000002 := by rw [ByteArray.size_append]; show d.c.length + 2 ≤ _; omega
      have z4 : (⟨#[62, 62]⟩ : ByteArray).size = 2 := rfl
      go_enter Tryz.func23, Tryz.ntmps23
      go_wp2_with fail
      refine (H1.out _ HK0.out).mono ?_; rintro e w1 ⟨rfl, k1⟩
      obtain ⟨c0, c1, c2, c3, c4, c5⟩ := HB.out.kept k1 (fun h => h)
      go_wp2
      go_ret
      exact ⟨by rw [← bs_append, ← bs_append]; rfl, HK0.out.trans k1 (fun _ _ h => h)⟩

/-- Is it not too great? -/
def smallD (d : DD) : Bool := decide (d.c.length ≤ 100) && decide (d.p.length ≤ 100) && decide (d.vs.length ≤ 30) && decide (d.s.length ≤ 600) && decide (d.t.length ≤ 5000) && d.vs.all (fun v => decide (v.length ≤ 100))

structure SmallD (d : DD) : Prop where
  c : d.c.length ≤ 100
  p : d.p.length ≤ 100
  n : d.vs.length ≤ 30
  s : d.s.length ≤ 600
  t : d.t.length ≤ 5000
  v : ∀ v ∈ d.vs, v.length ≤ 100

theorem smallD_of {d : DD} (h : smallD d = true) : SmallD d := by
  simp only [smallD, Bool.and_eq_true, decide_eq_true_eq, List.all_eq_true] at h
  obtain ⟨⟨⟨⟨⟨h1, h2⟩, h3⟩, h4⟩, h5⟩, h6⟩ := h
  exact ⟨h1, h2, h3, h4, h5, h6⟩

theorem small_no {d : DD} (h : 100 < d.c.length ∨ 100 < d.p.length ∨ 30 < d.vs.length ∨ 600 < d.s.length ∨ 5000 < d.t.length) : smallD d = false := by
  rw [Bool.eq_false_iff]
  intro e
  obtain ⟨h1, h2, h3, h4, h5, _⟩ := smallD_of e
  omega

set_option maxHeartbeats 1000000 in
set_option maxRecDepth 100000 in
theorem rsmall_any (d : DD) (ao : Option Addr) (cap : Nat) (B : Nat) (w : World) (hA : Lies w B ao (strs d.vs)) :
    Calls Tryz.prog 59 #[.agg #[.int .i64 d.k, .string (bs d.c), .string (bs d.p), .slice ao d.vs.length cap, .string (bs d.s), .string (bs d.t)]] w fun e w' => e = .returned (.bool (smallD d)) ∧ Kept (fun _ => False) w w' := by
  have hk0 := (Kept.refl (fun _ => False) w).alloc (.cells #[.int .i64 d.k, .string (bs d.c), .string (bs d.p), .slice ao d.vs.length cap, .string (bs d.s), .string (bs d.t)] 46)
  have hbx := bx_new w ao cap d 46
  have hA0 := hA.kept hk0 (fun _ _ _ h => h)
  have HK0 := Lib.hid hk0; have HA := Lib.hid hA0; have HB := Lib.hid hbx; clear hk0 hA hA0 hbx
  have s1 : (bs d.c).size = d.c.length := rfl
  have s2 : (bs d.p).size = d.p.length := rfl
  have s3 : (bs d.s).size = d.s.length := rfl
  have s4 : (bs d.t).size = d.t.length := rfl
  by_cases hbig : 100 < d.c.length ∨ 100 < d.p.length ∨ 30 < d.vs.length ∨ 600 < d.s.length ∨ 5000 < d.t.length
  · have E := Lib.hid (small_no hbig)
    have hw : (100 : Int) < (d.c.length : Int) ∨ (¬ (100 : Int) < (d.c.length : Int) ∧ (100 : Int) < (d.p.length : Int)) ∨ (¬ (100 : Int) < (d.c.length : Int) ∧ ¬ (100 : Int) < (d.p.length : Int) ∧ (30 : Int) < (d.vs.length : Int)) ∨
      (¬ (100 : Int) < (d.c.length : Int) ∧ ¬ (100 : Int) < (d.p.length : Int) ∧ ¬ (30 : Int) < (d.vs.length : Int) ∧ (600 : Int) < (d.s.length : Int)) ∨ (¬ (100 : Int) < (d.c.length : Int) ∧ ¬ (100 : Int) < (d.p.length : Int) ∧ ¬ (30 : Int) < (d.vs.length : Int) ∧ ¬ (600 : Int) < (d.s.length : Int) ∧ (5000 : Int) < (d.t.length : Int)) := by omega
    clear hbig
    rcases hw with h | ⟨h, h2⟩ | ⟨h, h2, h3⟩ | ⟨h, h2, h3, h4⟩ | ⟨h, h2, h3, h4, h5⟩
    all_goals
      go_enter Tryz.func59, Tryz.ntmps59
      go_wp2
      go_ret
      exact ⟨by rw [E.out]; rfl, HK0.out⟩
  · have h1 : ¬ (100 : Int) < (d.c.length : Int) := by omega
    have h2 : ¬ (100 : Int) < (d.p.length : Int) := by omega
    have h3 : ¬ (30 : Int) < (d.vs.length : Int) := by omega
    have h4 : ¬ (600 : Int) < (d.s.length : Int) := by omega
    have h5 : ¬ (5000 : Int) < (d.t.length : Int) := by omega
    have E : Hid (smallD d = d.vs.all (fun v => decide (v.length ≤ 100))) := by
      show _ = _
      unfold smallD
      rw [decide_eq_true (by omega), decide_eq_true (by omega), decide_eq_true (by omega), decide_eq_true (by omega), decide_eq_true (by omega)]
      simp
    have hn : d.vs.length ≤ 30 := by omega
    clear hbig
    go_enter Tryz.func59, Tryz.ntmps59
    go_wp2
    go_loopg [3] d.vs.length (fun k v wr => ∃ j : Nat, k = d.vs.length - j ∧ v = .int .i64 (j : Int) ∧ j ≤ d.vs.length ∧ (d.vs.take j).all (fun v => decide (v.length ≤ 100)) = true ∧ wr = (w.alloc (.cells #[.int .i64 d.k, .string (bs d.c), .string (bs d.p), .slice ao d.vs.length cap, .string (bs d.s), .string (bs d.t)] 46)))
    case atStart => exact ⟨0, rfl, rfl, Nat.zero_le _, rfl, rfl⟩
    case round =>
      obtain ⟨j, hk, rfl, hj, hev, rfl⟩ := hrel
      have HK := Lib.hid hk; have HEV := Lib.hid hev; clear hk hev
      by_cases hlt : j < d.vs.length
      · obtain ⟨xb, xo, rfl, hxb, hc⟩ := HA.out (by intro h; simp [strs] at h; rw [h] at hlt; simp at hlt)
        have hx := hc j (.string (bs d.vs[j])) (by simp [strs, hlt])
        have i1 : (j : Int) < (d.vs.length : Int) := by omega
        have b1 : (bs d.vs[j]).size = d.vs[j].length := rfl
        have htk : (d.vs.take (j + 1)).all (fun v => decide (v.length ≤ 100)) = ((d.vs.take j).all (fun v => decide (v.length ≤ 100)) && decide (d.vs[j].length ≤ 100)) := by
          have e : d.vs.take (j + 1) = d.vs.take j ++ [d.vs[j]] := by rw [List.take_add_one, List.getElem?_eq_getElem hlt]; rfl
          rw [e, List.all_append]; simp
        have hno : 100 < d.vs[j].length → d.vs.all (fun v => decide (v.length ≤ 100)) = false := fun h => by
          rw [List.all_eq_false]; exact ⟨_, List.getElem_mem hlt, by simpa using h⟩
        have HTK := Lib.hid htk; have HNO := Lib.hid hno; clear htk hno hc
        generalize d.vs[j] = x at *
        by_cases hbig : 100 < x.length
        · have hb1 : (100 : Int) < (x.length : Int) := by omega
          go_wp2
          go_ret
          exact ⟨by rw [E.out, HNO.out hbig]; rfl, HK0.out⟩
        · have hb1 : ¬ (100 : Int) < (x.length : Int) := by omega
          go_wp2
          go_roundg (d.vs.length - (j + 1))
          case measure => have := HK.out; omega
          case rel => exact ⟨j + 1, rfl, by go_num, by omega, by rw [HTK.out, HEV.out, decide_eq_true (by omega)]; rfl, rfl⟩
      · obtain rfl : j = d.vs.length := by omega
        have HEV2 := Lib.hid HEV.out
        rw [List.take_length] at HEV2
        go_wp2
        go_ret
        exact ⟨by rw [E.out, HEV2.out]; rfl, HK0.out⟩

end Go.Proofs.YtjnpmbdehalmpaaGreat
