/-
  CONTRACTS of the reference of layer 4: Room, fits, area, Form, Head, lay, both.
-/
import Derived.Test.YtgefbolnfenfcaaGreatGR3
import Derived.Test.YtgefbolnfenfcaaGreatR2
import Derived.Test.YtgefbolnfenfcaaGreatMr
import Derived.Test.YtgefbolnfenfcaaGreatL4r
namespace Go.Proofs.YtgefbolnfenfcaaGreat
open Go.RowKit Go.Mk

/-- The reference's disk, its state as one. -/
abbrev RkS (w : World) (M : Nat → Prop) (b n : Nat) (s : DS) : Prop := Rk w M b n s.base s.ws s.calls

/-- What a call on it leaves. -/
def RDid (w : World) (M : Nat → Prop) (b n : Nat) (s' : DS) (w' : World) : Prop :=
  ∃ M', RkS w' M' b n s' ∧ (∀ i, M' i → M i ∨ w.heap.size ≤ i) ∧ Kept M w w'

section
variable {w : World} {M : Nat → Prop} {b n : Nat} {s : DS}

theorem RDid.refl (h : RkS w M b n s) : RDid w M b n s w := ⟨M, h, fun _ h => .inl h, Kept.refl _ _⟩
theorem RDid.trans {w' w'' : World} {s' s'' : DS} (h : RDid w M b n s' w') (g : ∀ M', RkS w' M' b n s' → RDid w' M' b n s'' w'') : RDid w M b n s'' w'' := by
  obtain ⟨M', h1, h2, h3⟩ := h
  obtain ⟨M'', g1, g2, g3⟩ := g M' h1
  exact ⟨M'', g1, fun i hi => (g2 i hi).elim (h2 i) (fun h => .inr (Nat.le_trans h3.size h)), h3.trans g3 (fun i hi h => (h2 i h).elim id (fun h => by omega))⟩
theorem Rk.fresh {w' : World} {base : List UInt8} {ws : List Wt} {calls : Int} (h : Rk w M b n base ws calls) (hb : Below w.heap.size w w') : Rk w' M b n base ws calls :=
  h.kept (kob (S := fun _ => False) hb (Nat.le_refl _)) (fun _ _ h => h)
theorem RDid.after {w0 : World} {s' : DS} {w' : World} (hb : Below w0.heap.size w0 w) (h : RDid w M b n s' w') (_ : ∀ k, M k → k < w0.heap.size) : RDid w0 M b n s' w' := by
  obtain ⟨M', h1, h2, h3⟩ := h
  exact ⟨M', h1, fun i hi => (h2 i hi).imp id (fun h => Nat.le_trans hb.size h), (kob (S := M) hb (Nat.le_refl _)).trans h3 (fun _ _ h => h)⟩

theorem Rk.n1 {base : List UInt8} {ws : List Wt} {calls : Int} (h : Rk w M b n base ws calls) : 1 ≤ n ∧ n ≤ 65536 ∧ base.length = 64 * n ∧ ∀ x ∈ ws, x.ok n := by
  obtain ⟨pv, h1, _⟩ := h.at_
  exact ⟨h1.n1, h1.n2, h1.len, h1.ok⟩
theorem Rk.c0 {base : List UInt8} {ws : List Wt} {calls : Int} (h : Rk w M b n base ws calls) : w.cell? ⟨b, 0, none⟩ = some (.string (bs base)) := by
  obtain ⟨pv, h1, _⟩ := h.at_
  exact h1.c0

theorem rarea_any (h : RkS w M b n s) :
    Calls Tryz.prog 70 #[.pointer (some ⟨b, 0, none⟩)] w fun e w' => e = .returned (.int .i64 (areaN n)) ∧ w = w' := by
  obtain ⟨h1, h2, h3, _⟩ := h.n1
  have c0 := h.c0
  have hs : (bs s.base).size = 64 * n := h3
  have E := Lib.hid (area_tdiv n h1)
  have hq : (64 * (n : Int)).tdiv 64 = n := Int.mul_tdiv_cancel_left _ (by decide)
  clear h h3
  go_enter Tryz.func70, Tryz.ntmps70
  go_wp2
  go_ret
  rw [E.out]
  exact ⟨rfl, rfl⟩

set_option maxHeartbeats 400000 in
theorem rfits_any (h : RkS w M b n s) (t : List UInt8) (_ht : t.length ≤ 1099511627776) :
    Calls Tryz.prog 68 #[.pointer (some ⟨b, 0, none⟩), .string (bs t)] w fun e w' => e = .returned (.int .i64 (jfits n t)) ∧ w = w' := by
  obtain ⟨h1, h2, h3, _⟩ := h.n1
  have c0 := h.c0
  have hs : (bs s.base).size = 64 * n := h3
  have hq : (64 * (n : Int)).tdiv 64 = n := Int.mul_tdiv_cancel_left _ (by decide)
  have ha : areaN n ≤ 32767 := by unfold areaN; omega
  have hst : (bs t).size = t.length := rfl
  have hr := rroom_any n w
  rw [roomI_nat n h1 h2] at hr
  clear h h3
  by_cases h0 : areaN n = 0
  · have e : jfits n t = 2 := by unfold jfits; rw [if_pos h0]
    rw [if_pos h0] at hr
    have E := Lib.hid e; have HR := Lib.hid hr; clear e hr h0
    go_enter Tryz.func68, Tryz.ntmps68
    go_wp2_with fail
    refine HR.out.mono ?_
    rintro e w1 ⟨rfl, rfl⟩
    go_wp2
    go_ret
    rw [E.out]
    exact ⟨rfl, rfl⟩
  · rw [if_neg h0] at hr
    have hb0 : decide (64 * (areaN n : Int) - 12 < 0) = false := by simp; omega
    by_cases hc : 64 * areaN n < 12 + t.length
    · have e : jfits n t = 21 := by unfold jfits; rw [if_neg h0, if_pos hc]
      have hb : decide (64 * (areaN n : Int) - 12 < (t.length : Int)) = true := by simp; omega
      have E := Lib.hid e; have HR := Lib.hid hr; clear e hr h0 hc
      go_enter Tryz.func68, Tryz.ntmps68
      go_wp2_with fail
      refine HR.out.mono ?_
      rintro e w1 ⟨rfl, rfl⟩
      go_wp2
      go_ret
      rw [E.out]
      exact ⟨rfl, rfl⟩
    · have e : jfits n t = 0 := by unfold jfits; rw [if_neg h0, if_neg hc]
      have hb : decide (64 * (areaN n : Int) - 12 < (t.length : Int)) = false := by simp; omega
      have E := Lib.hid e; have HR := Lib.hid hr; clear e hr h0 hc
      go_enter Tryz.func68, Tryz.ntmps68
      go_wp2_with fail
      refine HR.out.mono ?_
      rintro e w1 ⟨rfl, rfl⟩
      go_wp2
      go_ret
      rw [E.out]
      exact ⟨rfl, rfl⟩

set_option maxHeartbeats 400000 in
theorem rform_any (t : List UInt8) (a : Nat) (w : World) (ha : a ≤ 15000) (ht : 12 + t.length ≤ 64 * a) :
    Calls Tryz.prog 69 #[.string (bs t), .int .i64 a] w fun e w' => e = .returned (.string (bs (formL a t))) ∧ Below w.heap.size w w' := by
  have hst : (bs t).size = t.length := rfl
  have HN := Lib.hid (rnum_ok t.length w (by omega))
  have hap : bs (bigB 4 t.length) ++ bs t = bs (bigB 4 t.length ++ t) := bs_append _ _
  have hz : (bs (bigB 4 t.length ++ t)).size = 4 + t.length := by rw [bs_size]; simp [bigB_length]
  have hz4 : (bs (bigB 4 t.length)).size = 4 := by rw [bs_size]; simp [bigB_length]
  have hno : ∀ W : World, _ := fun W => noughts_any W (64 * a - 4 - t.length) (by omega)
  have hcast : ((64 * a - 4 - t.length : Nat) : Int) = 64 * (a : Int) - (4 + (t.length : Int)) := by omega
  rw [hcast] at hno
  have hfin : bs (bigB 4 t.length ++ t) ++ bs (List.replicate (64 * a - 4 - t.length) 0) = bs (formL a t) := by rw [bs_append]; rfl
  have hzn : (bs (List.replicate (64 * a - 4 - t.length) (0 : UInt8))).size ≤ 1000000 := by rw [bs_size]; simp; omega
  have HNO := Lib.hid hno; have HF := Lib.hid hfin; clear hno hfin hcast
  generalize bs (List.replicate (64 * a - 4 - t.length) (0 : UInt8)) = Z at *
  go_enter Tryz.func69, Tryz.ntmps69
  go_wp2_with fail
  refine HN.out.mono ?_
  rintro e w1 ⟨rfl, b1⟩
  have B1 := Lib.hid b1; clear b1 HN
  go_wp2_with fail
  refine (HNO.out _).mono ?_
  rintro e w2 ⟨rfl, b2⟩
  have B2 := Lib.hid (B1.out.trans (b2.mono B1.out.size)); clear b2
  go_wp2
  go_ret
  refine ⟨?_, B2.out⟩
  rw [← HF.out]
  rfl

set_option maxHeartbeats 400000 in
theorem rhead_any (m u : Nat) (w : World) (hm : m ≤ 2147483647) (hu : u < 4294967296) :
    Calls Tryz.prog 72 #[.int .i64 m, .int .u32 u] w fun e w' => e = .returned (.string (bs (headL m u))) ∧ Below w.heap.size w w' := by
  have HN1 := Lib.hid (rnum_ok 1297043028 w (by omega))
  have HN2 := Lib.hid (fun W : World => rnum_ok m W hm)
  have hno : ∀ W : World, _ := fun W => noughts_any W 48 (by omega)
  have hse : ∀ W : World, _ := fun W => rseal2_any (preL m u) W (by rw [preL_length]; omega)
  have hz1 : (bs (bigB 4 1297043028)).size = 4 := by rw [bs_size]; simp [bigB_length]
  have hz2 : (bs (bigB 4 m)).size = 4 := by rw [bs_size]; simp [bigB_length]
  have hz3 : (bs (List.replicate 48 (0 : UInt8))).size = 48 := by rw [bs_size]; simp
  have hz4 : (bs (le4 u)).size = 4 := rfl
  have hpre : bs (bigB 4 1297043028) ++ bs (bigB 4 m) ++ bs (le4 u) ++ bs (List.replicate 48 0) = bs (preL m u) := by rw [bs_append, bs_append, bs_append]; rfl
  have hcv := fun W : World => run_string_new (P := Tryz.prog) 34 9 5 Tryz.underlying34 Tryz.underlying5 Tryz.underlying9 W (le4 u) 4 rfl 5
  have hle : (le4 u).map bv = [.int .u8 ((u : Int) % 256), .int .u8 ((u : Int) / 256 % 256), .int .u8 ((u : Int) / 65536 % 256), .int .u8 ((u : Int) / 16777216)] := by
    simp only [le4, List.map, bv, UInt8.toNat_ofNat']
    have e4 : ((u / 16777216 % 2 ^ 8 : Nat) : Int) = (u : Int) / 16777216 := by omega
    rw [e4]
    rfl
  rw [hle] at hcv
  clear hle
  have HNO := Lib.hid hno; have HSE := Lib.hid hse; have HP := Lib.hid hpre; clear hno hse hpre
  have hdef : headL m u = sealL (preL m u) := rfl
  rw [hdef]
  generalize bs (bigB 4 1297043028) = S1 at *
  generalize bs (bigB 4 m) = S2 at *
  generalize bs (List.replicate 48 (0 : UInt8)) = S3 at *
  generalize bs (le4 u) = S4 at *
  rw [← HP.out] at HSE
  go_enter Tryz.func72, Tryz.ntmps72
  go_wp2_with fail
  refine HN1.out.mono ?_
  rintro e w1 ⟨rfl, b1⟩
  have B1 := Lib.hid b1; clear b1 HN1
  go_wp2_with fail
  refine (HN2.out _).mono ?_
  rintro e w2 ⟨rfl, b2⟩
  have B2 := Lib.hid (B1.out.trans (b2.mono B1.out.size)); clear b2 HN2 B1
  have hcv2 := hcv w2
  clear hcv
  go_wp2_with fail
  refine (HNO.out _).mono ?_
  rintro e w3 ⟨rfl, b3⟩
  have B3 := Lib.hid ((B2.out.alloc B2.out.size (.cells #[.int .u8 ((u : Int) % 256), .int .u8 ((u : Int) / 256 % 256), .int .u8 ((u : Int) / 65536 % 256), .int .u8 ((u : Int) / 16777216)] 5)).trans (b3.mono (Nat.le_trans B2.out.size (by simp)))); clear b3 HNO hcv2
  go_wp2_with fail
  refine (HSE.out _).mono ?_
  rintro e w4 ⟨rfl, b4⟩
  have B4 := Lib.hid (B3.out.trans (b4.mono B3.out.size)); clear b4 HSE
  go_wp2
  go_ret
  exact ⟨rfl, B4.out⟩

/-- Write of a whole sector that is there. -/
theorem rstep_any (h : RkS w M b n s) (k : Nat) (kI : Int) (hkI : kI = k) (hk : k < n) (l : List UInt8) (hl : l.length = 64) (hp : s.ws.length ≤ 1000000) :
    Calls Tryz.prog 20 #[.pointer (some ⟨b, 0, none⟩), .int .i64 kI, .string (bs l)] w fun e w' => e = .returned (.int .i64 (powE s.calls)) ∧ RDid w M b n (s.step (.wr ⟨k, l⟩)) w' := by
  subst hkI
  have hw := rkwrite_any h k l hp
  have hc : (0 ≤ (k : Int) ∧ (k : Int) < n) ∧ l.length = 64 := ⟨by omega, hl⟩
  refine hw.mono ?_
  rintro e w' ⟨rfl, D', h1, h2, h3⟩
  unfold writeE
  unfold writeW writeC at h1
  rw [if_pos hc] at h1 ⊢
  refine ⟨rfl, D', ?_, h2, h3⟩
  unfold DS.step
  by_cases h0 : s.calls = 0
  · rw [if_neg (by simp [h0])] at h1
    rw [if_pos h0]
    rw [show less s.calls = s.calls by rw [h0]; rfl] at h1
    exact h1
  · rw [if_pos ⟨hc, h0⟩] at h1
    rw [if_neg h0]
    exact h1

theorem rsyncs_any (h : RkS w M b n s) (hp : s.ws.length ≤ 1000000) :
    Calls Tryz.prog 96 #[.pointer (some ⟨b, 0, none⟩)] w fun e w' => e = .returned (.int .i64 (powE s.calls)) ∧ RDid w M b n (s.step .sync) w' := by
  refine (rksync_any h hp).mono ?_
  rintro e w' ⟨rfl, h1, h2⟩
  refine ⟨rfl, M, ?_, fun _ h => .inl h, h2⟩
  unfold DS.step
  by_cases h0 : s.calls = 0
  · rw [if_pos h0, if_pos h0, show less s.calls = s.calls by rw [h0]; rfl] at h1
    rw [if_pos h0]; exact h1
  · rw [if_neg h0, if_neg h0] at h1
    rw [if_neg h0]; exact h1

set_option maxHeartbeats 1000000 in
theorem rlay_any (h : RkS w M b n s) (k : Nat) (kI : Int) (hkI : kI = k) (l : List UInt8) (m : Nat) (hm : l.length = 64 * m) (hkn : k + m ≤ n) (hp : s.ws.length + m ≤ 1000000) :
    Calls Tryz.prog 95 #[.pointer (some ⟨b, 0, none⟩), .int .i64 kI, .string (bs l)] w fun e w' => e = .returned (.int .i64 (DS.run (secs k l) s).2) ∧ RDid w M b n (DS.run (secs k l) s).1 w' := by
  subst hkI
  obtain ⟨hn1, hn2, _⟩ := h.n1
  have hst : (bs l).size = 64 * m := hm
  have H := Lib.hid h; clear h
  go_enter Tryz.func95, Tryz.ntmps95
  go_wp2
  go_loopg [7] m (fun q c wr => ∃ (i : Nat) (s' : DS), q = m - i ∧ i ≤ m ∧ c = .int .i64 (64 * (i : Int)) ∧ Hid (RDid w M b n s' wr) ∧ Hid (DS.run (secs k l) s = DS.run ((secs k l).drop i) s') ∧ Hid (s'.ws.length ≤ s.ws.length + i))
  case atStart => exact ⟨0, s, rfl, by omega, rfl, Lib.hid (RDid.refl H.out), Lib.hid rfl, Lib.hid (by omega)⟩
  case round =>
    obtain ⟨i, s', hq, hi, rfl, hd, hrun, hws⟩ := hrel
    have HQ := Lib.hid hq; clear hq
    by_cases hlt : i < m
    · have hsl : (sec l i).length = 64 := sec_length hm hlt
      obtain ⟨M', hd1, hd2, hd3⟩ := hd.out
      have hq : (64 * (i : Int)).tdiv 64 = i := Int.mul_tdiv_cancel_left _ (by decide)
      have hcall := rstep_any hd1 (k + i) ((k : Int) + (i : Int)) (by omega) (by omega) (sec l i) hsl (by have := hws.out; omega)
      have hcut : (bs l).extract (64 * (i : Int)).toNat (64 * (i : Int) + 64).toNat = bs (sec l i) := by
        rw [bs_cut]
        unfold sec
        rw [List.drop_take, show (64 * (i : Int)).toNat = 64 * i by omega, show (64 * (i : Int) + 64).toNat - 64 * i = 64 by omega]
      have hdr := secs_drop k l i (by omega)
      have HC := Lib.hid hcall; have HDR := Lib.hid hdr; have HD1 := Lib.hid hd1; have HD2 := Lib.hid hd2; have HD3 := Lib.hid hd3; clear hcall hdr hd1 hd2 hd3 hsl
      go_wp2_with fail
      refine HC.out.mono ?_
      rintro e w2 ⟨rfl, hd2⟩
      have hdd : RDid w M b n (s'.step (.wr ⟨k + i, sec l i⟩)) w2 := by
        obtain ⟨M2, g1, g2, g3⟩ := hd2
        have := HD3.out.size
        exact ⟨M2, g1, fun x hx => (g2 x hx).elim (HD2.out x) (fun h => .inr (by omega)), HD3.out.trans g3 (fun x hx h => (HD2.out x h).elim id (fun h => by omega))⟩
      have HDD := Lib.hid hdd; clear hdd hd2 HC hcut hq
      by_cases hc : s'.calls = 0
      · have er : DS.run (secs k l) s = (s', 20) := by rw [hrun.out, HDR.out, run_one, if_pos hc]
        have e2 : s'.step (.wr ⟨k + i, sec l i⟩) = s' := by unfold DS.step; rw [if_pos hc]
        have e3 : powE s'.calls = 20 := by unfold powE; rw [if_pos hc]
        rw [e2] at HDD
        rw [e3]
        have ER := Lib.hid er; clear er e2 e3 hc
        go_wp2
        go_ret
        rw [ER.out]
        exact ⟨rfl, HDD.out⟩
      · have er : DS.run (secs k l) s = DS.run ((secs k l).drop (i + 1)) (s'.step (.wr ⟨k + i, sec l i⟩)) := by rw [hrun.out, HDR.out, run_one, if_neg hc]
        have e2 : (s'.step (.wr ⟨k + i, sec l i⟩)).ws.length = s'.ws.length + 1 := by unfold DS.step; rw [if_neg hc]; simp [DS.app]
        have e3 : powE s'.calls = 0 := by unfold powE; rw [if_neg hc]
        rw [e3]
        have ER := Lib.hid er; have E2 := Lib.hid e2; clear er e2 e3 hc
        go_wp2
        go_roundg (m - (i + 1))
        case measure => have := HQ.out; omega
        case rel => exact ⟨i + 1, _, rfl, by omega, by go_num, HDD, ER, Lib.hid (by have := hws.out; rw [E2.out]; omega)⟩
    · obtain rfl : i = m := by omega
      have er : DS.run (secs k l) s = (s', 0) := by
        rw [hrun.out, List.drop_eq_nil_of_le (by rw [secs_length]; omega)]; rfl
      have ER := Lib.hid er; clear er
      go_wp2
      go_ret
      rw [ER.out]
      exact ⟨rfl, hd.out⟩

set_option maxHeartbeats 400000 in
theorem rboth_any (h : RkS w M b n s) (k : Nat) (kI : Int) (hkI : kI = k) (l : List UInt8) (m : Nat) (hm : l.length = 64 * m) (hkn : k + m ≤ n) (hp : s.ws.length + m ≤ 1000000) :
    Calls Tryz.prog 71 #[.pointer (some ⟨b, 0, none⟩), .int .i64 kI, .string (bs l)] w fun e w' => e = .returned (.int .i64 (DS.run (blk k l) s).2) ∧ RDid w M b n (DS.run (blk k l) s).1 w' := by
  subst hkI
  have hl := rlay_any h k k rfl l m hm hkn hp
  have hlen := DS.run_len (secs k l) s
  have hrun : DS.run (blk k l) s = if (DS.run (secs k l) s).2 = 0 then DS.run [.sync] (DS.run (secs k l) s).1 else DS.run (secs k l) s := DS.run_append _ _ _
  rw [secs_length, hm] at hlen
  rw [hrun]
  have herr := DS.run_err (secs k l) s
  clear hrun
  generalize DS.run (secs k l) s = r at *
  obtain ⟨s1, e1⟩ := r
  simp only at hlen herr hl ⊢
  have HL := Lib.hid hl; clear hl h hm
  rcases herr with rfl | rfl
  · rw [if_pos rfl, run_sync]
    go_enter Tryz.func71, Tryz.ntmps71
    go_wp2_with fail
    refine HL.out.mono ?_
    rintro e w1 ⟨rfl, hd⟩
    obtain ⟨M1, g1, g2, g3⟩ := hd
    have HS := Lib.hid (rsyncs_any g1 (by omega)); have HD : Hid (RDid w M b n s1 w1) := Lib.hid ⟨M1, g1, g2, g3⟩
    have G2 := Lib.hid g2; have G3 := Lib.hid g3; clear g1 g2 g3 HL
    go_wp2_with fail
    refine HS.out.mono ?_
    rintro e w2 ⟨rfl, hd2⟩
    have hdd : RDid w M b n (s1.step .sync) w2 := by
      obtain ⟨M2, g1, g2, g3⟩ := hd2
      have := G3.out.size
      exact ⟨M2, g1, fun x hx => (g2 x hx).elim (G2.out x) (fun h => .inr (by omega)), G3.out.trans g3 (fun x hx h => (G2.out x h).elim id (fun h => by omega))⟩
    have HDD := Lib.hid hdd; clear hdd hd2 HS
    go_wp2
    go_ret
    exact ⟨rfl, HDD.out⟩
  · rw [if_neg (by omega)]
    go_enter Tryz.func71, Tryz.ntmps71
    go_wp2_with fail
    refine HL.out.mono ?_
    rintro e w1 ⟨rfl, hd⟩
    have HD := Lib.hid hd; clear hd HL
    go_wp2
    go_ret
    exact ⟨rfl, HD.out⟩

end

end Go.Proofs.YtgefbolnfenfcaaGreat
