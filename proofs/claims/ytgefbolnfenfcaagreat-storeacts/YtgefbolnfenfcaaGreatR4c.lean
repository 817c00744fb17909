/-
  CONTRACTS of the reference of layer 4: Recover, Get.
-/
import Derived.Test.YtgefbolnfenfcaaGreatR4b
import Derived.Test.YtgefbolnfenfcaaGreatJr
namespace Go.Proofs.YtgefbolnfenfcaaGreat
open Go.RowKit Go.Mk

theorem below_kept {w w' : World} (h : Kept (fun _ => False) w w') : Below w.heap.size w w' := h.below (Nat.le_refl _) (fun _ h => h.elim)

/-- The checksum of a header, byte for byte. -/
theorem hsum_at {hd : List UInt8} (h : hd.length = 64) (h8 : 8 < (bs hd).size) (h9 : 9 < (bs hd).size) (hA : 10 < (bs hd).size) (hB : 11 < (bs hd).size) :
    hsum hd = (bs hd)[8].toNat + 256 * (bs hd)[9].toNat + 65536 * (bs hd)[10].toNat + 16777216 * (bs hd)[11].toNat := by
  have e : (hd.drop 8).take 4 = [hd[8], hd[9], hd[10], hd[11]] := by
    apply List.ext_getElem
    · simp [h]
    · intro i h1 h2
      simp only [List.length_cons, List.length_nil] at h2
      rw [List.getElem_take, List.getElem_drop]
      match i, h2 with
      | 0, _ => rfl
      | 1, _ => rfl
      | 2, _ => rfl
      | 3, _ => rfl
  unfold hsum
  rw [e]
  show _ = hd[8].toNat + 256 * hd[9].toNat + 65536 * hd[10].toNat + 16777216 * hd[11].toNat
  simp only [leN]
  omega

section
variable {w : World} {M : Nat → Prop} {b n : Nat} {s : DS}

set_option maxHeartbeats 1000000 in
theorem rrec_any (h : RkS w M b n s) (hn : n ≤ 10000) (hp : s.ws.length ≤ 700000) :
    Calls Tryz.prog 42 #[.pointer (some ⟨b, 0, none⟩)] w fun e w' => e = .returned (.int .i64 (jrec n s).2) ∧ RDid w M b n (jrec n s).1 w' := by
  obtain ⟨hn1, hn2, hbl, hok⟩ := h.n1
  have ha : areaN n ≤ 5000 := by unfold areaN; omega
  have c0 := h.c0
  have hs : (bs s.base).size = 64 * n := hbl
  have hq : (64 * (n : Int)).tdiv 64 = n := Int.mul_tdiv_cancel_left _ (by decide)
  have hr := rroom_any n w
  rw [roomI_nat n hn1 hn2] at hr
  by_cases h0 : areaN n = 0
  · have er : jrec n s = (s, 2) := by unfold jrec; rw [if_pos h0]
    rw [if_pos h0] at hr
    have HR := Lib.hid hr; have JR := Lib.hid (RDid.refl h); clear hr h h0 hbl
    rw [er]
    clear er
    go_enter Tryz.func42, Tryz.ntmps42
    go_wp2_with fail
    refine HR.out.mono ?_
    rintro e w1 ⟨rfl, rfl⟩
    go_wp2
    go_ret
    exact ⟨rfl, JR.out⟩
  · rw [if_neg h0] at hr
    have hb0 : decide (64 * (areaN n : Int) - 12 < 0) = false := by simp; omega
    have hll := areaN_le h0
    have er : jrec n s = s.run (recOps n (image s.base s.ws)) := by unfold jrec; rw [if_neg h0]
    have HIM := Lib.hid (rkimage_any h (by omega))
    have hil : (image s.base s.ws).length = 64 * n := image_length s.ws s.base hbl hok
    have hjl := jrL_length (n := n) hil
    have hhl : (hdL (image s.base s.ws)).length = 64 := by unfold hdL; rw [List.length_take]; omega
    have hcj : (bs (image s.base s.ws)).extract 64 (64 + 64 * areaN n) = bs (jrL n (image s.base s.ws)) := by
      rw [bs_cut, List.drop_take, show 64 + 64 * areaN n - 64 = 64 * areaN n by omega]; rfl
    have hch : (bs (image s.base s.ws)).extract 0 64 = bs (hdL (image s.base s.ws)) := bs_take' _ _
    have hsi : (bs (image s.base s.ws)).size = 64 * n := hil
    unfold recOps at er
    generalize jrL n (image s.base s.ws) = J at *
    generalize hdL (image s.base s.ws) = hd at *
    generalize bs (image s.base s.ws) = IM at *
    have hsu := fun W : World => rsum2_any J W (by omega)
    have hult := sumN_lt J
    have HHO := Lib.hid (fun (W : World) (hW : RkS W M b n s) => rhome_any hW J hjl h0 (by omega))
    have hne := fun v => headL_ne (hsum hd) v
    generalize sumN J = u at *
    have HR := Lib.hid hr; have H := Lib.hid h; have HSU := Lib.hid hsu; have HA := Lib.hid (fun (W : World) (hW : RkS W M b n s) => rarea_any hW)
    have h64 : (bs hd).size = 64 := hhl
    clear hr h hsu hbl hok hil
    go_enter Tryz.func42, Tryz.ntmps42
    go_wp2_with fail
    refine HR.out.mono ?_
    rintro e w1 ⟨rfl, rfl⟩
    go_wp2_with fail
    refine HIM.out.mono ?_
    rintro e w2 ⟨rfl, k2⟩
    have at2 := (RAt.refl H.out).fresh (below_kept k2)
    have HA2 := Lib.hid (HA.out _ at2.rk); have HH2 := Lib.hid (rhead_any 1 u w2 (by omega) hult)
    have AT2 := Lib.hid at2
    clear at2 k2 HA HR HIM c0
    go_wp2_with fail
    refine HA2.out.mono ?_
    rintro e w3 ⟨rfl, rfl⟩
    go_wp2_with fail
    refine (HSU.out _).mono ?_
    rintro e w3 ⟨rfl, rfl⟩
    go_wp2_with fail
    refine HH2.out.mono ?_
    rintro e w4 ⟨rfl, b4⟩
    have at4 := AT2.out.fresh b4
    have HHO4 := Lib.hid (HHO.out _ at4.rk); have AT4 := Lib.hid at4
    clear at4 b4 AT2 HH2 HA2 hcj hch hsi
    by_cases hq1 : hd = headL 1 u
    · rw [if_neg (fun e => hne u (by rw [← e, hq1])), if_pos hq1] at er
      have hqb : ((bs hd).toList == (bs (headL 1 u)).toList) = true := by rw [bs_eq]; simp [hq1]
      have ER := Lib.hid er
      clear er hq1 hne
      go_wp2_with fail
      refine HHO4.out.mono ?_
      rintro e w5 ⟨rfl, hd5⟩
      have HD := Lib.hid (AT4.out.comb hd5); clear hd5 AT4 HHO4
      go_wp2
      go_ret
      rw [ER.out]
      exact ⟨rfl, HD.out⟩
    · have hqb : ((bs hd).toList == (bs (headL 1 u)).toList) = false := by rw [bs_eq]; simp [hq1]
      rw [if_neg hq1] at er
      have hsl := hsum_lt hd
      have hat := hsum_at hhl (by omega) (by omega) (by omega) (by omega)
      have HAT := Lib.hid hat; have ER := Lib.hid er
      clear er hq1 hne HHO4 hat
      go_upto_region 8 with fail
      go_cut [6] (fun v wx => v = .int .u32 (hsum hd) ∧ Hid (RAt w M b n s wx M))
      case first =>
        have HD4 : Hid (RAt w M b n s w4.drew M) := Lib.hid (AT4.out.fresh ((Below.refl _ _).drew))
        clear hqb
        go_wp2_with fail
        go_region
        all_goals go_wp2_with fail
        all_goals go_meet
        all_goals (
          have x8 := (bs hd)[8].toNat_lt
          have x9 := (bs hd)[9].toNat_lt
          have xA := (bs hd)[10].toNat_lt
          have xB := (bs hd)[11].toNat_lt
          refine ⟨congrArg _ ?_, HD4⟩
          rw [HAT.out]
          omega)
      case rest =>
        obtain ⟨rfl, hat4⟩ := hcut
        have HH5 := Lib.hid (rhead_any 0 (hsum hd) wc (by omega) hsl)
        clear AT4 hqb HAT
        generalize hsum hd = hu at *
        go_wp2_with fail
        refine HH5.out.mono ?_
        rintro e w5 ⟨rfl, b5⟩
        have at5 := hat4.out.fresh b5
        have AT5 := Lib.hid at5; clear b5 HH5 at5 hat4
        by_cases hq0 : hd = headL 0 hu
        · have hqb : ((bs hd).toList == (bs (headL 0 hu)).toList) = true := by rw [bs_eq]; simp [← hq0]
          have er2 : jrec n s = (s, 0) := by rw [ER.out, if_pos hq0]; rfl
          have ER2 := Lib.hid er2; clear er2 hq0
          go_wp2
          go_ret
          rw [ER2.out]
          exact ⟨rfl, AT5.out.did⟩
        · have hqb : ((bs hd).toList == (bs (headL 0 hu)).toList) = false := by rw [bs_eq]; simp [hq0]
          have er2 : jrec n s = DS.run (blk 0 (headL 0 0)) s := by rw [ER.out, if_neg hq0]
          have HH6 := Lib.hid (rhead_any 0 0 w5 (by omega) (by omega))
          have ER2 := Lib.hid er2; clear er2 hq0
          go_wp2_with fail
          refine HH6.out.mono ?_
          rintro e w6 ⟨rfl, b6⟩
          have at6 := AT5.out.fresh b6
          have HB6 := Lib.hid (rboth_any at6.rk 0 0 rfl (headL 0 0) 1 (headL_length 0 0) (by omega) (by omega)); have AT6 := Lib.hid at6
          clear at6 b6 AT5 HH6
          go_wp2_with fail
          refine HB6.out.mono ?_
          rintro e w7 ⟨rfl, hd7⟩
          have HD := Lib.hid (AT6.out.comb hd7); clear hd7 AT6 HB6
          go_wp2
          go_ret
          rw [ER2.out]
          exact ⟨rfl, HD.out⟩

set_option maxHeartbeats 1000000 in
theorem rget_any (h : RkS w M b n s) (hn : n ≤ 10000) (hp : s.ws.length ≤ 700000) :
    Calls Tryz.prog 43 #[.pointer (some ⟨b, 0, none⟩)] w fun e w' => e = .returned (.tuple #[.string (bs (jget n (image s.base s.ws)).1), .int .i64 (jget n (image s.base s.ws)).2]) ∧ Below w.heap.size w w' := by
  obtain ⟨hn1, hn2, hbl, hok⟩ := h.n1
  have ha : areaN n ≤ 5000 := by unfold areaN; omega
  have c0 := h.c0
  have hs : (bs s.base).size = 64 * n := hbl
  have hq : (64 * (n : Int)).tdiv 64 = n := Int.mul_tdiv_cancel_left _ (by decide)
  have hr := rroom_any n w
  rw [roomI_nat n hn1 hn2] at hr
  by_cases h0 : areaN n = 0
  · have er : jget n (image s.base s.ws) = ([], 2) := by unfold jget; rw [if_pos h0]
    rw [if_pos h0] at hr
    have HR := Lib.hid hr; clear hr h h0 hbl
    rw [er]
    clear er
    go_enter Tryz.func43, Tryz.ntmps43
    go_wp2_with fail
    refine HR.out.mono ?_
    rintro e w1 ⟨rfl, rfl⟩
    go_wp2
    go_ret2
    exact ⟨rfl, Below.refl _ _⟩
  · rw [if_neg h0] at hr
    have hb0 : decide (64 * (areaN n : Int) - 12 < 0) = false := by simp; omega
    have hll := areaN_le h0
    have hil : (image s.base s.ws).length = 64 * n := image_length s.ws s.base hbl hok
    have HIM := Lib.hid (rkimage_any h (by omega))
    have hcd : (bs (image s.base s.ws)).extract (64 + 64 * areaN n) (bs (image s.base s.ws)).size = bs ((image s.base s.ws).drop (64 + 64 * areaN n)) := bs_drop _ _
    have hsi : (bs (image s.base s.ws)).size = 64 * n := hil
    rw [hsi] at hcd
    have er : jget n (image s.base s.ws) = if 64 * areaN n < 12 + natB (((image s.base s.ws).drop (64 + 64 * areaN n)).take 4) then ([], 11) else ((((image s.base s.ws).drop (64 + 64 * areaN n)).drop 4).take (natB (((image s.base s.ws).drop (64 + 64 * areaN n)).take 4)), 0) := by
      unfold jget hmL
      rw [if_neg h0, List.take_take, Nat.min_eq_left (by omega)]
      by_cases hc : 64 * areaN n < 12 + natB (((image s.base s.ws).drop (64 + 64 * areaN n)).take 4)
      · rw [if_pos hc, if_pos hc]
      · rw [if_neg hc, if_neg hc, List.drop_take, List.take_take, Nat.min_eq_left (by omega)]
    have hLl : ((image s.base s.ws).drop (64 + 64 * areaN n)).length = 64 * n - (64 + 64 * areaN n) := by rw [List.length_drop, hil]
    generalize (image s.base s.ws).drop (64 + 64 * areaN n) = L at *
    generalize bs (image s.base s.ws) = IM at *
    have hn0 : (⟨L, 0⟩ : RS).num = if 2147483647 < natB (L.take 4) then (⟨L, 11⟩, 0) else (⟨L.drop 4, 0⟩, (natB (L.take 4) : Int)) := by
      have e1 : ¬ L.length < 4 := by omega
      unfold RS.num
      simp only [ne_eq, not_true_eq_false, if_false, if_neg e1]
    generalize hk : natB (L.take 4) = k at *
    have HR := Lib.hid hr; have H := Lib.hid h; have HA := Lib.hid (fun (W : World) (hW : RkS W M b n s) => rarea_any hW); have HNU := Lib.hid hn0; have ER := Lib.hid er; have HLL := Lib.hid hLl
    clear hr h hbl hok hil hk hn0 er hLl
    go_enter Tryz.func43, Tryz.ntmps43
    go_wp2_with fail
    refine HR.out.mono ?_
    rintro e w1 ⟨rfl, rfl⟩
    go_wp2_with fail
    refine HIM.out.mono ?_
    rintro e w2 ⟨rfl, k2⟩
    have at2 := (RAt.refl H.out).fresh (below_kept k2)
    have HA2 := Lib.hid (HA.out _ at2.rk); have B2 := Lib.hid (below_kept k2)
    clear at2 k2 HA HR HIM c0
    go_wp2_with fail
    refine HA2.out.mono ?_
    rintro e w3 ⟨rfl, rfl⟩
    go_wp2_with fail
    have mr : Mr (w2.alloc (.cells #[.string (bs L), .int .i64 0] 129)) w2.heap.size ⟨L, 0⟩ := ⟨by simp, by simp, by simp, by simp⟩
    have hnu := mnum_any _ _ _ mr (by simp only [HLL.out]; omega)
    rw [HNU.out] at hnu
    have B3 := Lib.hid (B2.out.alloc B2.out.size (.cells #[.string (bs L), .int .i64 0] 129))
    clear mr HA2 hcd hsi
    by_cases hbig : 2147483647 < k
    · rw [if_pos hbig] at hnu
      have er : jget n (image s.base s.ws) = ([], 11) := by rw [ER.out, if_pos (by omega)]
      have ER2 := Lib.hid er; have HNU2 := Lib.hid hnu; clear hnu er hbig
      refine HNU2.out.mono ?_
      rintro e w4 ⟨rfl, mr4, k4⟩
      have c1 := mr4.c1
      have B4 := Lib.hid (B3.out.trans (k4.below B3.out.size (fun k e => by have := B2.out.size; omega)))
      clear mr4 k4 HNU2
      go_wp2
      go_ret2
      rw [ER2.out]
      exact ⟨rfl, B4.out⟩
    · rw [if_neg hbig] at hnu
      have HNU2 := Lib.hid hnu; clear hnu
      refine HNU2.out.mono ?_
      rintro e w4 ⟨rfl, mr4, k4⟩
      have d0 := mr4.c0
      have d1 := mr4.c1
      have B4 := Lib.hid (B3.out.trans (k4.below B3.out.size (fun k e => by have := B2.out.size; omega)))
      clear mr4 k4 HNU2
      by_cases hc : 64 * areaN n < 12 + k
      · have er : jget n (image s.base s.ws) = ([], 11) := by rw [ER.out, if_pos hc]
        have hb : decide (64 * (areaN n : Int) - 12 < (k : Int)) = true := by simp; omega
        have ER2 := Lib.hid er; clear er hc
        go_wp2
        go_ret2
        rw [ER2.out]
        exact ⟨rfl, B4.out⟩
      · have er : jget n (image s.base s.ws) = ((L.drop 4).take k, 0) := by rw [ER.out, if_neg hc]
        have hb : decide (64 * (areaN n : Int) - 12 < (k : Int)) = false := by simp; omega
        have ht := bs_take' (L.drop 4) k
        have hsz : (bs (L.drop 4)).size = 64 * n - (64 + 64 * areaN n) - 4 := by rw [bs_size, List.length_drop, HLL.out]
        have hle : k ≤ (bs (L.drop 4)).size := by omega
        have ER2 := Lib.hid er; have HT := Lib.hid ht; clear er hc ht hsz
        simp only at d0
        generalize bs (L.drop 4) = S at *
        go_wp2
        go_ret2
        rw [ER2.out]
        exact ⟨by rw [← HT.out]; rfl, B4.out⟩

end

end Go.Proofs.YtgefbolnfenfcaaGreat
