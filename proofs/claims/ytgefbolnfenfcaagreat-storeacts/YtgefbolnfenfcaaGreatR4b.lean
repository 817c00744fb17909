/-
  CONTRACTS of the reference of layer 4: home, Format, Put, Recover, Get.
-/
import Derived.Test.YtgefbolnfenfcaaGreatR4
namespace Go.Proofs.YtgefbolnfenfcaaGreat
open Go.RowKit Go.Mk

section
variable {w : World} {M : Nat → Prop} {b n : Nat} {s : DS}

theorem RDid.comb {w1 w2 : World} {M1 : Nat → Prop} {s2 : DS} (g2 : ∀ i, M1 i → M i ∨ w.heap.size ≤ i) (g3 : Kept M w w1) (h : RDid w1 M1 b n s2 w2) : RDid w M b n s2 w2 := by
  obtain ⟨M2, k1, k2, k3⟩ := h
  have := g3.size
  exact ⟨M2, k1, fun x hx => (k2 x hx).elim (g2 x) (fun h => .inr (by omega)), g3.trans k3 (fun x hx h => (g2 x h).elim id (fun h => by omega))⟩
theorem RDid.fresh {w1 w2 : World} {s2 : DS} (h : RDid w M b n s2 w1) (hb : Below w1.heap.size w1 w2) : RDid w M b n s2 w2 := by
  obtain ⟨M2, k1, k2, k3⟩ := h
  exact ⟨M2, Rk.fresh k1 hb, k2, k3.trans (kob (S := fun _ => False) hb (Nat.le_refl _)) (fun _ _ h => h.elim)⟩

/-- A state of the reference's disk that comes behind w's. -/
structure RAt (w : World) (M : Nat → Prop) (b n : Nat) (s : DS) (w1 : World) (M1 : Nat → Prop) : Prop where
  rk : RkS w1 M1 b n s
  g2 : ∀ i, M1 i → M i ∨ w.heap.size ≤ i
  g3 : Kept M w w1
theorem RAt.of {w1 : World} {s1 : DS} (h : RDid w M b n s1 w1) : ∃ M1, RAt w M b n s1 w1 M1 := by
  obtain ⟨M1, h1, h2, h3⟩ := h
  exact ⟨M1, h1, h2, h3⟩
theorem RAt.did {w1 : World} {M1 : Nat → Prop} (h : RAt w M b n s w1 M1) : RDid w M b n s w1 := ⟨M1, h.rk, h.g2, h.g3⟩
theorem RAt.comb {w1 w2 : World} {M1 : Nat → Prop} {s2 : DS} (h : RAt w M b n s w1 M1) (k : RDid w1 M1 b n s2 w2) : RDid w M b n s2 w2 := RDid.comb h.g2 h.g3 k
theorem RAt.fresh {w1 w2 : World} {M1 : Nat → Prop} (h : RAt w M b n s w1 M1) (hb : Below w1.heap.size w1 w2) : RAt w M b n s w2 M1 :=
  ⟨Rk.fresh h.rk hb, h.g2, h.g3.trans (kob (S := fun _ => False) hb (Nat.le_refl _)) (fun _ _ h => h.elim)⟩
theorem RAt.refl (h : RkS w M b n s) : RAt w M b n s w M := ⟨h, fun _ h => .inl h, Kept.refl _ _⟩

theorem blk_len {k : Nat} {l : List UInt8} {m : Nat} (hm : l.length = 64 * m) (s : DS) : (DS.run (blk k l) s).1.ws.length ≤ s.ws.length + m + 1 := by
  have := DS.run_len (blk k l) s
  rw [blk_length, hm] at this
  omega

set_option maxHeartbeats 1000000 in
theorem rhome_any (h : RkS w M b n s) (F : List UInt8) (hF : F.length = 64 * areaN n) (h0 : areaN n ≠ 0) (hp : s.ws.length ≤ 800000) :
    Calls Tryz.prog 74 #[.pointer (some ⟨b, 0, none⟩), .string (bs F)] w fun e w' => e = .returned (.int .i64 (DS.run (homeOps n F) s).2) ∧ RDid w M b n (DS.run (homeOps n F) s).1 w' := by
  obtain ⟨hn1, hn2, _⟩ := h.n1
  have ha : areaN n ≤ 32767 := by unfold areaN; omega
  have hll := areaN_le h0
  have hrun : DS.run (homeOps n F) s = if (DS.run (blk (1 + areaN n) F) s).2 = 0 then DS.run (blk 0 (headL 0 (sumN F))) (DS.run (blk (1 + areaN n) F) s).1 else DS.run (blk (1 + areaN n) F) s := DS.run_append _ _ _
  rw [hrun]
  clear hrun
  have HA := Lib.hid (rarea_any h)
  have hbo := rboth_any h (1 + areaN n) (1 + (areaN n : Int)) (by omega) F (areaN n) hF (by omega) (by omega)
  have hbl := blk_len (k := 1 + areaN n) hF s
  have herr := DS.run_err (blk (1 + areaN n) F) s
  have hsu := fun W : World => rsum2_any F W (by omega)
  have hult := sumN_lt F
  generalize sumN F = u at *
  generalize DS.run (blk (1 + areaN n) F) s = r at *
  obtain ⟨s1, e1⟩ := r
  simp only at hbl herr hbo ⊢
  have HB := Lib.hid hbo; have HSU := Lib.hid hsu; clear hbo hsu h hF
  rcases herr with rfl | rfl
  · rw [if_pos rfl]
    go_enter Tryz.func74, Tryz.ntmps74
    go_wp2_with fail
    refine HA.out.mono ?_
    rintro e w1 ⟨rfl, rfl⟩
    go_wp2_with fail
    refine HB.out.mono ?_
    rintro e w1 ⟨rfl, hd⟩
    obtain ⟨M1, at1⟩ := RAt.of hd
    have HH := Lib.hid (rhead_any 0 u w1 (by omega) hult)
    have AT1 := Lib.hid at1; clear at1 hd HB HA
    go_wp2_with fail
    refine (HSU.out _).mono ?_
    rintro e w2 ⟨rfl, rfl⟩
    go_wp2_with fail
    refine HH.out.mono ?_
    rintro e w2 ⟨rfl, b2⟩
    have at2 := AT1.out.fresh b2
    have HB2 := Lib.hid (rboth_any at2.rk 0 0 rfl (headL 0 u) 1 (headL_length 0 u) (by omega) (by omega))
    have AT2 := Lib.hid at2; clear at2 b2 AT1 HH HSU
    go_wp2_with fail
    refine HB2.out.mono ?_
    rintro e w3 ⟨rfl, hd⟩
    have HD := Lib.hid (AT2.out.comb hd); clear hd AT2 HB2
    go_wp2
    go_ret
    exact ⟨rfl, HD.out⟩
  · rw [if_neg (by omega)]
    go_enter Tryz.func74, Tryz.ntmps74
    go_wp2_with fail
    refine HA.out.mono ?_
    rintro e w1 ⟨rfl, rfl⟩
    go_wp2_with fail
    refine HB.out.mono ?_
    rintro e w1 ⟨rfl, hd⟩
    have HD := Lib.hid hd; clear hd HB HA
    go_wp2
    go_ret
    exact ⟨rfl, HD.out⟩

set_option maxHeartbeats 1000000 in
theorem rformat_any (h : RkS w M b n s) (t : List UInt8) (ht : t.length ≤ 1099511627776) (hn : n ≤ 10000) (hp : s.ws.length ≤ 800000) :
    Calls Tryz.prog 46 #[.pointer (some ⟨b, 0, none⟩), .string (bs t)] w fun e w' => e = .returned (.int .i64 (jformat n t s).2) ∧ RDid w M b n (jformat n t s).1 w' := by
  have ha : areaN n ≤ 5000 := by unfold areaN; omega
  have HFI := Lib.hid (rfits_any h t ht)
  by_cases hf : jfits n t = 0
  · obtain ⟨h0, htt⟩ := jfits_zero.1 hf
    have hll := areaN_le h0
    have hF := formL_length (areaN n) t (by omega)
    have er : jformat n t s = s.run (formatOps n t) := by unfold jformat; rw [if_neg (by simp [hf])]
    have hrun : DS.run (formatOps n t) s = if (DS.run (blk (1 + areaN n) (formL (areaN n) t)) s).2 = 0 then DS.run (blk 0 (headL 0 0)) (DS.run (blk (1 + areaN n) (formL (areaN n) t)) s).1 else DS.run (blk (1 + areaN n) (formL (areaN n) t)) s := DS.run_append _ _ _
    rw [er, hrun]
    rw [hf] at HFI
    clear er hrun hf
    have HA := Lib.hid (rarea_any h)
    have HFO := Lib.hid (rform_any t (areaN n) w (by omega) htt)
    have herr := DS.run_err (blk (1 + areaN n) (formL (areaN n) t)) s
    have hbl := blk_len (k := 1 + areaN n) hF s
    have hbo := fun (W : World) (hW : RkS W M b n s) => rboth_any hW (1 + areaN n) (1 + (areaN n : Int)) (by omega) (formL (areaN n) t) (areaN n) hF (by omega) (by omega)
    generalize DS.run (blk (1 + areaN n) (formL (areaN n) t)) s = r at *
    obtain ⟨s1, e1⟩ := r
    simp only at hbl herr hbo ⊢
    have HB := Lib.hid hbo; have HR := Lib.hid h; clear hbo h hF htt
    generalize bs (formL (areaN n) t) = FS at *
    rcases herr with rfl | rfl
    · rw [if_pos rfl]
      go_enter Tryz.func46, Tryz.ntmps46
      go_wp2_with fail
      refine HFI.out.mono ?_
      rintro e w1 ⟨rfl, rfl⟩
      go_wp2_with fail
      refine HA.out.mono ?_
      rintro e w1 ⟨rfl, rfl⟩
      go_wp2_with fail
      refine HA.out.mono ?_
      rintro e w1 ⟨rfl, rfl⟩
      go_wp2_with fail
      refine HFO.out.mono ?_
      rintro e w2 ⟨rfl, b2⟩
      have at2 := (RAt.refl HR.out).fresh b2
      have HB2 := Lib.hid (HB.out _ at2.rk); have AT2 := Lib.hid at2
      clear at2 b2 HFI HA HFO HB
      go_wp2_with fail
      refine HB2.out.mono ?_
      rintro e w3 ⟨rfl, hd⟩
      obtain ⟨M3, at3⟩ := RAt.of (AT2.out.comb hd)
      have HH := Lib.hid (rhead_any 0 0 w3 (by omega) (by omega)); have AT3 := Lib.hid at3
      clear at3 hd AT2 HB2
      go_wp2_with fail
      refine HH.out.mono ?_
      rintro e w4 ⟨rfl, b4⟩
      have at4 := AT3.out.fresh b4
      have HB4 := Lib.hid (rboth_any at4.rk 0 0 rfl (headL 0 0) 1 (headL_length 0 0) (by omega) (by omega)); have AT4 := Lib.hid at4
      clear at4 b4 AT3 HH
      go_wp2_with fail
      refine HB4.out.mono ?_
      rintro e w5 ⟨rfl, hd⟩
      have HD := Lib.hid (AT4.out.comb hd); clear hd AT4 HB4
      go_wp2
      go_ret
      exact ⟨rfl, HD.out⟩
    · rw [if_neg (by omega)]
      go_enter Tryz.func46, Tryz.ntmps46
      go_wp2_with fail
      refine HFI.out.mono ?_
      rintro e w1 ⟨rfl, rfl⟩
      go_wp2_with fail
      refine HA.out.mono ?_
      rintro e w1 ⟨rfl, rfl⟩
      go_wp2_with fail
      refine HA.out.mono ?_
      rintro e w1 ⟨rfl, rfl⟩
      go_wp2_with fail
      refine HFO.out.mono ?_
      rintro e w2 ⟨rfl, b2⟩
      have at2 := (RAt.refl HR.out).fresh b2
      have HB2 := Lib.hid (HB.out _ at2.rk); have AT2 := Lib.hid at2
      clear at2 b2 HFI HA HFO HB
      go_wp2_with fail
      refine HB2.out.mono ?_
      rintro e w3 ⟨rfl, hd⟩
      have HD := Lib.hid (AT2.out.comb hd); clear hd AT2 HB2
      go_wp2
      go_ret
      exact ⟨rfl, HD.out⟩
  · have er : jformat n t s = (s, jfits n t) := by unfold jformat; rw [if_pos hf]
    have hb : (jfits n t != 0) = true := by simp [hf]
    have JR := Lib.hid (RDid.refl h); clear h
    rw [er]
    clear er hf
    generalize jfits n t = f at *
    go_enter Tryz.func46, Tryz.ntmps46
    go_wp2_with fail
    refine HFI.out.mono ?_
    rintro e w1 ⟨rfl, rfl⟩
    go_wp2
    go_ret
    exact ⟨rfl, JR.out⟩

set_option maxHeartbeats 1000000 in
theorem rput_any (h : RkS w M b n s) (t : List UInt8) (ht : t.length ≤ 1099511627776) (hn : n ≤ 10000) (hp : s.ws.length ≤ 700000) :
    Calls Tryz.prog 34 #[.pointer (some ⟨b, 0, none⟩), .string (bs t)] w fun e w' => e = .returned (.int .i64 (jput n t s).2) ∧ RDid w M b n (jput n t s).1 w' := by
  have ha : areaN n ≤ 5000 := by unfold areaN; omega
  have HFI := Lib.hid (rfits_any h t ht)
  by_cases hf : jfits n t = 0
  · obtain ⟨h0, htt⟩ := jfits_zero.1 hf
    have hll := areaN_le h0
    have hF := formL_length (areaN n) t (by omega)
    have er : jput n t s = s.run (putOps n t) := by unfold jput; rw [if_neg (by simp [hf])]
    rw [hf] at HFI
    have HA := Lib.hid (rarea_any h)
    have HFO := Lib.hid (rform_any t (areaN n) w (by omega) htt)
    unfold putOps at er
    generalize formL (areaN n) t = F at *
    have hsu := fun W : World => rsum2_any F W (by omega)
    have hult := sumN_lt F
    have hrun : ∀ rest, DS.run (blk 1 F ++ rest) s = if (DS.run (blk 1 F) s).2 = 0 then DS.run rest (DS.run (blk 1 F) s).1 else DS.run (blk 1 F) s := fun _ => DS.run_append _ _ _
    rw [hrun] at er
    clear hrun hf
    have herr := DS.run_err (blk 1 F) s
    have hbl := blk_len (k := 1) hF s
    have hbo := fun (W : World) (hW : RkS W M b n s) => rboth_any hW 1 1 rfl F (areaN n) hF (by omega) (by omega)
    have hho := fun (W : World) (M' : Nat → Prop) (s' : DS) (hW : RkS W M' b n s') (hl : s'.ws.length ≤ 800000) => rhome_any hW F hF h0 hl
    generalize sumN F = u at *
    generalize DS.run (blk 1 F) s = r at *
    obtain ⟨s1, e1⟩ := r
    simp only at hbl herr hbo er
    have HB := Lib.hid hbo; have HR := Lib.hid h; have HSU := Lib.hid hsu; have HHO := Lib.hid hho; clear hbo h hF htt hsu hho
    generalize bs F = FS at *
    rcases herr with rfl | rfl
    · rw [if_pos rfl, DS.run_append] at er
      have herr2 := DS.run_err (blk 0 (headL 1 u)) s1
      have hbl2 := blk_len (k := 0) (m := 1) (headL_length 1 u) s1
      have hbo2 := fun (W : World) (M' : Nat → Prop) (hW : RkS W M' b n s1) => rboth_any hW 0 0 rfl (headL 1 u) 1 (headL_length 1 u) (by omega) (by omega)
      generalize DS.run (blk 0 (headL 1 u)) s1 = r at *
      obtain ⟨s2, e2⟩ := r
      simp only at hbl2 herr2 hbo2 er
      have HBO2 := Lib.hid hbo2; clear hbo2
      rcases herr2 with rfl | rfl
      · rw [if_pos rfl] at er
        rw [er]
        clear er
        generalize hgr : DS.run (homeOps n F) s2 = r3 at *
        have HHO2 : Hid (∀ (W : World) (M' : Nat → Prop), RkS W M' b n s2 → _) := Lib.hid fun W M' hW => HHO.out W M' s2 hW (by omega)
        clear HHO
        rw [hgr] at HHO2
        clear hgr
        go_enter Tryz.func34, Tryz.ntmps34
        go_wp2_with fail
        refine HFI.out.mono ?_
        rintro e w1 ⟨rfl, rfl⟩
        go_wp2_with fail
        refine HA.out.mono ?_
        rintro e w1 ⟨rfl, rfl⟩
        go_wp2_with fail
        refine HFO.out.mono ?_
        rintro e w2 ⟨rfl, b2⟩
        have at2 := (RAt.refl HR.out).fresh b2
        have HB2 := Lib.hid (HB.out _ at2.rk); have AT2 := Lib.hid at2
        clear at2 b2 HFI HA HFO HB
        go_wp2_with fail
        refine HB2.out.mono ?_
        rintro e w3 ⟨rfl, hd⟩
        obtain ⟨M3, at3⟩ := RAt.of (AT2.out.comb hd)
        have HH := Lib.hid (rhead_any 1 u w3 (by omega) hult); have AT3 := Lib.hid at3
        clear at3 hd AT2 HB2
        go_wp2_with fail
        refine (HSU.out _).mono ?_
        rintro e w4 ⟨rfl, rfl⟩
        go_wp2_with fail
        refine HH.out.mono ?_
        rintro e w4 ⟨rfl, b4⟩
        have at4 := AT3.out.fresh b4
        have HB4 := Lib.hid (HBO2.out _ _ at4.rk); have AT4 := Lib.hid at4
        clear at4 b4 AT3 HH HBO2
        go_wp2_with fail
        refine HB4.out.mono ?_
        rintro e w5 ⟨rfl, hd⟩
        obtain ⟨M5, at5⟩ := RAt.of (AT4.out.comb hd)
        have HB5 := Lib.hid (HHO2.out _ _ at5.rk); have AT5 := Lib.hid at5
        clear at5 hd AT4 HB4 HHO2
        go_wp2_with fail
        refine HB5.out.mono ?_
        rintro e w6 ⟨rfl, hd⟩
        have HD := Lib.hid (AT5.out.comb hd); clear hd AT5 HB5
        go_wp2
        go_ret
        exact ⟨rfl, HD.out⟩
      · rw [if_neg (by omega)] at er
        rw [er]
        clear er
        go_enter Tryz.func34, Tryz.ntmps34
        go_wp2_with fail
        refine HFI.out.mono ?_
        rintro e w1 ⟨rfl, rfl⟩
        go_wp2_with fail
        refine HA.out.mono ?_
        rintro e w1 ⟨rfl, rfl⟩
        go_wp2_with fail
        refine HFO.out.mono ?_
        rintro e w2 ⟨rfl, b2⟩
        have at2 := (RAt.refl HR.out).fresh b2
        have HB2 := Lib.hid (HB.out _ at2.rk); have AT2 := Lib.hid at2
        clear at2 b2 HFI HA HFO HB
        go_wp2_with fail
        refine HB2.out.mono ?_
        rintro e w3 ⟨rfl, hd⟩
        obtain ⟨M3, at3⟩ := RAt.of (AT2.out.comb hd)
        have HH := Lib.hid (rhead_any 1 u w3 (by omega) hult); have AT3 := Lib.hid at3
        clear at3 hd AT2 HB2
        go_wp2_with fail
        refine (HSU.out _).mono ?_
        rintro e w4 ⟨rfl, rfl⟩
        go_wp2_with fail
        refine HH.out.mono ?_
        rintro e w4 ⟨rfl, b4⟩
        have at4 := AT3.out.fresh b4
        have HB4 := Lib.hid (HBO2.out _ _ at4.rk); have AT4 := Lib.hid at4
        clear at4 b4 AT3 HH HBO2
        go_wp2_with fail
        refine HB4.out.mono ?_
        rintro e w5 ⟨rfl, hd⟩
        have HD := Lib.hid (AT4.out.comb hd); clear hd AT4 HB4
        go_wp2
        go_ret
        exact ⟨rfl, HD.out⟩
    · rw [if_neg (by omega)] at er
      rw [er]
      clear er
      go_enter Tryz.func34, Tryz.ntmps34
      go_wp2_with fail
      refine HFI.out.mono ?_
      rintro e w1 ⟨rfl, rfl⟩
      go_wp2_with fail
      refine HA.out.mono ?_
      rintro e w1 ⟨rfl, rfl⟩
      go_wp2_with fail
      refine HFO.out.mono ?_
      rintro e w2 ⟨rfl, b2⟩
      have at2 := (RAt.refl HR.out).fresh b2
      have HB2 := Lib.hid (HB.out _ at2.rk); have AT2 := Lib.hid at2
      clear at2 b2 HFI HA HFO HB
      go_wp2_with fail
      refine HB2.out.mono ?_
      rintro e w3 ⟨rfl, hd⟩
      have HD := Lib.hid (AT2.out.comb hd); clear hd AT2 HB2
      go_wp2
      go_ret
      exact ⟨rfl, HD.out⟩
  · have er : jput n t s = (s, jfits n t) := by unfold jput; rw [if_pos hf]
    have hb : (jfits n t != 0) = true := by simp [hf]
    have JR := Lib.hid (RDid.refl h); clear h
    rw [er]
    clear er hf
    generalize jfits n t = f at *
    go_enter Tryz.func34, Tryz.ntmps34
    go_wp2_with fail
    refine HFI.out.mono ?_
    rintro e w1 ⟨rfl, rfl⟩
    go_wp2
    go_ret
    exact ⟨rfl, JR.out⟩

end

end Go.Proofs.YtgefbolnfenfcaaGreat
