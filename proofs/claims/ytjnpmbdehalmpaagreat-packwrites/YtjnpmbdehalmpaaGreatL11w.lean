/-
  PackWrites: the walk.
-/
import Derived.Test.YtjnpmbdehalmpaaGreatGKi
import Derived.Test.YtjnpmbdehalmpaaGreatR11c
import Derived.Test.YtjnpmbdehalmpaaGreatTk
import Derived.Deep.RegionHeld
import Derived.Deep.CutBlock
import Derived.Deep.DeepCutAuto
namespace Go.Proofs.YtjnpmbdehalmpaaGreat
open Go.RowKit Go.Mk Go.Maps

/-- The two packages' boxes. -/
structure W11 (w : World) (p q : PE) (wx : World) : Prop where
  a : Bp wx w.heap.size p
  b : Bp wx (w.heap.size + 1) q
  k : Kept (fun _ => False) w wx

theorem W11.keep {w : World} {p q : PE} {wx wy : World} (h : W11 w p q wx) (hk : Kept (fun _ => False) wx wy) : W11 w p q wy := ⟨h.a.kept hk (fun h => h), h.b.kept hk (fun h => h), h.k.trans hk (fun _ _ h => h)⟩
theorem W11.drew {w : World} {p q : PE} {wx : World} (h : W11 w p q wx) : W11 w p q wx.drew := h.keep (Kept.drew (Kept.refl _ wx))

theorem w11_new (w : World) (p q : PE) : W11 w p q ((w.alloc (.cells #[.string (bs p.n), .int .i64 p.v, .slice p.na p.ns.length p.nc, .slice p.ds.ao p.ds.es.length p.ds.cap] 25)).alloc (.cells #[.string (bs q.n), .int .i64 q.v, .slice q.na q.ns.length q.nc, .slice q.ds.ao q.ds.es.length q.ds.cap] 25)) := by
  refine ⟨(bp_new w p _).kept ((Kept.refl (fun _ => False) _).alloc _) (fun h => h), ?_, ((Kept.refl (fun _ => False) w).alloc _).alloc _⟩
  have h := bp_new (w.alloc (.cells #[.string (bs p.n), .int .i64 p.v, .slice p.na p.ns.length p.nc, .slice p.ds.ao p.ds.es.length p.ds.cap] 25)) q 25
  rw [World.size_alloc] at h
  exact h

theorem w11_both {w : World} {p q : PE} {wx : World} (h : W11 w p q wx) : ceP w.heap.size p.n p.v (.slice p.na p.ns.length p.nc) (.slice p.ds.ao p.ds.es.length p.ds.cap) wx ∧ ceP (w.heap.size + 1) q.n q.v (.slice q.na q.ns.length q.nc) (.slice q.ds.ao q.ds.es.length q.ds.cap) wx := ⟨h.a.c, h.b.c⟩

theorem makeK_right {p : PE} (h : rightPk (pkE p) = true) : makeK ⟨p.n, p.v, p.ns, (pkE p).ds⟩ = (0, pkE p) := by
  unfold makeK
  rw [if_pos (show rightPk ⟨p.n, p.v, p.ns, (pkE p).ds⟩ = true from h)]
  rfl

set_option maxHeartbeats 4000000 in
set_option maxRecDepth 100000 in
theorem writes11_any (p q : PE) (w : World) (hP : Pks w w.heap.size p) (hQ : Pks w w.heap.size q) :
    Calls Tryz.prog 3 #[.agg #[.string (bs p.n), .int .i64 p.v, .slice p.na p.ns.length p.nc, .slice p.ds.ao p.ds.es.length p.ds.cap], .agg #[.string (bs q.n), .int .i64 q.v, .slice q.na q.ns.length q.nc, .slice q.ds.ao q.ds.es.length q.ds.cap]] w fun e w' => e = .returned (.bool true) ∧ Below w.heap.size w w' := by
  have HAW := Lib.hid (fun (wx : World) (h : Kept (fun _ => False) w wx) => awake11_any wx)
  have HP := Lib.hid (fun (wx : World) (h : Kept (fun _ => False) w wx) => hP.keep h)
  have HQ := Lib.hid (fun (wx : World) (h : Kept (fun _ => False) w wx) => hQ.keep h)
  have W0 := Lib.hid (w11_new w p q)
  clear hP hQ
  go_enter Tryz.func3, Tryz.ntmps3
  go_upto_region 1 with fail
  go_cut [24] (fun v wx => v = .bool (!(smallK p && smallK q)) ∧ W11 w p q wx)
  case first =>
    go_wp2_with fail
    refine (HAW.out _ W0.out.k).mono ?_
    rintro e w1 ⟨rfl, k1⟩
    have W1 := Lib.hid (W0.out.keep k1); clear k1
    have HS1 := Lib.hid (rsmall11_any p w.heap.size w1 (HP.out _ W1.out.k))
    obtain ⟨⟨x0, x1, x2, x3⟩, ⟨y0, y1, y2, y3⟩⟩ := w11_both W1.out
    go_wp2_with fail
    refine HS1.out.mono ?_
    rintro e w2 ⟨rfl, k2⟩
    have W2 := Lib.hid (W1.out.keep k2); clear k2 x0 x1 x2 x3 y0 y1 y2 y3
    have HS2 := Lib.hid (rsmall11_any q w.heap.size w2 (HQ.out _ W2.out.k))
    obtain ⟨⟨x0, x1, x2, x3⟩, ⟨y0, y1, y2, y3⟩⟩ := w11_both W2.out
    cases hsp : smallK p with
    | false =>
      go_wp2_with fail
      go_meet
      case rel => exact ⟨by simp [hsp], W2.out⟩
    | true =>
      go_wp2_with fail
      refine HS2.out.mono ?_
      rintro e w3 ⟨rfl, k3⟩
      have W3 := Lib.hid (W2.out.keep k3); clear k3
      go_wp2_with fail
      go_meet
      case rel => exact ⟨by simp [hsp], W3.out⟩
  case rest =>
    obtain ⟨rfl, hw3⟩ := hcut
    have W3 := Lib.hid hw3; clear hw3
    cases hbig : (smallK p && smallK q) with
    | false =>
      clear hbig
      go_wp2_with fail
      refine (HAW.out _ W3.out.k).mono ?_
      rintro e w4 ⟨rfl, k4⟩
      have K4 := Lib.hid (W3.out.k.trans k4 (fun _ _ h => h)); clear k4
      go_wp2
      go_ret
      exact ⟨rfl, keeps_below7 K4.out⟩
    | true =>
      have hall : smallK p = true ∧ smallK q = true := by simpa using hbig
      have HFP := Lib.hid (smallK_len hall.1); have HFQ := Lib.hid (smallK_len hall.2)
      clear hbig hall
      have HRR := Lib.hid (fun wx (h : W11 w p q wx) => rright11_any p w.heap.size wx (HP.out _ h.k) HFP.out.2.2.2.2)
      have HWR := Lib.hid (fun wx (h : W11 w p q wx) => dpwrite_any p w.heap.size wx h.k.size (HP.out _ h.k) HFP.out.2.2.2.2)
      have HSN := Lib.hid (fun wx (h : W11 w p q wx) => dpsnap_any p w.heap.size wx h.k.size (HP.out _ h.k) HFP.out.2.2.2.2)
      have HRI := Lib.hid (fun wx (h : W11 w p q wx) => dpright_any p w.heap.size wx (HP.out _ h.k) HFP.out.2.2.2.2)
      have HSA := Lib.hid (fun wx (h : W11 w p q wx) => dpsame_any p q w.heap.size wx (HP.out _ h.k) (HQ.out _ h.k) HFP.out.2.2.2.2 HFQ.out.2.2.2.2)
      have HSR := Lib.hid (fun wx (h : W11 w p q wx) => rsame11_any p q w.heap.size wx (HP.out _ h.k) (HQ.out _ h.k) HFP.out.2.2.2.2 HFQ.out.2.2.2.2)
      generalize sameK p q = sm at *
      obtain ⟨⟨x0, x1, x2, x3⟩, ⟨y0, y1, y2, y3⟩⟩ := w11_both W3.out
      cases hr : rightPk (pkE p) with
      | false =>
        have hwk : writeK (pkE p) = (2, []) := by unfold writeK; rw [if_neg (by rw [hr]; simp)]
        simp only [hr, hwk] at HRR HWR HRI HSN
        clear hr hwk
        go_wp2_with fail
        refine (HRR.out _ W3.out).mono ?_
        rintro e w4 ⟨rfl, k4⟩
        have W4 := Lib.hid (W3.out.keep k4); clear k4 x0 x1 x2 x3 y0 y1 y2 y3
        obtain ⟨⟨x0, x1, x2, x3⟩, ⟨y0, y1, y2, y3⟩⟩ := w11_both W4.out
        go_wp2_with fail
        refine (HWR.out _ W4.out).mono ?_
        rintro e w5 ⟨ao, cap, rfl, -, k5⟩
        have W5 := Lib.hid (W4.out.keep k5); clear k5 x0 x1 x2 x3 y0 y1 y2 y3
        obtain ⟨⟨x0, x1, x2, x3⟩, ⟨y0, y1, y2, y3⟩⟩ := w11_both W5.out
        go_wp2_with fail
        refine (HSN.out _ W5.out).mono ?_
        rintro e w6 ⟨v, rfl, -, hv, k6⟩
        obtain rfl := hv trivial
        have W6 := Lib.hid (W5.out.keep k6); clear k6 hv x0 x1 x2 x3 y0 y1 y2 y3
        have hS6 := w11_both W6.out.drew
        go_upto_region 6 with fail
        go_region_held (fun w' => ceP w.heap.size p.n p.v (.slice p.na p.ns.length p.nc) (.slice p.ds.ao p.ds.es.length p.ds.cap) w' ∧ ceP (w.heap.size + 1) q.n q.v (.slice q.na q.ns.length q.nc) (.slice q.ds.ao q.ds.es.length q.ds.cap) w') (with_reducible assumption) (first
          | (go_at_call 11; refine (HRI.out _ W6.out.drew).mono ?_; rintro e w7 ⟨rfl, k7⟩; have W7 := Lib.hid (W6.out.drew.keep k7); have hS7 := w11_both W7.out; clear k7)
          | (go_at_call 12; go_must (refine (HSA.out _ W7.out).mono ?_; rintro e w8 ⟨rfl, k8⟩; have W8 := Lib.hid (W7.out.keep k8); have hS8 := w11_both W8.out; clear k8))
          | (go_at_call 13; go_must (refine (HSR.out _ W8.out).mono ?_; rintro e w9 ⟨rfl, k9⟩; have W9 := Lib.hid (W8.out.keep k9); have hS9 := w11_both W9.out; clear k9)))
        all_goals go_wp2
        all_goals go_ret
        all_goals exact ⟨by simp, keeps_below7 W9.out.k⟩
      | true =>
        have hwk : writeK (pkE p) = (0, sealL (octP (pkE p))) := by unfold writeK; rw [if_pos hr]
        have hR := rightPk_iff.1 hr
        have HMK := Lib.hid (makeK_right hr)
        have HPS := Lib.hid (parse_seal hR)
        have HLO := Lib.hid (show (sealL (octP (pkE p))).length ≤ 10000000 by
          obtain ⟨q1, q2, q3⟩ := hR.sizes
          have h4 : (bigB 4 1297107783).length = 4 := bigB_length _ _
          have h5 : (bigB 4 (pkE p).v.toNat).length = 4 := bigB_length _ _
          unfold octP hdO
          rw [seal_len]
          simp only [List.length_append]
          omega)
        have HRW := Lib.hid (fun wx (h : W11 w p q wx) => rwrite11_any p w.heap.size wx h.k.size (HP.out _ h.k) hR)
        have HDL := Lib.hid (show (pkE p).ds.length ≤ 500 from hR.d500)
        have HLX := Lib.hid (fun (x : PE) (h : pkE x = pkE p) => len11_right (p := x) (by rw [h]; exact hR))
        simp only [hr, hwk] at HRR HWR HRI HSN
        clear hr hwk hR
        generalize sealL (octP (pkE p)) = o at *
        go_wp2_with fail
        refine (HRR.out _ W3.out).mono ?_
        rintro e w4 ⟨rfl, k4⟩
        have W4 := Lib.hid (W3.out.keep k4); clear k4 x0 x1 x2 x3 y0 y1 y2 y3
        obtain ⟨⟨x0, x1, x2, x3⟩, ⟨y0, y1, y2, y3⟩⟩ := w11_both W4.out
        go_wp2_with fail
        refine (HWR.out _ W4.out).mono ?_
        rintro e w5 ⟨ao, cap, rfl, ho, k5⟩
        have O5 := Lib.hid ho
        have W5 := Lib.hid (W4.out.keep k5); clear k5 x0 x1 x2 x3 y0 y1 y2 y3 ho
        obtain ⟨⟨x0, x1, x2, x3⟩, ⟨y0, y1, y2, y3⟩⟩ := w11_both W5.out
        go_wp2_with fail
        refine (HSN.out _ W5.out).mono ?_
        rintro e w6 ⟨v, rfl, hv, -, k6⟩
        obtain ⟨⟨s, rfl⟩, hsn⟩ := hv trivial
        have S6 := Lib.hid hsn
        have O6 := Lib.hid (owns_kept O5.out k6 (fun _ _ h => h))
        have W6 := Lib.hid (W5.out.keep k6); clear k6 hv hsn x0 x1 x2 x3 y0 y1 y2 y3
        have hS6 := w11_both W6.out.drew
        go_upto_region 6 with fail
        go_cut [59] (fun v wx => v = .bool false ∧ Kept (fun _ => False) w6 wx)
        case first =>
          go_region_held (fun w' => ceP w.heap.size p.n p.v (.slice p.na p.ns.length p.nc) (.slice p.ds.ao p.ds.es.length p.ds.cap) w' ∧ ceP (w.heap.size + 1) q.n q.v (.slice q.na q.ns.length q.nc) (.slice q.ds.ao q.ds.es.length q.ds.cap) w') (with_reducible assumption) (first
            | (go_at_call 11; refine (HRI.out _ W6.out.drew).mono ?_; rintro e w7 ⟨rfl, k7⟩; have W7 := Lib.hid (W6.out.drew.keep k7); have K7 := Lib.hid ((Kept.drew (Kept.refl (fun _ => False) w6)).trans k7 (fun _ _ h => h)); have hS7 := w11_both W7.out; clear k7)
            | (go_at_call 12; go_must (refine (HSA.out _ W7.out).mono ?_; rintro e w8 ⟨rfl, k8⟩; have W8 := Lib.hid (W7.out.keep k8); have K8 := Lib.hid (K7.out.trans k8 (fun _ _ h => h)); have hS8 := w11_both W8.out; clear k8))
            | (go_at_call 13; go_must (refine (HSR.out _ W8.out).mono ?_; rintro e w9 ⟨rfl, k9⟩; have W9 := Lib.hid (W8.out.keep k9); have K9 := Lib.hid (K8.out.trans k9 (fun _ _ h => h)); have hS9 := w11_both W9.out; clear k9)))
          all_goals go_wp2_with fail
          all_goals go_meet
          all_goals exact ⟨by simp, K9.out⟩
        case rest =>
          obtain ⟨rfl, hk⟩ := hcut
          have W10 := Lib.hid (W6.out.keep hk); have S10 := Lib.hid (S6.out.keep hk); have O10 := Lib.hid (owns_kept O6.out hk (fun _ _ h => h))
          clear hk hS6
          have HPA := Lib.hid (dpparse_any ao cap o wc.heap.size wc (owns_lies O10.out) (owns_cap O10.out) HLO.out)
          rw [HPS.out] at HPA
          obtain ⟨⟨x0, x1, x2, x3⟩, ⟨y0, y1, y2, y3⟩⟩ := w11_both W10.out
          go_wp2_with fail
          refine HPA.out.mono ?_
          rintro e w11 ⟨x, rfl, hx, hxp, k11⟩
          have HX := Lib.hid hx; have X11 := Lib.hid hxp
          have W11x := Lib.hid (W10.out.keep k11); have S11 := Lib.hid (S10.out.keep k11); have O11 := Lib.hid (owns_kept O10.out k11 (fun _ _ h => h))
          have KB := Lib.hid ((Kept.refl (fun _ => False) w11).alloc (.cells #[.string (bs x.n), .int .i64 x.v, .slice x.na x.ns.length x.nc, .slice x.ds.ao x.ds.es.length x.ds.cap] 25))
          have C12 := Lib.hid (bp_new w11 x 25)
          have W12 := Lib.hid (W11x.out.keep KB.out)
          have S12 := Lib.hid (S11.out.keep KB.out)
          have HMA := Lib.hid (dpmake_any p.n p.v p.na p.nc p.ns s (pkE p).ds w.heap.size _ (HP.out _ W12.out.k).ns HFP.out.2.2.2.2.n HFP.out.2.2.2.2.nn HFP.out.2.2.2.2.ns S12.out HDL.out)
          rw [HMK.out] at HMA
          clear hx hxp k11 x0 x1 x2 x3 y0 y1 y2 y3
          obtain ⟨⟨x0, x1, x2, x3⟩, ⟨y0, y1, y2, y3⟩⟩ := w11_both W12.out
          go_wp2_with fail
          refine HMA.out.mono ?_
          rintro e w13 ⟨y, rfl, hy, hyp, k13⟩
          have HY := Lib.hid hy
          have C13 := Lib.hid (C12.out.kept k13 (fun h => h))
          have W13 := Lib.hid (W12.out.keep k13); have S13 := Lib.hid (S12.out.keep k13)
          have O13 := Lib.hid (owns_kept (owns_kept O11.out KB.out (fun _ _ h => h)) k13 (fun _ _ h => h))
          have X13 := Lib.hid (((X11.out.keep KB.out).keep k13).mono (B' := w13.heap.size) (by have h1 := KB.out.size; have h2 := k13.size; omega))
          have Y13 := Lib.hid hyp
          have KD := Lib.hid ((Kept.refl (fun _ => False) w13).alloc (.cells #[.string (bs y.n), .int .i64 y.v, .slice y.na y.ns.length y.nc, .slice y.ds.ao y.ds.es.length y.ds.cap] 25))
          have D14 := Lib.hid (bp_new w13 y 25)
          have W14 := Lib.hid (W13.out.keep KD.out)
          have HPP := Lib.hid (show ∀ wx, Kept (fun _ => False) (w13.alloc (.cells #[.string (bs y.n), .int .i64 y.v, .slice y.na y.ns.length y.nc, .slice y.ds.ao y.ds.es.length y.ds.cap] 25)) wx → Pks wx wx.heap.size x ∧ Pks wx wx.heap.size y ∧ Pks wx wx.heap.size p from fun wx h => ⟨((X13.out.keep KD.out).keep h).mono (Nat.le_trans KD.out.size h.size), ((Y13.out.keep KD.out).keep h).mono (Nat.le_trans KD.out.size h.size), (HP.out _ (W14.out.k.trans h (fun _ _ h => h))).mono (Nat.le_trans W14.out.k.size h.size)⟩)
          have HZ := Lib.hid (show ∀ wx, Kept (fun _ => False) (w13.alloc (.cells #[.string (bs y.n), .int .i64 y.v, .slice y.na y.ns.length y.nc, .slice y.ds.ao y.ds.es.length y.ds.cap] 25)) wx → ceP w.heap.size p.n p.v (.slice p.na p.ns.length p.nc) (.slice p.ds.ao p.ds.es.length p.ds.cap) wx ∧ ceP w11.heap.size x.n x.v (.slice x.na x.ns.length x.nc) (.slice x.ds.ao x.ds.es.length x.ds.cap) wx ∧ ceP w13.heap.size y.n y.v (.slice y.na y.ns.length y.nc) (.slice y.ds.ao y.ds.es.length y.ds.cap) wx from fun wx h => ⟨(W14.out.a.kept h (fun h => h)).c, ((C13.out.kept KD.out (fun h => h)).kept h (fun h => h)).c, (D14.out.kept h (fun h => h)).c⟩)
          have HSD := Lib.hid (show ∀ wx, Kept (fun _ => False) (w13.alloc (.cells #[.string (bs y.n), .int .i64 y.v, .slice y.na y.ns.length y.nc, .slice y.ds.ao y.ds.es.length y.ds.cap] 25)) wx → Sn wx (.pointer (some ⟨s, 0, none⟩)) (pkE p).ds from fun wx h => (S13.out.keep KD.out).keep h)
          have HCV := Lib.hid (show ∀ wx, Kept (fun _ => False) (w13.alloc (.cells #[.string (bs y.n), .int .i64 y.v, .slice y.na y.ns.length y.nc, .slice y.ds.ao y.ds.es.length y.ds.cap] 25)) wx → (convert 28 9 (.slice ao o.length cap)).run Tryz.prog wx = .ok (.string (bs o)) wx from fun wx h => run_string_of (P := Tryz.prog) wx 28 9 5 Tryz.underlying28 Tryz.underlying5 Tryz.underlying9 cap o.length rfl (owns_lies (owns_kept (owns_kept O13.out KD.out (fun _ _ h => h)) h (fun _ _ h => h))))
          go_upto_region 12 with fail
          clear x0 x1 x2 x3 y0 y1 y2 y3 hyp hy k13 KD D14
          generalize (w13.alloc (.cells #[.string (bs y.n), .int .i64 y.v, .slice y.na y.ns.length y.nc, .slice y.ds.ao y.ds.es.length y.ds.cap] 25)) = w14 at *
          have HXS := Lib.hid (fun wx (h : Kept (fun _ => False) w14 wx) => rsame11_any x p wx.heap.size wx (HPP.out _ h).1 (HPP.out _ h).2.2 (HLX.out x HX.out) HFP.out.2.2.2.2)
          rw [sameK_true HX.out] at HXS
          have HYS := Lib.hid (fun wx (h : Kept (fun _ => False) w14 wx) => rsame11_any y p wx.heap.size wx (HPP.out _ h).2.1 (HPP.out _ h).2.2 (HLX.out y HY.out) HFP.out.2.2.2.2)
          rw [sameK_true HY.out] at HYS
          have HIS := Lib.hid (fun wx (h : Kept (fun _ => False) w14 wx) => is_any (.pointer (some ⟨s, 0, none⟩)) (pkE p).ds p.ds.ao p.ds.cap p.ds.es wx (HSD.out _ h) (HPP.out _ h).2.2.ds.ds (by have := HDL.out; omega) (fun e he => (HFP.out.2.2.2.2.d e he).n))
          rw [show isL (pkE p).ds (dds p.ds.es) = true from decide_eq_true rfl] at HIS
          have KR := Lib.hid (Kept.drew (Kept.refl (fun _ => False) w14))
          have hSd := HZ.out _ KR.out
          have hcvd := HCV.out _ KR.out
          have hse : ((bs o).toList == (bs o).toList) = true := by simp
          go_region_held (fun w' => ceP w.heap.size p.n p.v (.slice p.na p.ns.length p.nc) (.slice p.ds.ao p.ds.es.length p.ds.cap) w' ∧ ceP w11.heap.size x.n x.v (.slice x.na x.ns.length x.nc) (.slice x.ds.ao x.ds.es.length x.ds.cap) w' ∧ ceP w13.heap.size y.n y.v (.slice y.na y.ns.length y.nc) (.slice y.ds.ao y.ds.es.length y.ds.cap) w') (with_reducible assumption) (first
            | (go_at_call 16; refine (HRW.out _ (W14.out.keep KR.out)).mono ?_; rintro e w15 ⟨rfl, k15⟩; have K15 := Lib.hid (KR.out.trans k15 (fun _ _ h => h)); have hS15 := HZ.out _ K15.out; have hcv15 := HCV.out _ K15.out; clear k15)
            | (go_at_call_of 13 (Value.agg #[.string (bs x.n), .int .i64 x.v, .slice x.na x.ns.length x.nc, .slice x.ds.ao x.ds.es.length x.ds.cap]); go_must (refine (HXS.out _ K15.out).mono ?_; rintro e w16 ⟨rfl, k16⟩; have K16 := Lib.hid (K15.out.trans k16 (fun _ _ h => h)); have hS16 := HZ.out _ K16.out; clear k16))
            | (go_at_call 17; go_must (refine (HIS.out _ K16.out).mono ?_; rintro e w17 ⟨rfl, k17⟩; have K17 := Lib.hid (K16.out.trans k17 (fun _ _ h => h)); have hS17 := HZ.out _ K17.out; clear k17))
            | (go_at_call_of 13 (Value.agg #[.string (bs y.n), .int .i64 y.v, .slice y.na y.ns.length y.nc, .slice y.ds.ao y.ds.es.length y.ds.cap]); go_must (refine (HYS.out _ K17.out).mono ?_; rintro e w18 ⟨rfl, k18⟩; have K18 := Lib.hid (K17.out.trans k18 (fun _ _ h => h)); have hS18 := HZ.out _ K18.out; clear k18)))
          all_goals go_wp2
          all_goals go_ret
          all_goals exact ⟨by simp, keeps_below7 (W14.out.k.trans K18.out (fun _ _ h => h))⟩

end Go.Proofs.YtjnpmbdehalmpaaGreat
