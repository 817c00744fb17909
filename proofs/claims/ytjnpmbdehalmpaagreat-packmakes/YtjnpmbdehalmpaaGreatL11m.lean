/-
  PackMakes: the walk.
-/
import Derived.Test.YtjnpmbdehalmpaaGreatGKi
import Derived.Test.YtjnpmbdehalmpaaGreatGR9a
import Derived.Test.YtjnpmbdehalmpaaGreatTk
namespace Go.Proofs.YtjnpmbdehalmpaaGreat
open Go.RowKit Go.Mk Go.Maps

/-- Whether a package of a snapshot is right hangs on the rest alone. -/
theorem rightPk_snap {n : List UInt8} {v : Int} {ns : List (List UInt8)} {l : List DD} (h : Rise keyD l) (h2 : ∀ d ∈ l, rightD d = true) (hl : l.length ≤ 500) : rightPk ⟨n, v, ns, l⟩ = rightPk ⟨n, v, ns, []⟩ := by
  apply Bool.eq_iff_iff.2
  rw [rightPk_iff, rightPk_iff]
  constructor
  · intro h; exact ⟨h.cl, h.v1, h.v2, h.n20, Nat.zero_le _, h.needs, h.nrise, fun d hd => absurd hd List.not_mem_nil, List.Pairwise.nil⟩
  · intro h; exact ⟨h.cl, h.v1, h.v2, h.n20, hl, h.needs, h.nrise, h2, by assumption⟩

theorem pkE_parts {x : PE} {n : List UInt8} {v : Int} {ns : List (List UInt8)} {l : List DD} (h : pkE x = ⟨n, v, ns, l⟩) : ∃ xa xc sd, x = ⟨n, v, xa, xc, ns, sd⟩ ∧ dds sd.es = l := by
  obtain ⟨a, b, c, d, e, f⟩ := x
  simp only [pkE, PD.mk.injEq] at h
  obtain ⟨rfl, rfl, rfl, h4⟩ := h
  exact ⟨_, _, _, rfl, h4⟩

set_option maxHeartbeats 4000000 in
set_option maxRecDepth 100000 in
theorem makes11_any (p : PE) (w : World) (hP : Pks w w.heap.size p) :
    Calls Tryz.prog 5 #[.agg #[.string (bs p.n), .int .i64 p.v, .slice p.na p.ns.length p.nc, .slice p.ds.ao p.ds.es.length p.ds.cap]] w fun e w' => e = .returned (.bool true) ∧ Below w.heap.size w w' := by
  have HAW := Lib.hid (fun (wx : World) (h : Kept (fun _ => False) w wx) => awake11_any wx)
  have HP := Lib.hid (fun (wx : World) (h : Kept (fun _ => False) w wx) => hP.keep h)
  have KA := Lib.hid ((Kept.refl (fun _ => False) w).alloc (.cells #[.string (bs p.n), .int .i64 p.v, .slice p.na p.ns.length p.nc, .slice p.ds.ao p.ds.es.length p.ds.cap] 25))
  have B0 := Lib.hid (bp_new w p 25)
  clear hP
  go_enter Tryz.func5, Tryz.ntmps5
  go_wp2_with fail
  refine (HAW.out _ KA.out).mono ?_
  rintro e w1 ⟨rfl, k1⟩
  have K1 := Lib.hid (KA.out.trans k1 (fun _ _ h => h))
  have B1 := Lib.hid (B0.out.kept k1 (fun h => h))
  have HSM := Lib.hid (rsmall11_any p w.heap.size w1 (HP.out _ K1.out))
  obtain ⟨⟨x0, x1, x2, x3⟩, _, _, _, _⟩ := B1.out
  clear k1
  go_wp2_with fail
  refine HSM.out.mono ?_
  rintro e w2 ⟨rfl, k2⟩
  have K2 := Lib.hid (K1.out.trans k2 (fun _ _ h => h))
  have B2 := Lib.hid (B1.out.kept k2 (fun h => h))
  clear k2 x0 x1 x2 x3
  cases hs : smallK p with
  | false =>
    clear hs
    go_wp2_with fail
    refine (HAW.out _ K2.out).mono ?_
    rintro e w3 ⟨rfl, k3⟩
    have K3 := Lib.hid (K2.out.trans k3 (fun _ _ h => h)); clear k3
    go_wp2
    go_ret
    exact ⟨rfl, keeps_below7 K3.out⟩
  | true =>
    have HF := Lib.hid (smallK_len hs)
    clear hs
    have HNW := Lib.hid (snew_any p.ds.ao p.ds.cap p.ds.es w.heap.size w2 K2.out.size (HP.out _ K2.out).ds.ds HF.out.2.2.2.2.d HF.out.2.2.2.2.nd)
    have HMD := Lib.hid (fun (h : (newL (dds p.ds.es)).1 = 0) => newL_made h)
    generalize newL (dds p.ds.es) = r at *
    obtain ⟨er, l⟩ := r
    obtain ⟨⟨x0, x1, x2, x3⟩, _, _, _, _⟩ := B2.out
    dsimp only at HMD
    go_wp2_with fail
    refine HNW.out.mono ?_
    rintro e w3 ⟨v, rfl, hv, hv2, hsn, k3⟩
    have K3 := Lib.hid (K2.out.trans k3 (fun _ _ h => h))
    have B3 := Lib.hid (B2.out.kept k3 (fun h => h))
    have S3 := Lib.hid hsn
    clear k3 x0 x1 x2 x3 hsn
    by_cases he : er = 0
    · subst he
      obtain ⟨s, rfl⟩ := hv rfl
      have MD := Lib.hid (HMD.out rfl)
      have HLL := Lib.hid (show l.length = p.ds.es.length by rw [MD.out.len, dds_len])
      clear hv hv2
      dsimp only at S3
      obtain ⟨⟨x0, x1, x2, x3⟩, f0, f1, f2, f3⟩ := B3.out
      have Q0 := Lib.hid (show Bp (w3.alloc (.cells #[.string (bs p.n), .int .i64 p.v, .slice p.na p.ns.length p.nc, .slice none 0 0] 25)) w3.heap.size ⟨p.n, p.v, p.na, p.nc, p.ns, ⟨none, 0, []⟩⟩ from bp_new w3 ⟨p.n, p.v, p.na, p.nc, p.ns, ⟨none, 0, []⟩⟩ 25)
      have KB := Lib.hid ((Kept.refl (fun _ => False) w3).alloc (.cells #[.string (bs p.n), .int .i64 p.v, .slice p.na p.ns.length p.nc, .slice none 0 0] 25))
      have HPW := Lib.hid (show ∀ wx, Kept (fun _ => False) w3 wx → Calls Tryz.prog 15 #[.string (bs p.n), .int .i64 p.v, .slice p.na p.ns.length p.nc, .pointer (some ⟨s, 0, none⟩)] wx (RpPost wx (makeK ⟨p.n, p.v, p.ns, l⟩)) from fun wx h => dpmake_any p.n p.v p.na p.nc p.ns s l w.heap.size wx (HP.out _ (K3.out.trans h (fun _ _ h => h))).ns (by have := HF.out.1; omega) (by have := HF.out.2.1; omega) (fun x hx => by have := HF.out.2.2.1 x hx; omega) (S3.out.keep h) (by have := HLL.out; have := HF.out.2.2.2.1; omega))
      have HRQ := Lib.hid (show ∀ wx, Kept (fun _ => False) w3 wx → Calls Tryz.prog 8 #[.agg #[.string (bs p.n), .int .i64 p.v, .slice p.na p.ns.length p.nc, .slice none 0 0]] wx (fun e w' => e = .returned (.bool (rightPk ⟨p.n, p.v, p.ns, []⟩)) ∧ Kept (fun _ => False) wx w') from fun wx h => rright11_any ⟨p.n, p.v, p.na, p.nc, p.ns, ⟨none, 0, []⟩⟩ w.heap.size wx ⟨(HP.out _ (K3.out.trans h (fun _ _ h => h))).ns, SDs.nil _ _ _ _⟩ ⟨HF.out.2.2.2.2.n, HF.out.2.2.2.2.nn, HF.out.2.2.2.2.ns, fun e he => absurd he List.not_mem_nil, Nat.zero_le _⟩)
      have HMK := Lib.hid (show makeK ⟨p.n, p.v, p.ns, l⟩ = if rightPk ⟨p.n, p.v, p.ns, []⟩ = true then (0, ⟨p.n, p.v, p.ns, l⟩) else (2, zeroP) by unfold makeK; rw [rightPk_snap MD.out.rise MD.out.right (by have := HLL.out; have := HF.out.2.2.2.1; omega)])
      have HL8 := Lib.hid (show ∀ d ∈ l, Len8 d from fun d hd => len8_right (MD.out.right d hd))
      generalize rightPk ⟨p.n, p.v, p.ns, []⟩ = ri at *
      generalize makeK ⟨p.n, p.v, p.ns, l⟩ = mk at *
      obtain ⟨em, pm⟩ := mk
      go_upto_region 8 with fail
      clear x0 x1 x2 x3 f0 f1 f2 f3
      generalize (w3.alloc (.cells #[.string (bs p.n), .int .i64 p.v, .slice p.na p.ns.length p.nc, .slice none 0 0] 25)) = w4 at *
      have B4 := Lib.hid (B3.out.kept KB.out (fun h => h))
      obtain ⟨⟨x0, x1, x2, x3⟩, _, _, _, _⟩ := B4.out
      go_wp2_with fail
      refine (HPW.out _ KB.out).mono ?_
      rintro e w5 ⟨x, rfl, hx, hxp, k5⟩
      have HX := Lib.hid hx; have X5 := Lib.hid hxp
      have K35 := Lib.hid (KB.out.trans k5 (fun _ _ h => h))
      have B5 := Lib.hid (B4.out.kept k5 (fun h => h)); have Q5 := Lib.hid (Q0.out.kept k5 (fun h => h))
      have KC := Lib.hid ((Kept.refl (fun _ => False) w5).alloc (.cells #[.string (bs x.n), .int .i64 x.v, .slice x.na x.ns.length x.nc, .slice x.ds.ao x.ds.es.length x.ds.cap] 25))
      have C5 := Lib.hid (bp_new w5 x 25)
      have Q6 := Lib.hid (Q5.out.kept KC.out (fun h => h))
      clear hx hxp k5 x0 x1 x2 x3
      obtain ⟨⟨x0, x1, x2, x3⟩, _, _, _, _⟩ := Q6.out
      dsimp only at x0 x1 x2 x3
      go_wp2_with fail
      refine (HRQ.out _ (K35.out.trans KC.out (fun _ _ h => h))).mono ?_
      rintro e w7 ⟨rfl, k7⟩
      have K7 := Lib.hid ((K35.out.trans KC.out (fun _ _ h => h)).trans k7 (fun _ _ h => h))
      have B7 := Lib.hid ((B5.out.kept KC.out (fun h => h)).kept k7 (fun h => h))
      have C7 := Lib.hid (C5.out.kept k7 (fun h => h))
      have X7 := Lib.hid (((X5.out.keep KC.out).keep k7).mono (B' := w7.heap.size) (by have h1 := KC.out.size; have h2 := k7.size; omega))
      have S7 := Lib.hid (S3.out.keep K7.out)
      clear k7 x0 x1 x2 x3
      obtain ⟨⟨x0, x1, x2, x3⟩, _, _, _, _⟩ := B7.out
      obtain ⟨⟨y0, y1, y2, y3⟩, _, _, _, _⟩ := C7.out
      cases ri with
      | false =>
        obtain ⟨rfl, rfl⟩ : em = 2 ∧ pm = zeroP := Prod.mk.inj (HMK.out.trans (if_neg (by simp)))
        have HSQ := Lib.hid (show Calls Tryz.prog 12 #[.agg #[.string (bs x.n), .int .i64 x.v, .slice x.na x.ns.length x.nc, .slice x.ds.ao x.ds.es.length x.ds.cap], .agg #[.string ⟨#[]⟩, .int .i64 0, .slice none 0 0, .slice none 0 0]] w7 (fun e w' => e = .returned (.bool (sameK x zeroPE)) ∧ Kept (fun _ => False) w7 w') from dpsame_any x zeroPE w7.heap.size w7 X7.out (pks_zero _ _) (len11_zero HX.out) (len11_zero rfl))
        rw [sameK_true (show pkE x = pkE zeroPE from HX.out)] at HSQ
        go_wp2_with fail
        refine HSQ.out.mono ?_
        rintro e w8 ⟨rfl, k8⟩
        have K8 := Lib.hid ((K3.out.trans K7.out (fun _ _ h => h)).trans k8 (fun _ _ h => h)); clear k8
        go_wp2
        go_ret
        exact ⟨rfl, keeps_below7 K8.out⟩
      | true =>
        obtain ⟨rfl, rfl⟩ : em = 0 ∧ pm = ⟨p.n, p.v, p.ns, l⟩ := Prod.mk.inj (HMK.out.trans (if_pos rfl))
        obtain ⟨xa, xc, sd, rfl, hsd⟩ := pkE_parts HX.out
        have HIS := Lib.hid (is_any (.pointer (some ⟨s, 0, none⟩)) l sd.ao sd.cap sd.es w7 S7.out X7.out.ds.ds (by have := HLL.out; have := HF.out.2.2.2.1; omega) (fun e he => (HL8.out e.1 (by rw [← hsd]; exact List.mem_map_of_mem he)).n))
        rw [hsd, show isL l l = true from decide_eq_true rfl] at HIS
        have hle : ((sd.es.length : Int) == (p.ds.es.length : Int)) = true := by
          have h1 : sd.es.length = l.length := by rw [← hsd, dds_len]
          have := HLL.out
          simp; omega
        have hse : ((bs p.n).toList == (bs p.n).toList) = true := by simp
        dsimp only at y0 y1 y2 y3
        have hE := Lib.hid hsd
        clear hsd
        go_wp2_with fail
        refine HIS.out.mono ?_
        rintro e w8 ⟨rfl, k8⟩
        have K8 := Lib.hid ((K3.out.trans K7.out (fun _ _ h => h)).trans k8 (fun _ _ h => h)); clear k8
        go_wp2
        go_ret
        exact ⟨rfl, keeps_below7 K8.out⟩
    · have he1 : (er != 0) = true := by simpa using he
      obtain rfl := hv2 he
      clear he hv hv2
      go_wp2
      go_ret
      exact ⟨rfl, keeps_below7 K3.out⟩

end Go.Proofs.YtjnpmbdehalmpaaGreat
