/-
  DiffOfs: the walk.
-/
import Derived.Test.YtecjecdgjmipcaaGreatL9
import Derived.Test.YtecjecdgjmipcaaGreatGL8c
import Derived.Test.YtecjecdgjmipcaaGreatSy
import Derived.Test.YtecjecdgjmipcaaGreatR9d
import Derived.Deep.RegionHeld
namespace Go.Proofs.YtecjecdgjmipcaaGreat
open Go.RowKit Go.Mk Go.Maps

theorem newL_len9 {es : List Ent} {n : Nat} (h : es.length ≤ n) : (newL (dds es)).2.length ≤ n := by
  by_cases h0 : (newL (dds es)).1 = 0
  · rw [(newL_made h0).len, dds_len]; exact h
  · rw [newL_none h0]; exact Nat.zero_le _

/-- Two snapshots, the reference's lists. -/
structure O9 (w : World) (v u : Value) (xa : Option Addr) (xs : List Ent) (ya : Option Addr) (ys : List Ent) (wx : World) : Prop where
  a : Sn wx v (dds xs)
  b : Sn wx u (dds ys)
  x : Rl wx xa xs
  y : Rl wx ya ys
  k : Kept (fun _ => False) w wx

theorem O9.keep {w : World} {v u : Value} {xa : Option Addr} {xs : List Ent} {ya : Option Addr} {ys : List Ent} {wx wy : World} (h : O9 w v u xa xs ya ys wx) (hk : Kept (fun _ => False) wx wy) : O9 w v u xa xs ya ys wy :=
  ⟨h.a.keep hk, h.b.keep hk, h.x.keep hk, h.y.keep hk, h.k.trans hk (fun _ _ h => h)⟩

/-- .. and the patch. -/
structure Q9 (w : World) (v u : Value) (xa : Option Addr) (xs : List Ent) (ya : Option Addr) (ys : List Ent) (pa : Option Addr) (p : List EE) (wx : World) : Prop where
  o : O9 w v u xa xs ya ys wx
  p : Es wx wx.heap.size pa p

theorem Q9.keep {w : World} {v u : Value} {xa : Option Addr} {xs : List Ent} {ya : Option Addr} {ys : List Ent} {pa : Option Addr} {p : List EE} {wx wy : World} (h : Q9 w v u xa xs ya ys pa p wx) (hk : Kept (fun _ => False) wx wy) : Q9 w v u xa xs ya ys pa p wy :=
  ⟨h.o.keep hk, (h.p.keep hk).mono hk.size⟩

set_option maxHeartbeats 4000000 in
set_option maxRecDepth 100000 in
theorem ofs9_any (la : Option Addr) (lc : Nat) (es : List Ent) (ma : Option Addr) (mc : Nat) (fs : List Ent) (w : World) (hm : MaxAt w) (hD : Ds w w.heap.size la es) (hE : Ds w w.heap.size ma fs) :
    Calls Tryz.prog 3 #[.slice la es.length lc, .slice ma fs.length mc] w fun e w' => e = .returned (.bool true) ∧ Below w.heap.size w w' := by
  have HAW := Lib.hid (fun w => awake9_any w)
  have HFA := Lib.hid (fun (wx : World) (h : Kept (fun _ => False) w wx) => few_any la lc es 10 w.heap.size wx (hD.keep h) (by decide))
  have HFB := Lib.hid (fun (wx : World) (h : Kept (fun _ => False) w wx) => few_any ma mc fs 10 w.heap.size wx (hE.keep h) (by decide))
  have HD := Lib.hid hD; have HE := Lib.hid hE; have HM := Lib.hid hm
  clear hD hE hm
  go_enter Tryz.func3, Tryz.ntmps3
  go_upto_region 1 with fail
  go_cut [31] (fun v wx => v = .bool (!(fewB es 10 && fewB fs 10)) ∧ Kept (fun _ => False) w wx)
  case first =>
    go_wp2_with fail
    refine (HAW.out _).mono ?_
    rintro e w1 ⟨rfl, k1⟩
    have K1 := Lib.hid k1; clear k1
    go_wp2_with fail
    refine (HFA.out _ K1.out).mono ?_
    rintro e w2 ⟨rfl, k2⟩
    have K2 := Lib.hid (K1.out.trans k2 (fun _ _ h => h)); clear k2
    cases hf : fewB es 10 with
    | false =>
      go_wp2_with fail
      go_meet
      case rel => exact ⟨by simp [hf], K2.out⟩
    | true =>
      go_wp2_with fail
      refine (HFB.out _ K2.out).mono ?_
      rintro e w3 ⟨rfl, k3⟩
      have K3 := Lib.hid (K2.out.trans k3 (fun _ _ h => h)); clear k3
      go_wp2_with fail
      go_meet
      case rel => exact ⟨by simp [hf], K3.out⟩
  case rest =>
    obtain ⟨rfl, k3⟩ := hcut
    have K3 := Lib.hid k3; clear k3
    cases hbig : (fewB es 10 && fewB fs 10) with
    | false =>
      clear hbig
      go_wp2_with fail
      refine (HAW.out _).mono ?_
      rintro e w4 ⟨rfl, k4⟩
      have K4 := Lib.hid (K3.out.trans k4 (fun _ _ h => h)); clear k4
      go_wp2
      go_ret
      exact ⟨rfl, keeps_below7 K4.out⟩
    | true =>
      have hall : fewB es 10 = true ∧ fewB fs 10 = true := by simpa using hbig
      have HF := Lib.hid (few_of (n := 10) hall.1)
      have HG := Lib.hid (few_of (n := 10) hall.2)
      clear hbig hall HFA HFB
      have HNA := Lib.hid (fun (wx : World) (h : Kept (fun _ => False) w wx) => snew_any la lc es w.heap.size wx h.size (HD.out.keep h) (fun e he => small_len8 (HF.out.small e he)) (by have := HF.out.len; omega))
      have HNB := Lib.hid (fun (wx : World) (h : Kept (fun _ => False) w wx) => snew_any ma mc fs w.heap.size wx h.size (HE.out.keep h) (fun e he => small_len8 (HG.out.small e he)) (by have := HG.out.len; omega))
      have HRA := Lib.hid (fun (wx : World) (h : Kept (fun _ => False) w wx) => rnew_any la lc es w.heap.size wx h.size (HD.out.keep h) (fun e he => small_len8 (HF.out.small e he)) (by have := HF.out.len; omega))
      have HRB := Lib.hid (fun (wx : World) (h : Kept (fun _ => False) w wx) => rnew_any ma mc fs w.heap.size wx h.size (HE.out.keep h) (fun e he => small_len8 (HG.out.small e he)) (by have := HG.out.len; omega))
      have HLA := Lib.hid (newL_len9 HF.out.len)
      have HLB := Lib.hid (newL_len9 HG.out.len)
      generalize newL (dds es) = r1 at *
      generalize newL (dds fs) = r2 at *
      obtain ⟨ea, A⟩ := r1
      obtain ⟨eb, B⟩ := r2
      dsimp only at *
      go_wp2_with fail
      refine (HNA.out _ K3.out).mono ?_
      rintro e w5 ⟨v5, rfl, hv5, hn5, s5, k5⟩
      have S5 := Lib.hid s5; have K5 := Lib.hid (K3.out.trans k5 (fun _ _ h => h)); have HV5 := Lib.hid hv5; have HN5 := Lib.hid hn5
      clear s5 k5 hv5 hn5
      go_wp2_with fail
      refine (HNB.out _ K5.out).mono ?_
      rintro e w6 ⟨v6, rfl, hv6, hn6, s6, k6⟩
      have S6 := Lib.hid s6; have T6 := Lib.hid (S5.out.keep k6); have K6 := Lib.hid (K5.out.trans k6 (fun _ _ h => h)); have HV6 := Lib.hid hv6; have HN6 := Lib.hid hn6
      clear s6 k6 hv6 hn6
      go_wp2_with fail
      refine (HRA.out _ K6.out).mono ?_
      rintro e w7 ⟨xa, xc, xs, rfl, hx7, _, r7, k7⟩
      have R7 := Lib.hid r7; have S7 := Lib.hid (S6.out.keep k7); have T7 := Lib.hid (T6.out.keep k7); have K7 := Lib.hid (K6.out.trans k7 (fun _ _ h => h)); have HX7 := Lib.hid hx7
      clear r7 k7 hx7
      go_wp2_with fail
      refine (HRB.out _ K7.out).mono ?_
      rintro e w8 ⟨ya, yc, ys, rfl, hy8, _, r8, k8⟩
      have HY8 := Lib.hid hy8
      dsimp only at HX7 HY8 S7 T7
      have O8 := Lib.hid (show O9 w v5 v6 xa xs ya ys w8 from ⟨by rw [HX7.out]; exact T7.out.keep k8, by rw [hy8]; exact S7.out.keep k8, R7.out.keep k8, r8, K7.out.trans k8 (fun _ _ h => h)⟩)
      have HXL := Lib.hid (show xs.length ≤ 10 by rw [← dds_len, HX7.out]; exact HLA.out)
      have HYL := Lib.hid (show ys.length ≤ 10 by rw [← dds_len, HY8.out]; exact HLB.out)
      clear hy8 r8 k8 S5 S6 T6 S7 T7 R7 HX7 HY8 HLA HLB HNA HNB HRA HRB
      dsimp only at *
      by_cases hea : ea = 0
      · by_cases heb : eb = 0
        · obtain ⟨p1, rfl⟩ := HV5.out hea
          obtain ⟨p2, rfl⟩ := HV6.out heb
          subst hea heb
          clear HV5 HV6 HN5 HN6
          have HO := Lib.hid (dof_any _ _ (dds xs) (dds ys) w8 O8.out.a O8.out.b (by rw [dds_len]; have := HXL.out; omega) (by rw [dds_len]; have := HYL.out; omega))
          have HRO := Lib.hid (fun (wx : World) (h : Kept (fun _ => False) w8 wx) => rof9_any xa xc xs ya yc ys wx (O8.out.x.keep h) (O8.out.y.keep h) (by have := HXL.out; omega) (by have := HYL.out; omega))
          go_wp2_with fail
          refine HO.out.mono ?_
          rintro e w9 ⟨pa, pc, p, rfl, hp, he9, k9⟩
          have HP := Lib.hid hp
          have P9 := Lib.hid (show Q9 w _ _ xa xs ya ys pa p w9 from ⟨O8.out.keep k9, he9⟩)
          have HLP := Lib.hid (of_len9 O8.out.a.snp O8.out.b.snp hp)
          have HPL := Lib.hid (show p.length ≤ 20 by
            have h1 := ofL_len_le (dds xs) (dds ys)
            have h2 := congrArg List.length hp
            rw [eds_len] at h2
            rw [dds_len, dds_len] at h1
            have := HXL.out; have := HYL.out
            omega)
          have K9 := Lib.hid k9
          clear hp he9 k9 HO
          go_wp2_with fail
          refine (HRO.out _ K9.out).mono ?_
          rintro e w10 ⟨qa, qc, q, rfl, hq, he10, k10⟩
          have P10 := Lib.hid (P9.out.keep k10)
          have HSA := Lib.hid (rsame9_any pa pc p qa qc q w10.heap.size w10 P10.out.p he10 HLP.out (of_len9 O8.out.a.snp O8.out.b.snp hq) (by have := HPL.out; omega))
          have hsp : sameP p q = true := decide_eq_true (HP.out.trans hq.symm)
          rw [hsp] at HSA
          clear hq he10 k10 hsp HRO
          have HR := Lib.hid (fun (wx : World) (h : Q9 w (.pointer (some ⟨p1, 0, none⟩)) (.pointer (some ⟨p2, 0, none⟩)) xa xs ya ys pa p wx) => dright9_any pa pc p wx.heap.size wx (HM.out.kept h.o.k) h.p HLP.out (by have := HPL.out; omega))
          have HFI := Lib.hid (fun (wx : World) (h : Q9 w (.pointer (some ⟨p1, 0, none⟩)) (.pointer (some ⟨p2, 0, none⟩)) xa xs ya ys pa p wx) => dfits9_any _ (dds xs) pa pc p wx.heap.size wx (HM.out.kept h.o.k) h.o.a (by rw [dds_len]; have := HXL.out; omega) h.p HLP.out (by have := HPL.out; omega))
          have HAP := Lib.hid (fun (wx : World) (h : Q9 w (.pointer (some ⟨p1, 0, none⟩)) (.pointer (some ⟨p2, 0, none⟩)) xa xs ya ys pa p wx) => dapply9_any _ (dds xs) pa pc p wx.heap.size wx (HM.out.kept h.o.k) h.o.a (by rw [dds_len]; have := HXL.out; omega) h.p HLP.out (by have := HPL.out; omega))
          have HTU := Lib.hid (fun (wx : World) (h : Q9 w (.pointer (some ⟨p1, 0, none⟩)) (.pointer (some ⟨p2, 0, none⟩)) xa xs ya ys pa p wx) => dturn9_any pa pc p wx.heap.size wx h.p HLP.out (by have := HPL.out; omega))
          have HKE := Lib.hid (fun (wx : World) (h : Q9 w (.pointer (some ⟨p1, 0, none⟩)) (.pointer (some ⟨p2, 0, none⟩)) xa xs ya ys pa p wx) => dkeys9_any pa pc p wx.heap.size wx h.p HLP.out (by have := HPL.out; omega))
          rw [HP.out, ofL_right O8.out.a.snp O8.out.b.snp] at HR
          rw [HP.out, ofL_fits O8.out.a.snp O8.out.b.snp] at HFI
          rw [HP.out, ofL_apply O8.out.a.snp O8.out.b.snp (by rw [dds_len]; have := HYL.out; omega)] at HAP
          rw [HP.out, turn_ofL] at HTU
          go_wp2_with fail
          refine HSA.out.mono ?_
          rintro e w11 ⟨rfl, k11⟩
          have P11 := Lib.hid (P10.out.keep k11); clear k11
          go_wp2_with fail
          refine (HR.out _ P11.out).mono ?_
          rintro e w12 ⟨rfl, k12⟩
          have P12 := Lib.hid (P11.out.keep k12); clear k12
          go_wp2_with fail
          refine (HFI.out _ P12.out).mono ?_
          rintro e w13 ⟨rfl, k13⟩
          have P13 := Lib.hid (P12.out.keep k13); clear k13
          go_wp2_with fail
          refine (HAP.out _ P13.out).mono ?_
          rintro e w14 ⟨v14, rfl, hv14, _, s14, k14⟩
          obtain ⟨p14, rfl⟩ := hv14 rfl
          have P14 := Lib.hid (P13.out.keep k14); have S14 := Lib.hid s14
          clear hv14 s14 k14 HSA HR HFI HAP
          dsimp only at S14
          go_wp2_with fail
          refine (HTU.out _ P14.out).mono ?_
          rintro e w15 ⟨ta, tc, t, rfl, ht, he15, k15⟩
          have P15 := Lib.hid (P14.out.keep k15); have S15 := Lib.hid (S14.out.keep k15)
          have HTL := Lib.hid (show t.length ≤ 20 by
            have h1 := ofL_len_le (dds ys) (dds xs)
            have h2 := congrArg List.length ht
            rw [eds_len] at h2
            rw [dds_len, dds_len] at h1
            have := HXL.out; have := HYL.out
            omega)
          have HAQ := Lib.hid (dapply9_any _ (dds ys) ta tc t w15.heap.size w15 (HM.out.kept P15.out.o.k) P15.out.o.b (by rw [dds_len]; have := HYL.out; omega) he15 (of_len9 O8.out.b.snp O8.out.a.snp ht) (by have := HTL.out; omega))
          rw [ht, ofL_apply O8.out.b.snp O8.out.a.snp (by rw [dds_len]; have := HXL.out; omega)] at HAQ
          clear ht he15 k15 HTU
          go_wp2_with fail
          refine HAQ.out.mono ?_
          rintro e w16 ⟨v16, rfl, hv16, _, s16, k16⟩
          obtain ⟨p16, rfl⟩ := hv16 rfl
          have P16 := Lib.hid (P15.out.keep k16); have S16 := Lib.hid (S15.out.keep k16); have T16 := Lib.hid s16
          clear hv16 s16 k16 HAQ
          dsimp only at T16
          go_wp2_with fail
          refine (HKE.out _ P16.out).mono ?_
          rintro e w17 ⟨ka, kc, rfl, hk17, k17⟩
          have P17 := Lib.hid (P16.out.keep k17); have S17 := Lib.hid (S16.out.keep k17); have T17 := Lib.hid (T16.out.keep k17); have HK17 := Lib.hid hk17
          clear hk17 k17 HKE
          go_wp2
          go_loopg [19] p.length (fun k c wr => ∃ j, k = p.length - j ∧ j ≤ p.length ∧ c = .int .i64 (j : Int) ∧ Kept (fun _ => False) w17 wr)
          case atStart => exact ⟨0, rfl, Nat.zero_le _, rfl, Kept.refl _ _⟩
          case round =>
            obtain ⟨j, hk, hj, rfl, hw⟩ := hrel
            have HK := Lib.hid hk; have HW := Lib.hid hw
            clear hk hw
            by_cases hlt : j < p.length
            · obtain ⟨b, off, rfl, hb, hc⟩ := P17.out.p.row (by intro h; rw [h] at hlt; simp at hlt)
              obtain ⟨kb, ko, rfl, hkb, hkc⟩ := HK17.out (by intro h; simp [strs] at h; rw [h] at hlt; simp at hlt)
              have KD := Lib.hid (Kept.drew HW.out)
              have q0 := ((hc j hlt).kept KD.out (fun h => h)).c0
              have q1 := (KD.out.cell (p := ⟨kb, ko + j, none⟩) hkb (fun h => h)).trans (hkc j (.string (bs p[j].key)) (by simp [strs, hlt]))
              have i1 : (j : Int) < (p.length : Int) := by omega
              have i2 : ¬ (p.length : Int) ≤ (j : Int) := by omega
              have hpl := HPL.out
              clear hc hkc
              generalize p[j] = x at *
              obtain ⟨key, o1, o2⟩ := x
              dsimp only at q0 q1
              have z1 := bs_list key
              have z2 : (key == key) = true := by simp
              go_upto_region 18 with fail
              go_region
              all_goals go_wp2
              all_goals go_roundg (p.length - (j + 1))
              all_goals first
                | (case measure => have := HK.out; omega)
                | skip
              all_goals exact ⟨j + 1, rfl, by omega, by go_num, KD.out⟩
            · obtain rfl : j = p.length := by omega
              have HSS := Lib.hid (show sameL (dds ys) (dds ys) = true from decide_eq_true rfl)
              have HSX := Lib.hid (show sameL (dds xs) (dds xs) = true from decide_eq_true rfl)
              have P18 := Lib.hid (P17.out.keep HW.out)
              have HE1 := Lib.hid (ssame_any (S17.out.keep HW.out) P18.out.o.b)
              have HE2 := Lib.hid (fun (wx : World) (h : Kept (fun _ => False) wr wx) => ssame_any ((T17.out.keep HW.out).keep h) (P18.out.o.a.keep h))
              rw [HSS.out] at HE1
              rw [HSX.out] at HE2
              have HI1 := Lib.hid (fun (wx : World) (h : Q9 w (.pointer (some ⟨p1, 0, none⟩)) (.pointer (some ⟨p2, 0, none⟩)) xa xs ya ys pa p wx) => is_rl (oc := xc) h.o.a h.o.x (by have := HXL.out; omega))
              have HI2 := Lib.hid (fun (wx : World) (h : Q9 w (.pointer (some ⟨p1, 0, none⟩)) (.pointer (some ⟨p2, 0, none⟩)) xa xs ya ys pa p wx) => is_rl (oc := yc) h.o.b h.o.y (by have := HYL.out; omega))
              clear hlt
              go_wp2_with fail
              refine HE1.out.mono ?_
              rintro e w19 ⟨rfl, k19⟩
              have P19 := Lib.hid (P18.out.keep k19); have K19 := Lib.hid k19; clear k19
              go_wp2_with fail
              refine (HE2.out _ K19.out).mono ?_
              rintro e w20 ⟨rfl, k20⟩
              have P20 := Lib.hid (P19.out.keep k20); clear k20
              go_wp2_with fail
              refine (HI1.out _ P20.out).mono ?_
              rintro e w21 ⟨rfl, k21⟩
              have P21 := Lib.hid (P20.out.keep k21); clear k21
              go_wp2_with fail
              refine (HI2.out _ P21.out).mono ?_
              rintro e w22 ⟨rfl, k22⟩
              have P22 := Lib.hid (P21.out.keep k22); clear k22
              go_wp2
              go_ret
              exact ⟨rfl, keeps_below7 P22.out.o.k⟩
        · obtain rfl := HN6.out heb
          have h1 : (eb != 0) = true := by simp [heb]
          obtain ⟨p1, rfl⟩ := HV5.out hea
          subst hea
          clear heb HV5 HN5 HV6 HN6
          go_wp2
          go_ret
          exact ⟨rfl, keeps_below7 O8.out.k⟩
      · obtain rfl := HN5.out hea
        have h1 : (ea != 0) = true := by simp [hea]
        clear hea HV5 HN5 HV6 HN6
        go_wp2
        go_ret
        exact ⟨rfl, keeps_below7 O8.out.k⟩

end Go.Proofs.YtecjecdgjmipcaaGreat
