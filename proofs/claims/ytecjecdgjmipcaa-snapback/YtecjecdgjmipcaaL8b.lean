/-
  SnapBack: the walk.
-/
import Derived.Test.YtecjecdgjmipcaaL8
import Derived.Test.YtecjecdgjmipcaaSy
import Derived.Test.YtecjecdgjmipcaaTp
import Derived.Test.YtecjecdgjmipcaaGPp
import Derived.Deep.RegionHeld
import Derived.Deep.CutBlock
import Derived.Deep.DeepCutAuto
namespace Go.Proofs.Ytecjecdgjmipcaa
open Go.RowKit Go.Mk Go.Maps

/-- Two snapshots. -/
structure B8 (w : World) (v u : Value) (l m : List DD) (wx : World) : Prop where
  a : Sn wx v l
  b : Sn wx u m
  k : Kept (fun _ => False) w wx

theorem B8.keep {w : World} {v u : Value} {l m : List DD} {wx wy : World} (h : B8 w v u l m wx) (hk : Kept (fun _ => False) wx wy) : B8 w v u l m wy := ⟨h.a.keep hk, h.b.keep hk, h.k.trans hk (fun _ _ h => h)⟩

set_option maxHeartbeats 4000000 in
set_option maxRecDepth 100000 in
theorem back8_any (la : Option Addr) (lc : Nat) (es : List Ent) (ma : Option Addr) (mc : Nat) (fs : List Ent) (w : World) (hD : Ds w w.heap.size la es) (hE : Ds w w.heap.size ma fs) :
    Calls Try.prog 6 #[.slice la es.length lc, .slice ma fs.length mc] w fun e w' => e = .returned (.bool true) ∧ Below w.heap.size w w' := by
  have HAW := Lib.hid (fun w => awake8_any w)
  have HFA := Lib.hid (fun (wx : World) (h : Kept (fun _ => False) w wx) => few_any la lc es 10 w.heap.size wx (hD.keep h) (by decide))
  have HFB := Lib.hid (fun (wx : World) (h : Kept (fun _ => False) w wx) => few_any ma mc fs 10 w.heap.size wx (hE.keep h) (by decide))
  have HD := Lib.hid hD; have HE := Lib.hid hE
  clear hD hE
  go_enter Try.func6, Try.ntmps6
  go_upto_region 1 with fail
  go_cut [22] (fun v wx => v = .bool (!(fewB es 10 && fewB fs 10)) ∧ Kept (fun _ => False) w wx)
  case first =>
    go_wp2_with fail
    refine (HAW.out _).mono ?_
    rintro e w1 ⟨rfl, k1⟩
    have K1 := Lib.hid k1; clear k1
    go_wp2_with fail
    refine (HFA.out _ K1.out).mono ?_
    rintro e w2 ⟨rfl, k2⟩
    have K2 := Lib.hid (K1.out.trans k2 (fun _ _ h => h)); clear k2
    cases hf : fewB es 10 with
    | false =>
      go_wp2_with fail
      go_meet
      case rel => exact ⟨by simp [hf], K2.out⟩
    | true =>
      go_wp2_with fail
      refine (HFB.out _ K2.out).mono ?_
      rintro e w3 ⟨rfl, k3⟩
      have K3 := Lib.hid (K2.out.trans k3 (fun _ _ h => h)); clear k3
      go_wp2_with fail
      go_meet
      case rel => exact ⟨by simp [hf], K3.out⟩
  case rest =>
    obtain ⟨rfl, k3⟩ := hcut
    have K3 := Lib.hid k3; clear k3
    cases hbig : (fewB es 10 && fewB fs 10) with
    | false =>
      clear hbig
      go_wp2_with fail
      refine (HAW.out _).mono ?_
      rintro e w4 ⟨rfl, k4⟩
      have K4 := Lib.hid (K3.out.trans k4 (fun _ _ h => h)); clear k4
      go_wp2
      go_ret
      exact ⟨rfl, keeps_below7 K4.out⟩
    | true =>
      have hall : fewB es 10 = true ∧ fewB fs 10 = true := by simpa using hbig
      have HF := Lib.hid (few_of (n := 10) hall.1)
      have HG := Lib.hid (few_of (n := 10) hall.2)
      clear hbig hall
      have HSA := Lib.hid (fun (wx : World) (h : Kept (fun _ => False) w wx) => snew_any la lc es w.heap.size wx h.size (HD.out.keep h) (fun e he => small_len8 (HF.out.small e he)) (by have := HF.out.len; omega))
      have HSB := Lib.hid (fun (wx : World) (h : Kept (fun _ => False) w wx) => snew_any ma mc fs w.heap.size wx h.size (HE.out.keep h) (fun e he => small_len8 (HG.out.small e he)) (by have := HG.out.len; omega))
      have HNA := Lib.hid (show (newL (dds es)).2.length ≤ 10 by
        by_cases h : (newL (dds es)).1 = 0
        · rw [(newL_made h).len, dds_len]; exact HF.out.len
        · rw [newL_none h]; exact Nat.zero_le _)
      have HNB := Lib.hid (show (newL (dds fs)).2.length ≤ 10 by
        by_cases h : (newL (dds fs)).1 = 0
        · rw [(newL_made h).len, dds_len]; exact HG.out.len
        · rw [newL_none h]; exact Nat.zero_le _)
      generalize newL (dds es) = r at *
      generalize newL (dds fs) = q at *
      obtain ⟨er, l⟩ := r
      obtain ⟨fr, m⟩ := q
      dsimp only at *
      go_wp2_with fail
      refine (HSA.out _ K3.out).mono ?_
      rintro e w5 ⟨v5, rfl, hv5, hn5, s5, k5⟩
      have S5 := Lib.hid s5; have K5 := Lib.hid (K3.out.trans k5 (fun _ _ h => h)); have HV5 := Lib.hid hv5; have HN5 := Lib.hid hn5
      clear s5 k5 hv5 hn5
      go_wp2_with fail
      refine (HSB.out _ K5.out).mono ?_
      rintro e w6 ⟨v6, rfl, hv6, hn6, s6, k6⟩
      have O6 := Lib.hid (show B8 w v5 v6 l m w6 from ⟨S5.out.keep k6, s6, K5.out.trans k6 (fun _ _ h => h)⟩); have HV6 := Lib.hid hv6; have HN6 := Lib.hid hn6
      clear s6 k6 hv6 hn6
      dsimp only at *
      by_cases he : er = 0
      · by_cases hf : fr = 0
        · obtain ⟨p1, rfl⟩ := HV5.out he
          obtain ⟨p2, rfl⟩ := HV6.out hf
          subst he hf
          clear HV5 HV6 HN5 HN6
          have HRA := Lib.hid O6.out.a.rise; have HRB := Lib.hid O6.out.b.rise; have HTA := Lib.hid O6.out.a.right; have HTB := Lib.hid O6.out.b.right
          have HWR := Lib.hid (fun (wx : World) (v : Value) (x : List DD) (h : Sn wx v x) (hx : x.length ≤ 10) => swrite_any v x wx h (by omega))
          have HPO := Lib.hid (parse_oct HRA.out HTA.out (by have := HNA.out; omega))
          have HIN := Lib.hid (show octS l = octS m → l = m from fun e => octS_inj HRA.out HTA.out (by have := HNA.out; omega) HRB.out HTB.out (by have := HNB.out; omega) e)
          have HOL := Lib.hid (show (octS l).length ≤ 1099511627776 by have := octS_len HTA.out; have := HNA.out; omega)
          have HPA := Lib.hid (fun (wx : World) (la : Option Addr) (lc : Nat) (B : Nat) (h : Lies wx B la ((octS l).map bv)) => sparse_any la lc (octS l) B wx h HOL.out)
          rw [HPO.out] at HPA
          have HWA := Lib.hid (fun (wx : World) (v : Value) (h : Sn wx v l) => HWR.out wx v l h HNA.out)
          have HWB := Lib.hid (fun (wx : World) (v : Value) (h : Sn wx v m) => HWR.out wx v m h HNB.out)
          have HEQ := Lib.hid (show (octS l == octS m) = sameL l m by
            rw [Bool.eq_iff_iff]
            simp only [sameL, beq_iff_eq, decide_eq_true_eq]
            exact ⟨HIN.out, fun h => by rw [h]⟩)
          have HSS := Lib.hid (show sameL l l = true from decide_eq_true rfl)
          clear HPO HIN HOL HWR
          generalize octS l = ol at *
          generalize octS m = om at *
          have HCA := Lib.hid (fun (wx : World) (z : Nat) (ao8 : Option Addr) (cap8 : Nat) (ho : wx.ownsRow z 5 1 (.slice ao8 ol.length cap8) ol.length (ol.map bv)) => run_string_of (P := Try.prog) wx 54 9 5 Try.underlying54 Try.underlying5 Try.underlying9 cap8 _ rfl (owns_lies ho))
          have HCB := Lib.hid (fun (wx : World) (z : Nat) (ao8 : Option Addr) (cap8 : Nat) (ho : wx.ownsRow z 5 1 (.slice ao8 om.length cap8) om.length (om.map bv)) => run_string_of (P := Try.prog) wx 54 9 5 Try.underlying54 Try.underlying5 Try.underlying9 cap8 _ rfl (owns_lies ho))
          have zl := bs_list ol
          have zm := bs_list om
          go_wp2_with fail
          refine (HWA.out _ _ O6.out.a).mono ?_
          rintro e w7 ⟨ao7, cap7, rfl, ho7, k7⟩
          have HL7 := Lib.hid (owns_lies ho7); have O7 := Lib.hid (O6.out.keep k7); clear ho7 k7
          go_wp2_with fail
          refine (HPA.out _ _ _ _ HL7.out).mono ?_
          rintro e w8 ⟨v8, rfl, hv8, _, s8, k8⟩
          obtain ⟨p8, rfl⟩ := hv8 rfl
          have O8 := Lib.hid (O7.out.keep k8); have S8 := Lib.hid s8
          clear hv8 s8 k8
          dsimp only at S8
          have OD := Lib.hid (O8.out.keep (Kept.drew (Kept.refl _ w8))); have SD := Lib.hid (S8.out.keep (Kept.drew (Kept.refl _ w8)))
          have HS1 := Lib.hid (ssame_any SD.out OD.out.a)
          rw [HSS.out] at HS1
          have HS2 := Lib.hid (fun (wx : World) (h : B8 w (.pointer (some ⟨p1, 0, none⟩)) (.pointer (some ⟨p2, 0, none⟩)) l m wx) => ssame_any h.a h.b)
          generalize sameL l m = sm at *
          go_upto_region 8 with fail
          go_region_held (fun _ => True) (trivial) (first
            | (go_at_call_of 17 (Value.pointer (some ⟨p8, 0, none⟩)); refine HS1.out.mono ?_; rintro e w9 ⟨rfl, k9⟩; have O9 := Lib.hid (OD.out.keep k9); clear k9)
            | (go_at_call_of 28 (Value.pointer (some ⟨p1, 0, none⟩)); refine (HWA.out _ _ O9.out.a).mono ?_; rintro e w10 ⟨ao10, cap10, rfl, ho10, k10⟩; have O10 := Lib.hid (O9.out.keep k10); have HO10 := Lib.hid ho10; have hca10 := HCA.out _ _ _ _ ho10; clear ho10 k10)
            | (go_at_call_of 28 (Value.pointer (some ⟨p2, 0, none⟩)); refine (HWB.out _ _ O10.out.b).mono ?_; rintro e w11 ⟨ao11, cap11, rfl, ho11, k11⟩; have O11 := Lib.hid (O10.out.keep k11); have HP11 := Lib.hid (owns_kept HO10.out k11 (fun _ _ h => h)); have HO11 := Lib.hid ho11; have hca11 := HCA.out _ _ _ _ HP11.out; have hcb11 := HCB.out _ _ _ _ ho11; clear ho11 k11)
            | (go_at_call_of 17 (Value.pointer (some ⟨p2, 0, none⟩)); refine (HS2.out _ O11.out).mono ?_; rintro e w12 ⟨rfl, k12⟩; have O12 := Lib.hid (O11.out.keep k12); have hca12 := HCA.out _ _ _ _ (owns_kept HP11.out k12 (fun _ _ h => h)); have hcb12 := HCB.out _ _ _ _ (owns_kept HO11.out k12 (fun _ _ h => h)); clear k12))
          all_goals go_wp2
          all_goals go_ret
          all_goals exact ⟨by rw [HEQ.out]; simp, keeps_below7 O12.out.k⟩
        · obtain rfl := HN6.out hf
          have hf1 : (fr != 0) = true := by simp [hf]
          subst he
          clear hf
          go_wp2
          go_ret
          exact ⟨rfl, keeps_below7 O6.out.k⟩
      · obtain rfl := HN5.out he
        have he1 : (er != 0) = true := by simp [he]
        clear he
        go_wp2
        go_ret
        exact ⟨rfl, keeps_below7 O6.out.k⟩

end Go.Proofs.Ytecjecdgjmipcaa
