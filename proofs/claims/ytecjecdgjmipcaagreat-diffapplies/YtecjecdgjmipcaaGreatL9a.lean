/-
  DiffApplies: the walk.
-/
import Derived.Test.YtecjecdgjmipcaaGreatL9
import Derived.Test.YtecjecdgjmipcaaGreatGL8c
import Derived.Test.YtecjecdgjmipcaaGreatR9c
namespace Go.Proofs.YtecjecdgjmipcaaGreat
open Go.RowKit Go.Mk Go.Maps

/-- The snapshot, the reference's list, the patch. -/
structure A9 (w : World) (v : Value) (oa : Option Addr) (fs : List Ent) (pa : Option Addr) (p : List EE) (wx : World) : Prop where
  sn : Sn wx v (dds fs)
  rl : Rl wx oa fs
  es : Es wx wx.heap.size pa p
  k : Kept (fun _ => False) w wx

theorem A9.keep {w : World} {v : Value} {oa : Option Addr} {fs : List Ent} {pa : Option Addr} {p : List EE} {wx wy : World} (h : A9 w v oa fs pa p wx) (hk : Kept (fun _ => False) wx wy) : A9 w v oa fs pa p wy :=
  ⟨h.sn.keep hk, h.rl.keep hk, (h.es.keep hk).mono hk.size, h.k.trans hk (fun _ _ h => h)⟩

/-- What Apply answers without an error. -/
theorem apply_ok {l : List DD} {p : List ED} {m : List DD} (hl : Rise keyD l) (h : applyP l p = (0, m)) : ofL l m = p ∧ m.length ≤ 500 := by
  unfold applyP at h
  by_cases h1 : rightP p = false
  · rw [if_pos h1] at h; cases h
  · rw [if_neg h1] at h
    by_cases h2 : fitsP l p = false
    · rw [if_pos h2] at h; cases h
    · rw [if_neg h2] at h
      by_cases h3 : 500 < (appP l p).length
      · rw [if_pos h3] at h; cases h
      · rw [if_neg h3] at h
        cases h
        exact ⟨fits_ofL hl (by simpa using h2), by omega⟩

theorem apply_no {l : List DD} {p : List ED} (h : (applyP l p).1 ≠ 0) : (applyP l p).2 = [] := by
  unfold applyP at h ⊢
  split
  · rfl
  · split
    · rfl
    · split
      · rfl
      · rename_i h1 h2 h3
        rw [if_neg h1, if_neg h2, if_neg h3] at h
        exact (h rfl).elim

set_option maxHeartbeats 4000000 in
set_option maxRecDepth 100000 in
theorem applies9_any (la : Option Addr) (lc : Nat) (es : List Ent) (pa : Option Addr) (pc : Nat) (p : List EE) (w : World) (hm : MaxAt w) (hD : Ds w w.heap.size la es) (hE : Es w w.heap.size pa p) :
    Calls Tryz.prog 4 #[.slice la es.length lc, .slice pa p.length pc] w fun e w' => e = .returned (.bool true) ∧ Below w.heap.size w w' := by
  have HAW := Lib.hid (fun w => awake9_any w)
  have HFA := Lib.hid (fun (wx : World) (h : Kept (fun _ => False) w wx) => few_any la lc es 10 w.heap.size wx (hD.keep h) (by decide))
  have HSM := Lib.hid (fun (wx : World) (h : Kept (fun _ => False) w wx) => rsmall9_any pa pc p w.heap.size wx (hE.keep h))
  have HD := Lib.hid hD; have HE := Lib.hid hE; have HM := Lib.hid hm
  clear hD hE hm
  go_enter Tryz.func4, Tryz.ntmps4
  go_upto_region 1 with fail
  go_cut [24] (fun v wx => v = .bool (!(fewB es 10 && smallP p)) ∧ Kept (fun _ => False) w wx)
  case first =>
    go_wp2_with fail
    refine (HAW.out _).mono ?_
    rintro e w1 ⟨rfl, k1⟩
    have K1 := Lib.hid k1; clear k1
    go_wp2_with fail
    refine (HFA.out _ K1.out).mono ?_
    rintro e w2 ⟨rfl, k2⟩
    have K2 := Lib.hid (K1.out.trans k2 (fun _ _ h => h)); clear k2
    cases hf : fewB es 10 with
    | false =>
      go_wp2_with fail
      go_meet
      case rel => exact ⟨by simp [hf], K2.out⟩
    | true =>
      go_wp2_with fail
      refine (HSM.out _ K2.out).mono ?_
      rintro e w3 ⟨rfl, k3⟩
      have K3 := Lib.hid (K2.out.trans k3 (fun _ _ h => h)); clear k3
      go_wp2_with fail
      go_meet
      case rel => exact ⟨by simp [hf], K3.out⟩
  case rest =>
    obtain ⟨rfl, k3⟩ := hcut
    have K3 := Lib.hid k3; clear k3
    cases hbig : (fewB es 10 && smallP p) with
    | false =>
      clear hbig
      go_wp2_with fail
      refine (HAW.out _).mono ?_
      rintro e w4 ⟨rfl, k4⟩
      have K4 := Lib.hid (K3.out.trans k4 (fun _ _ h => h)); clear k4
      go_wp2
      go_ret
      exact ⟨rfl, keeps_below7 K4.out⟩
    | true =>
      have hall : fewB es 10 = true ∧ smallP p = true := by simpa using hbig
      have HF := Lib.hid (few_of (n := 10) hall.1)
      have HP := Lib.hid (small_len9 hall.2)
      clear hbig hall HFA HSM
      have HSA := Lib.hid (snew_any la lc es w.heap.size wc K3.out.size (HD.out.keep K3.out) (fun e he => small_len8 (HF.out.small e he)) (by have := HF.out.len; omega))
      have HRN := Lib.hid (fun (wx : World) (h : Kept (fun _ => False) w wx) => rnew_any la lc es w.heap.size wx h.size (HD.out.keep h) (fun e he => small_len8 (HF.out.small e he)) (by have := HF.out.len; omega))
      have HNL := Lib.hid (show (newL (dds es)).2.length ≤ 10 by
        by_cases h : (newL (dds es)).1 = 0
        · rw [(newL_made h).len, dds_len]; exact HF.out.len
        · rw [newL_none h]; exact Nat.zero_le _)
      generalize newL (dds es) = r at *
      obtain ⟨er, l⟩ := r
      dsimp only at *
      go_wp2_with fail
      refine HSA.out.mono ?_
      rintro e w5 ⟨v5, rfl, hv5, hn5, s5, k5⟩
      have S5 := Lib.hid s5; have K5 := Lib.hid (K3.out.trans k5 (fun _ _ h => h)); have HV5 := Lib.hid hv5; have HN5 := Lib.hid hn5
      clear s5 k5 hv5 hn5
      go_wp2_with fail
      refine (HRN.out _ K5.out).mono ?_
      rintro e w6 ⟨oa, oc, fs, rfl, hd6, hl6, r6, k6⟩
      have HD6 := Lib.hid hd6
      have HFL := Lib.hid (show fs.length ≤ 10 by rw [← dds_len, hd6]; exact HNL.out)
      have O6 := Lib.hid (show A9 w v5 oa fs pa p w6 from ⟨by rw [hd6]; exact S5.out.keep k6, r6, ((HE.out.keep K5.out).keep k6).mono (Nat.le_trans K5.out.size k6.size), K5.out.trans k6 (fun _ _ h => h)⟩)
      clear r6 k6 hd6 hl6 S5
      dsimp only at *
      go_upto_if 37 with fail
      go_cut [5, 7] (fun v x wx => ∃ oa oc fs, x = .slice oa fs.length oc ∧ fs.length ≤ 10 ∧ A9 w v oa fs pa p wx)
      case first =>
        by_cases he : er = 0
        · subst he
          go_wp2_with fail
          go_meet
          exact ⟨oa, oc, fs, rfl, HFL.out, O6.out⟩
        · have h1 : (er != 0) = true := by simp [he]
          clear he
          go_wp2_with fail
          go_meet
          exact ⟨none, 0, [], rfl, Nat.zero_le _, ⟨sn_nil _, Rl.nil _ _, O6.out.es, O6.out.k⟩⟩
      case rest =>
        clear HSA HRN HNL HV5 HN5 HD6 HFL O6
        obtain ⟨oa, oc, fs, rfl, hfl, o7⟩ := hcut
        generalize u5 = v at *
        have HFL := Lib.hid hfl; have O7 := Lib.hid o7
        clear hfl o7
        have HLP := Lib.hid (show ∀ e ∈ p, Len9 e from fun e he => (HP.out.2 e he).1)
        have HAP := Lib.hid (dapply9_any v (dds fs) pa pc p _ _ (HM.out.kept O7.out.k) O7.out.sn (by rw [dds_len]; have := HFL.out; omega) O7.out.es HLP.out (by have := HP.out.1; omega))
        have HRA := Lib.hid (fun (wx : World) (h : A9 w v oa fs pa p wx) => rapply9_any oa oc fs pa pc p wx.heap.size wx (Nat.le_refl _) h.rl (by have := HFL.out; omega) h.es HLP.out (by have := HP.out.1; omega))
        have HOK := Lib.hid (fun m h => apply_ok (l := dds fs) (p := eds p) (m := m) O7.out.sn.rise h)
        have HR1 := Lib.hid (fun (wx : World) (h : A9 w v oa fs pa p wx) => dright9_any pa pc p wx.heap.size wx (HM.out.kept h.k) h.es HLP.out (by have := HP.out.1; omega))
        have HR2 := Lib.hid (fun (wx : World) (h : A9 w v oa fs pa p wx) => rright9_any pa pc p wx.heap.size wx h.es HLP.out (by have := HP.out.1; omega))
        have HF1 := Lib.hid (fun (wx : World) (h : A9 w v oa fs pa p wx) => dfits9_any v (dds fs) pa pc p wx.heap.size wx (HM.out.kept h.k) h.sn (by rw [dds_len]; have := HFL.out; omega) h.es HLP.out (by have := HP.out.1; omega))
        have HF2 := Lib.hid (fun (wx : World) (h : A9 w v oa fs pa p wx) => rfits9_any oa oc fs pa pc p wx.heap.size wx (Nat.le_refl _) h.rl.ds h.rl.len (by have := HFL.out; omega) h.rl.rise h.es HLP.out (by have := HP.out.1; omega))
        have HIS := Lib.hid (fun (wx : World) (h : A9 w v oa fs pa p wx) => is_rl (oc := oc) h.sn h.rl (by have := HFL.out; omega))
        have HNO := Lib.hid (fun h => apply_no (l := dds fs) (p := eds p) h)
        have HOF := Lib.hid (fun (m : List DD) (u : Value) (wx : World) (h : A9 w v oa fs pa p wx) (hu : Sn wx u m) (hm : m.length ≤ 500) => dof_any v u (dds fs) m wx h.sn hu (by rw [dds_len]; have := HFL.out; omega) (by omega))
        generalize applyP (dds fs) (eds p) = R at *
        generalize rightP (eds p) = rp at *
        generalize fitsP (dds fs) (eds p) = fp at *
        obtain ⟨er2, m⟩ := R
        dsimp only at *
        have i1 : (rp != rp) = false := by simp
        have i2 : (fp != fp) = false := by simp
        go_wp2_with fail
        refine HAP.out.mono ?_
        rintro e w8 ⟨v8, rfl, hv8, hn8, s8, k8⟩
        have HV8 := Lib.hid hv8; have HN8 := Lib.hid hn8; have S8 := Lib.hid s8; have O8 := Lib.hid (O7.out.keep k8)
        clear hv8 hn8 s8 k8 HAP
        dsimp only at HV8 HN8 S8
        go_wp2_with fail
        refine (HRA.out _ O8.out).mono ?_
        rintro e w9 ⟨ob, oc9, out, rfl, hd9, r9, k9⟩
        have HD9 := Lib.hid hd9; have R9 := Lib.hid r9; have S9 := Lib.hid (S8.out.keep k9); have O9 := Lib.hid (O8.out.keep k9)
        clear hd9 r9 k9 HRA S8
        dsimp only at HD9
        go_wp2_with fail
        refine (HR1.out _ O9.out).mono ?_
        rintro e w10 ⟨rfl, k10⟩
        have O10 := Lib.hid (O9.out.keep k10); have K10 := Lib.hid k10; clear k10
        go_wp2_with fail
        refine (HR2.out _ O10.out).mono ?_
        rintro e w11 ⟨rfl, k11⟩
        have O11 := Lib.hid (O10.out.keep k11); have K11 := Lib.hid (K10.out.trans k11 (fun _ _ h => h)); clear k11
        go_wp2_with fail
        refine (HF1.out _ O11.out).mono ?_
        rintro e w12 ⟨rfl, k12⟩
        have O12 := Lib.hid (O11.out.keep k12); have K12 := Lib.hid (K11.out.trans k12 (fun _ _ h => h)); clear k12
        go_wp2_with fail
        refine (HF2.out _ O12.out).mono ?_
        rintro e w13 ⟨rfl, k13⟩
        have O13 := Lib.hid (O12.out.keep k13); have K13 := Lib.hid (K12.out.trans k13 (fun _ _ h => h)); clear k13
        go_wp2_with fail
        refine (HIS.out _ O13.out).mono ?_
        rintro e w14 ⟨rfl, k14⟩
        have O14 := Lib.hid (O13.out.keep k14); have K14 := Lib.hid (K13.out.trans k14 (fun _ _ h => h)); clear k14
        have S14 := Lib.hid (S9.out.keep K14.out); have R14 := Lib.hid (R9.out.keep K14.out)
        clear S9 R9 K10 K11 K12 K13 K14 HIS HF1 HF2 HR1 HR2
        by_cases he : er2 = 0
        · subst he
          obtain ⟨p8, rfl⟩ := HV8.out rfl
          obtain ⟨hofm, hml⟩ := HOK.out m rfl
          have HML := Lib.hid hml; have HOM := Lib.hid hofm
          have HOL := Lib.hid (show out.length ≤ 500 by rw [← dds_len, HD9.out]; exact hml)
          have HI2 := Lib.hid (show Calls Tryz.prog 20 #[.pointer (some ⟨p8, 0, none⟩), .slice ob out.length oc9] w14 fun e w' => e = .returned (.bool true) ∧ Kept (fun _ => False) w14 w' from is_rl (by rw [HD9.out]; exact S14.out) R14.out (by have := HOL.out; omega))
          clear hml hofm HV8 HN8 HNO HOK
          go_wp2_with fail
          refine HI2.out.mono ?_
          rintro e w15 ⟨rfl, k15⟩
          have O15 := Lib.hid (O14.out.keep k15); have S15 := Lib.hid (S14.out.keep k15); clear k15
          have HO2 := Lib.hid (HOF.out m _ w15 O15.out S15.out HML.out)
          rw [HOM.out] at HO2
          go_wp2_with fail
          refine HO2.out.mono ?_
          rintro e w16 ⟨qa, qc, q, rfl, hq, he16, k16⟩
          have O16 := Lib.hid (O15.out.keep k16)
          have HLQ := Lib.hid (of_len9 O15.out.sn.snp S15.out.snp (hq.trans HOM.out.symm))
          have HQL := Lib.hid (show q.length = p.length by have := congrArg List.length hq; rwa [eds_len, eds_len] at this)
          have HSA := Lib.hid (rsame9_any qa qc q pa pc p w16.heap.size w16 he16 O16.out.es HLQ.out HLP.out (by rw [HQL.out]; have := HP.out.1; omega))
          have hsp : sameP q p = true := decide_eq_true hq
          rw [hsp] at HSA
          clear hq he16 k16 hsp HO2
          go_wp2_with fail
          refine HSA.out.mono ?_
          rintro e w17 ⟨rfl, k17⟩
          go_wp2
          go_ret
          exact ⟨rfl, keeps_below7 (O16.out.k.trans k17 (fun _ _ h => h))⟩
        · obtain rfl := HN8.out he
          have h1 : (er2 != 0) = true := by simp [he]
          have h2 : ¬ er2 = 0 := he
          clear HV8 HN8 HNO HOK he
          go_wp2
          go_ret
          exact ⟨rfl, keeps_below7 O14.out.k⟩

end Go.Proofs.YtecjecdgjmipcaaGreat
