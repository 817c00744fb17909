/-
  DiffChains: the walk.
-/
import Derived.Test.YtecjecdgjmipcaaL9
import Derived.Test.YtecjecdgjmipcaaSy
namespace Go.Proofs.Ytecjecdgjmipcaa
open Go.RowKit Go.Mk Go.Maps

/-- Three snapshots. -/
structure C9 (w : World) (v u t : Value) (A B C : List DD) (wx : World) : Prop where
  a : Sn wx v A
  b : Sn wx u B
  c : Sn wx t C
  k : Kept (fun _ => False) w wx

theorem C9.keep {w : World} {v u t : Value} {A B C : List DD} {wx wy : World} (h : C9 w v u t A B C wx) (hk : Kept (fun _ => False) wx wy) : C9 w v u t A B C wy :=
  ⟨h.a.keep hk, h.b.keep hk, h.c.keep hk, h.k.trans hk (fun _ _ h => h)⟩

theorem newL_len {es : List Ent} {n : Nat} (h : es.length ≤ n) : (newL (dds es)).2.length ≤ n := by
  by_cases h0 : (newL (dds es)).1 = 0
  · rw [(newL_made h0).len, dds_len]; exact h
  · rw [newL_none h0]; exact Nat.zero_le _

/-- Of, and Apply of it: the other snapshot. -/
theorem apply_of {w0 w : World} {v u : Value} {A B : List DD} (h1 : Sn w v A) (h2 : Sn w u B) (hA : A.length ≤ 500) (hB : B.length ≤ 500) (e : Ending) (w' : World) (h : EsQ w (ofL A B) e w') :
    ∃ pa pc q, e = .returned (.slice pa q.length pc) ∧ eds q = ofL A B ∧ q.length ≤ 1000 ∧ (∀ x ∈ q, Len9 x) ∧ Es w' w'.heap.size pa q ∧ Kept (fun _ => False) w w' ∧
      (∀ (v' : Value) (wx : World), MaxAt wx → Sn wx v' A → Es wx wx.heap.size pa q → Calls Try.prog 15 #[v', .slice pa q.length pc] wx (NwPost wx (0, B))) := by
  obtain ⟨pa, pc, q, rfl, hq, he, hk⟩ := h
  have hl := ofL_len_le A B
  have hql : q.length ≤ 1000 := by have := congrArg List.length hq; rw [eds_len] at this; omega
  have hL := of_len9 h1.snp h2.snp hq
  refine ⟨pa, pc, q, rfl, hq, hql, hL, he, hk, fun v' wx hm hs hx => ?_⟩
  have := dapply9_any v' A pa pc q wx.heap.size wx hm hs (by omega) hx hL (by omega)
  rwa [hq, ofL_apply h1.snp h2.snp hB] at this

set_option maxHeartbeats 4000000 in
set_option maxRecDepth 100000 in
theorem chains9_any (la : Option Addr) (lc : Nat) (es : List Ent) (ma : Option Addr) (mc : Nat) (fs : List Ent) (na : Option Addr) (nc : Nat) (gs : List Ent) (w : World) (hm : MaxAt w) (hD : Ds w w.heap.size la es) (hE : Ds w w.heap.size ma fs) (hF : Ds w w.heap.size na gs) :
    Calls Try.prog 4 #[.agg #[.slice la es.length lc, .slice ma fs.length mc, .slice na gs.length nc]] w fun e w' => e = .returned (.bool true) ∧ Below w.heap.size w w' := by
  have HAW := Lib.hid (fun w => awake9_any w)
  have HFA := Lib.hid (fun (wx : World) (h : Kept (fun _ => False) w wx) => few_any la lc es 8 w.heap.size wx (hD.keep h) (by decide))
  have HFB := Lib.hid (fun (wx : World) (h : Kept (fun _ => False) w wx) => few_any ma mc fs 8 w.heap.size wx (hE.keep h) (by decide))
  have HFC := Lib.hid (fun (wx : World) (h : Kept (fun _ => False) w wx) => few_any na nc gs 8 w.heap.size wx (hF.keep h) (by decide))
  have HNA := Lib.hid (fun (h1 : FewD es 8) (wx : World) (h : Kept (fun _ => False) w wx) => snew_any la lc es w.heap.size wx h.size (hD.keep h) (fun e he => small_len8 (h1.small e he)) (by have := h1.len; omega))
  have HNB := Lib.hid (fun (h1 : FewD fs 8) (wx : World) (h : Kept (fun _ => False) w wx) => snew_any ma mc fs w.heap.size wx h.size (hE.keep h) (fun e he => small_len8 (h1.small e he)) (by have := h1.len; omega))
  have HNC := Lib.hid (fun (h1 : FewD gs 8) (wx : World) (h : Kept (fun _ => False) w wx) => snew_any na nc gs w.heap.size wx h.size (hF.keep h) (fun e he => small_len8 (h1.small e he)) (by have := h1.len; omega))
  have KB := Lib.hid ((Kept.refl (fun _ => False) w).alloc (.cells #[.slice la es.length lc, .slice ma fs.length mc, .slice na gs.length nc] 28))
  have HBX := Lib.hid (show ∀ wx, Kept (fun _ => False) (w.alloc (.cells #[.slice la es.length lc, .slice ma fs.length mc, .slice na gs.length nc] 28)) wx → wx.cell? ⟨w.heap.size, 0, none⟩ = some (.slice la es.length lc) ∧ wx.cell? ⟨w.heap.size, 1, none⟩ = some (.slice ma fs.length mc) ∧ wx.cell? ⟨w.heap.size, 2, none⟩ = some (.slice na gs.length nc) from fun wx h => by
    have h0 := fun j => World.cell?_alloc_new w #[.slice la es.length lc, .slice ma fs.length mc, .slice na gs.length nc] 28 j
    exact ⟨(h.cell (p := ⟨w.heap.size, 0, none⟩) (by simp) (fun h => h)).trans (h0 0), (h.cell (p := ⟨w.heap.size, 1, none⟩) (by simp) (fun h => h)).trans (h0 1), (h.cell (p := ⟨w.heap.size, 2, none⟩) (by simp) (fun h => h)).trans (h0 2)⟩)
  have HM := Lib.hid hm
  clear hD hE hF hm
  go_enter Try.func4, Try.ntmps4
  go_upto_region 1 with fail
  go_cut [34] (fun v wx => v = .bool (!(fewB es 8 && fewB fs 8 && fewB gs 8)) ∧ Kept (fun _ => False) (w.alloc (.cells #[.slice la es.length lc, .slice ma fs.length mc, .slice na gs.length nc] 28)) wx)
  case first =>
    go_wp2_with fail
    refine (HAW.out _).mono ?_
    rintro e w1 ⟨rfl, k1⟩
    have K1 := Lib.hid k1; clear k1
    obtain ⟨c0, c1, c2⟩ := HBX.out _ K1.out
    go_wp2_with fail
    refine (HFA.out _ (KB.out.trans K1.out (fun _ _ h => h))).mono ?_
    rintro e w2 ⟨rfl, k2⟩
    have K2 := Lib.hid (K1.out.trans k2 (fun _ _ h => h)); clear k2 c0 c1 c2
    obtain ⟨c0, c1, c2⟩ := HBX.out _ K2.out
    cases hf : fewB es 8 with
    | false =>
      go_wp2_with fail
      go_meet
      case rel => exact ⟨by simp [hf], K2.out⟩
    | true =>
      go_wp2_with fail
      refine (HFB.out _ (KB.out.trans K2.out (fun _ _ h => h))).mono ?_
      rintro e w3 ⟨rfl, k3⟩
      have K3 := Lib.hid (K2.out.trans k3 (fun _ _ h => h)); clear k3 c0 c1 c2
      obtain ⟨c0, c1, c2⟩ := HBX.out _ K3.out
      cases hg : fewB fs 8 with
      | false =>
        go_wp2_with fail
        go_meet
        case rel => exact ⟨by simp [hf, hg], K3.out⟩
      | true =>
        go_wp2_with fail
        refine (HFC.out _ (KB.out.trans K3.out (fun _ _ h => h))).mono ?_
        rintro e w4 ⟨rfl, k4⟩
        have K4 := Lib.hid (K3.out.trans k4 (fun _ _ h => h)); clear k4 c0 c1 c2
        go_wp2_with fail
        go_meet
        case rel => exact ⟨by simp [hf, hg], K4.out⟩
  case rest =>
    obtain ⟨rfl, k5⟩ := hcut
    have K5 := Lib.hid k5; clear k5
    cases hbig : (fewB es 8 && fewB fs 8 && fewB gs 8) with
    | false =>
      clear hbig
      go_wp2_with fail
      refine (HAW.out _).mono ?_
      rintro e w6 ⟨rfl, k6⟩
      have K6 := Lib.hid ((KB.out.trans K5.out (fun _ _ h => h)).trans k6 (fun _ _ h => h)); clear k6
      go_wp2
      go_ret
      exact ⟨rfl, keeps_below7 K6.out⟩
    | true =>
      have hall : (fewB es 8 = true ∧ fewB fs 8 = true) ∧ fewB gs 8 = true := by simpa using hbig
      have HA := Lib.hid (HNA.out (few_of (n := 8) hall.1.1))
      have HB := Lib.hid (HNB.out (few_of (n := 8) hall.1.2))
      have HC := Lib.hid (HNC.out (few_of (n := 8) hall.2))
      have HLA := Lib.hid (newL_len (few_of (n := 8) hall.1.1).len)
      have HLB := Lib.hid (newL_len (few_of (n := 8) hall.1.2).len)
      have HLC := Lib.hid (newL_len (few_of (n := 8) hall.2).len)
      clear hbig hall HNA HNB HNC HFA HFB HFC
      generalize newL (dds es) = r1 at *
      generalize newL (dds fs) = r2 at *
      generalize newL (dds gs) = r3 at *
      obtain ⟨ea, A⟩ := r1
      obtain ⟨eb, B⟩ := r2
      obtain ⟨ec, C⟩ := r3
      dsimp only at *
      obtain ⟨c0, c1, c2⟩ := HBX.out _ K5.out
      go_wp2_with fail
      refine (HA.out _ (KB.out.trans K5.out (fun _ _ h => h))).mono ?_
      rintro e w6 ⟨v6, rfl, hv6, hn6, s6, k6⟩
      have S6 := Lib.hid s6; have K6 := Lib.hid (K5.out.trans k6 (fun _ _ h => h)); have HV6 := Lib.hid hv6; have HN6 := Lib.hid hn6
      clear s6 k6 hv6 hn6 c0 c1 c2
      obtain ⟨c0, c1, c2⟩ := HBX.out _ K6.out
      go_wp2_with fail
      refine (HB.out _ (KB.out.trans K6.out (fun _ _ h => h))).mono ?_
      rintro e w7 ⟨v7, rfl, hv7, hn7, s7, k7⟩
      have S7 := Lib.hid s7; have K7 := Lib.hid (K6.out.trans k7 (fun _ _ h => h)); have HV7 := Lib.hid hv7; have HN7 := Lib.hid hn7; have T7 := Lib.hid (S6.out.keep k7)
      clear s7 k7 hv7 hn7 c0 c1 c2
      obtain ⟨c0, c1, c2⟩ := HBX.out _ K7.out
      go_wp2_with fail
      refine (HC.out _ (KB.out.trans K7.out (fun _ _ h => h))).mono ?_
      rintro e w8 ⟨v8, rfl, hv8, hn8, s8, k8⟩
      have O8 := Lib.hid (show C9 w v6 v7 v8 A B C w8 from ⟨T7.out.keep k8, S7.out.keep k8, s8, (KB.out.trans K7.out (fun _ _ h => h)).trans k8 (fun _ _ h => h)⟩); have HV8 := Lib.hid hv8; have HN8 := Lib.hid hn8
      clear s8 k8 hv8 hn8 c0 c1 c2
      dsimp only at *
      by_cases hea : ea = 0
      · by_cases heb : eb = 0
        · by_cases hec : ec = 0
          · obtain ⟨p1, rfl⟩ := HV6.out hea
            obtain ⟨p2, rfl⟩ := HV7.out heb
            obtain ⟨p3, rfl⟩ := HV8.out hec
            subst hea heb hec
            clear HV6 HV7 HV8 HN6 HN7 HN8
            have H1 := Lib.hid (dof_any _ _ A B w8 O8.out.a O8.out.b (by have := HLA.out; omega) (by have := HLB.out; omega))
            have H2 := Lib.hid (fun (e : Ending) (w' : World) (h : EsQ w8 (ofL A B) e w') => apply_of (w0 := w) O8.out.a O8.out.b (by have := HLA.out; omega) (by have := HLB.out; omega) e w' h)
            go_wp2_with fail
            refine H1.out.mono ?_
            intro e w9 h9
            obtain ⟨pa, pc, q, rfl, hq, hql, hL, he9, k9, hap⟩ := H2.out _ _ h9
            have O9 := Lib.hid (O8.out.keep k9)
            have HAP := Lib.hid (hap _ _ (HM.out.kept O9.out.k) O9.out.a he9)
            clear h9 hq hql hL he9 k9 hap H1 H2
            go_wp2_with fail
            refine HAP.out.mono ?_
            rintro e w10 ⟨v10, rfl, hv10, _, s10, k10⟩
            obtain ⟨p10, rfl⟩ := hv10 rfl
            have O10 := Lib.hid (O9.out.keep k10); have S10 := Lib.hid s10
            clear hv10 s10 k10 HAP
            dsimp only at S10
            have H1 := Lib.hid (dof_any _ _ B C w10 O10.out.b O10.out.c (by have := HLB.out; omega) (by have := HLC.out; omega))
            have H2 := Lib.hid (fun (e : Ending) (w' : World) (h : EsQ w10 (ofL B C) e w') => apply_of (w0 := w) O10.out.b O10.out.c (by have := HLB.out; omega) (by have := HLC.out; omega) e w' h)
            go_wp2_with fail
            refine H1.out.mono ?_
            intro e w11 h11
            obtain ⟨pa2, pc2, q2, rfl, hq, hql, hL, he11, k11, hap⟩ := H2.out _ _ h11
            have O11 := Lib.hid (O10.out.keep k11)
            have HAP := Lib.hid (hap _ _ (HM.out.kept O11.out.k) (S10.out.keep k11) he11)
            clear h11 hq hql hL he11 k11 hap H1 H2
            go_wp2_with fail
            refine HAP.out.mono ?_
            rintro e w12 ⟨v12, rfl, hv12, _, s12, k12⟩
            obtain ⟨p12, rfl⟩ := hv12 rfl
            have O12 := Lib.hid (O11.out.keep k12); have S12 := Lib.hid s12
            clear hv12 s12 k12 HAP
            dsimp only at S12
            have H1 := Lib.hid (dof_any _ _ A C w12 O12.out.a O12.out.c (by have := HLA.out; omega) (by have := HLC.out; omega))
            have H2 := Lib.hid (fun (e : Ending) (w' : World) (h : EsQ w12 (ofL A C) e w') => apply_of (w0 := w) O12.out.a O12.out.c (by have := HLA.out; omega) (by have := HLC.out; omega) e w' h)
            go_wp2_with fail
            refine H1.out.mono ?_
            intro e w13 h13
            obtain ⟨pa3, pc3, q3, rfl, hq, hql, hL, he13, k13, hap⟩ := H2.out _ _ h13
            have O13 := Lib.hid (O12.out.keep k13); have S13 := Lib.hid (S12.out.keep k13)
            have HAP := Lib.hid (hap _ _ (HM.out.kept O13.out.k) O13.out.a he13)
            clear h13 hq hql hL he13 k13 hap H1 H2
            go_wp2_with fail
            refine HAP.out.mono ?_
            rintro e w14 ⟨v14, rfl, hv14, _, s14, k14⟩
            obtain ⟨p14, rfl⟩ := hv14 rfl
            have O14 := Lib.hid (O13.out.keep k14); have S14 := Lib.hid (S13.out.keep k14); have U14 := Lib.hid s14
            clear hv14 s14 k14 HAP
            dsimp only at U14
            have HSS := Lib.hid (show sameL C C = true from decide_eq_true rfl)
            have HE1 := Lib.hid (ssame_any S14.out O14.out.c)
            have HE2 := Lib.hid (fun (wx : World) (h : Kept (fun _ => False) w14 wx) => ssame_any (U14.out.keep h) (O14.out.c.keep h))
            rw [HSS.out] at HE1 HE2
            go_wp2_with fail
            refine HE1.out.mono ?_
            rintro e w15 ⟨rfl, k15⟩
            have K15 := Lib.hid k15; clear k15
            go_wp2_with fail
            refine (HE2.out _ K15.out).mono ?_
            rintro e w16 ⟨rfl, k16⟩
            go_wp2
            go_ret
            exact ⟨rfl, keeps_below7 ((O14.out.k.trans K15.out (fun _ _ h => h)).trans k16 (fun _ _ h => h))⟩
          · have h1 : (ec != 0) = true := by simp [hec]
            subst hea heb
            clear hec
            go_wp2
            go_ret
            exact ⟨rfl, keeps_below7 O8.out.k⟩
        · have h1 : (eb != 0) = true := by simp [heb]
          subst hea
          clear heb
          go_wp2
          go_ret
          exact ⟨rfl, keeps_below7 O8.out.k⟩
      · have h1 : (ea != 0) = true := by simp [hea]
        clear hea
        go_wp2
        go_ret
        exact ⟨rfl, keeps_below7 O8.out.k⟩

end Go.Proofs.Ytecjecdgjmipcaa
