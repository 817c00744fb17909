/-
  CONTRACTS of package pack: read.
-/
import Derived.Test.YtjnpmbdehalmpaaGreatGKb
import Derived.Test.YtjnpmbdehalmpaaGreatGRs
import Derived.Test.YtjnpmbdehalmpaaGreatGTp
import Derived.Test.YtjnpmbdehalmpaaGreatGTg9
namespace Go.Proofs.YtjnpmbdehalmpaaGreat
open Go.RowKit Go.Mk Go.Maps

set_option maxHeartbeats 4000000 in
set_option maxRecDepth 100000 in
theorem dpread_any (la : Option Addr) (lc : Nat) (l : List UInt8) (B : Nat) (w : World) (hL : Lies w B la (l.map bv)) (hc : l.length ≤ lc) (hl : l.length ≤ 1073741824) :
    Calls Tryz.prog 39 #[.slice la l.length lc] w (RqPost w (readC l)) := by
  have KA := Lib.hid ((Kept.refl (fun _ => False) w).alloc (.cells #[.string ⟨#[]⟩, .int .i64 0, .slice none 0 0, .slice none 0 0] 25))
  have HR0 := Lib.hid (show Bp (w.alloc (.cells #[.string ⟨#[]⟩, .int .i64 0, .slice none 0 0, .slice none 0 0] 25)) w.heap.size zeroPE from bp_new w zeroPE 25)
  have HLI := Lib.hid (fun (wx : World) (h : Kept (fun _ => False) w wx) => hL.kept h (fun _ _ _ h => h))
  have HOP := Lib.hid (open_any la lc l B _ (HLI.out _ KA.out) (by omega))
  have HZA := Lib.hid (show w.heap.size < (w.alloc (.cells #[.string ⟨#[]⟩, .int .i64 0, .slice none 0 0, .slice none 0 0] 25)).heap.size by rw [World.size_alloc]; omega)
  clear hL
  obtain ⟨s1, n1, h1⟩ : ∃ s1 n1, (⟨l, 0⟩ : RS).num = (s1, n1) := ⟨_, _, rfl⟩
  obtain ⟨s2, t, h2⟩ : ∃ s2 t, s1.text = (s2, t) := ⟨_, _, rfl⟩
  obtain ⟨s3, v, h3⟩ : ∃ s3 v, s2.num = (s3, v) := ⟨_, _, rfl⟩
  obtain ⟨s4, ts, h4⟩ : ∃ s4 ts, s3.texts = (s4, ts) := ⟨_, _, rfl⟩
  have HPC := Lib.hid (show readC l = if s1.err = 0 ∧ n1 ≠ 1297107783 then (11, zeroP) else if s4.err ≠ 0 then (s4.err, zeroP) else if (parseL s4.rest).1 ≠ 0 then ((parseL s4.rest).1, zeroP) else (0, ⟨t, v, ts, (parseL s4.rest).2⟩) by
    simp only [readC, ofP, hd4, hd3, hd2, hd1, h1, h2, h3, h4])
  have HSPL := Lib.hid (show s4.err = 0 → ∃ pre, l = pre ++ s4.rest by
    have := hd_split (l := l)
    simpa only [hd4, hd3, hd2, hd1, h1, h2, h3, h4] using this)
  have HTM := Lib.hid (show ts.length ≤ 1000000 by have := texts_mill s3; rw [h4] at this; exact this)
  have HN := Lib.hid (fun (D : Nat → Prop) (b : Nat) (a : Option Addr) (c : Nat) (wx : World) (h : Rd wx D b a c ⟨l, 0⟩) => rnum_any' D b a c ⟨l, 0⟩ wx h)
  have HT := Lib.hid (fun (D : Nat → Prop) (b b2 : Nat) (q : PE) (wx : World) (h : RkS w D b b2 s1 q wx) => h.text)
  have HV := Lib.hid (fun (D : Nat → Prop) (b b2 : Nat) (q : PE) (wx : World) (h : RkS w D b b2 s2 q wx) => h.num)
  have HTS := Lib.hid (fun (D : Nat → Prop) (b b2 : Nat) (q : PE) (wx : World) (h : RkS w D b b2 s3 q wx) => h.texts)
  rw [h1] at HN; rw [h2] at HT; rw [h3] at HV; rw [h4] at HTS
  have HPA := Lib.hid (fun (ra : Option Addr) (rc : Nat) (wx : World) (h : Lies wx B ra (s4.rest.map bv)) (hr : s4.rest.length ≤ 1073741824) => sparse_any ra rc s4.rest B wx h (by omega))
  have HCN := Lib.hid (show (parseL s4.rest).1 = 0 → (parseL s4.rest).2.length ≤ 500 from fun h => (parse_inv (l := s4.rest) (m := (parseL s4.rest).2) (by rw [← h])).2)
  generalize readC l = R at *
  generalize parseL s4.rest = pl at *
  obtain ⟨pe, pds⟩ := pl
  dsimp only at HN HT HV HTS HPC HPA HCN
  clear h1 h2 h3 h4
  go_enter Tryz.func39, Tryz.ntmps39
  go_wp2_with fail
  refine HOP.out.mono ?_
  rintro e w1 ⟨b, a1, c1, rfl, hb1, hb2, hrd, bel⟩
  have k1 := kept_of_belowsize bel
  have K1 := Lib.hid (KA.out.trans k1 (fun _ _ h => h)); have R1 := Lib.hid (HR0.out.kept k1 (fun h => h))
  have HB1 := Lib.hid (Nat.lt_of_lt_of_le HZA.out hb1)
  obtain ⟨D, hDe⟩ : ∃ D : Nat → Prop, D = fun k => (w.alloc (.cells #[.string ⟨#[]⟩, .int .i64 0, .slice none 0 0, .slice none 0 0] 25)).heap.size ≤ k ∧ k < b := ⟨_, rfl⟩
  rw [← hDe] at hrd
  have HD := Lib.hid (show ∀ k, D k → w.heap.size < k ∧ k < b from fun k hk => by rw [hDe] at hk; exact ⟨Nat.lt_of_lt_of_le HZA.out hk.1, hk.2⟩)
  have HRD := Lib.hid hrd; have HB2 := Lib.hid hb2
  clear hb1 hb2 hrd bel k1 HOP hDe
  go_wp2_with fail
  refine (HN.out D b a1 c1 w1 HRD.out).mono ?_
  rintro e w2 ⟨rfl, hr2, k2⟩
  have K2 := Lib.hid (K1.out.trans k2 (fun i hi e => by have := HB1.out; omega))
  have R2 := Lib.hid (R1.out.kept k2 (fun e => by have := HB1.out; omega))
  have RD2 := Lib.hid hr2
  have HB22 := Lib.hid (Nat.lt_of_lt_of_le HB2.out k2.size)
  clear hr2 k2
  go_upto_region 3 with fail
  go_cut [20] (fun u wx => u = .bool (decide (s1.err = 0 ∧ n1 ≠ 1297107783)) ∧ w2 = wx)
  case first =>
    obtain ⟨a2, c2, rd2⟩ := RD2.out
    have HER := Lib.hid rd2.errs
    clear rd2
    go_wp2_with fail
    refine HER.out.mono ?_
    rintro e wy ⟨rfl, rfl⟩
    by_cases q1 : s1.err = 0
    · have e1 : (s1.err == 0) = true := by simp [q1]
      have Q1 := Lib.hid q1; clear q1
      by_cases q2 : n1 = 1297107783
      · have e2 : (n1 != 1297107783) = false := by simp [q2]
        have Q2 := Lib.hid q2; clear q2
        go_wp2
        go_meet
        exact ⟨by simp [Q2.out], rfl⟩
      · have e2 : (n1 != 1297107783) = true := by simpa using q2
        have Q2 := Lib.hid q2; clear q2
        go_wp2
        go_meet
        exact ⟨by simp [Q1.out, Q2.out], rfl⟩
    · have e1 : (s1.err == 0) = false := by simpa using q1
      have Q1 := Lib.hid q1; clear q1
      go_wp2
      go_meet
      exact ⟨by simp [Q1.out], rfl⟩
  case rest =>
    obtain ⟨rfl, hwc⟩ := hcut
    subst hwc
    by_cases hbad : s1.err = 0 ∧ n1 ≠ 1297107783
    · have HE := Lib.hid (show R = (11, zeroP) by rw [HPC.out, if_pos hbad])
      rw [decide_eq_true hbad]
      obtain ⟨⟨x0, x1, x2, x3⟩, f0, f1, f2, f3⟩ := R2.out
      clear hbad
      go_wp2
      refine bodyPost_ret (results_box2 rfl rfl (load_pk (R2.out.set zeroPE))) rfl ?_
      rw [HE.out]
      exact rq_err (Nat.le_refl _) K2.out 11
    · have HE := Lib.hid (show R = if s4.err ≠ 0 then (s4.err, zeroP) else if pe ≠ 0 then (pe, zeroP) else (0, ⟨t, v, ts, pds⟩) by rw [HPC.out, if_neg hbad])
      rw [decide_eq_false hbad]
      clear hbad HPC
      have P0 := Lib.hid (show RkS w D b w2.heap.size s1 zeroPE (w2.alloc (.cells #[.string ⟨#[]⟩, .int .i64 0, .slice none 0 0, .slice none 0 0] 25)) from by
        obtain ⟨a2, c2, rd2⟩ := RD2.out
        have kc := (Kept.refl (fun _ => False) w2).alloc (.cells #[.string ⟨#[]⟩, .int .i64 0, .slice none 0 0, .slice none 0 0] 25)
        exact ⟨⟨a2, c2, rd2.kept kc (fun h => h) (fun _ _ _ h => h)⟩, bp_new w2 zeroPE 25, R2.out.kept kc (fun h => h), K2.out.trans kc (fun _ _ h => h), HB1.out, HB22.out, HD.out⟩)
      go_wp2_with fail
      refine (HT.out _ _ _ _ _ P0.out).mono ?_
      rintro e w3 ⟨rfl, p3⟩
      have P3 := Lib.hid (p3.put 0 _ (p3.pb.put0 t))
      obtain ⟨⟨x0, x1, x2, x3⟩, f0, f1, f2, f3⟩ := p3.pb
      clear p3
      go_wp2_with fail
      refine (HV.out _ _ _ _ _ P3.out).mono ?_
      rintro e w4 ⟨rfl, p4⟩
      have P4 := Lib.hid (p4.put 1 _ (p4.pb.put1 v)); clear P3 x0 x1 x2 x3 f0 f1 f2 f3
      obtain ⟨⟨x0, x1, x2, x3⟩, f0, f1, f2, f3⟩ := p4.pb
      clear p4
      go_wp2_with fail
      refine (HTS.out _ _ _ _ _ P4.out).mono ?_
      rintro e w5 ⟨⟨na, nc, rfl, ho5⟩, p5⟩
      have K45 := Lib.hid P4.out.k.size
      have HB2L := Lib.hid (show w2.heap.size < (w4.setCell ⟨w2.heap.size, 1, none⟩ (.int .i64 v)).heap.size from P4.out.pb.lt)
      have P5 := Lib.hid (p5.put 2 _ (p5.pb.put2 na nc ts)); clear P4 x0 x1 x2 x3 f0 f1 f2 f3
      obtain ⟨⟨x0, x1, x2, x3⟩, f0, f1, f2, f3⟩ := p5.pb
      have KS5 := Lib.hid (Kept.setCell (S := fun k => k = w2.heap.size) (p := ⟨w2.heap.size, 2, none⟩) (Kept.refl _ w5) (fun _ => rfl) (.slice na ts.length nc))
      have O5 := Lib.hid (owns_base (base' := w2.heap.size + 1) (owns_kept ho5 KS5.out (fun k hk e => by have := (owns_lt ho5 k hk).1; have := HB2L.out; omega)) (fun k hk => by have := (owns_lt ho5 k hk).1; have := HB2L.out; omega))
      clear p5 ho5
      go_upto_region 9 with fail
      clear x0 x1 x2 x3 f0 f1 f2 f3 KS5 HB2L
      generalize (w5.setCell ⟨w2.heap.size, 2, none⟩ (.slice na ts.length nc)) = w6 at *
      obtain ⟨a6, c6, rd6⟩ := P5.out.rd
      have HER := Lib.hid rd6.errs; have HLE := Lib.hid rd6.left
      clear rd6
      by_cases h4 : s4.err = 0
      · have e4 : (s4.err != 0) = false := by simp [h4]
        have HE2 := Lib.hid (show R = if pe ≠ 0 then (pe, zeroP) else (0, ⟨t, v, ts, pds⟩) by rw [HE.out, if_neg (by simp [h4])])
        obtain ⟨pre, hpre⟩ := HSPL.out h4
        have hlen : l.length = pre.length + s4.rest.length := by rw [hpre, List.length_append]
        have HLR := Lib.hid (fun (wx : World) (h : Kept (fun _ => False) w wx) => show Lies wx B (la.map (·.add pre.length)) (s4.rest.map bv) from by
          have h1 := (HLI.out wx h).drop pre.length
          rw [← List.map_drop, hpre, List.drop_left] at h1
          exact h1)
        have HPC := Lib.hid (show ∀ (wx : World), Kept (fun _ => False) w wx → ∀ ra n, (ra = la.map (·.add pre.length) ∨ s4.rest = []) → n = s4.rest.length → ∀ rc, Calls Tryz.prog 79 #[.slice ra n rc] wx (NwPost wx (pe, pds)) from by
          rintro wx h ra n hra rfl rc
          refine HPA.out ra rc wx ?_ (by omega)
          rcases hra with rfl | hra
          · exact HLR.out wx h
          · rw [hra]; exact Lies.nil _ _ _)
        have hrn : lc = pre.length → s4.rest = [] := fun h => List.eq_nil_of_length_eq_zero (by omega)
        have HRN := Lib.hid hrn
        have hsub : (l.length : Int) - (s4.rest.length : Int) = (pre.length : Int) := by omega
        have hs1 : (pre.length : Int) ≤ (l.length : Int) := by omega
        have hs2 : (pre.length : Int) ≤ (lc : Int) := by omega
        have HLN := Lib.hid (show l.length - pre.length = s4.rest.length by omega)
        clear hpre h4 hrn hlen HLR HLI HSPL HE
        generalize pre.length = i at *
        go_wp2_with fail
        refine HER.out.mono ?_
        rintro e wy ⟨rfl, rfl⟩
        go_upto_region 12 with fail
        go_cut [8, 9] (fun u v wx => v = .int .i64 pe ∧ (pe = 0 → ∃ s, u = .pointer (some ⟨s, 0, none⟩)) ∧ (pe ≠ 0 → u = .pointer none) ∧ Sn wx u pds ∧ Kept (fun _ => False) w6 wx)
        case first =>
          go_wp2_with fail
          refine HLE.out.mono ?_
          rintro e wy ⟨rfl, rfl⟩
          by_cases hcap : lc = i
          · subst hcap
            go_wp2_with fail
            refine (HPC.out w6 P5.out.k la 0 (.inr (by first | exact HRN.out rfl | exact HRN.out trivial)) (by rw [show s4.rest = [] by first | exact HRN.out rfl | exact HRN.out trivial]; rfl) 0).mono ?_
            rintro e w7 ⟨u, rfl, hv0, hv1, hsn, k7⟩
            have HU := Lib.hid (And.intro hv0 (And.intro hv1 (And.intro hsn k7)))
            clear hv0 hv1 hsn k7
            go_wp2
            go_meet
            exact ⟨rfl, HU.out⟩
          · go_wp2_with fail
            refine (HPC.out w6 P5.out.k _ _ (.inl rfl) HLN.out _).mono ?_
            rintro e w7 ⟨u, rfl, hv0, hv1, hsn, k7⟩
            have HU := Lib.hid (And.intro hv0 (And.intro hv1 (And.intro hsn k7)))
            clear hv0 hv1 hsn k7
            go_wp2
            go_meet
            exact ⟨rfl, HU.out⟩
        case rest =>
          obtain ⟨rfl, hv0, hv1, hsn, k7⟩ := hcut
          have P7 := Lib.hid (P5.out.keep k7)
          have O7 := Lib.hid (owns_kept O5.out k7 (fun _ _ h => h))
          have HRT := Lib.hid hsn.right
          by_cases h5 : pe = 0
          · obtain ⟨s, hs⟩ := hv0 h5
            subst hs
            have e5 : (pe != 0) = false := by simp [h5]
            have HF := Lib.hid (show R = (0, ⟨t, v, ts, pds⟩) by rw [HE2.out, if_neg (by simp [h5])])
            obtain ⟨p7, m7, hp7, ht7, hL0⟩ := hsn
            have HM7 := Lib.hid (show m7.length ≤ 500 by have := HCN.out h5; rw [hL0, List.length_map] at this; exact this)
            have HL0 := Lib.hid (show dds m7 = pds from hL0.symm)
            have HP7 := Lib.hid hp7; have HT7 := Lib.hid ht7
            have HL8 := Lib.hid (show ∀ e ∈ m7, Len8 e.1 from fun e he => len8_right (ht7.right e he))
            clear h5 HE2 hv0 hv1 hp7 ht7 hL0 k7 P5 O5
            go_wp2_with fail
            refine (all_any (.pointer (some ⟨s, 0, none⟩)) p7 m7 wc HP7.out HT7.out (by have := HM7.out; omega)).mono ?_
            rintro e w8 ⟨Bk, Bm, rfl, hal⟩
            have P8 := Lib.hid (P7.out.keep hal.k)
            have O8 := Lib.hid (owns_kept O7.out hal.k (fun _ _ h => h))
            obtain ⟨ko, kk, hap, _⟩ := hal.ap
            have HCO := Lib.hid (dcollect_any p7 m7 Bk Bm ko kk w8 hap HL8.out (by have := HM7.out; omega))
            clear hal hap P7 O7
            go_wp2_with fail
            refine HCO.out.mono ?_
            rintro e w9 ⟨qa, qc, q0, rfl, hq0, hd0⟩
            have P9p := Lib.hid (P8.out.keep hd0.k)
            have O9p := Lib.hid (owns_kept O8.out hd0.k (fun _ _ h => h))
            have HQ := Lib.hid (hq0.trans HL0.out)
            have HBK := Lib.hid (show q0 ≠ [] → ∀ a, qa = some a → w2.heap.size < a.block from fun hn a ha => by
              obtain ⟨g, e1, h1⟩ := owns_row_block hd0.own hn
              rw [e1] at ha
              cases ha
              have := P8.out.pb.lt
              exact Nat.lt_of_lt_of_le this h1)
            have P9 := Lib.hid (P9p.out.put 3 (.slice qa q0.length qc) (P9p.out.pb.put3 ⟨qa, qc, q0⟩))
            have S9 := Lib.hid (sds_put3 (s := ⟨qa, qc, q0⟩) hd0.sds (fun hn a ha e => by have := HBK.out hn a ha; omega) P9p.out.pb (.slice qa q0.length qc))
            have KS9 := Lib.hid (Kept.setCell (S := fun k => k = w2.heap.size) (p := ⟨w2.heap.size, 3, none⟩) (Kept.refl _ w9) (fun _ => rfl) (.slice qa q0.length qc))
            have O9 := Lib.hid (owns_kept O9p.out KS9.out (fun k hk e => by have := (owns_lt O9p.out k hk).1; omega))
            obtain ⟨⟨x0, x1, x2, x3⟩, f0, f1, f2, f3⟩ := P9p.out.pb
            clear hd0 hq0 HCO P8 O8
            go_upto_region 16 with fail
            clear x0 x1 x2 x3 f0 f1 f2 f3 P9p O9p KS9
            generalize (w9.setCell ⟨w2.heap.size, 3, none⟩ (.slice qa q0.length qc)) = wz at *
            obtain ⟨⟨x0, x1, x2, x3⟩, _, _, _, _⟩ := P9.out.pb
            obtain ⟨⟨y0, y1, y2, y3⟩, g0, g1, g2, g3⟩ := P9.out.rb
            go_wp2
            refine bodyPost_ret (results_box2 rfl rfl (load_pk (P9.out.rb.set ⟨t, v, na, nc, ts, ⟨qa, qc, q0⟩⟩))) rfl ?_
            rw [HF.out]
            have ks := kept_setK wz w.heap.size ⟨t, v, na, nc, ts, ⟨qa, qc, q0⟩⟩
            have hlow : w.heap.size < w2.heap.size := by have := P9.out.b1; have := P9.out.bb; omega
            have hri : ∀ e ∈ q0, rightD e.1 = true := fun e he => HRT.out e.1 (by rw [← HQ.out]; exact List.mem_map_of_mem he)
            have hql : q0.length ≤ 500 := by
              have h1 := congrArg List.length HQ.out
              have h2 := congrArg List.length HL0.out
              have := HM7.out
              rw [dds_len] at h1 h2
              omega
            refine ⟨⟨t, v, na, nc, ts, ⟨qa, qc, q0⟩⟩, rfl, by unfold pkE; rw [HQ.out], ⟨?_, ?_⟩, HTM.out, hri, by dsimp only; omega, fun hn a ha => by have := HBK.out hn a ha; omega, P9.out.k.trans ks (fun i hi e => by omega)⟩
            · exact owns_lies (owns_kept O9.out ks (fun k hk e => by have := (owns_lt O9.out k hk).1; omega))
            · exact sds_setK (s := ⟨qa, qc, q0⟩) S9.out (fun hn a ha e => by have := HBK.out hn a ha; omega) hri P9.out.rb ⟨t, v, na, nc, ts, ⟨qa, qc, q0⟩⟩
          · have e5 : (pe != 0) = true := by simpa using h5
            have HF := Lib.hid (show R = (pe, zeroP) by rw [HE2.out, if_pos h5])
            have hu := hv1 h5
            subst hu
            obtain ⟨⟨y0, y1, y2, y3⟩, g0, g1, g2, g3⟩ := P7.out.rb
            clear h5 hv0 hv1
            go_wp2
            refine bodyPost_ret (results_box2 rfl rfl (load_pk (P7.out.rb.set zeroPE))) rfl ?_
            rw [HF.out]
            exact rq_err (Nat.le_refl _) P7.out.k pe
      · have e4 : (s4.err != 0) = true := by simpa using h4
        have HF := Lib.hid (show R = (s4.err, zeroP) by rw [HE.out, if_pos h4])
        have H4 := Lib.hid h4; clear h4
        go_wp2_with fail
        refine HER.out.mono ?_
        rintro e wy ⟨rfl, rfl⟩
        obtain ⟨⟨y0, y1, y2, y3⟩, g0, g1, g2, g3⟩ := P5.out.rb
        go_wp2
        refine bodyPost_ret (results_box2 rfl rfl (load_pk (P5.out.rb.set zeroPE))) rfl ?_
        rw [HF.out]
        exact rq_err (Nat.le_refl _) P5.out.k _

end Go.Proofs.YtjnpmbdehalmpaaGreat
