/-
  Lemmas towards the claim of this folder: contracts of the functions that the law reaches; joined texts.
-/
import Derived.Test.YtjnpmbdehalmpaaGreatR11b
import Derived.Test.YtjnpmbdehalmpaaGreatGKb
import Derived.Test.YtjnpmbdehalmpaaGreatRq8
import Derived.Test.YtjnpmbdehalmpaaGreatGTp
import Derived.Test.YtjnpmbdehalmpaaGreatGR2
import Derived.Test.YtjnpmbdehalmpaaGreatKg
/-
  The reference of layer 11: Parse.
-/
namespace Go.Proofs.YtjnpmbdehalmpaaGreat
open Go.RowKit Go.Mk Go.Maps

/-- What Parse answers. -/
def RpPost (w : World) (r : Int × PD) (e : Ending) (w' : World) : Prop :=
  ∃ p : PE, e = .returned (.tuple #[.agg #[.string (bs p.n), .int .i64 p.v, .slice p.na p.ns.length p.nc, .slice p.ds.ao p.ds.es.length p.ds.cap], .int .i64 r.1]) ∧ pkE p = r.2 ∧ Pks w' w'.heap.size p ∧ Kept (fun _ => False) w w'

theorem pks_zero (w : World) (B : Nat) : Pks w B zeroPE := ⟨Lies.nil _ _ _, SDs.nil _ _ _ _⟩

theorem rp_err {w wx : World} {r : Nat} (hr : w.heap.size ≤ r) (k : Kept (fun _ => False) w wx) (er : Int) :
    RpPost w (er, zeroP) (.returned (.tuple #[.agg #[.string (bs zeroPE.n), .int .i64 zeroPE.v, .slice zeroPE.na zeroPE.ns.length zeroPE.nc, .slice zeroPE.ds.ao zeroPE.ds.es.length zeroPE.ds.cap], .int .i64 er])) (setK wx r zeroPE) :=
  ⟨zeroPE, rfl, rfl, pks_zero _ _, k.trans (kept_setK wx r zeroPE) (fun i hi e => by omega)⟩

theorem open_len (l : List UInt8) : (openB l).1.length ≤ l.length := by
  unfold openB
  split
  · simp
  · split
    · rw [List.length_take]; omega
    · simp

theorem len11_right {p : PE} (h : RightP (pkE p)) : Len11 p := by
  have h1 := cl_len h.cl
  have h2 := h.n20; have h3 := h.d500
  simp only [pkE, dds_len] at h1 h2 h3
  exact ⟨by omega, by omega, fun x hx => by have := cl_len (h.needs x hx).1; omega, fun e he => len8_right (h.right e.1 (List.mem_map_of_mem he)), by omega⟩

theorem len11_zero {p : PE} (h : pkE p = zeroP) : Len11 p := by
  obtain ⟨n, v, na, nc, ns, ⟨dao, dcap, des⟩⟩ := p
  simp only [pkE, zeroP, PD.mk.injEq] at h
  obtain ⟨rfl, rfl, rfl, h4⟩ := h
  have : des = [] := by cases des with
    | nil => rfl
    | cons x r => simp [dds] at h4
  subst this
  exact ⟨by simp, by simp, fun x hx => absurd hx List.not_mem_nil, fun x hx => absurd hx List.not_mem_nil, by simp⟩

set_option maxHeartbeats 4000000 in
set_option maxRecDepth 100000 in
theorem rparse11_any (l : List UInt8) (w : World) (hl : l.length ≤ 1000000) :
    Calls Tryz.prog 18 #[.string (bs l)] w (RpPost w (parsePk l)) := by
  have HO := Lib.hid (fun wx => show Calls Tryz.prog 51 #[.string (bs l)] wx fun e w' => e = .returned (.tuple #[.string (bs (openB l).1), .int .i64 (openB l).2]) ∧ Kept (fun _ => False) wx w' from (ropen2_any l wx (by omega)).mono (fun e w' h => ⟨h.1, (Kept.of_below h.2).mono (fun k hk h => by omega)⟩))
  have HPK := Lib.hid (show parsePk l = if (openB l).2 ≠ 0 then ((openB l).2, zeroP) else parseC (openB l).1 from rfl)
  have HCL := Lib.hid (Nat.le_trans (open_len l) hl)
  have HR0 := Lib.hid (show Bp (w.alloc (.cells #[.string ⟨#[]⟩, .int .i64 0, .slice none 0 0, .slice none 0 0] 25)) w.heap.size zeroPE from bp_new w zeroPE 25)
  have KA := Lib.hid ((Kept.refl (fun _ => False) w).alloc (.cells #[.string ⟨#[]⟩, .int .i64 0, .slice none 0 0, .slice none 0 0] 25))
  clear hl
  generalize parsePk l = R at *
  generalize openB l = o at *
  obtain ⟨c, oe⟩ := o
  dsimp only at HO HPK HCL
  obtain ⟨s1, n1, h1⟩ : ∃ s1 n1, (⟨c, 0⟩ : RS).num = (s1, n1) := ⟨_, _, rfl⟩
  obtain ⟨s2, t, h2⟩ : ∃ s2 t, s1.text = (s2, t) := ⟨_, _, rfl⟩
  obtain ⟨s3, v, h3⟩ : ∃ s3 v, s2.num = (s3, v) := ⟨_, _, rfl⟩
  obtain ⟨s4, ts, h4⟩ : ∃ s4 ts, s3.texts = (s4, ts) := ⟨_, _, rfl⟩
  have HPC := Lib.hid (show parseC c = if s1.err = 0 ∧ n1 ≠ 1297107783 then (11, zeroP) else if s4.err ≠ 0 then (s4.err, zeroP) else if (parseL s4.rest).1 ≠ 0 then ((parseL s4.rest).1, zeroP) else if rightPk ⟨t, v, ts, (parseL s4.rest).2⟩ = true then (0, ⟨t, v, ts, (parseL s4.rest).2⟩) else (2, zeroP) by
    simp only [parseC, ofP, hd4, hd3, hd2, hd1, h1, h2, h3, h4])
  have HL1 := Lib.hid (show s1.rest.length ≤ 1000000 by have := num_len ⟨c, 0⟩; rw [h1] at this; exact Nat.le_trans this HCL.out)
  have HL2 := Lib.hid (show s2.rest.length ≤ 1000000 by have := text_len1 s1; rw [h2] at this; exact Nat.le_trans this HL1.out)
  have HLT := Lib.hid (show t.length ≤ 1000000 by have := text_len2 s1; rw [h2] at this; exact Nat.le_trans this HL1.out)
  have HL3 := Lib.hid (show s3.rest.length ≤ 1000000 by have := num_len s2; rw [h3] at this; exact Nat.le_trans this HL2.out)
  have HL4 := Lib.hid (show s4.rest.length ≤ 1000000 by have := texts_len1 s3; rw [h4] at this; exact Nat.le_trans this HL3.out)
  have HLS := Lib.hid (show ts.length ≤ 1000000 by have := texts_count s3; rw [h4] at this; exact Nat.le_trans this HL3.out)
  have HLX := Lib.hid (show ∀ x ∈ ts, x.length ≤ 1000000 from fun x hx => by have := texts_small s3 x (by rw [h4]; exact hx); exact Nat.le_trans this HL3.out)
  have HN := Lib.hid (fun (b : Nat) (wx : World) (h : Mr wx b ⟨c, 0⟩) => mnum_any b ⟨c, 0⟩ wx h (by have := HCL.out; dsimp only; omega))
  have HT := Lib.hid (fun (b : Nat) (wx : World) (h : Mr wx b s1) => mtext_any b s1 wx h (by have := HL1.out; omega))
  have HV := Lib.hid (fun (b : Nat) (wx : World) (h : Mr wx b s2) => mnum_any b s2 wx h (by have := HL2.out; omega))
  have HTS := Lib.hid (fun (b : Nat) (wx : World) (h : Mr wx b s3) => mtexts_any b s3 wx h (by have := HL3.out; omega))
  rw [h1] at HN; rw [h2] at HT; rw [h3] at HV; rw [h4] at HTS
  have HPD := Lib.hid (fun wx => rparseF_any s4.rest wx (by have := HL4.out; omega))
  generalize parseC c = PC at *
  generalize parseL s4.rest = pl at *
  obtain ⟨pe, pds⟩ := pl
  dsimp only at HN HT HV HTS HPC HPD
  clear h1 h2 h3 h4
  go_enter Tryz.func18, Tryz.ntmps18
  go_wp2_with fail
  refine (HO.out _).mono ?_
  rintro e w1 ⟨rfl, k1⟩
  have K1 := Lib.hid (KA.out.trans k1 (fun _ _ h => h)); have R1 := Lib.hid (HR0.out.kept k1 (fun h => h))
  have hz1 := R1.out.lt
  clear k1
  by_cases he : oe = 0
  · have he1 : (oe != 0) = false := by simp [he]
    have HR := Lib.hid (show R = PC by rw [HPK.out, if_neg (by simp [he])])
    have M0 := Lib.hid (mr_new8 w1 c 80)
    have KB := Lib.hid ((Kept.refl (fun _ => False) w1).alloc (.cells #[.string (bs c), .int .i64 0] 80))
    clear he HPK
    go_wp2_with fail
    refine (HN.out _ _ M0.out).mono ?_
    rintro e w2 ⟨rfl, m2, k2⟩
    have M2 := Lib.hid m2
    have R2 := Lib.hid ((R1.out.kept KB.out (fun h => h)).kept k2 (fun e => by omega))
    have K2 := Lib.hid ((K1.out.trans KB.out (fun _ _ h => h)).trans k2 (fun i hi e => by have := K1.out.size; omega))
    have hz2 := M2.out.lt
    clear m2 k2
    go_upto_region 6 with fail
    go_cut [33] (fun u wx => u = .bool (decide (s1.err = 0 ∧ n1 ≠ 1297107783)) ∧ w2 = wx)
    case first =>
      have c1 := M2.out.c1
      by_cases q1 : s1.err = 0
      · have e1 : (s1.err == 0) = true := by simp [q1]
        by_cases q2 : n1 = 1297107783
        · have e2 : (n1 != 1297107783) = false := by simp [q2]
          go_wp2
          go_meet
          exact ⟨by simp [q2], rfl⟩
        · have e2 : (n1 != 1297107783) = true := by simpa using q2
          go_wp2
          go_meet
          exact ⟨by simp [q1, q2], rfl⟩
      · have e1 : (s1.err == 0) = false := by simpa using q1
        go_wp2
        go_meet
        exact ⟨by simp [q1], rfl⟩
    case rest =>
      obtain ⟨rfl, hwc⟩ := hcut
      subst hwc
      by_cases hbad : s1.err = 0 ∧ n1 ≠ 1297107783
      · have HE := Lib.hid (show R = (11, zeroP) by rw [HR.out, HPC.out, if_pos hbad])
        rw [decide_eq_true hbad]
        obtain ⟨⟨x0, x1, x2, x3⟩, f0, f1, f2, f3⟩ := R2.out
        clear hbad
        go_wp2
        refine bodyPost_ret (results_box2 rfl rfl (load_pk (R2.out.set zeroPE))) rfl ?_
        rw [HE.out]
        exact rp_err (Nat.le_refl _) K2.out 11
      · have HE := Lib.hid (show R = if s4.err ≠ 0 then (s4.err, zeroP) else if pe ≠ 0 then (pe, zeroP) else if rightPk ⟨t, v, ts, pds⟩ = true then (0, ⟨t, v, ts, pds⟩) else (2, zeroP) by rw [HR.out, HPC.out, if_neg hbad])
        rw [decide_eq_false hbad]
        clear hbad HPC HR
        have P0 := Lib.hid (show Bp (w2.alloc (.cells #[.string ⟨#[]⟩, .int .i64 0, .slice none 0 0, .slice none 0 0] 25)) w2.heap.size zeroPE from bp_new w2 zeroPE 25)
        have KC := Lib.hid ((Kept.refl (fun _ => False) w2).alloc (.cells #[.string ⟨#[]⟩, .int .i64 0, .slice none 0 0, .slice none 0 0] 25))
        go_wp2_with fail
        refine (HT.out _ _ (M2.out.kept KC.out (fun h => h))).mono ?_
        rintro e w3 ⟨rfl, m3, k3⟩
        have M3 := Lib.hid m3
        have P3 := Lib.hid (P0.out.kept k3 (fun e => by omega))
        have R3 := Lib.hid ((R2.out.kept KC.out (fun h => h)).kept k3 (fun e => by omega))
        have K3 := Lib.hid ((K2.out.trans KC.out (fun _ _ h => h)).trans k3 (fun i hi e => by have := K1.out.size; omega))
        clear m3 k3
        obtain ⟨⟨x0, x1, x2, x3⟩, f0, f1, f2, f3⟩ := P3.out
        have KS3 := Lib.hid (Kept.setCell (S := fun k => k = w2.heap.size) (p := ⟨w2.heap.size, 0, none⟩) (Kept.refl _ w3) (fun _ => rfl) (.string (bs t)))
        go_wp2_with fail
        refine (HV.out _ _ (M3.out.kept KS3.out (fun e => by omega))).mono ?_
        rintro e w4 ⟨rfl, m4, k4⟩
        have M4 := Lib.hid m4
        have P4 := Lib.hid ((P3.out.put0 t).kept k4 (fun e => by omega))
        have R4 := Lib.hid ((R3.out.kept KS3.out (fun e => by omega)).kept k4 (fun e => by omega))
        have K4 := Lib.hid ((K3.out.trans KS3.out (fun i hi e => by have := K1.out.size; omega)).trans k4 (fun i hi e => by have := K1.out.size; omega))
        clear m4 k4 x0 x1 x2 x3 f0 f1 f2 f3
        obtain ⟨⟨x0, x1, x2, x3⟩, f0, f1, f2, f3⟩ := P4.out
        have KS4 := Lib.hid (Kept.setCell (S := fun k => k = w2.heap.size) (p := ⟨w2.heap.size, 1, none⟩) (Kept.refl _ w4) (fun _ => rfl) (.int .i64 v))
        go_wp2_with fail
        refine (HTS.out _ _ (M4.out.kept KS4.out (fun e => by omega))).mono ?_
        rintro e w5 ⟨⟨na, nc, rfl, ho5⟩, m5, k5⟩
        have M5 := Lib.hid m5
        have P5 := Lib.hid ((P4.out.put1 v).kept k5 (fun e => by omega))
        have R5 := Lib.hid ((R4.out.kept KS4.out (fun e => by omega)).kept k5 (fun e => by omega))
        have K5 := Lib.hid ((K4.out.trans KS4.out (fun i hi e => by have := K1.out.size; omega)).trans k5 (fun i hi e => by have := K1.out.size; omega))
        have hz4 : w2.heap.size < w4.heap.size := P4.out.lt
        have O5 := Lib.hid (owns_base (base' := w2.heap.size + 1) ho5 (fun k hk => by have h := (owns_lt ho5 k hk).1; have h2 := KS4.out.size; omega))
        clear m5 k5 ho5 x0 x1 x2 x3 f0 f1 f2 f3
        obtain ⟨⟨x0, x1, x2, x3⟩, f0, f1, f2, f3⟩ := P5.out
        have KS5 := Lib.hid (Kept.setCell (S := fun k => k = w2.heap.size) (p := ⟨w2.heap.size, 2, none⟩) (Kept.refl _ w5) (fun _ => rfl) (.slice na ts.length nc))
        have P6 := Lib.hid (P5.out.put2 na nc ts)
        have R6 := Lib.hid (R5.out.kept KS5.out (fun e => by omega))
        have M6 := Lib.hid (M5.out.kept KS5.out (fun e => by omega))
        have K6 := Lib.hid (K5.out.trans KS5.out (fun i hi e => by have := K1.out.size; omega))
        have O6 := Lib.hid (owns_kept O5.out KS5.out (fun k hk e => by have := (owns_lt O5.out k hk).1; omega))
        go_upto_region 12 with fail
        clear x0 x1 x2 x3 f0 f1 f2 f3 KS5 P5 R5 M5 K5 O5
        generalize (w5.setCell ⟨w2.heap.size, 2, none⟩ (.slice na ts.length nc)) = w6 at *
        by_cases h4 : s4.err = 0
        · have e4 : (s4.err != 0) = false := by simp [h4]
          have HE2 := Lib.hid (show R = if pe ≠ 0 then (pe, zeroP) else if rightPk ⟨t, v, ts, pds⟩ = true then (0, ⟨t, v, ts, pds⟩) else (2, zeroP) by rw [HE.out, if_neg (by simp [h4])])
          obtain ⟨d0, d1, _, _⟩ := M6.out
          clear h4 HE
          go_wp2_with fail
          refine (HPD.out _).mono ?_
          rintro e w7 ⟨oa, oc, es, rfl, hes, hel, hrl, hoc, hr1, hr2, k7⟩
          have K7 := Lib.hid (K6.out.trans k7 (fun _ _ h => h)); have P7 := Lib.hid (P6.out.kept k7 (fun h => h)); have R7 := Lib.hid (R6.out.kept k7 (fun h => h))
          have O7 := Lib.hid (owns_kept O6.out k7 (fun _ _ h => h)); have HES := Lib.hid hes; have HEL := Lib.hid hel; have HRL := Lib.hid hrl; have HOC := Lib.hid hoc
          have HR1 := Lib.hid hr1; have HR2 := Lib.hid hr2
          have hz6 : w2.heap.size < w6.heap.size := P6.out.lt
          clear hes hel hrl hoc hr1 hr2 k7 d0 d1
          by_cases h5 : pe = 0
          · have e5 : (pe != 0) = false := by simp [h5]
            have HE3 := Lib.hid (show R = if rightPk ⟨t, v, ts, pds⟩ = true then (0, ⟨t, v, ts, pds⟩) else (2, zeroP) by rw [HE2.out, if_neg (by simp [h5])])
            clear h5 HE2
            obtain ⟨⟨x0, x1, x2, x3⟩, f0, f1, f2, f3⟩ := P7.out
            have KS7 := Lib.hid (Kept.setCell (S := fun k => k = w2.heap.size) (p := ⟨w2.heap.size, 3, none⟩) (Kept.refl _ w7) (fun _ => rfl) (.slice oa es.length oc))
            have hlow : ∀ {k : Nat}, w6.heap.size ≤ k → ¬ k = w2.heap.size := fun h e => by omega
            have P8 := Lib.hid (show Bp (w7.setCell ⟨w2.heap.size, 3, none⟩ (.slice oa es.length oc)) w2.heap.size ⟨t, v, na, nc, ts, ⟨oa, oc, es⟩⟩ from P7.out.put3 ⟨oa, oc, es⟩)
            have R8 := Lib.hid (R7.out.kept KS7.out (fun e => by omega))
            have K8 := Lib.hid (K7.out.trans KS7.out (fun i hi e => by have := K1.out.size; omega))
            have O8 := Lib.hid (owns_kept O7.out KS7.out (fun k hk e => by have := (owns_lt O7.out k hk).1; omega))
            have keepD : ∀ (S : Nat → Prop) (A B : World), Kept S A B → (∀ k, w6.heap.size ≤ k → ¬ S k) → SDs A A.heap.size ⟨oa, oc, es⟩ → SDs B B.heap.size ⟨oa, oc, es⟩ := fun S A B hk hS h =>
              ⟨⟨fun hn => by
                obtain ⟨b, off, e1, hb, hc⟩ := h.ds.row hn
                exact ⟨b, off, e1, Nat.lt_of_lt_of_le hb hk.size, fun j hj => (hc j hj).kept hk (hS b (HR1.out hn _ e1))⟩, fun e he => ⟨((h.ds.lies e he).1.kept hk (fun hn a ha => hS _ (HR2.out e he hn a ha))).mono hk.size, (h.ds.lies e he).2⟩⟩, h.cap⟩
            have KD := Lib.hid keepD
            have D8 := Lib.hid (keepD _ _ _ KS7.out (fun k hk e => hlow hk e) (show SDs w7 w7.heap.size ⟨oa, oc, es⟩ from ⟨HRL.out.ds, HOC.out⟩))
            have LEN := Lib.hid (show Len11 ⟨t, v, na, nc, ts, ⟨oa, oc, es⟩⟩ from ⟨HLT.out, HLS.out, HLX.out, HRL.out.len, by have := HEL.out; dsimp only; omega⟩)
            have HRI := Lib.hid (rright11_any ⟨t, v, na, nc, ts, ⟨oa, oc, es⟩⟩ _ _ ⟨owns_lies O8.out, D8.out⟩ LEN.out)
            have HPE := Lib.hid (show pkE ⟨t, v, na, nc, ts, ⟨oa, oc, es⟩⟩ = ⟨t, v, ts, pds⟩ by unfold pkE; rw [HES.out])
            rw [HPE.out] at HRI
            clear keepD hlow
            go_upto_region 18 with fail
            clear x0 x1 x2 x3 f0 f1 f2 f3 KS7 P7 R7 K7 O7
            generalize (w7.setCell ⟨w2.heap.size, 3, none⟩ (.slice oa es.length oc)) = w8 at *
            generalize rightPk ⟨t, v, ts, pds⟩ = ri at *
            obtain ⟨⟨x0, x1, x2, x3⟩, _, _, _, _⟩ := P8.out
            go_wp2_with fail
            refine HRI.out.mono ?_
            rintro e w9 ⟨rfl, k9⟩
            have K9 := Lib.hid (K8.out.trans k9 (fun _ _ h => h)); have P9 := Lib.hid (P8.out.kept k9 (fun h => h)); have R9 := Lib.hid (R8.out.kept k9 (fun h => h))
            have O9 := Lib.hid (owns_kept O8.out k9 (fun _ _ h => h)); have D9 := Lib.hid ((D8.out.keep k9).mono k9.size)
            clear k9 x0 x1 x2 x3
            obtain ⟨⟨y0, y1, y2, y3⟩, g0, g1, g2, g3⟩ := R9.out
            cases ri with
            | false =>
              have HF := Lib.hid (show R = (2, zeroP) by rw [HE3.out, if_neg (by simp)])
              go_wp2
              refine bodyPost_ret (results_box2 rfl rfl (load_pk (R9.out.set zeroPE))) rfl ?_
              rw [HF.out]
              exact rp_err (Nat.le_refl _) K9.out 2
            | true =>
              have HF := Lib.hid (show R = (0, ⟨t, v, ts, pds⟩) by rw [HE3.out, if_pos rfl])
              obtain ⟨⟨x0, x1, x2, x3⟩, _, _, _, _⟩ := P9.out
              go_wp2
              refine bodyPost_ret (results_box2 rfl rfl (load_pk (R9.out.set ⟨t, v, na, nc, ts, ⟨oa, oc, es⟩⟩))) rfl ?_
              rw [HF.out]
              have ks := kept_setK w9 w.heap.size ⟨t, v, na, nc, ts, ⟨oa, oc, es⟩⟩
              refine ⟨⟨t, v, na, nc, ts, ⟨oa, oc, es⟩⟩, rfl, HPE.out, ⟨?_, ?_⟩, K9.out.trans ks (fun i hi e => by omega)⟩
              · exact owns_lies (owns_kept O9.out ks (fun k hk e => by have := (owns_lt O9.out k hk).1; have := K1.out.size; have := M0.out.lt; have := KB.out.size; omega))
              · exact KD.out _ _ _ ks (fun k hk e => by omega) D9.out
          · have e5 : (pe != 0) = true := by simpa using h5
            have HF := Lib.hid (show R = (pe, zeroP) by rw [HE2.out, if_pos h5])
            obtain ⟨⟨y0, y1, y2, y3⟩, g0, g1, g2, g3⟩ := R7.out
            clear h5
            go_wp2
            refine bodyPost_ret (results_box2 rfl rfl (load_pk (R7.out.set zeroPE))) rfl ?_
            rw [HF.out]
            exact rp_err (Nat.le_refl _) K7.out pe
        · have e4 : (s4.err != 0) = true := by simpa using h4
          have HF := Lib.hid (show R = (s4.err, zeroP) by rw [HE.out, if_pos h4])
          have RD := Lib.hid (R6.out.kept (S := fun _ => False) (Kept.drew (Kept.refl _ w6)) (fun h => h))
          have MD := Lib.hid (M6.out.kept (S := fun _ => False) (Kept.drew (Kept.refl _ w6)) (fun h => h))
          have KD := Lib.hid (K6.out.trans (Kept.drew (Kept.refl (fun _ => False) w6)) (fun _ _ h => h))
          obtain ⟨d0, d1, _, _⟩ := M6.out
          obtain ⟨dd0, dd1, _, _⟩ := MD.out
          obtain ⟨⟨y0, y1, y2, y3⟩, g0, g1, g2, g3⟩ := RD.out
          obtain ⟨⟨z0, z1, z2, z3⟩, i0, i1, i2, i3⟩ := R6.out
          clear h4
          go_upto_region 13 with fail
          go_region
          all_goals go_wp2
          all_goals refine bodyPost_ret (results_box2 rfl rfl (load_pk (RD.out.set zeroPE))) rfl ?_
          all_goals rw [HF.out]
          all_goals exact rp_err (Nat.le_refl _) KD.out _
  · have he1 : (oe != 0) = true := by simpa using he
    have HE := Lib.hid (show R = (oe, zeroP) by rw [HPK.out, if_pos he])
    obtain ⟨⟨x0, x1, x2, x3⟩, f0, f1, f2, f3⟩ := R1.out
    clear he
    go_wp2
    refine bodyPost_ret (results_box2 rfl rfl (load_pk (R1.out.set zeroPE))) rfl ?_
    rw [HE.out]
    exact rp_err (Nat.le_refl _) K1.out oe

end Go.Proofs.YtjnpmbdehalmpaaGreat

/-
  CONTRACTS of package pack: Parse.
-/
namespace Go.Proofs.YtjnpmbdehalmpaaGreat
open Go.RowKit Go.Mk Go.Maps

set_option maxHeartbeats 4000000 in
set_option maxRecDepth 100000 in
theorem dpparse_any (la : Option Addr) (lc : Nat) (l : List UInt8) (B : Nat) (w : World) (hL : Lies w B la (l.map bv)) (hc : l.length ≤ lc) (hl : l.length ≤ 10000000) :
    Calls Tryz.prog 14 #[.slice la l.length lc] w (RpPost w (parsePk l)) := by
  have KA := Lib.hid ((Kept.refl (fun _ => False) w).alloc (.cells #[.string ⟨#[]⟩, .int .i64 0, .slice none 0 0, .slice none 0 0] 25))
  have HR0 := Lib.hid (show Bp (w.alloc (.cells #[.string ⟨#[]⟩, .int .i64 0, .slice none 0 0, .slice none 0 0] 25)) w.heap.size zeroPE from bp_new w zeroPE 25)
  have HCO := Lib.hid (copen_any la lc l B _ (hL.kept KA.out (fun _ _ _ h => h)) (by omega) hc)
  have HCL := Lib.hid (Nat.le_trans (open_len l) hl)
  have HPK := Lib.hid (show parsePk l = if (openB l).2 ≠ 0 then ((openB l).2, zeroP) else parseC (openB l).1 from rfl)
  have HZA := Lib.hid (show w.heap.size < (w.alloc (.cells #[.string ⟨#[]⟩, .int .i64 0, .slice none 0 0, .slice none 0 0] 25)).heap.size by rw [World.size_alloc]; omega)
  clear hL hc hl
  generalize parsePk l = R at *
  generalize openB l = o at *
  obtain ⟨c, oe⟩ := o
  dsimp only at HCO HPK HCL
  have HRD := Lib.hid (fun (ca : Option Addr) (cc : Nat) (wx : World) (h : Lies wx wx.heap.size ca (c.map bv)) (hcc : c.length ≤ cc) => dpread_any ca cc c wx.heap.size wx h hcc (by have := HCL.out; omega))
  have HPR := Lib.hid (parseC_read c)
  generalize parseC c = PC at *
  generalize readC c = rc at *
  obtain ⟨re, rp⟩ := rc
  dsimp only at HRD HPR
  go_enter Tryz.func14, Tryz.ntmps14
  go_wp2_with fail
  refine HCO.out.mono ?_
  rintro e w1 ⟨ca, cc, rfl, ho1, hb1⟩
  have k1 := kept_of_belowsize hb1
  have K1 := Lib.hid (KA.out.trans k1 (fun _ _ h => h)); have R1 := Lib.hid (HR0.out.kept k1 (fun h => h))
  have HZ1 := Lib.hid (Nat.lt_of_lt_of_le HZA.out k1.size)
  have HRE := Lib.hid (HRD.out ca cc w1 (owns_lies ho1) (owns_cap ho1))
  clear k1 ho1 hb1 HCO HRD
  by_cases he : oe = 0
  · have e1 : (oe != 0) = false := by simp [he]
    have HF := Lib.hid (show R = if re ≠ 0 then (re, zeroP) else if rightPk rp = true then (0, rp) else (2, zeroP) by rw [HPK.out, if_neg (by simp [he])]; exact HPR.out)
    clear he HPK HPR
    go_wp2_with fail
    refine HRE.out.mono ?_
    rintro e w2 ⟨p, rfl, hp, pk, hnn, hri, hnd, hrow, k2⟩
    have HP := Lib.hid hp; have PK2 := Lib.hid pk; have HNN := Lib.hid hnn; have HRI := Lib.hid hri; have HND := Lib.hid hnd; have HRW := Lib.hid hrow
    have KB := Lib.hid ((Kept.refl (fun _ => False) w2).alloc (.cells #[.string (bs p.n), .int .i64 p.v, .slice p.na p.ns.length p.nc, .slice p.ds.ao p.ds.es.length p.ds.cap] 25))
    have B3 := Lib.hid (bp_new w2 p 25)
    have K2 := Lib.hid (K1.out.trans k2 (fun _ _ h => h)); have R2 := Lib.hid (R1.out.kept k2 (fun h => h))
    have K3 := Lib.hid (K2.out.trans KB.out (fun _ _ h => h)); have R3 := Lib.hid (R2.out.kept KB.out (fun h => h))
    dsimp only at HP
    clear hp pk hnn hri hnd hrow k2 HRE
    by_cases hr : re = 0
    · have e2 : (re != 0) = false := by simp [hr]
      have HF2 := Lib.hid (show R = if rightPk rp = true then (0, rp) else (2, zeroP) by rw [HF.out, if_neg (by simp [hr])])
      have HRG := Lib.hid (dprightR_any p w2.heap.size _ (PK2.out.keep KB.out) HNN.out (fun e he => len8_right (HRI.out e he)) HND.out)
      rw [HP.out] at HRG
      obtain ⟨⟨x0, x1, x2, x3⟩, _, _, _, _⟩ := B3.out
      clear hr HF
      cases hrr : rightPk rp with
      | false =>
        rw [hrr] at HRG
        have HX := Lib.hid (show R = (2, zeroP) by rw [HF2.out, if_neg (by rw [hrr]; simp)])
        clear hrr
        go_wp2_with fail
        refine HRG.out.mono ?_
        rintro e w4 ⟨rfl, k4⟩
        have K4 := Lib.hid (K3.out.trans k4 (fun _ _ h => h)); have R4 := Lib.hid (R3.out.kept k4 (fun h => h))
        clear k4 x0 x1 x2 x3
        obtain ⟨⟨y0, y1, y2, y3⟩, g0, g1, g2, g3⟩ := R4.out
        go_wp2
        refine bodyPost_ret (results_box2 rfl rfl (load_pk (R4.out.set zeroPE))) rfl ?_
        rw [HX.out]
        exact rp_err (Nat.le_refl _) K4.out 2
      | true =>
        rw [hrr] at HRG
        have HX := Lib.hid (show R = (0, rp) by rw [HF2.out, if_pos hrr])
        have HRP := Lib.hid (rightPk_iff.1 hrr)
        clear hrr
        go_wp2_with fail
        refine HRG.out.mono ?_
        rintro e w4 ⟨rfl, k4⟩
        have K4 := Lib.hid (K3.out.trans k4 (fun _ _ h => h)); have R4 := Lib.hid (R3.out.kept k4 (fun h => h))
        have B4 := Lib.hid (B3.out.kept k4 (fun h => h))
        have PK4 := Lib.hid (((PK2.out.keep KB.out).keep k4).mono (B' := w4.heap.size) (by have h1 := KB.out.size; have h2 := k4.size; omega))
        clear k4 x0 x1 x2 x3
        obtain ⟨⟨x0, x1, x2, x3⟩, _, _, _, _⟩ := B4.out
        obtain ⟨⟨y0, y1, y2, y3⟩, g0, g1, g2, g3⟩ := R4.out
        go_wp2
        refine bodyPost_ret (results_box2 rfl rfl (load_pk (R4.out.set p))) rfl ?_
        rw [HX.out]
        have ks := kept_setK w4 w.heap.size p
        refine ⟨p, rfl, HP.out, ⟨?_, ?_⟩, K4.out.trans ks (fun i hi e => by omega)⟩
        · exact (lies_setK PK4.out.ns (fun x hx => by
            have h1 := HRP.out.needs x (by rw [← HP.out]; exact hx)
            intro e
            rw [e] at h1
            exact absurd h1.1 (by decide)) R4.out p).mono ks.size
        · exact sds_setK PK4.out.ds (fun hn a ha e => by have := HRW.out hn a ha; have := HZ1.out; omega) HRI.out R4.out p
    · have e2 : (re != 0) = true := by simpa using hr
      have HX := Lib.hid (show R = (re, zeroP) by rw [HF.out, if_pos hr])
      obtain ⟨⟨y0, y1, y2, y3⟩, g0, g1, g2, g3⟩ := R3.out
      clear hr
      go_wp2
      refine bodyPost_ret (results_box2 rfl rfl (load_pk (R3.out.set zeroPE))) rfl ?_
      rw [HX.out]
      exact rp_err (Nat.le_refl _) K3.out re
  · have e1 : (oe != 0) = true := by simpa using he
    have HX := Lib.hid (show R = (oe, zeroP) by rw [HPK.out, if_pos he])
    obtain ⟨⟨y0, y1, y2, y3⟩, g0, g1, g2, g3⟩ := R1.out
    clear he
    go_wp2
    refine bodyPost_ret (results_box2 rfl rfl (load_pk (R1.out.set zeroPE))) rfl ?_
    rw [HX.out]
    exact rp_err (Nat.le_refl _) K1.out oe

end Go.Proofs.YtjnpmbdehalmpaaGreat
