/-
  SnapChanges: the walk.
-/
import Derived.Test.YtecjecdgjmipcaaL8c
import Derived.Test.YtecjecdgjmipcaaGR8
import Derived.Test.YtecjecdgjmipcaaGTh
import Derived.Test.YtecjecdgjmipcaaR7
import Derived.Deep.CutBlock
import Derived.Deep.DeepCutAuto
namespace Go.Proofs.Ytecjecdgjmipcaa
open Go.RowKit Go.Mk Go.Maps

/-- A change's cells at an offset. -/
structure Co (w : World) (b o : Nat) (c : CD) : Prop where
  c0 : w.cell? ⟨b, o, none⟩ = some (.bool c.dr)
  c1 : w.cell? ⟨b, o + 1, none⟩ = some (.int .i64 c.d.k)
  c2 : w.cell? ⟨b, o + 2, none⟩ = some (.string (bs c.d.c))
  c3 : w.cell? ⟨b, o + 3, none⟩ = some (.string (bs c.d.p))
  c4 : w.cell? ⟨b, o + 4, none⟩ = some (.slice c.ao c.d.vs.length c.cap)
  c5 : w.cell? ⟨b, o + 5, none⟩ = some (.string (bs c.d.s))
  c6 : w.cell? ⟨b, o + 6, none⟩ = some (.string (bs c.d.t))
  c7 : w.cell? ⟨b, o + 7, none⟩ = some (.string (bs c.key))

theorem Co.keep {w w' : World} {b o : Nat} {c : CD} (h : Co w b o c) (hk : Kept (fun _ => False) w w') : Co w' b o c := by
  have hlt : b < w.heap.size := World.block_lt_of_cell? _ _ h.c0
  exact ⟨(hk.cell (p := ⟨b, o, none⟩) hlt (fun h => h)).trans h.c0, (hk.cell (p := ⟨b, o + 1, none⟩) hlt (fun h => h)).trans h.c1, (hk.cell (p := ⟨b, o + 2, none⟩) hlt (fun h => h)).trans h.c2, (hk.cell (p := ⟨b, o + 3, none⟩) hlt (fun h => h)).trans h.c3, (hk.cell (p := ⟨b, o + 4, none⟩) hlt (fun h => h)).trans h.c4, (hk.cell (p := ⟨b, o + 5, none⟩) hlt (fun h => h)).trans h.c5, (hk.cell (p := ⟨b, o + 6, none⟩) hlt (fun h => h)).trans h.c6, (hk.cell (p := ⟨b, o + 7, none⟩) hlt (fun h => h)).trans h.c7⟩

/-- Changes in a row that came in. -/
structure Cds (w : World) (B : Nat) (ca : Option Addr) (cs : List CD) : Prop where
  row : cs ≠ [] → ∃ b off, ca = some ⟨b, off, none⟩ ∧ b < B ∧ ∀ j (h : j < cs.length), Co w b (off + j * 8) cs[j]
  each : ∀ c ∈ cs, Cin w B c

/-- A change in its box. -/
structure X8 (w : World) (b : Nat) (c : CD) (wx : World) : Prop where
  box : Cb wx b c
  k : Kept (fun _ => False) w wx

theorem X8.keep {w : World} {b : Nat} {c : CD} {wx wy : World} (h : X8 w b c wx) (hk : Kept (fun _ => False) wx wy) : X8 w b c wy :=
  ⟨h.box.kept hk (fun h => h), h.k.trans hk (fun _ _ h => h)⟩

theorem is_rl {v : Value} {oa : Option Addr} {oc : Nat} {es : List Ent} {w : World} (hs : Sn w v (dds es)) (hr : Rl w oa es) (hl : es.length ≤ 600) :
    Calls Try.prog 22 #[v, .slice oa es.length oc] w fun e w' => e = .returned (.bool true) ∧ Kept (fun _ => False) w w' := by
  have := is_any v (dds es) oa oc es w hs hr.ds (by rw [dds_len]; exact hl) (fun e he => (hr.len e he).n)
  rwa [show isL (dds es) (dds es) = true from decide_eq_true rfl] at this

theorem dds_drop (key : List UInt8) (es : List Ent) : dds (dropK keyE key es) = dropK keyD key (dds es) := map_dropK (f := fun e : Ent => e.1) (ka := keyE) (kb := keyD) (fun _ => rfl) key es
theorem dds_put (x : Ent) (es : List Ent) : dds (putK keyE x es) = putK keyD x.1 (dds es) := map_putK (f := fun e : Ent => e.1) (ka := keyE) (kb := keyD) (fun _ => rfl) x es

theorem nx_any (j : Nat) (h : j ≤ 1000) : Value.int .i64 (wrap64 ((j : Int) + 1)) = .int .i64 ((j + 1 : Nat) : Int) := by
  refine congrArg _ ?_
  unfold wrap64
  omega

def bigX (es : List Ent) (n : Nat) : Bool := !fewB es 10 || decide (10 < n)

set_option maxHeartbeats 4000000 in
set_option maxRecDepth 100000 in
theorem changes_any (la : Option Addr) (lc : Nat) (es : List Ent) (ca : Option Addr) (cc : Nat) (cs : List CD) (w : World) (hD : Ds w w.heap.size la es) (hC : Cds w w.heap.size ca cs) :
    Calls Try.prog 5 #[.slice la es.length lc, .slice ca cs.length cc] w fun e w' => e = .returned (.bool true) ∧ Below w.heap.size w w' := by
  have HAW := Lib.hid (fun w => awake8_any w)
  have HFEW := Lib.hid (fun (wx : World) (h : Kept (fun _ => False) w wx) => few_any la lc es 10 w.heap.size wx (hD.keep h) (by decide))
  have HD := Lib.hid hD; have HC := Lib.hid hC
  clear hD hC
  go_enter Try.func5, Try.ntmps5
  go_upto_region 1 with fail
  go_cut [25] (fun v wx => v = .bool (bigX es cs.length) ∧ Kept (fun _ => False) w wx)
  case first =>
    go_wp2_with fail
    refine (HAW.out _).mono ?_
    rintro e w1 ⟨rfl, k1⟩
    have K1 := Lib.hid k1; clear k1
    go_wp2_with fail
    refine (HFEW.out _ K1.out).mono ?_
    rintro e w2 ⟨rfl, k2⟩
    have K2 := Lib.hid (K1.out.trans k2 (fun _ _ h => h)); clear k2
    cases hf : fewB es 10 with
    | false =>
      have HB := Lib.hid (show bigX es cs.length = true by simp [bigX, hf]); clear hf
      go_wp2_with fail
      go_meet
      case rel => exact ⟨by rw [HB.out], K2.out⟩
    | true =>
      by_cases hn : 10 < cs.length
      · have HB := Lib.hid (show bigX es cs.length = true by simp [bigX, hn]); clear hf
        have i1 : (10 : Int) < (cs.length : Int) := by omega
        clear hn
        go_wp2_with fail
        go_meet
        case rel => exact ⟨by rw [HB.out], K2.out⟩
      · have HB := Lib.hid (show bigX es cs.length = false by simp [bigX, hn, hf]); clear hf
        have i1 : ¬ (10 : Int) < (cs.length : Int) := by omega
        clear hn
        go_wp2_with fail
        go_meet
        case rel => exact ⟨by rw [HB.out, decide_eq_false (by omega)], K2.out⟩
  case rest =>
    obtain ⟨rfl, k3⟩ := hcut
    have K3 := Lib.hid k3; clear k3
    cases hbig : bigX es cs.length with
    | true =>
      clear hbig
      go_wp2_with fail
      refine (HAW.out _).mono ?_
      rintro e w4 ⟨rfl, k4⟩
      have K4 := Lib.hid (K3.out.trans k4 (fun _ _ h => h)); clear k4
      go_wp2
      go_ret
      exact ⟨rfl, keeps_below7 K4.out⟩
    | false =>
      have hall : fewB es 10 = true ∧ cs.length ≤ 10 := by
        simp [bigX] at hbig
        exact ⟨hbig.1, by omega⟩
      obtain ⟨hfew, hcl⟩ := hall
      have HF := Lib.hid (few_of (n := 10) hfew)
      have HCL := Lib.hid hcl
      clear hbig hfew hcl
      have HL := Lib.hid (show ∀ e ∈ es, Len8 e.1 from fun e he => small_len8 (HF.out.small e he))
      have HSN := Lib.hid (fun (wx : World) (h : Kept (fun _ => False) w wx) => snew_any la lc es w.heap.size wx h.size (HD.out.keep h) HL.out (by have := HF.out.len; omega))
      have HRN := Lib.hid (fun (wx : World) (h : Kept (fun _ => False) w wx) => rnew_any la lc es w.heap.size wx h.size (HD.out.keep h) HL.out (by have := HF.out.len; omega))
      have HNL := Lib.hid (show (newL (dds es)).2.length ≤ 10 by
        by_cases h : (newL (dds es)).1 = 0
        · rw [(newL_made h).len, dds_len]; exact HF.out.len
        · rw [newL_none h]; exact Nat.zero_le _)
      generalize newL (dds es) = r at *
      obtain ⟨er, l0⟩ := r
      go_wp2_with fail
      refine (HSN.out _ K3.out).mono ?_
      rintro e w5 ⟨v5, rfl, _, hv5, s5, k5⟩
      have S5 := Lib.hid s5; have K5 := Lib.hid (K3.out.trans k5 (fun _ _ h => h)); clear s5 k5 hv5
      go_wp2_with fail
      refine (HRN.out _ K5.out).mono ?_
      rintro e w6 ⟨oa6, oc6, es6, rfl, hd6, _, r6, k6⟩
      have S6 := Lib.hid (S5.out.keep k6); have R6 := Lib.hid r6; have K6 := Lib.hid (K5.out.trans k6 (fun _ _ h => h)); have HD6 := Lib.hid hd6
      clear r6 k6 hd6
      dsimp only at *
      go_upto_if 38 with fail
      go_cut [5, 7] (fun v x wx => ∃ oa oc m, x = .slice oa m.length oc ∧ Sn wx v (dds m) ∧ Rl wx oa m ∧ m.length ≤ 10 ∧ Kept (fun _ => False) w wx)
      case first =>
        by_cases her : er = 0
        · subst her
          go_wp2_with fail
          go_meet
          case rel => exact ⟨oa6, oc6, es6, rfl, by rw [HD6.out]; exact S6.out, R6.out, by have := HNL.out; rw [← HD6.out, dds_len] at this; exact this, K6.out⟩
        · have he1 : (er != 0) = true := by simp [her]
          go_wp2_with fail
          go_meet
          case rel => exact ⟨none, 0, [], rfl, sn_nil _, Rl.nil _ _, Nat.zero_le _, K6.out⟩
      case rest =>
        obtain ⟨oa7, oc7, m7, rfl, s7, r7, hm7, k7⟩ := hcut
        have S7 := Lib.hid s7; have R7 := Lib.hid r7; have K7 := Lib.hid k7; have HM7 := Lib.hid hm7
        clear s7 r7 k7 hm7
        have HXE := Lib.hid (show (∀ c ∈ cs, Cin w w.heap.size c) from HC.out.each)
        go_wp2
        go_loopg [5, 7, 9] cs.length (fun k v x c wr => ∃ j oa oc m, k = cs.length - j ∧ j ≤ cs.length ∧ c = .int .i64 (j : Int) ∧ x = .slice oa m.length oc ∧ Sn wr v (dds m) ∧ Rl wr oa m ∧ m.length ≤ 10 + j ∧ Kept (fun _ => False) w wr)
        case atStart => exact ⟨0, oa7, oc7, m7, rfl, Nat.zero_le _, rfl, rfl, S7.out, R7.out, HM7.out, K7.out⟩
        case round =>
          clear S7 R7 K7 HM7 S6 R6 K6 S5 K5 K3 HSN HRN HFEW HAW
          obtain ⟨j, oa, oc, m, hk, hj, rfl, rfl, hs, hr, hm, hw⟩ := hrel
          have HK := Lib.hid hk; have HS := Lib.hid hs; have HR := Lib.hid hr; have HM := Lib.hid hm; have HW := Lib.hid hw
          clear hk hs hr hm hw
          by_cases hlt : j < cs.length
          · obtain ⟨xb, xo, rfl, hxb, hc⟩ := HC.out.row (by intro h; rw [h] at hlt; simp at hlt)
            obtain ⟨c0, c1, c2, c3, c4, c5, c6, c7⟩ := (hc j hlt).keep HW.out
            have HI := Lib.hid (HXE.out cs[j] (List.getElem_mem hlt))
            have i1 : (j : Int) < (cs.length : Int) := by omega
            have HNX := Lib.hid (nx_any j (by have := HCL.out; omega))
            clear hc
            generalize cs[j] = c at *
            have KA := Lib.hid ((Kept.refl (fun _ => False) wr).alloc (.cells #[.bool c.dr, .int .i64 c.d.k, .string (bs c.d.c), .string (bs c.d.p), .slice c.ao c.d.vs.length c.cap, .string (bs c.d.s), .string (bs c.d.t), .string (bs c.key)] 45))
            have X0 := Lib.hid (show X8 w wr.heap.size c (wr.alloc (.cells #[.bool c.dr, .int .i64 c.d.k, .string (bs c.d.c), .string (bs c.d.p), .slice c.ao c.d.vs.length c.cap, .string (bs c.d.s), .string (bs c.d.t), .string (bs c.key)] 45)) from ⟨cb_new wr c _, HW.out.trans KA.out (fun _ _ h => h)⟩)
            have HSM := Lib.hid (fun (wx : World) (h : Kept (fun _ => False) w wx) => rsmall_any c.d c.ao c.cap w.heap.size wx (HI.out.lies.kept h (fun _ _ _ h => h)))
            have hz : (bs c.key).size = c.key.length := rfl
            go_upto_region 11 with fail
            clear c0 c1 c2 c3 c4 c5 c6 c7
            have S0 := Lib.hid (HS.out.keep KA.out); have R0 := Lib.hid (HR.out.keep KA.out)
            obtain ⟨c0, c1, c2, c3, c4, c5, c6, c7⟩ := X0.out.box
            go_wp2_with fail
            refine (HSM.out _ X0.out.k).mono ?_
            rintro e w1 ⟨rfl, k1⟩
            have X1 := Lib.hid (X0.out.keep k1); have S1 := Lib.hid (S0.out.keep k1); have R1 := Lib.hid (R0.out.keep k1)
            clear k1 c0 c1 c2 c3 c4 c5 c6 c7 S0 R0 HS HR
            have c7 := X1.out.box.c7
            cases hsm : smallD c.d with
            | false =>
              go_wp2
              go_ret
              exact ⟨rfl, keeps_below7 X1.out.k⟩
            | true =>
              have HSD := Lib.hid (smallD_of hsm)
              clear hsm
              by_cases h7 : 700 < c.key.length
              · have i2 : (700 : Int) < (c.key.length : Int) := by omega
                clear h7
                go_wp2
                go_ret
                exact ⟨rfl, keeps_below7 X1.out.k⟩
              · have i2 : ¬ (700 : Int) < (c.key.length : Int) := by omega
                have H7 := Lib.hid h7
                clear h7
                have c0 := X1.out.box.c0
                go_upto_if 60 with fail
                go_cut [5, 7] (fun v x wx => ∃ oa oc m, x = .slice oa m.length oc ∧ Sn wx v (dds m) ∧ Rl wx oa m ∧ m.length ≤ 10 + (j + 1) ∧ Kept (fun _ => False) w wx)
                case first =>
                  have HIS := Lib.hid (fun (wx : World) (h : Kept (fun _ => False) w1 wx) => is_rl (oc := oc) (S1.out.keep h) (R1.out.keep h) (by have := HCL.out; have := HM.out; omega))
                  have HRR := Lib.hid (fun (wx : World) (h : Kept (fun _ => False) w wx) => rright_any c.d c.ao c.cap w.heap.size wx (HI.out.lies.kept h (fun _ _ _ h => h)) HI.out.cap (by have := HSD.out.n; omega) (by have := HSD.out.s; omega))
                  have HSP := Lib.hid (sput_any u5 (dds m) c.d c.ao c.cap w.heap.size w1 S1.out (HI.out.lies.kept X1.out.k (fun _ _ _ h => h)) HI.out.cap (small_len8 HSD.out) (by have := HCL.out; have := HM.out; rw [dds_len]; omega))
                  have HRP := Lib.hid (fun (wx : World) (h : Kept (fun _ => False) w1 wx) => rput_rl oa oc m c.d c.ao c.cap w.heap.size wx (Nat.le_trans X1.out.k.size h.size) (R1.out.keep h) (by have := HCL.out; have := HM.out; omega) ((HI.out.lies.kept X1.out.k (fun _ _ _ h => h)).kept h (fun _ _ _ h => h)) HI.out.cap (small_len8 HSD.out))
                  have HRD := Lib.hid (fun (wx : World) (h : Kept (fun _ => False) w1 wx) => rdrop_rl oa oc m c.key wx (R1.out.keep h) (by have := HCL.out; have := HM.out; omega))
                  have KB := Lib.hid ((Kept.refl (fun _ => False) w1).alloc (.cells #[.string (bs c.key)] 9))
                  have HLK : Lies (w1.alloc (.cells #[.string (bs c.key)] 9)) (w1.heap.size + 1) (some ⟨w1.heap.size, 0, none⟩) (strs [c.key]) := lies_new w1 (strs [c.key]) 9
                  have HSX := Lib.hid (sdrop_any u5 (dds m) (some ⟨w1.heap.size, 0, none⟩) 1 [c.key] 1 rfl _ _ (S1.out.keep KB.out) HLK (by have := HCL.out; have := HM.out; rw [dds_len]; omega) (by simp) (by have := H7.out; simp; omega))
                  rw [show dropsD [c.key] (dds m) = dds (dropK keyE c.key m) from (dds_drop _ _).symm] at HSX
                  have HDL := Lib.hid (show (dropK keyE c.key m).length ≤ 10 + (j + 1) from Nat.le_trans (List.length_filter_le _ _) (by have := HM.out; omega))
                  have HPL := Lib.hid (show (putK keyE (c.d, c.ao, c.cap) m).length ≤ 10 + (j + 1) from Nat.le_trans (putK_le R1.out.rise) (by have := HM.out; omega))
                  have HPK := Lib.hid (dds_put (c.d, c.ao, c.cap) m)
                  have HPR := Lib.hid (fun (h : rightD c.d = true) => putR_ok (l := dds m) h (by have := HCL.out; have := HM.out; rw [dds_len]; omega))
                  have HPW := Lib.hid (fun (h : rightD c.d = false) => show putR c.d (dds m) = (31, []) by unfold putR; rw [if_pos h])
                  clear HLK
                  generalize dropK keyE c.key m = md at *
                  generalize putK keyE (c.d, c.ao, c.cap) m = mp at *
                  dsimp only at HPK
                  rw [← HPK.out] at HPR
                  clear HPK
                  clear c0
                  obtain ⟨_, c1, c2, c3, c4, c5, c6, _⟩ := X1.out.box
                  go_wp2_with fail
                  · clear c1 c2 c3 c4 c5 c6
                    refine HSX.out.mono ?_
                    rintro e w2 ⟨s2, rfl, n2, k2⟩
                    have k2' := KB.out.trans k2 (fun _ _ h => h)
                    have N2 := Lib.hid n2; have K2 := Lib.hid k2'; have X2 := Lib.hid (X1.out.keep k2')
                    clear n2 k2 k2' c7
                    go_wp2_with fail
                    refine (HIS.out _ K2.out).mono ?_
                    rintro e w3 ⟨rfl, k3⟩
                    have N3 := Lib.hid (N2.out.keep k3); have K3 := Lib.hid (K2.out.trans k3 (fun _ _ h => h)); have X3 := Lib.hid (X2.out.keep k3)
                    clear k3
                    have c7 := X3.out.box.c7
                    go_wp2_with fail
                    refine (HRD.out _ K3.out).mono ?_
                    rintro e w4 ⟨oa4, oc4, rfl, r4, k4⟩
                    have N4 := Lib.hid (N3.out.keep k4); have R4 := Lib.hid r4; have X4 := Lib.hid (X3.out.keep k4)
                    clear r4 k4 c7
                    go_wp2_with fail
                    go_meet
                    case rel => exact ⟨oa4, oc4, md, rfl, N4.out, R4.out, HDL.out, X4.out.k⟩
                  · clear c7
                    cases hrt : rightD c.d with
                    | true =>
                      have hpr := HPR.out hrt
                      rw [hpr] at HSP
                      rw [hrt] at HRR
                      clear hpr hrt HPR HPW
                      refine HSP.out.mono ?_
                      rintro e w2 ⟨v2, rfl, hv2, _, n2, k2⟩
                      obtain ⟨s2, rfl⟩ := hv2 rfl
                      have N2 := Lib.hid n2; have K2 := Lib.hid k2; have X2 := Lib.hid (X1.out.keep k2)
                      clear n2 k2 hv2 c1 c2 c3 c4 c5 c6
                      go_wp2_with fail
                      refine (HIS.out _ K2.out).mono ?_
                      rintro e w3 ⟨rfl, k3⟩
                      have N3 := Lib.hid (N2.out.keep k3); have K3 := Lib.hid (K2.out.trans k3 (fun _ _ h => h)); have X3 := Lib.hid (X2.out.keep k3)
                      clear k3
                      obtain ⟨_, c1, c2, c3, c4, c5, c6, _⟩ := X3.out.box
                      go_wp2_with fail
                      refine (HRR.out _ X3.out.k).mono ?_
                      rintro e w4 ⟨rfl, k4⟩
                      have N4 := Lib.hid (N3.out.keep k4); have K4 := Lib.hid (K3.out.trans k4 (fun _ _ h => h)); have X4 := Lib.hid (X3.out.keep k4)
                      clear k4 c1 c2 c3 c4 c5 c6
                      obtain ⟨_, c1, c2, c3, c4, c5, c6, _⟩ := X4.out.box
                      go_wp2_with fail
                      refine (HRP.out _ K4.out).mono ?_
                      rintro e w5 ⟨oa5, oc5, rfl, r5, k5⟩
                      have N5 := Lib.hid (N4.out.keep k5); have R5 := Lib.hid r5; have X5 := Lib.hid (X4.out.keep k5)
                      clear r5 k5 c1 c2 c3 c4 c5 c6
                      go_wp2_with fail
                      go_meet
                      case rel => exact ⟨oa5, oc5, mp, rfl, N5.out, R5.out, HPL.out, X5.out.k⟩
                    | false =>
                      have hpr := HPW.out hrt
                      rw [hpr] at HSP
                      rw [hrt] at HRR
                      clear hpr hrt HPR HPW
                      refine HSP.out.mono ?_
                      rintro e w2 ⟨v2, rfl, _, hv2, n2, k2⟩
                      obtain rfl := hv2 (by decide)
                      have K2 := Lib.hid k2; have X2 := Lib.hid (X1.out.keep k2)
                      clear n2 k2 hv2 c1 c2 c3 c4 c5 c6
                      go_wp2_with fail
                      refine (HIS.out _ K2.out).mono ?_
                      rintro e w3 ⟨rfl, k3⟩
                      have K3 := Lib.hid (K2.out.trans k3 (fun _ _ h => h)); have X3 := Lib.hid (X2.out.keep k3)
                      clear k3
                      obtain ⟨_, c1, c2, c3, c4, c5, c6, _⟩ := X3.out.box
                      go_wp2_with fail
                      refine (HRR.out _ X3.out.k).mono ?_
                      rintro e w4 ⟨rfl, k4⟩
                      have S4 := Lib.hid (S1.out.keep (K3.out.trans k4 (fun _ _ h => h))); have R4 := Lib.hid (R1.out.keep (K3.out.trans k4 (fun _ _ h => h))); have X4 := Lib.hid (X3.out.keep k4)
                      clear k4 c1 c2 c3 c4 c5 c6
                      go_wp2_with fail
                      go_meet
                      case rel => exact ⟨oa, oc, m, rfl, S4.out, R4.out, by have := HM.out; omega, X4.out.k⟩
                case rest =>
                  obtain ⟨oa9, oc9, m9, rfl, s9, r9, hm9, k9⟩ := hcut
                  have HIS := Lib.hid (is_rl (oc := oc9) s9 r9 (by have := HCL.out; omega))
                  have S9 := Lib.hid s9; have R9 := Lib.hid r9; have HM9 := Lib.hid hm9; have K9 := Lib.hid k9
                  clear s9 r9 hm9 k9 c0 c7
                  go_wp2_with fail
                  refine HIS.out.mono ?_
                  rintro e w10 ⟨rfl, k10⟩
                  have S10 := Lib.hid (S9.out.keep k10); have R10 := Lib.hid (R9.out.keep k10); have K10 := Lib.hid (K9.out.trans k10 (fun _ _ h => h))
                  clear k10
                  go_wp2
                  go_roundg (cs.length - (j + 1))
                  case measure => have := HK.out; omega
                  case rel => exact ⟨j + 1, oa9, oc9, m9, rfl, by omega, HNX.out, rfl, S10.out, R10.out, HM9.out, K10.out⟩
          · obtain rfl : j = cs.length := by omega
            clear hlt
            go_wp2
            go_ret
            exact ⟨rfl, keeps_below7 HW.out⟩

end Go.Proofs.Ytecjecdgjmipcaa
