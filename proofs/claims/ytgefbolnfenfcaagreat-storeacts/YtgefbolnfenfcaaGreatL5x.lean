/-
  StoreActs: the walk.
-/
import Derived.Test.YtgefbolnfenfcaaGreatGL5s
import Derived.Test.YtgefbolnfenfcaaGreatRs
import Derived.Deep.RegionHeld
import Derived.Deep.CutBlock
import Derived.Deep.DeepCutAuto
namespace Go.Proofs.YtgefbolnfenfcaaGreat
open Go.RowKit Go.Mk

set_option maxRecDepth 100000 in
set_option maxHeartbeats 8000000 in
theorem sacts_walk (sc : Int) (fa : Option Addr) (fc : Nat) (fs : List AC) (w : World) (h : Acts w w.heap.size fa fs) :
    Calls Tryz.prog 3 #[.int .i64 sc, .slice fa fs.length fc] w fun e w' => e = .returned (.bool true) ∧ Below w.heap.size w w' := by
  have hlen := h.len
  unfold maxLen at hlen
  have H := Lib.hid h; clear h
  cases hsm : smallA5 16 fs with
  | false =>
    go_enter Tryz.func3, Tryz.ntmps3
    go_wp2_with fail
    refine (awake5_any w).mono ?_
    rintro e w1 ⟨rfl, b1⟩
    have hs1 := small5_any 16 16 rfl fa fc fs w.heap.size w1 (H.out.below b1)
    rw [hsm] at hs1
    have B1 := Lib.hid b1; have HS1 := Lib.hid hs1; clear b1 hs1
    go_wp2_with fail
    refine HS1.out.mono ?_
    rintro e w2 ⟨rfl, rfl⟩
    go_wp2_with fail
    refine (awake5_any w1).mono ?_
    rintro e w2 ⟨rfl, b2⟩
    have B2 := Lib.hid (B1.out.trans (b2.mono B1.out.size)); clear b2
    go_wp2
    go_ret
    exact ⟨rfl, B2.out⟩
  | true =>
    obtain ⟨h16, hsmall⟩ := smallA5_yes hsm
    have HSM := Lib.hid hsmall; clear hsmall
    go_enter Tryz.func3, Tryz.ntmps3
    go_wp2_with fail
    refine (awake5_any w).mono ?_
    rintro e w1 ⟨rfl, b1⟩
    have hs1 := small5_any 16 16 rfl fa fc fs w.heap.size w1 (H.out.below b1)
    rw [hsm] at hs1
    have B1 := Lib.hid b1; have HS1 := Lib.hid hs1; clear b1 hs1 hsm
    go_wp2_with fail
    refine HS1.out.mono ?_
    rintro e w2 ⟨rfl, rfl⟩
    go_wp2_with fail
    refine (rest_any sc 16 w1 (by omega) (by omega)).mono ?_
    rintro e w2 ⟨⟨r, hr6, rfl⟩, rfl⟩
    have e1 : (1 + (r : Int)) = ((r + 1 : Nat) : Int) := by omega
    have e2 : wrap64 (1 + (r : Int)) = ((r + 1 : Nat) : Int) := by unfold wrap64; omega
    obtain ⟨n, hn⟩ : ∃ n, r + 1 = n := ⟨_, rfl⟩
    rw [hn] at e1 e2
    have hn1 : 1 ≤ n := by omega
    have hn2 : n ≤ 16 := by omega
    clear hr6 hn
    have HNEW := Lib.hid (dnew_any w1 n hn1 (by omega))
    go_wp2_with fail
    refine HNEW.out.mono ?_
    rintro e w2 ⟨b, D, rfl, hd2, hD2, b2⟩
    have HRN := Lib.hid (rknew_any w2 n hn1 (by omega))
    have HD2 := Lib.hid hd2; have HDD := Lib.hid hD2; have B2 := Lib.hid (B1.out.trans (b2.mono B1.out.size)); clear hd2 hD2 b2
    go_wp2_with fail
    refine HRN.out.mono ?_
    rintro e w3 ⟨rb, M, rfl, hr3, hM3, b3⟩
    have inv : AI5 w w3 b rb n 0 D M ⟨List.replicate (64 * n) 0, [], -1⟩ (.pointer none) (.pointer none) none :=
      ⟨⟨D, fun _ => False, HD2.out.kept (kf5 b3 (Nat.le_refl _)) (fun _ _ h => h), .inl ⟨rfl, rfl⟩, fun _ _ h => h, fun _ h => h, fun _ h => h.elim, fun k hk => Nat.lt_of_lt_of_le (HD2.out.lt k hk) b3.size⟩,
        ⟨M, hr3, .inl ⟨rfl, rfl⟩, fun _ h => h, hr3.lt⟩, fun k h1 h2 => by have := HD2.out.lt k h1; have := hM3 k h2; omega, by simp, fun x hx => (by cases hx), fun k hk => by have := HDD.out k hk; have := B1.out.size; omega, fun k hk => by have := hM3 k hk; have := B2.out.size; omega, B2.out.trans (b3.mono B2.out.size)⟩
    have INV := Lib.hid inv; clear inv hr3 hM3 b3
    generalize List.replicate (64 * n) (0 : UInt8) = base0 at INV
    clear HDD HD2 e1 e2
    go_wp2_with fail
    go_loopg [9, 10, 11] fs.length (fun q v9 v10 v11 wr => ∃ (j : Nat) (S T : Nat → Prop) (s : DS) (ox : Option SS), q = fs.length - j ∧ j ≤ fs.length ∧ v11 = .int .i64 (j : Int) ∧ Hid (AI5 w wr b rb n j S T s v9 v10 ox))
    case atStart => exact ⟨0, D, M, ⟨base0, [], -1⟩, none, rfl, Nat.zero_le _, rfl, INV⟩
    case round =>
      obtain ⟨j, S1, T1, s, ox, hq, hj, rfl, inv⟩ := hrel
      have HQ := Lib.hid hq; clear hq INV HNEW HRN
      by_cases hlt : j < fs.length
      · have HLT := Lib.hid hlt
        have hA := H.out.below inv.out.bel
        obtain ⟨ab, aof, rfl, hab, hc⟩ := hA.at_ (by intro e; rw [e] at hlt; simp at hlt)
        obtain ⟨c0, c1, c2, c3, c4⟩ := hc j hlt
        have hbs := hA.bs fs[j] (List.getElem_mem hlt)
        have hsf := HSM.out fs[j] (List.getElem_mem hlt)
        have hrg := H.out.rng fs[j] (List.getElem_mem hlt)
        generalize fs[j] = f at *
        have hka : Kept (fun _ => False) wr (wr.alloc (.cells #[.int .i64 f.kind, .int .i64 f.n, .int .i64 f.m, .slice f.ba f.bl.length f.bc, .slice f.ka f.kl.length f.kc] 37)) := (Kept.refl _ wr).alloc _
        have hbox : ∀ i v, (f.cells)[i]? = some v → (wr.alloc (.cells #[.int .i64 f.kind, .int .i64 f.n, .int .i64 f.m, .slice f.ba f.bl.length f.bc, .slice f.ka f.kl.length f.kc] 37)).cell? ⟨wr.heap.size, i, none⟩ = some v := fun i v hv => (World.cell?_alloc_new wr _ _ i).trans hv
        have HKA := Lib.hid hka; have HBX := Lib.hid hbox; have HBS := Lib.hid hbs; have HSF := Lib.hid hsf; have HRG := Lib.hid hrg
        clear hka hbox hc hA hbs hsf hrg
        go_upto_block 2 with fail
        have k13 := HKA.out
        have d0 := HBX.out 0 _ rfl
        have d1 := HBX.out 1 _ rfl
        have d2 := HBX.out 2 _ rfl
        have d3 := HBX.out 3 _ rfl
        have d4 := HBX.out 4 _ rfl
        have INV3 := Lib.hid (inv.out.fresh k13)
        have hs3 : wr.heap.size < (wr.alloc (.cells #[.int .i64 f.kind, .int .i64 f.n, .int .i64 f.m, .slice f.ba f.bl.length f.bc, .slice f.ka f.kl.length f.kc] 37)).heap.size := by simp
        have hwb : w.heap.size ≤ (wr.alloc (.cells #[.int .i64 f.kind, .int .i64 f.n, .int .i64 f.m, .slice f.ba f.bl.length f.bc, .slice f.ka f.kl.length f.kc] 37)).heap.size := INV3.out.bel.size
        have hl3 := HBS.out.1.kept k13 (fun _ _ _ h => h)
        have hk3 := HBS.out.2.kept k13 (fun _ _ _ h => h)
        have hSlt : ¬ S1 wr.heap.size := fun h => by have := inv.out.s1.lt _ h; omega
        have hTlt : ¬ T1 wr.heap.size := fun h => by have := inv.out.s2.lt _ h; omega
        have hwl := inv.out.wl
        have hsx := inv.out.sx
        unfold AC.cells at d0 d1 d2 d3 d4
        have hsm := HSF.out
        clear HKA HBX k13 c0 c1 c2 c3 c4
        generalize (wr.alloc (.cells #[.int .i64 f.kind, .int .i64 f.n, .int .i64 f.m, .slice f.ba f.bl.length f.bc, .slice f.ka f.kl.length f.kc] 37)) = w3 at *
        have HL3 := Lib.hid hl3; have HKL3 := Lib.hid hk3; have HSL := Lib.hid hSlt; have HTL := Lib.hid hTlt; have HSX := Lib.hid hsx
        have HWS := Lib.hid hwb
        obtain ⟨hsb, hsk⟩ := hsm
        clear hl3 hk3 hSlt hTlt hwb hsx
        go_cut [9, 10, 13, 14] (fun v9 v10 v13 v14 wx => ∃ (E : Int) (S T : Nat → Prop) (s : DS) (ox : Option SS), v13 = .int .i64 E ∧ v14 = .int .i64 E ∧ Hid (AI5 w wx b rb n (j + 1) S T s v9 v10 ox))
        case first =>
          generalize hgk : f.kind = gk at *
          by_cases k0 : gk = 0
          · -- Save
            have kt : (gk == 0) = true := by simpa using k0
            clear k0 hgk
            have hsplit := INV3.out.s1
            obtain ⟨_, _, _, hsp, _⟩ := hsplit
            have hsplit2 := INV3.out.s2
            obtain ⟨_, _, hsp2, _⟩ := hsplit2
            rcases hsp with ⟨rfl, rfl⟩ | ⟨x, sb, rfl, rfl, _⟩
            · rcases hsp2 with ⟨_, rfl⟩ | ⟨_, _, e, _⟩
              · have INV4 : Hid (AI5 w w3 b rb n (j + 1) S1 T1 s (.pointer none) (.pointer none) none) := Lib.hid ⟨INV3.out.s1, INV3.out.s2, INV3.out.st, by omega, (fun x hx => (by cases hx)), INV3.out.sge, INV3.out.tge, INV3.out.bel⟩
                go_wp2_with fail
                go_meet
                case rel => exact ⟨0, _, _, _, _, rfl, rfl, INV4⟩
              · cases e
            · rcases hsp2 with ⟨e, _⟩ | ⟨x', mb, e, rfl, _⟩
              · cases e
              · cases e
                have hxs := HSX.out x rfl
                have i3 := INV3.out.fresh (Kept.drew (Kept.refl (fun _ => False) w3))
                have hl3 := HL3.out.kept (Kept.drew (Kept.refl (fun _ => False) w3)) (fun _ _ _ h => h)
                have hoff := i3.off hl3
                have hsA := run_string_of (P := Tryz.prog) w3.drew 34 9 5 Tryz.underlying34 Tryz.underlying5 Tryz.underlying9 f.bc f.bl.length rfl hl3
                have hdw := i3.s1.save f.ba f.bc f.bl (hl3.mono HWS.out) (fun hne a ha => (hoff (by simpa using hne) a ha).1) (by omega) (by omega) (by omega)
                have HLN := Lib.hid (ssaveD_len n hn2 f.bl x s)
                have HXN := Lib.hid (ssaveX_saves n f.bl x s)
                have I3 := Lib.hid i3; have HL3D := Lib.hid hl3; have HOFF := Lib.hid hoff
                have hrwf := fun (wx : World) (hk : Kept S1 w3.drew wx) => (I3.out.ref hk).save f.bl (by omega) (by omega) (by omega) (by omega)
                generalize ssaveE n f.bl x s = E at *
                generalize ssaveD n f.bl x s = s5 at *
                generalize ssaveX n f.bl x s = x5 at *
                have HRWF := Lib.hid hrwf; have HDW := Lib.hid hdw
                clear i3 hl3 hrwf hdw hoff
                go_wp2_with fail
                go_region_held (fun w' => w'.cell? ⟨wr.heap.size, 3, none⟩ = some (.slice f.ba f.bl.length f.bc)) (go_keep) (first
                  | (go_at_call 9; refine HDW.out.mono ?_; rintro e w4 ⟨rfl, S4, t4, g4⟩; have d34 : w4.cell? ⟨wr.heap.size, 3, none⟩ = some (.slice f.ba f.bl.length f.bc) := (t4.kept.cell (p := ⟨wr.heap.size, 3, none⟩) hs3 HSL.out).trans d3; have hsB := run_string_of (P := Tryz.prog) w4 34 9 5 Tryz.underlying34 Tryz.underlying5 Tryz.underlying9 f.bc f.bl.length rfl (HL3D.out.kept t4.kept (fun hne a ha => (HOFF.out hne a ha).1)); have HRW := Lib.hid (HRWF.out _ t4.kept); have T4 := Lib.hid t4; have G4 := Lib.hid g4; clear t4 g4)
                  | (go_at_call 10; refine HRW.out.mono ?_; rintro e w5 ⟨rfl, S5, t5, g5⟩; have d35 : w5.cell? ⟨wr.heap.size, 3, none⟩ = some (.slice f.ba f.bl.length f.bc) := (t5.kept.cell (p := ⟨wr.heap.size, 3, none⟩) (World.block_lt_of_cell? _ _ d34) HTL.out).trans d34; have INV5 := Lib.hid (I3.out.both T4.out G4.out t5 g5 (j' := j + 1) (by have := HLN.out; omega) (fun y hy => by cases hy; have := HXN.out; omega)); clear t5 g5))
                all_goals go_wp2_with fail
                all_goals go_meet
                all_goals exact ⟨_, _, _, _, _, rfl, rfl, INV5⟩
          · have k0b : (gk == 0) = false := by simpa using k0
            clear k0
            by_cases k1 : gk = 1
            · -- Power
              have kt : (gk == 1) = true := by simpa using k1
              clear k1 hgk
              have HDP := Lib.hid (INV3.out.s1.power f.n HRG.out.1)
              go_wp2_with fail
              refine HDP.out.mono ?_
              rintro e w4 ⟨⟨v4, rfl⟩, S4, t4, g4⟩
              have HRP := Lib.hid ((INV3.out.ref t4.kept).power f.n HRG.out.1.2)
              have d14 : w4.cell? ⟨wr.heap.size, 1, none⟩ = some (.int .i64 f.n) := (t4.kept.cell (p := ⟨wr.heap.size, 1, none⟩) hs3 HSL.out).trans d1
              have T4 := Lib.hid t4; have G4 := Lib.hid g4; clear t4 g4
              go_wp2_with fail
              refine HRP.out.mono ?_
              rintro e w5 ⟨⟨v5, rfl⟩, S5, t5, g5⟩
              have INV5 := Lib.hid (INV3.out.both T4.out G4.out t5 g5 (j' := j + 1) (by simp only; omega) (fun y hy => by have := HSX.out y hy; omega)); clear t5 g5
              go_wp2_with fail
              go_meet
              case rel => exact ⟨0, _, _, _, _, rfl, rfl, INV5⟩
            · have k1b : (gk == 1) = false := by simpa using k1
              clear k1
              by_cases k2 : gk = 2
              · -- Crash and Open
                have kt : (gk == 2) = true := by simpa using k2
                clear k2
                have hoff := INV3.out.off HKL3.out
                have HDC := Lib.hid (INV3.out.s1.crashes f.ka f.kc f.kl (HKL3.out.mono HWS.out) (fun hne a ha => (hoff (by simpa using hne) a ha).1) f.n f.m (by omega) (by omega))
                have HOFF := Lib.hid hoff; clear hoff hgk
                go_wp2_with fail
                refine HDC.out.mono ?_
                rintro e w4 ⟨⟨v4, rfl⟩, S4, t4, g4⟩
                have HRC := Lib.hid ((INV3.out.ref t4.kept).crashes f.ka f.kc f.kl ((HKL3.out.kept t4.kept (fun hne a ha => (HOFF.out hne a ha).1)).mono (Nat.le_trans HWS.out t4.kept.size)) (fun hne a ha => (HOFF.out (by simpa using hne) a ha).2) f.n f.m HRG.out.2 (by omega) (by omega))
                have d14 : w4.cell? ⟨wr.heap.size, 1, none⟩ = some (.int .i64 f.n) := (t4.kept.cell (p := ⟨wr.heap.size, 1, none⟩) hs3 HSL.out).trans d1
                have d24 : w4.cell? ⟨wr.heap.size, 2, none⟩ = some (.int .i64 f.m) := (t4.kept.cell (p := ⟨wr.heap.size, 2, none⟩) hs3 HSL.out).trans d2
                have d44 : w4.cell? ⟨wr.heap.size, 4, none⟩ = some (.slice f.ka f.kl.length f.kc) := (t4.kept.cell (p := ⟨wr.heap.size, 4, none⟩) hs3 HSL.out).trans d4
                have T4 := Lib.hid t4; have G4 := Lib.hid g4; clear t4 g4
                go_wp2_with fail
                refine HRC.out.mono ?_
                rintro e w5 ⟨⟨v5, rfl⟩, S5, t5, g5⟩
                have inv5 := INV3.out.both T4.out G4.out t5 g5 (j' := j) (by simp) (fun y hy => by have := HSX.out y hy; omega)
                clear t5 g5
                generalize crash f.kl f.n (octs f.m) 0 s.ws s.base = bc at *
                have hop := inv5.s1.opens (by simp)
                have hln := rec_len4 n hn2 ⟨bc, [], -1⟩ (by exact inv5.s1.ilen)
                have hrr := fun (wx : World) (hk : Kept S4 w5 wx) => (inv5.ref hk).opens (by omega) (by simp)
                generalize sopenT n ⟨bc, [], -1⟩ = ot at *
                generalize sopenE n ⟨bc, [], -1⟩ = oe at *
                generalize (jrec n ⟨bc, [], -1⟩).1 = s6 at *
                have HOP := Lib.hid hop; have HLN := Lib.hid hln; have HRR := Lib.hid hrr; have INV5 := Lib.hid inv5
                clear hop hln hrr inv5
                go_wp2_with fail
                refine HOP.out.mono ?_
                rintro e w6 ⟨S6, sv6, rfl, t6, g6⟩
                have HRO := Lib.hid (HRR.out _ t6.kept); have T6 := Lib.hid t6; have G6 := Lib.hid g6; clear t6 g6
                go_wp2_with fail
                refine HRO.out.mono ?_
                rintro e w7 ⟨S7, mv7, rfl, t7, g7⟩
                have INV7 := Lib.hid (INV5.out.both T6.out G6.out t7 g7 (j' := j + 1) (by have := HLN.out; simp at this; omega) (fun y hy => madeX_saves rfl hy)); clear t7 g7
                go_wp2_with fail
                go_meet
                case rel => exact ⟨_, _, _, _, _, rfl, rfl, INV7⟩
              · have k2b : (gk == 2) = false := by simpa using k2
                clear k2
                by_cases k3 : gk = 3
                · -- Open
                  have kt : (gk == 3) = true := by simpa using k3
                  clear k3 hgk
                  have hop := INV3.out.s1.opens (by omega)
                  have hln := rec_len4 n hn2 s (by exact INV3.out.s1.ilen)
                  have hrr := fun (wx : World) (hk : Kept S1 w3 wx) => (INV3.out.ref hk).opens (by omega) (by omega)
                  generalize sopenT n s = ot at *
                  generalize sopenE n s = oe at *
                  generalize (jrec n s).1 = s6 at *
                  have HOP := Lib.hid hop; have HLN := Lib.hid hln; have HRR := Lib.hid hrr
                  clear hop hln hrr
                  go_wp2_with fail
                  refine HOP.out.mono ?_
                  rintro e w6 ⟨S6, sv6, rfl, t6, g6⟩
                  have HRO := Lib.hid (HRR.out _ t6.kept); have T6 := Lib.hid t6; have G6 := Lib.hid g6; clear t6 g6
                  go_wp2_with fail
                  refine HRO.out.mono ?_
                  rintro e w7 ⟨S7, mv7, rfl, t7, g7⟩
                  have INV7 := Lib.hid (INV3.out.both T6.out G6.out t7 g7 (j' := j + 1) (by have := HLN.out; omega) (fun y hy => madeX_saves rfl hy)); clear t7 g7
                  go_wp2_with fail
                  go_meet
                  case rel => exact ⟨_, _, _, _, _, rfl, rfl, INV7⟩
                · have k3b : (gk == 3) = false := by simpa using k3
                  clear k3
                  by_cases k4' : gk = 4
                  · -- Format
                    have kt : (gk == 4) = true := by simpa using k4'
                    clear k4' hgk
                    have hoff := INV3.out.off HL3.out
                    have hop := INV3.out.s1.format f.ba f.bc f.bl (HL3.out.mono HWS.out) (fun hne a ha => (hoff (by simpa using hne) a ha).1) (by omega) (by omega)
                    have hln := format_len4 n hn2 (sealL f.bl) s
                    have hrr := fun (wx : World) (hk : Kept S1 w3 wx) => (INV3.out.ref hk).format f.bl (by omega) (by omega) (by omega)
                    generalize jformat n (sealL f.bl) s = rr at *
                    have HOP := Lib.hid hop; have HLN := Lib.hid hln; have HRR := Lib.hid hrr; have HOFF := Lib.hid hoff
                    clear hop hln hrr hoff
                    go_wp2_with fail
                    refine HOP.out.mono ?_
                    rintro e w6 ⟨S6, sv6, rfl, t6, g6⟩
                    have d36 : w6.cell? ⟨wr.heap.size, 3, none⟩ = some (.slice f.ba f.bl.length f.bc) := (t6.kept.cell (p := ⟨wr.heap.size, 3, none⟩) hs3 HSL.out).trans d3
                    have hsB := run_string_of (P := Tryz.prog) w6 34 9 5 Tryz.underlying34 Tryz.underlying5 Tryz.underlying9 f.bc f.bl.length rfl (HL3.out.kept t6.kept (fun hne a ha => (HOFF.out hne a ha).1))
                    have HRO := Lib.hid (HRR.out _ t6.kept); have T6 := Lib.hid t6; have G6 := Lib.hid g6; clear t6 g6
                    go_wp2_with fail
                    refine HRO.out.mono ?_
                    rintro e w7 ⟨S7, mv7, rfl, t7, g7⟩
                    have INV7 := Lib.hid (INV3.out.both T6.out G6.out t7 g7 (j' := j + 1) (by have := HLN.out; omega) (fun y hy => madeX_saves rfl hy)); clear t7 g7
                    go_wp2_with fail
                    go_meet
                    case rel => exact ⟨_, _, _, _, _, rfl, rfl, INV7⟩
                  · -- Write
                    have k4b : (gk == 4) = false := by simpa using k4'
                    clear k4' hgk
                    have i3 := INV3.out.fresh (Kept.drew (Kept.refl (fun _ => False) w3))
                    have hl3 := HL3.out.kept (Kept.drew (Kept.refl (fun _ => False) w3)) (fun _ _ _ h => h)
                    have hoff := i3.off hl3
                    have hsA := run_string_of (P := Tryz.prog) w3.drew 34 9 5 Tryz.underlying34 Tryz.underlying5 Tryz.underlying9 f.bc f.bl.length rfl hl3
                    have hdw := i3.s1.write f.n f.ba f.bc f.bl (hl3.mono HWS.out) (fun hne a ha => (hoff (by simpa using hne) a ha).1) (by omega)
                    have hwn := writeW_len5 n s.calls f.n f.bl s.ws
                    have I3 := Lib.hid i3; have HL3D := Lib.hid hl3; have HOFF := Lib.hid hoff
                    have hrwf := fun (wx : World) (hk : Kept S1 w3.drew wx) => (I3.out.ref hk).write f.n f.bl (by omega)
                    generalize writeE n s.calls f.n f.bl = E at *
                    generalize writeW n s.calls f.n f.bl s.ws = ws5 at *
                    generalize writeC n s.calls f.n f.bl = cc5 at *
                    have HRWF := Lib.hid hrwf; have HDW := Lib.hid hdw; have HLN := Lib.hid hwn
                    clear i3 hl3 hrwf hdw hoff hwn
                    go_wp2_with fail
                    go_region_held (fun w' => w'.cell? ⟨wr.heap.size, 3, none⟩ = some (.slice f.ba f.bl.length f.bc) ∧ w'.cell? ⟨wr.heap.size, 1, none⟩ = some (.int .i64 f.n)) (go_keep) (first
                      | (go_at_call 19; refine HDW.out.mono ?_; rintro e w4 ⟨rfl, S4, t4, g4⟩; have d34 : w4.cell? ⟨wr.heap.size, 3, none⟩ = some (.slice f.ba f.bl.length f.bc) := (t4.kept.cell (p := ⟨wr.heap.size, 3, none⟩) hs3 HSL.out).trans d3; have d14 : w4.cell? ⟨wr.heap.size, 1, none⟩ = some (.int .i64 f.n) := (t4.kept.cell (p := ⟨wr.heap.size, 1, none⟩) hs3 HSL.out).trans d1; have hsB := run_string_of (P := Tryz.prog) w4 34 9 5 Tryz.underlying34 Tryz.underlying5 Tryz.underlying9 f.bc f.bl.length rfl (HL3D.out.kept t4.kept (fun hne a ha => (HOFF.out hne a ha).1)); have HRW := Lib.hid (HRWF.out _ t4.kept); have T4 := Lib.hid t4; have G4 := Lib.hid g4; clear t4 g4)
                      | (go_at_call 20; refine HRW.out.mono ?_; rintro e w5 ⟨rfl, S5, t5, g5⟩; have d35 : w5.cell? ⟨wr.heap.size, 3, none⟩ = some (.slice f.ba f.bl.length f.bc) := (t5.kept.cell (p := ⟨wr.heap.size, 3, none⟩) (World.block_lt_of_cell? _ _ d34) HTL.out).trans d34; have d15 : w5.cell? ⟨wr.heap.size, 1, none⟩ = some (.int .i64 f.n) := (t5.kept.cell (p := ⟨wr.heap.size, 1, none⟩) (World.block_lt_of_cell? _ _ d14) HTL.out).trans d14; have INV5 := Lib.hid (I3.out.both T4.out G4.out t5 g5 (j' := j + 1) (by have := HLN.out; simp only; omega) (fun y hy => by have := HSX.out y hy; omega)); clear t5 g5))
                    all_goals go_wp2_with fail
                    all_goals go_meet
                    all_goals exact ⟨_, _, _, _, _, rfl, rfl, INV5⟩
        case rest =>
          obtain ⟨E, S4, T4, s4, ox4, rfl, rfl, inv4⟩ := hcut
          have hwl4 := inv4.out.wl
          have kd : Kept (fun _ => False) wc wc.drew := Kept.drew (Kept.refl _ wc)
          have i4 := inv4.out.fresh kd
          have HSA := Lib.hid (same_any i4.s1 i4.s2)
          have hil := inv4.out.s1.ilen
          have him := fun (wx : World) (hk : Kept (fun _ => False) wc wx) => (inv4.out.fresh hk).s1.img
          have hri := fun (wx : World) (hk : Kept (fun _ => False) wc wx) => (inv4.out.fresh hk).s2.img (by omega)
          generalize image s4.base s4.ws = IL at *
          generalize 64 * n = N at him hil
          have HIM := Lib.hid him; have HIL := Lib.hid hil; have HRI := Lib.hid hri; have KD := Lib.hid kd
          have hEE : (E != E) = false := by simp
          have hII : ((bs IL).toList == (bs IL).toList) = true := by simp
          clear him hri hil i4 kd d0 d1 d2 d3 d4
          go_wp2_with fail
          go_region_held (fun _ => True) (trivial) (first
            | (go_at_call 21; refine HSA.out.mono ?_; rintro e w5 ⟨rfl, b5⟩; have k5 := KD.out.trans (kf5 b5 (Nat.le_refl _)) (fun _ _ h => h); have HIM5 := Lib.hid (HIM.out w5 k5); have K5 := Lib.hid k5; clear b5 k5)
            | (go_at_call 22; refine HIM5.out.mono ?_; rintro e w7 ⟨ao7, cap7, rfl, hl7, b7⟩; have k67 := K5.out.trans (kf5 b7 (Nat.le_refl _)) (fun _ _ h => h); have hs7 := run_string_of (P := Tryz.prog) w7 34 9 5 Tryz.underlying34 Tryz.underlying5 Tryz.underlying9 cap7 N HIL.out.symm hl7; have HRI7 := Lib.hid (HRI.out w7 k67); have HLI := Lib.hid hl7; have K7 := Lib.hid k67; clear hl7 b7 k67)
            | (go_at_call 23; refine HRI7.out.mono ?_; rintro e w8 ⟨rfl, k8⟩; have hs8 := run_string_of (P := Tryz.prog) w8 34 9 5 Tryz.underlying34 Tryz.underlying5 Tryz.underlying9 cap7 N HIL.out.symm (HLI.out.kept k8 (fun _ _ _ h => h)); have I8 := Lib.hid (inv4.out.fresh (K7.out.trans k8 (fun _ _ h => h))); clear k8))
          all_goals go_wp2
          all_goals go_roundg (fs.length - (j + 1))
          all_goals first
            | (have := HQ.out; have := HLT.out; omega)
            | exact ⟨j + 1, S4, T4, s4, ox4, rfl, HLT.out, by go_num, I8⟩
      · obtain rfl : j = fs.length := by omega
        have HB := Lib.hid inv.out.bel
        go_wp2
        go_ret
        exact ⟨rfl, HB.out⟩

end Go.Proofs.YtgefbolnfenfcaaGreat
