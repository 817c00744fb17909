/-
  JournalActs: the walk.
-/
import Derived.Test.YtobikgcoekiboaaL4a
import Derived.Test.YtobikgcoekiboaaRs
import Derived.Deep.RegionHeld
import Derived.Deep.CutBlock
import Derived.Deep.DeepCutAuto
namespace Go.Proofs.Ytobikgcoekiboaa
open Go.RowKit Go.Mk

theorem kf4 {B : Nat} {x y : World} (h : Below B x y) (hB : x.heap.size ≤ B) : Kept (fun _ => False) x y := ⟨h.os, h.tape, h.output, h.size, fun k hk _ => h.block k (by omega)⟩

theorem writeW_len4 (n : Nat) (calls k : Int) (l : List UInt8) (ws : List Wt) : (writeW n calls k l ws).length ≤ ws.length + 40 := by
  unfold writeW
  split
  · simp
  · omega

set_option maxRecDepth 100000 in
set_option maxHeartbeats 8000000 in
theorem jacts_walk (sc : Int) (fa : Option Addr) (fc : Nat) (fs : List A4) (w : World) (h : Acts4 w w.heap.size fa fs) :
    Calls Try.prog 3 #[.int .i64 sc, .slice fa fs.length fc] w fun e w' => e = .returned (.bool true) ∧ Below w.heap.size w w' := by
  have hlen := h.len
  unfold maxLen at hlen
  have H := Lib.hid h; clear h
  cases hsm : smallA4 fs with
  | false =>
    go_enter Try.func3, Try.ntmps3
    go_wp2_with fail
    refine (awake4_any w).mono ?_
    rintro e w1 ⟨rfl, b1⟩
    have hs1 := small4_any fa fc fs w.heap.size w1 (H.out.below b1)
    rw [hsm] at hs1
    have B1 := Lib.hid b1; have HS1 := Lib.hid hs1; clear b1 hs1
    go_wp2_with fail
    refine HS1.out.mono ?_
    rintro e w2 ⟨rfl, rfl⟩
    go_wp2_with fail
    refine (awake4_any w1).mono ?_
    rintro e w2 ⟨rfl, b2⟩
    have B2 := Lib.hid (B1.out.trans (b2.mono B1.out.size)); clear b2
    go_wp2
    go_ret
    exact ⟨rfl, B2.out⟩
  | true =>
    have h20 : fs.length ≤ 20 := by
      simp [smallA4] at hsm
      exact hsm.1
    have hsmall : ∀ f ∈ fs, f.r.bl.length ≤ 600 ∧ f.r.kl.length ≤ 60 := by
      simp [smallA4, A4.small] at hsm
      exact hsm.2
    have HSM := Lib.hid hsmall; clear hsmall
    go_enter Try.func3, Try.ntmps3
    go_wp2_with fail
    refine (awake4_any w).mono ?_
    rintro e w1 ⟨rfl, b1⟩
    have hs1 := small4_any fa fc fs w.heap.size w1 (H.out.below b1)
    rw [hsm] at hs1
    have B1 := Lib.hid b1; have HS1 := Lib.hid hs1; clear b1 hs1 hsm
    go_wp2_with fail
    refine HS1.out.mono ?_
    rintro e w2 ⟨rfl, rfl⟩
    go_wp2_with fail
    refine (rest_any sc 16 w1 (by omega) (by omega)).mono ?_
    rintro e w2 ⟨⟨r, hr6, rfl⟩, rfl⟩
    have e1 : (1 + (r : Int)) = ((r + 1 : Nat) : Int) := by omega
    have e2 : wrap64 (1 + (r : Int)) = ((r + 1 : Nat) : Int) := by unfold wrap64; omega
    obtain ⟨n, hn⟩ : ∃ n, r + 1 = n := ⟨_, rfl⟩
    rw [hn] at e1 e2
    have hn1 : 1 ≤ n := by omega
    have hn2 : n ≤ 16 := by omega
    clear hr6 hn
    have HNEW := Lib.hid (dnew_any w1 n hn1 (by omega))
    go_wp2_with fail
    refine HNEW.out.mono ?_
    rintro e w2 ⟨b, D, rfl, hd2, hD2, b2⟩
    have HRN := Lib.hid (rknew_any w2 n hn1 (by omega))
    have HD2 := Lib.hid hd2; have HDD := Lib.hid hD2; have B2 := Lib.hid (B1.out.trans (b2.mono B1.out.size)); have HS2 := Lib.hid b2.size; clear hd2 hD2 b2
    go_wp2_with fail
    refine HRN.out.mono ?_
    rintro e w3 ⟨rb, M, rfl, hr3, hM3, b3⟩
    have inv : AI4 w w3 b rb n 0 D M ⟨List.replicate (64 * n) 0, [], -1⟩ :=
      ⟨HD2.out.kept (kf4 b3 (Nat.le_refl _)) (fun _ _ h => h), hr3, fun k h1 h2 => by have := HD2.out.lt k h1; have := hM3 k h2; omega, by simp, fun k hk => by have := HDD.out k hk; have := B1.out.size; omega, fun k hk => by have := hM3 k hk; have := B2.out.size; omega, B2.out.trans (b3.mono B2.out.size)⟩
    have INV := Lib.hid inv; clear inv hr3 hM3 b3
    generalize List.replicate (64 * n) (0 : UInt8) = base0 at INV
    have hj := jroom_any n w3
    have hr := rroom_any n w3
    generalize roomI n = ro at hj hr
    have HJ := Lib.hid hj; have HR := Lib.hid hr
    have HPN := Lib.hid (jput_nil w3 (.slice none 0 0)); have HRC := Lib.hid (jrec_nil w3)
    clear HDD HD2 HS2 e1 e2 hj hr
    go_wp2_with fail
    refine HJ.out.mono ?_
    rintro e w4 ⟨rfl, rfl⟩
    go_wp2_with fail
    refine HR.out.mono ?_
    rintro e w4 ⟨rfl, rfl⟩
    go_wp2_with fail
    refine HPN.out.mono ?_
    rintro e w4 ⟨rfl, rfl⟩
    go_wp2_with fail
    refine HRC.out.mono ?_
    rintro e w4 ⟨rfl, rfl⟩
    clear HJ HR HPN HRC
    go_wp2_with fail
    go_loopg [9] fs.length (fun q v9 wr => ∃ (j : Nat) (D M : Nat → Prop) (s : DS), q = fs.length - j ∧ j ≤ fs.length ∧ v9 = .int .i64 (j : Int) ∧ Hid (AI4 w wr b rb n j D M s))
    case atStart => exact ⟨0, D, M, ⟨base0, [], -1⟩, rfl, Nat.zero_le _, rfl, INV⟩
    case round =>
      obtain ⟨j, D1, M1, s, hq, hj, rfl, inv⟩ := hrel
      have HQ := Lib.hid hq; clear hq INV HNEW HRN
      by_cases hlt : j < fs.length
      · have HLT := Lib.hid hlt
        have hA := H.out.below inv.out.bel
        obtain ⟨ab, aof, rfl, hab, hc⟩ := hA.at_ (by intro e; rw [e] at hlt; simp at hlt)
        obtain ⟨c0, c1, c2, c3, c4, c5⟩ := hc j hlt
        have hbs := hA.bs fs[j] (List.getElem_mem hlt)
        have hsf := HSM.out fs[j] (List.getElem_mem hlt)
        have hrg := H.out.rng fs[j] (List.getElem_mem hlt)
        generalize fs[j] = g at *
        obtain ⟨gk, f⟩ := g
        simp only at c0 c1 c2 c3 c4 c5 hbs hsf hrg
        have hka : Kept (fun _ => False) wr (wr.alloc (.cells #[.int .i64 f.kind, .int .i64 f.n, .int .i64 f.m, .slice f.ba f.bl.length f.bc, .slice f.ka f.kl.length f.kc] 38)) := (Kept.refl _ wr).alloc _
        have hbox : ∀ i v, (f.cells)[i]? = some v → (wr.alloc (.cells #[.int .i64 f.kind, .int .i64 f.n, .int .i64 f.m, .slice f.ba f.bl.length f.bc, .slice f.ka f.kl.length f.kc] 38)).cell? ⟨wr.heap.size, i, none⟩ = some v := fun i v hv => (World.cell?_alloc_new wr _ _ i).trans hv
        have c0' : (wr.alloc (.cells #[.int .i64 f.kind, .int .i64 f.n, .int .i64 f.m, .slice f.ba f.bl.length f.bc, .slice f.ka f.kl.length f.kc] 38)).cell? ⟨ab, aof + j * 6, none⟩ = some (.int .i64 gk) := (hka.cell (p := ⟨ab, _, none⟩) (World.block_lt_of_cell? _ _ c0) (fun h => h)).trans c0
        have HKA := Lib.hid hka; have HBX := Lib.hid hbox; have HBS := Lib.hid hbs; have HSF := Lib.hid hsf; have HRG := Lib.hid hrg
        clear hka hbox hc hA hbs hsf hrg
        go_upto_block 2 with fail
        have k13 := HKA.out
        have d0 := HBX.out 0 _ rfl
        have d1 := HBX.out 1 _ rfl
        have d2 := HBX.out 2 _ rfl
        have d3 := HBX.out 3 _ rfl
        have d4 := HBX.out 4 _ rfl
        have INV3 := Lib.hid (inv.out.fresh k13)
        have hs3 : wr.heap.size < (wr.alloc (.cells #[.int .i64 f.kind, .int .i64 f.n, .int .i64 f.m, .slice f.ba f.bl.length f.bc, .slice f.ka f.kl.length f.kc] 38)).heap.size := by simp
        have hwb : w.heap.size ≤ (wr.alloc (.cells #[.int .i64 f.kind, .int .i64 f.n, .int .i64 f.m, .slice f.ba f.bl.length f.bc, .slice f.ka f.kl.length f.kc] 38)).heap.size := INV3.out.bel.size
        have hl3 := HBS.out.1.kept k13 (fun _ _ _ h => h)
        have hk3 := HBS.out.2.kept k13 (fun _ _ _ h => h)
        have hDlt : ¬ D1 wr.heap.size := fun h => by have := inv.out.dk.lt _ h; omega
        have hMlt : ¬ M1 wr.heap.size := fun h => by have := inv.out.rk.lt _ h; omega
        have hwl := inv.out.wl
        have hold : ∀ a : Addr, a.block < w.heap.size → ¬ D1 a.block ∧ ¬ M1 a.block := fun a ha => ⟨fun h => by have := inv.out.dge _ h; omega, fun h => by have := inv.out.mge _ h; omega⟩
        have hsr : f.bl ≠ [] → ∀ a, f.ba = some a → ¬ D1 a.block ∧ ¬ M1 a.block := fun hne a ha => by
          obtain ⟨b', o', e', hlt', _⟩ := hl3 (by simpa using hne)
          rw [ha] at e'; cases e'
          exact hold _ hlt'
        have hkn : f.kl ≠ [] → ∀ a, f.ka = some a → ¬ D1 a.block ∧ ¬ M1 a.block := fun hne a ha => by
          obtain ⟨b', o', e', hlt', _⟩ := hk3 (by simpa using hne)
          rw [ha] at e'; cases e'
          exact hold _ hlt'
        unfold AC.cells at d0 d1 d2 d3 d4
        have hsm := HSF.out
        clear hold HKA HBX k13 c0 c1 c2 c3 c4 c5 c0'
        generalize (wr.alloc (.cells #[.int .i64 f.kind, .int .i64 f.n, .int .i64 f.m, .slice f.ba f.bl.length f.bc, .slice f.ka f.kl.length f.kc] 38)) = w3 at *
        have HL3 := Lib.hid hl3; have HSR := Lib.hid hsr; have HKL3 := Lib.hid hk3; have HKN := Lib.hid hkn; have HDL := Lib.hid hDlt; have HML := Lib.hid hMlt
        have HWS := Lib.hid hwb
        obtain ⟨hsb, hsk⟩ := hsm
        clear hl3 hk3 hsr hkn hDlt hMlt hwb
        go_cut [11, 12] (fun v11 v12 wx => ∃ (E : Int) (D M : Nat → Prop) (s : DS), v11 = .int .i64 E ∧ v12 = .int .i64 E ∧ Hid (AI4 w wx b rb n (j + 1) D M s))
        case first =>
          by_cases k0 : gk = 0
          · -- Put
            have kt : (gk == 0) = true := by simpa using k0
            clear k0
            have i3 := INV3.out.fresh (Kept.drew (Kept.refl (fun _ => False) w3))
            have hl3 := HL3.out.kept (Kept.drew (Kept.refl (fun _ => False) w3)) (fun _ _ _ h => h)
            have hsA := run_string_of (P := Try.prog) w3.drew 35 9 5 Try.underlying35 Try.underlying5 Try.underlying9 f.bc f.bl.length rfl hl3
            have HDW := Lib.hid (jput_any i3.dk f.ba f.bl.length f.bc f.bl rfl (hl3.mono HWS.out) (by omega))
            have I3 := Lib.hid i3; have HL3D := Lib.hid hl3
            have HLN := Lib.hid (put_len4 n hn2 f.bl s)
            have hrwf := fun (wx : World) (hk : Kept D1 w3.drew wx) => rput_any (I3.out.ref hk) f.bl (by omega) (by omega) (by omega)
            have HRWF := Lib.hid hrwf
            clear i3 hl3 hrwf
            generalize jput n f.bl s = rr at *
            go_wp2_with fail
            go_region_held (fun w' => w'.cell? ⟨wr.heap.size, 3, none⟩ = some (.slice f.ba f.bl.length f.bc)) (go_keep) (first
              | (go_at_call 14; refine HDW.out.mono ?_; rintro e w4 ⟨rfl, D4, hd4, hD4, k4⟩; have d34 : w4.cell? ⟨wr.heap.size, 3, none⟩ = some (.slice f.ba f.bl.length f.bc) := (k4.cell (p := ⟨wr.heap.size, 3, none⟩) hs3 HDL.out).trans d3; have hsB := run_string_of (P := Try.prog) w4 35 9 5 Try.underlying35 Try.underlying5 Try.underlying9 f.bc f.bl.length rfl (HL3D.out.kept k4 (fun hne a ha => (HSR.out (by simpa using hne) a ha).1)); have HRW := Lib.hid (HRWF.out _ k4); have HD4 := Lib.hid hd4; have HDD4 := Lib.hid hD4; have K4 := Lib.hid k4; clear hd4 hD4 k4)
              | (go_at_call 16; refine HRW.out.mono ?_; rintro e w5 ⟨rfl, M5, hr5, hM5, k5⟩; have d35 : w5.cell? ⟨wr.heap.size, 3, none⟩ = some (.slice f.ba f.bl.length f.bc) := (k5.cell (p := ⟨wr.heap.size, 3, none⟩) (World.block_lt_of_cell? _ _ d34) HML.out).trans d34; have INV5 := Lib.hid (I3.out.both K4.out HD4.out HDD4.out k5 hr5 hM5 HLN.out); clear hr5 hM5 k5))
            all_goals go_wp2_with fail
            all_goals go_meet
            all_goals exact ⟨_, _, _, _, rfl, rfl, INV5⟩
          · have k0b : (gk == 0) = false := by simpa using k0
            clear k0
            by_cases k1 : gk = 1
            · -- Recover
              have kt : (gk == 1) = true := by simpa using k1
              clear k1
              have hre := jrec_any INV3.out.dk (by omega)
              have hln := rec_len4 n hn2 s (by exact INV3.out.dk.ilen)
              have hrr := fun (wx : World) (hk : Kept D1 w3 wx) => rrec_any (INV3.out.ref hk) (by omega) (by omega)
              generalize jrec n s = rr at *
              have HRE := Lib.hid hre; have HLN := Lib.hid hln; have HRR := Lib.hid hrr; clear hre hln hrr
              go_wp2_with fail
              refine HRE.out.mono ?_
              rintro e w4 ⟨rfl, D4, hd4, hD4, k4⟩
              have HRS := Lib.hid (HRR.out _ k4); have HD4 := Lib.hid hd4; have HDD4 := Lib.hid hD4; have K4 := Lib.hid k4; clear hd4 hD4 k4
              go_wp2_with fail
              refine HRS.out.mono ?_
              rintro e w5 ⟨rfl, M5, hr5, hM5, k5⟩
              have INV5 := Lib.hid (INV3.out.both K4.out HD4.out HDD4.out k5 hr5 hM5 HLN.out); clear hr5 hM5 k5
              go_wp2_with fail
              go_meet
              case rel => exact ⟨_, _, _, _, rfl, rfl, INV5⟩
            · have k1b : (gk == 1) = false := by simpa using k1
              clear k1
              by_cases k2 : gk = 2
              · -- Power
                have kt : (gk == 2) = true := by simpa using k2
                clear k2
                have HDP := Lib.hid (dpower_any INV3.out.dk f.n HRG.out.1)
                go_wp2_with fail
                refine HDP.out.mono ?_
                rintro e w4 ⟨⟨v4, rfl⟩, hd4, k4⟩
                have HRP := Lib.hid (rkpower_any (INV3.out.ref k4) f.n HRG.out.1.2)
                have d14 : w4.cell? ⟨wr.heap.size, 1, none⟩ = some (.int .i64 f.n) := (k4.cell (p := ⟨wr.heap.size, 1, none⟩) hs3 HDL.out).trans d1
                have HD4 := Lib.hid hd4; have K4 := Lib.hid k4; clear hd4 k4
                go_wp2_with fail
                refine HRP.out.mono ?_
                rintro e w5 ⟨⟨v5, rfl⟩, hr5, k5⟩
                have INV5 := Lib.hid (INV3.out.both (s' := ⟨s.base, s.ws, f.n⟩) K4.out HD4.out (fun _ h => .inl h) k5 hr5 (fun _ h => .inl h) (by simp)); clear hr5 k5
                go_wp2_with fail
                go_meet
                case rel => exact ⟨_, _, _, _, rfl, rfl, INV5⟩
              · have k2b : (gk == 2) = false := by simpa using k2
                clear k2
                by_cases k3 : gk = 3
                · -- Crash
                  have kt : (gk == 3) = true := by simpa using k3
                  clear k3
                  have HDC := Lib.hid (dcrash_any INV3.out.dk f.ka f.kc f.kl (HKL3.out.mono HWS.out) (fun hne a ha => (HKN.out hne a ha).1) f.n f.m (by omega) (by omega))
                  go_wp2_with fail
                  refine HDC.out.mono ?_
                  rintro e w4 ⟨⟨v4, rfl⟩, hd4, k4⟩
                  have HRC := Lib.hid (rkcrash_any (INV3.out.ref k4) f.ka f.kc f.kl ((HKL3.out.kept k4 (fun hne a ha => (HKN.out (by simpa using hne) a ha).1)).mono (Nat.le_trans HWS.out k4.size)) (fun hne a ha => (HKN.out hne a ha).2) f.n f.m HRG.out.2 (by omega) (by omega))
                  have d14 : w4.cell? ⟨wr.heap.size, 1, none⟩ = some (.int .i64 f.n) := (k4.cell (p := ⟨wr.heap.size, 1, none⟩) hs3 HDL.out).trans d1
                  have d24 : w4.cell? ⟨wr.heap.size, 2, none⟩ = some (.int .i64 f.m) := (k4.cell (p := ⟨wr.heap.size, 2, none⟩) hs3 HDL.out).trans d2
                  have d44 : w4.cell? ⟨wr.heap.size, 4, none⟩ = some (.slice f.ka f.kl.length f.kc) := (k4.cell (p := ⟨wr.heap.size, 4, none⟩) hs3 HDL.out).trans d4
                  have HD4 := Lib.hid hd4; have K4 := Lib.hid k4; clear hd4 k4
                  go_wp2_with fail
                  refine HRC.out.mono ?_
                  rintro e w5 ⟨⟨v5, rfl⟩, hr5, k5⟩
                  have INV5 := Lib.hid (INV3.out.both (s' := ⟨crash f.kl f.n (octs f.m) 0 s.ws s.base, [], -1⟩) K4.out HD4.out (fun _ h => .inl h) k5 hr5 (fun _ h => .inl h) (by simp)); clear hr5 k5
                  go_wp2_with fail
                  go_meet
                  case rel => exact ⟨_, _, _, _, rfl, rfl, INV5⟩
                · have k3b : (gk == 3) = false := by simpa using k3
                  clear k3
                  by_cases k4' : gk = 4
                  · -- Format
                    have kt : (gk == 4) = true := by simpa using k4'
                    clear k4'
                    have i3 := INV3.out.fresh (Kept.drew (Kept.refl (fun _ => False) w3))
                    have hl3 := HL3.out.kept (Kept.drew (Kept.refl (fun _ => False) w3)) (fun _ _ _ h => h)
                    have hsA := run_string_of (P := Try.prog) w3.drew 35 9 5 Try.underlying35 Try.underlying5 Try.underlying9 f.bc f.bl.length rfl hl3
                    have HDW := Lib.hid (jformat_any i3.dk f.ba f.bl.length f.bc f.bl rfl (hl3.mono HWS.out) (by omega))
                    have I3 := Lib.hid i3; have HL3D := Lib.hid hl3
                    have HLN := Lib.hid (format_len4 n hn2 f.bl s)
                    have hrwf := fun (wx : World) (hk : Kept D1 w3.drew wx) => rformat_any (I3.out.ref hk) f.bl (by omega) (by omega) (by omega)
                    have HRWF := Lib.hid hrwf
                    clear i3 hl3 hrwf
                    generalize jformat n f.bl s = rr at *
                    go_wp2_with fail
                    go_region_held (fun w' => w'.cell? ⟨wr.heap.size, 3, none⟩ = some (.slice f.ba f.bl.length f.bc)) (go_keep) (first
                      | (go_at_call 22; refine HDW.out.mono ?_; rintro e w4 ⟨rfl, D4, hd4, hD4, k4⟩; have d34 : w4.cell? ⟨wr.heap.size, 3, none⟩ = some (.slice f.ba f.bl.length f.bc) := (k4.cell (p := ⟨wr.heap.size, 3, none⟩) hs3 HDL.out).trans d3; have hsB := run_string_of (P := Try.prog) w4 35 9 5 Try.underlying35 Try.underlying5 Try.underlying9 f.bc f.bl.length rfl (HL3D.out.kept k4 (fun hne a ha => (HSR.out (by simpa using hne) a ha).1)); have HRW := Lib.hid (HRWF.out _ k4); have HD4 := Lib.hid hd4; have HDD4 := Lib.hid hD4; have K4 := Lib.hid k4; clear hd4 hD4 k4)
                      | (go_at_call 23; refine HRW.out.mono ?_; rintro e w5 ⟨rfl, M5, hr5, hM5, k5⟩; have d35 : w5.cell? ⟨wr.heap.size, 3, none⟩ = some (.slice f.ba f.bl.length f.bc) := (k5.cell (p := ⟨wr.heap.size, 3, none⟩) (World.block_lt_of_cell? _ _ d34) HML.out).trans d34; have INV5 := Lib.hid (I3.out.both K4.out HD4.out HDD4.out k5 hr5 hM5 HLN.out); clear hr5 hM5 k5))
                    all_goals go_wp2_with fail
                    all_goals go_meet
                    all_goals exact ⟨_, _, _, _, rfl, rfl, INV5⟩
                  · -- Write
                    have k4b : (gk == 4) = false := by simpa using k4'
                    clear k4'
                    have hoc := actoct_any f w.heap.size w3 HL3.out HWS.out
                    unfold AC.cells at hoc
                    have HOC := Lib.hid hoc; clear hoc
                    go_wp2_with fail
                    refine HOC.out.mono ?_
                    rintro e w4 ⟨ao4, cap4, rfl, hl4, hn4, b4⟩
                    have kk := kf4 b4 (Nat.le_refl _)
                    have e1 : w4.cell? ⟨wr.heap.size, 1, none⟩ = some (.int .i64 f.n) := (kk.cell (p := ⟨wr.heap.size, 1, none⟩) hs3 (fun h => h)).trans d1
                    have i3 := (INV3.out.fresh kk).fresh (Kept.drew (Kept.refl (fun _ => False) w4))
                    have hl3 := hl4.kept (Kept.drew (Kept.refl (fun _ => False) w4)) (fun _ _ _ h => h)
                    have hs4 : wr.heap.size < w4.heap.size := World.block_lt_of_cell? _ _ e1
                    have hsr4 : f.oct ≠ [] → ∀ a, ao4 = some a → ¬ D1 a.block ∧ ¬ M1 a.block := fun hne a ha => by
                      rcases hn4 hne a ha with h1 | h1
                      · exact ⟨fun h => by have := INV3.out.dge _ h; omega, fun h => by have := INV3.out.mge _ h; omega⟩
                      · exact ⟨fun h => by have := INV3.out.dk.lt _ h; omega, fun h => by have := INV3.out.rk.lt _ h; omega⟩
                    have hsA := run_string_of (P := Try.prog) w4.drew 35 9 5 Try.underlying35 Try.underlying5 Try.underlying9 cap4 f.oct.length rfl hl3
                    have HDW := Lib.hid (dwrite_any i3.dk f.n ao4 cap4 f.oct hl3 (fun hne a ha => (hsr4 hne a ha).1) (by omega))
                    have I3 := Lib.hid i3; have HL3D := Lib.hid hl3; have HSR4 := Lib.hid hsr4
                    clear i3 hl3 hl4 hn4 b4 kk hsr4 HOC
                    go_wp2_with fail
                    go_region_held (fun w' => w'.cell? ⟨wr.heap.size, 1, none⟩ = some (.int .i64 f.n)) (go_keep) (first
                      | (go_at_call 25; refine HDW.out.mono ?_; rintro e w5 ⟨rfl, D4, hd4, hD4, k4⟩; have d14 : w5.cell? ⟨wr.heap.size, 1, none⟩ = some (.int .i64 f.n) := (k4.cell (p := ⟨wr.heap.size, 1, none⟩) hs4 HDL.out).trans e1; have hsB := run_string_of (P := Try.prog) w5 35 9 5 Try.underlying35 Try.underlying5 Try.underlying9 cap4 f.oct.length rfl (HL3D.out.kept k4 (fun hne a ha => (HSR4.out (by simpa using hne) a ha).1)); have HRW := Lib.hid (rkwrite_any (I3.out.ref k4) f.n f.oct (by omega)); have HD4 := Lib.hid hd4; have HDD4 := Lib.hid hD4; have K4 := Lib.hid k4; clear hd4 hD4 k4)
                      | (go_at_call 26; refine HRW.out.mono ?_; rintro e w6 ⟨rfl, M5, hr5, hM5, k5⟩; have d15 : w6.cell? ⟨wr.heap.size, 1, none⟩ = some (.int .i64 f.n) := (k5.cell (p := ⟨wr.heap.size, 1, none⟩) (World.block_lt_of_cell? _ _ d14) HML.out).trans d14; have INV5 := Lib.hid (I3.out.both (s' := ⟨s.base, writeW n s.calls f.n f.oct s.ws, writeC n s.calls f.n f.oct⟩) K4.out HD4.out HDD4.out k5 hr5 hM5 (writeW_len4 n s.calls f.n f.oct s.ws)); clear hr5 hM5 k5))
                    all_goals go_wp2_with fail
                    all_goals go_meet
                    all_goals exact ⟨_, _, _, _, rfl, rfl, INV5⟩
        case rest =>
          obtain ⟨E, D4, M4, s4, rfl, rfl, inv4⟩ := hcut
          have hwl4 := inv4.out.wl
          have hg := jget_any inv4.out.dk
          have hil := inv4.out.dk.ilen
          have hrg := fun (wx : World) (hk : Kept (fun _ => False) wc wx) => rget_any (inv4.out.fresh hk).rk (by omega) (by omega)
          have him := fun (wx : World) (hk : Kept (fun _ => False) wc wx) => dimage_any (inv4.out.fresh hk).dk
          have hri := fun (wx : World) (hk : Kept (fun _ => False) wc wx) => rkimage_any (inv4.out.fresh hk).rk (by omega)
          generalize jget n (image s4.base s4.ws) = G at *
          generalize image s4.base s4.ws = IL at *
          obtain ⟨gl, ge⟩ := G
          simp only at hg hrg
          generalize 64 * n = N at him hil
          have HG := Lib.hid hg; have HIM := Lib.hid him; have HIL := Lib.hid hil; have HRG4 := Lib.hid hrg; have HRI := Lib.hid hri
          clear hg hrg him hri hil d0 d1 d2 d3 d4
          go_wp2_with fail
          refine HG.out.mono ?_
          rintro e w5 ⟨ag, cg, rfl, hlg, _, _, _, b5⟩
          have k5 := kf4 b5 (Nat.le_refl _)
          have HRG5 := Lib.hid (HRG4.out w5 k5); have K5 := Lib.hid k5; have HLG := Lib.hid hlg
          clear HG HRG4 k5 hlg b5
          go_wp2_with fail
          refine HRG5.out.mono ?_
          rintro e w6 ⟨rfl, b6⟩
          have k6 := K5.out.trans (kf4 b6 (Nat.le_refl _)) (fun _ _ h => h)
          have k6d := Kept.drew k6
          have hlg6 := (HLG.out.kept (kf4 b6 (Nat.le_refl _)) (fun _ _ _ h => h))
          have HIM6 := Lib.hid (HIM.out w6.drew k6d); have K6 := Lib.hid k6d; have HLG6 := Lib.hid (hlg6.kept (Kept.drew (Kept.refl (fun _ => False) w6)) (fun _ _ _ h => h))
          clear k6 k6d hlg6 HRG5 b6 HLG
          have hEE : (E != E) = false := by simp
          have hGG : (ge != ge) = false := by simp
          go_wp2_with fail
          go_region_held (fun _ => True) (trivial) (first
            | (go_at_call 29; refine HIM6.out.mono ?_; rintro e w7 ⟨ao7, cap7, rfl, ho7, b7⟩; have k7 := kf4 b7 (Nat.le_refl _); have hs7 := run_string_of (P := Try.prog) w7 35 9 5 Try.underlying35 Try.underlying5 Try.underlying9 cap7 N HIL.out.symm (owns_lies ho7); have k67 := K6.out.trans k7 (fun _ _ h => h); have HRI7 := Lib.hid (HRI.out w7 k67); have HLI := Lib.hid (owns_lies ho7); have K7 := Lib.hid k67; have HLG7 := Lib.hid (HLG6.out.kept k7 (fun _ _ _ h => h)); clear ho7 b7 k7 k67)
            | (go_at_call 30; refine HRI7.out.mono ?_; rintro e w8 ⟨rfl, k8⟩; have hs8 := run_string_of (P := Try.prog) w8 35 9 5 Try.underlying35 Try.underlying5 Try.underlying9 cap7 N HIL.out.symm (HLI.out.kept k8 (fun _ _ _ h => h)); have hsg := run_string_of (P := Try.prog) w8 35 9 5 Try.underlying35 Try.underlying5 Try.underlying9 cg gl.length rfl (HLG7.out.kept k8 (fun _ _ _ h => h)); have I8 := Lib.hid (inv4.out.fresh (K7.out.trans k8 (fun _ _ h => h))); clear k8))
          all_goals go_wp2
          all_goals go_roundg (fs.length - (j + 1))
          all_goals first
            | (have := HQ.out; have := HLT.out; omega)
            | exact ⟨j + 1, D4, M4, s4, rfl, HLT.out, by go_num, I8⟩
      · obtain rfl : j = fs.length := by omega
        have HB := Lib.hid inv.out.bel
        go_wp2
        go_ret
        exact ⟨rfl, HB.out⟩

end Go.Proofs.Ytobikgcoekiboaa
