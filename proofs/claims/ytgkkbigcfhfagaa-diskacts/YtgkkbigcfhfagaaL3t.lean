/-
  DiskActs: the walk.
-/
import Derived.Test.YtgkkbigcfhfagaaL3a
import Derived.Test.YtgkkbigcfhfagaaR3d
import Derived.Test.YtgkkbigcfhfagaaRs
import Derived.Deep.RegionHeld
import Derived.Deep.CutBlock
import Derived.Deep.DeepCutAuto
namespace Go.Proofs.Ytgkkbigcfhfagaa
open Go.RowKit Go.Mk

theorem kept_of_below3 {B : Nat} {x y : World} (h : Below B x y) (hB : x.heap.size ≤ B) : Kept (fun _ => False) x y := ⟨h.os, h.tape, h.output, h.size, fun k hk _ => h.block k (by omega)⟩

theorem writeW_len3 (n : Nat) (calls k : Int) (l : List UInt8) (ws : List Wt) : (writeW n calls k l ws).length ≤ ws.length + 1 := by
  unfold writeW
  split
  · simp
  · omega

/-- What holds between two acts: the disk and the reference's are the same. -/
structure ActI (w wr : World) (b rb n j : Nat) (D M : Nat → Prop) (base : List UInt8) (ws : List Wt) (calls : Int) : Prop where
  dk : Dk wr D b n base ws calls
  rk : Rk wr M rb n base ws calls
  dm : ∀ k, D k → ¬ M k
  wl : ws.length ≤ j
  dge : ∀ k, D k → w.heap.size ≤ k
  mge : ∀ k, M k → w.heap.size ≤ k
  bel : Below w.heap.size w wr

section
variable {w wr wr' : World} {b rb n j : Nat} {D D' M M' : Nat → Prop} {base base' : List UInt8} {ws ws' : List Wt} {calls calls' : Int}

theorem ActI.fresh (h : ActI w wr b rb n j D M base ws calls) (hk : Kept (fun _ => False) wr wr') : ActI w wr' b rb n j D M base ws calls :=
  ⟨h.dk.kept hk (fun _ _ h => h), h.rk.kept hk (fun _ _ h => h), h.dm, h.wl, h.dge, h.mge, h.bel.trans (hk.below (B := w.heap.size) h.bel.size (fun _ h => h.elim))⟩

/-- Both have done the same. -/
theorem ActI.both (h : ActI w wr b rb n j D M base ws calls) {wx : World} (hk : Kept D wr wx) (hd : Dk wx D' b n base' ws' calls') (hD : ∀ k, D' k → D k ∨ wr.heap.size ≤ k)
    (hk2 : Kept M wx wr') (hr : Rk wr' M' rb n base' ws' calls') (hM : ∀ k, M' k → M k ∨ wx.heap.size ≤ k) (hl : ws'.length ≤ j + 1) : ActI w wr' b rb n (j + 1) D' M' base' ws' calls' := by
  have hs := h.bel.size
  have hs2 := hk.size
  have hDM : ∀ k, D' k → ¬ M k := fun k h1 h2 => by
    rcases hD k h1 with h3 | h3
    · exact h.dm k h3 h2
    · have := h.rk.lt k h2; omega
  refine ⟨hd.kept hk2 hDM, hr, fun k h1 h2 => ?_, hl, fun k hk' => ?_, fun k hk' => ?_, (h.bel.trans (hk.below (B := w.heap.size) hs (fun k hk' => h.dge k hk'))).trans (hk2.below (B := w.heap.size) (by omega) (fun k hk' => h.mge k hk'))⟩
  · rcases hM k h2 with h3 | h3
    · exact hDM k h1 h3
    · have := hd.lt k h1; omega
  · rcases hD k hk' with h1 | h1
    · exact h.dge k h1
    · omega
  · rcases hM k hk' with h1 | h1
    · exact h.mge k h1
    · omega

theorem ActI.more (h : ActI w wr b rb n j D M base ws calls) : ActI w wr b rb n (j + 1) D M base ws calls := ⟨h.dk, h.rk, h.dm, by have := h.wl; omega, h.dge, h.mge, h.bel⟩

/-- The reference where the disk has been called. -/
theorem ActI.ref (h : ActI w wr b rb n j D M base ws calls) {wx : World} (hk : Kept D wr wx) : Rk wx M rb n base ws calls := h.rk.kept hk (fun k h1 h2 => h.dm k h2 h1)
end

set_option maxRecDepth 100000 in
set_option maxHeartbeats 4000000 in
theorem acts_walk (sc : Int) (fa : Option Addr) (fc : Nat) (fs : List AC) (w : World) (h : Acts w w.heap.size fa fs) :
    Calls Try.prog 3 #[.int .i64 sc, .slice fa fs.length fc] w fun e w' => e = .returned (.bool true) ∧ Below w.heap.size w w' := by
  have hlen := h.len
  unfold maxLen at hlen
  have H := Lib.hid h; clear h
  cases hsm : smallA fs with
  | false =>
    go_enter Try.func3, Try.ntmps3
    go_wp2_with fail
    refine (awake3_any w).mono ?_
    rintro e w1 ⟨rfl, b1⟩
    have hs1 := small3_any fa fc fs w.heap.size w1 (H.out.below b1)
    rw [hsm] at hs1
    have B1 := Lib.hid b1; have HS1 := Lib.hid hs1; clear b1 hs1
    go_wp2_with fail
    refine HS1.out.mono ?_
    rintro e w2 ⟨rfl, rfl⟩
    go_wp2_with fail
    refine (awake3_any w1).mono ?_
    rintro e w2 ⟨rfl, b2⟩
    have B2 := Lib.hid (B1.out.trans (b2.mono B1.out.size)); clear b2
    go_wp2
    go_ret
    exact ⟨rfl, B2.out⟩
  | true =>
    have h40 : fs.length ≤ 40 := by
      simp [smallA] at hsm
      exact hsm.1
    have hsmall : ∀ f ∈ fs, f.bl.length ≤ 100 ∧ f.kl.length ≤ 40 := by
      simp [smallA, AC.small] at hsm
      exact hsm.2
    have HSM := Lib.hid hsmall; clear hsmall
    go_enter Try.func3, Try.ntmps3
    go_wp2_with fail
    refine (awake3_any w).mono ?_
    rintro e w1 ⟨rfl, b1⟩
    have hs1 := small3_any fa fc fs w.heap.size w1 (H.out.below b1)
    rw [hsm] at hs1
    have B1 := Lib.hid b1; have HS1 := Lib.hid hs1; clear b1 hs1 hsm
    go_wp2_with fail
    refine HS1.out.mono ?_
    rintro e w2 ⟨rfl, rfl⟩
    go_wp2_with fail
    refine (rest_any sc 6 w1 (by omega) (by omega)).mono ?_
    rintro e w2 ⟨⟨r, hr6, rfl⟩, rfl⟩
    have e1 : (1 + (r : Int)) = ((r + 1 : Nat) : Int) := by omega
    have e2 : wrap64 (1 + (r : Int)) = ((r + 1 : Nat) : Int) := by unfold wrap64; omega
    obtain ⟨n, hn⟩ : ∃ n, r + 1 = n := ⟨_, rfl⟩
    rw [hn] at e1 e2
    have hn1 : 1 ≤ n := by omega
    have hn2 : n ≤ 6 := by omega
    clear hr6 hn
    have HNEW := Lib.hid (dnew_any w1 n hn1 (by omega))
    go_wp2_with fail
    refine HNEW.out.mono ?_
    rintro e w2 ⟨b, D, rfl, hd2, hD2, b2⟩
    have HRN := Lib.hid (rknew_any w2 n hn1 (by omega))
    have HD2 := Lib.hid hd2; have HDD := Lib.hid hD2; have B2 := Lib.hid (B1.out.trans (b2.mono B1.out.size)); have HS2 := Lib.hid b2.size; clear hd2 hD2 b2
    go_wp2_with fail
    refine HRN.out.mono ?_
    rintro e w3 ⟨rb, M, rfl, hr3, hM3, b3⟩
    have inv : ActI w w3 b rb n 0 D M (List.replicate (64 * n) 0) [] (-1) :=
      ⟨HD2.out.kept (kept_of_below3 b3 (Nat.le_refl _)) (fun _ _ h => h), hr3, fun k h1 h2 => by have := HD2.out.lt k h1; have := hM3 k h2; omega, by simp, fun k hk => by have := HDD.out k hk; have := B1.out.size; omega, fun k hk => by have := hM3 k hk; have := B2.out.size; omega, B2.out.trans (b3.mono B2.out.size)⟩
    have INV := Lib.hid inv; clear inv hr3 hM3 b3
    generalize List.replicate (64 * n) (0 : UInt8) = base0 at INV
    clear HDD HD2 HS2 e1 e2
    go_wp2_with fail
    go_loopg [9] fs.length (fun q v9 wr => ∃ (j : Nat) (D M : Nat → Prop) (base : List UInt8) (ws : List Wt) (calls : Int), q = fs.length - j ∧ j ≤ fs.length ∧ v9 = .int .i64 (j : Int) ∧ Hid (ActI w wr b rb n j D M base ws calls))
    case atStart => exact ⟨0, D, M, base0, [], -1, rfl, Nat.zero_le _, rfl, INV⟩
    case round =>
      obtain ⟨j, D1, M1, base, ws, calls, hq, hj, rfl, inv⟩ := hrel
      have HQ := Lib.hid hq; clear hq INV HNEW HRN
      by_cases hlt : j < fs.length
      · have HLT := Lib.hid hlt
        have hA := H.out.below inv.out.bel
        obtain ⟨ab, aof, rfl, hab, hc⟩ := hA.at_ (by intro e; rw [e] at hlt; simp at hlt)
        obtain ⟨c0, c1, c2, c3, c4⟩ := hc j hlt
        have hbs := hA.bs fs[j] (List.getElem_mem hlt)
        have hsf := HSM.out fs[j] (List.getElem_mem hlt)
        have hrg := H.out.rng fs[j] (List.getElem_mem hlt)
        generalize fs[j] = f at *
        have hka : Kept (fun _ => False) wr (wr.alloc (.cells #[.int .i64 f.kind, .int .i64 f.n, .int .i64 f.m, .slice f.ba f.bl.length f.bc, .slice f.ka f.kl.length f.kc] 35)) := (Kept.refl _ wr).alloc _
        have hoc := octets_any f w.heap.size (wr.alloc (.cells #[.int .i64 f.kind, .int .i64 f.n, .int .i64 f.m, .slice f.ba f.bl.length f.bc, .slice f.ka f.kl.length f.kc] 35)) (hbs.1.kept hka (fun _ _ _ h => h)) (by have := inv.out.bel.size; simp; omega) hsf.1
        unfold AC.cells at hoc
        have HBS := Lib.hid hbs; have HSF := Lib.hid hsf; have HRG := Lib.hid hrg; have HOC := Lib.hid hoc
        clear hc hA hbs hsf hrg hoc
        go_wp2_with fail
        refine HOC.out.mono ?_
        rintro e w3 ⟨ao3, cap3, rfl, hl3, hn3, b3⟩
        have k13 : Kept (fun _ => False) wr w3 := hka.trans (kept_of_below3 b3 (Nat.le_refl _)) (fun _ _ h => h)
        have hbox : ∀ i v, (f.cells)[i]? = some v → w3.cell? ⟨wr.heap.size, i, none⟩ = some v := fun i v hv => by
          rw [b3.cell (p := ⟨wr.heap.size, i, none⟩) (by simp)]
          exact (World.cell?_alloc_new wr _ _ i).trans hv
        have d0 : w3.cell? ⟨wr.heap.size, 0, none⟩ = some (.int .i64 f.kind) := hbox 0 _ rfl
        have d1 : w3.cell? ⟨wr.heap.size, 1, none⟩ = some (.int .i64 f.n) := hbox 1 _ rfl
        have d2 : w3.cell? ⟨wr.heap.size, 2, none⟩ = some (.int .i64 f.m) := hbox 2 _ rfl
        have d4 : w3.cell? ⟨wr.heap.size, 4, none⟩ = some (.slice f.ka f.kl.length f.kc) := hbox 4 _ rfl
        have hs3 : wr.heap.size < w3.heap.size := World.block_lt_of_cell? _ _ d0
        have hDlt : ¬ D1 wr.heap.size := fun h => by have := inv.out.dk.lt _ h; omega
        have hMlt : ¬ M1 wr.heap.size := fun h => by have := inv.out.rk.lt _ h; omega
        have hwl := inv.out.wl
        -- what was written lies neither in the disk nor in the reference's
        have hsr : f.oct ≠ [] → ∀ a, ao3 = some a → ¬ D1 a.block ∧ ¬ M1 a.block := fun hne a ha => by
          rcases hn3 hne a ha with h1 | h1
          · exact ⟨fun h => by have := inv.out.dge _ h; omega, fun h => by have := inv.out.mge _ h; omega⟩
          · simp at h1
            exact ⟨fun h => by have := inv.out.dk.lt _ h; omega, fun h => by have := inv.out.rk.lt _ h; omega⟩
        have hkl3 : Lies w3 w.heap.size f.ka (f.kl.map .bool) := HBS.out.2.kept k13 (fun _ _ _ h => h)
        have hkn : f.kl ≠ [] → ∀ a, f.ka = some a → ¬ D1 a.block ∧ ¬ M1 a.block := fun hne a ha => by
          obtain ⟨b', o', e', hlt', _⟩ := hkl3 (by simpa using hne)
          rw [ha] at e'
          cases e'
          exact ⟨fun h => by have := inv.out.dge _ h; simp at this; omega, fun h => by have := inv.out.mge _ h; simp at this; omega⟩
        have INV3 := Lib.hid (inv.out.fresh k13)
        have HL3 := Lib.hid hl3; have HSR := Lib.hid hsr; have HKL3 := Lib.hid hkl3; have HKN := Lib.hid hkn; have HDL := Lib.hid hDlt; have HML := Lib.hid hMlt
        have HWS := Lib.hid inv.out.bel.size
        clear hl3 hn3 b3 hsr hkl3 hkn hDlt hMlt hbox k13 hka c0 c1 c2 c3 c4
        go_upto_block 2 with fail
        go_cut [] (fun wx => ∃ (D M : Nat → Prop) (base : List UInt8) (ws : List Wt) (calls : Int), Hid (ActI w wx b rb n (j + 1) D M base ws calls))
        case first =>
          by_cases k0 : f.kind = 0
          · -- Write
            have kt : (f.kind == 0) = true := by simpa using k0
            clear k0
            have i3 := INV3.out.fresh (Kept.drew (Kept.refl (fun _ => False) w3))
            have hl3 := HL3.out.kept (Kept.drew (Kept.refl (fun _ => False) w3)) (fun _ _ _ h => h)
            have hsA := run_string_of (P := Try.prog) w3.drew 32 9 5 Try.underlying32 Try.underlying5 Try.underlying9 cap3 f.oct.length rfl hl3
            have HDW := Lib.hid (dwrite_any i3.dk f.n ao3 cap3 f.oct hl3 (fun hne a ha => (HSR.out hne a ha).1) (by omega))
            have I3 := Lib.hid i3; have HL3D := Lib.hid hl3
            clear i3 hl3
            go_wp2_with fail
            go_region_held (fun w' => w'.cell? ⟨wr.heap.size, 1, none⟩ = some (.int .i64 f.n)) (go_keep) (first
              | (go_at_call 12; refine HDW.out.mono ?_; rintro e w4 ⟨rfl, D4, hd4, hD4, k4⟩; have d14 : w4.cell? ⟨wr.heap.size, 1, none⟩ = some (.int .i64 f.n) := (k4.cell (p := ⟨wr.heap.size, 1, none⟩) hs3 HDL.out).trans d1; have hsB := run_string_of (P := Try.prog) w4 32 9 5 Try.underlying32 Try.underlying5 Try.underlying9 cap3 f.oct.length rfl (HL3D.out.kept k4 (fun hne a ha => (HSR.out (by simpa using hne) a ha).1)); have HRW := Lib.hid (rkwrite_any (I3.out.ref k4) f.n f.oct (by omega)); have HD4 := Lib.hid hd4; have HDD4 := Lib.hid hD4; have K4 := Lib.hid k4; clear hd4 hD4 k4)
              | (go_at_call 13; refine HRW.out.mono ?_; rintro e w5 ⟨rfl, M5, hr5, hM5, k5⟩; have d15 : w5.cell? ⟨wr.heap.size, 1, none⟩ = some (.int .i64 f.n) := (k5.cell (p := ⟨wr.heap.size, 1, none⟩) (World.block_lt_of_cell? _ _ d14) HML.out).trans d14; have INV5 := Lib.hid (I3.out.both K4.out HD4.out HDD4.out k5 hr5 hM5 (Nat.le_trans (writeW_len3 n calls f.n f.oct ws) (Nat.succ_le_succ I3.out.wl))); clear hr5 hM5 k5))
            all_goals go_wp2_with fail
            all_goals go_meet
            all_goals exact ⟨_, _, _, _, _, INV5⟩
          · have k0b : (f.kind == 0) = false := by simpa using k0
            clear k0
            by_cases k1 : f.kind = 1
            · -- Sync
              have kt : (f.kind == 1) = true := by simpa using k1
              clear k1
              have hds := dsync_any INV3.out.dk
              obtain ⟨E, hE⟩ : ∃ E, (if calls = 0 then (20 : Int) else 0) = E := ⟨_, rfl⟩
              rw [hE] at hds
              have hE2 := Lib.hid hE; clear hE
              have HDS := Lib.hid hds; clear hds
              go_wp2_with fail
              refine HDS.out.mono ?_
              rintro e w4 ⟨rfl, hd4, k4⟩
              have hrs := rksync_any (INV3.out.ref k4) (by omega)
              rw [hE2.out] at hrs
              have HRS := Lib.hid hrs; have HD4 := Lib.hid hd4; have K4 := Lib.hid k4; clear hrs hd4 k4
              go_wp2_with fail
              refine HRS.out.mono ?_
              rintro e w5 ⟨rfl, hr5, k5⟩
              have INV5 := Lib.hid (INV3.out.both K4.out HD4.out (fun _ h => .inl h) k5 hr5 (fun _ h => .inl h) (by split; omega; simp)); clear hr5 k5
              go_wp2_with fail
              go_meet
              case rel => exact ⟨_, _, _, _, _, INV5⟩
            · have k1b : (f.kind == 1) = false := by simpa using k1
              clear k1
              by_cases k2 : f.kind = 2
              · -- Read
                have kt : (f.kind == 2) = true := by simpa using k2
                clear k2
                have hdr := dread_any INV3.out.dk f.n
                have HDR := Lib.hid hdr; clear hdr
                go_wp2_with fail
                refine HDR.out.mono ?_
                rintro e w4 ⟨ao4, cap4, rfl, ho4, b4⟩
                have k4 := kept_of_below3 b4 (Nat.le_refl _)
                have i4 := INV3.out.fresh k4
                have hrr := rkread_any i4.rk (by omega) f.n
                have d14 : w4.cell? ⟨wr.heap.size, 1, none⟩ = some (.int .i64 f.n) := (k4.cell (p := ⟨wr.heap.size, 1, none⟩) hs3 (fun h => h)).trans d1
                have HRR := Lib.hid hrr; have I4 := Lib.hid i4; have HLI := Lib.hid (owns_lies ho4); clear hrr i4 ho4 b4 k4
                obtain ⟨rl, hrl⟩ : ∃ rl, (readB (image base ws) n f.n).1 = rl := ⟨_, rfl⟩
                obtain ⟨re, hre⟩ : ∃ re, (readB (image base ws) n f.n).2 = re := ⟨_, rfl⟩
                rw [hrl] at HLI
                rw [hrl, hre] at HRR ⊢
                clear hrl hre HDR
                go_wp2_with fail
                refine HRR.out.mono ?_
                rintro e w5 ⟨rfl, k5⟩
                have hs5 := run_string_of (P := Try.prog) w5 32 9 5 Try.underlying32 Try.underlying5 Try.underlying9 cap4 rl.length rfl (HLI.out.kept k5 (fun _ _ _ h => h))
                have INV5 := Lib.hid (I4.out.fresh k5).more; clear k5
                go_wp2_with fail
                go_meet
                case rel => exact ⟨_, _, _, _, _, INV5⟩
              · have k2b : (f.kind == 2) = false := by simpa using k2
                clear k2
                by_cases k3 : f.kind = 3
                · -- Power
                  have kt : (f.kind == 3) = true := by simpa using k3
                  clear k3
                  have HDP := Lib.hid (dpower_any INV3.out.dk f.n HRG.out.1)
                  go_wp2_with fail
                  refine HDP.out.mono ?_
                  rintro e w4 ⟨⟨v4, rfl⟩, hd4, k4⟩
                  have HRP := Lib.hid (rkpower_any (INV3.out.ref k4) f.n HRG.out.1.2)
                  have d14 : w4.cell? ⟨wr.heap.size, 1, none⟩ = some (.int .i64 f.n) := (k4.cell (p := ⟨wr.heap.size, 1, none⟩) hs3 HDL.out).trans d1
                  have HD4 := Lib.hid hd4; have K4 := Lib.hid k4; clear hd4 k4
                  go_wp2_with fail
                  refine HRP.out.mono ?_
                  rintro e w5 ⟨⟨v5, rfl⟩, hr5, k5⟩
                  have INV5 := Lib.hid (INV3.out.both K4.out HD4.out (fun _ h => .inl h) k5 hr5 (fun _ h => .inl h) (by omega)); clear hr5 k5
                  go_wp2_with fail
                  go_meet
                  case rel => exact ⟨_, _, _, _, _, INV5⟩
                · have k3b : (f.kind == 3) = false := by simpa using k3
                  clear k3
                  by_cases k4' : f.kind = 4
                  · -- Crash
                    have kt : (f.kind == 4) = true := by simpa using k4'
                    clear k4'
                    have HDC := Lib.hid (dcrash_any INV3.out.dk f.ka f.kc f.kl (HKL3.out.mono (by have := HWS.out; omega)) (fun hne a ha => (HKN.out hne a ha).1) f.n f.m (by omega) (by have := HSF.out.2; omega))
                    go_wp2_with fail
                    refine HDC.out.mono ?_
                    rintro e w4 ⟨⟨v4, rfl⟩, hd4, k4⟩
                    have HRC := Lib.hid (rkcrash_any (INV3.out.ref k4) f.ka f.kc f.kl ((HKL3.out.kept k4 (fun hne a ha => (HKN.out (by simpa using hne) a ha).1)).mono (by have := HWS.out; have := k4.size; omega)) (fun hne a ha => (HKN.out hne a ha).2) f.n f.m HRG.out.2 (by omega) (by have := HSF.out.2; omega))
                    have d14 : w4.cell? ⟨wr.heap.size, 1, none⟩ = some (.int .i64 f.n) := (k4.cell (p := ⟨wr.heap.size, 1, none⟩) hs3 HDL.out).trans d1
                    have d24 : w4.cell? ⟨wr.heap.size, 2, none⟩ = some (.int .i64 f.m) := (k4.cell (p := ⟨wr.heap.size, 2, none⟩) hs3 HDL.out).trans d2
                    have d44 : w4.cell? ⟨wr.heap.size, 4, none⟩ = some (.slice f.ka f.kl.length f.kc) := (k4.cell (p := ⟨wr.heap.size, 4, none⟩) hs3 HDL.out).trans d4
                    have HD4 := Lib.hid hd4; have K4 := Lib.hid k4; clear hd4 k4
                    go_wp2_with fail
                    refine HRC.out.mono ?_
                    rintro e w5 ⟨⟨v5, rfl⟩, hr5, k5⟩
                    have INV5 := Lib.hid (INV3.out.both K4.out HD4.out (fun _ h => .inl h) k5 hr5 (fun _ h => .inl h) (by simp)); clear hr5 k5
                    go_wp2_with fail
                    go_meet
                    case rel => exact ⟨_, _, _, _, _, INV5⟩
                  · have k4b : (f.kind == 4) = false := by simpa using k4'
                    clear k4'
                    have INV5 := Lib.hid INV3.out.more
                    go_wp2_with fail
                    go_meet
                    case rel => exact ⟨_, _, _, _, _, INV5⟩
        case rest =>
          obtain ⟨D4, M4, base4, ws4, calls4, inv4⟩ := hcut
          have hwl4 := inv4.out.wl
          obtain ⟨pv, hra, hpm⟩ := inv4.out.rk.at_
          obtain ⟨pa, pcap, rfl⟩ := owns_slice hra.own
          have hrb := hra.c1
          have i4 := inv4.out.fresh (Kept.drew (Kept.refl (fun _ => False) wc))
          have hil := inv4.out.dk.ilen
          have him := dimage_any i4.dk
          have hri := fun (wx : World) (hk : Kept (fun _ => False) wc.drew wx) => rkimage_any (i4.fresh hk).rk (by omega)
          generalize image base4 ws4 = IL at him hil hri
          generalize 64 * n = N at him hil
          have HIM := Lib.hid him; have HIL := Lib.hid hil; have I4 := Lib.hid i4; have HRI := Lib.hid hri
          clear him hil i4 hra hpm hri d0 d1 d2 d4
          go_wp2_with fail
          go_region_held (fun w' => w'.cell? ⟨rb, 1, none⟩ = some (.slice pa ws4.length pcap)) (go_keep) (first
            | (go_at_call 22; refine HIM.out.mono ?_; rintro e w5 ⟨ao5, cap5, rfl, ho5, b5⟩; have k5 := kept_of_below3 b5 (Nat.le_refl _); have q5 : w5.cell? ⟨rb, 1, none⟩ = some (.slice pa ws4.length pcap) := (k5.cell (p := ⟨rb, 1, none⟩) (World.block_lt_of_cell? _ _ hrb) (fun h => h)).trans hrb; have hs5 := run_string_of (P := Try.prog) w5 32 9 5 Try.underlying32 Try.underlying5 Try.underlying9 cap5 N HIL.out.symm (owns_lies ho5); have HRI5 := Lib.hid (HRI.out w5 k5); have HLI := Lib.hid (owns_lies ho5); have I5 := Lib.hid (I4.out.fresh k5); clear ho5 b5 k5)
            | (go_at_call 23; refine HRI5.out.mono ?_; rintro e w6 ⟨rfl, k6⟩; have q6 : w6.cell? ⟨rb, 1, none⟩ = some (.slice pa ws4.length pcap) := (k6.cell (p := ⟨rb, 1, none⟩) (World.block_lt_of_cell? _ _ q5) (fun h => h)).trans q5; have hs6 := run_string_of (P := Try.prog) w6 32 9 5 Try.underlying32 Try.underlying5 Try.underlying9 cap5 N HIL.out.symm (HLI.out.kept k6 (fun _ _ _ h => h)); have i6 := I5.out.fresh k6; have HWT := Lib.hid (dwaiting_any i6.dk); have HSZ := Lib.hid (dsize_any i6.dk); have I6 := Lib.hid i6; clear k6 i6)
            | (go_at_call 24; refine HWT.out.mono ?_; rintro e w7 ⟨rfl, hw7⟩; subst w7)
            | (go_at_call 25; refine HSZ.out.mono ?_; rintro e w7 ⟨rfl, hw7⟩; subst w7))
          all_goals go_wp2
          all_goals go_roundg (fs.length - (j + 1))
          all_goals first
            | (have := HQ.out; have := HLT.out; omega)
            | exact ⟨j + 1, D4, M4, base4, ws4, calls4, rfl, HLT.out, by go_num, I6⟩
      · obtain rfl : j = fs.length := by omega
        have HB := Lib.hid inv.out.bel
        go_wp2
        go_ret
        exact ⟨rfl, HB.out⟩

end Go.Proofs.Ytgkkbigcfhfagaa
