/-
  DiskSure: the walk.
-/
import Derived.Test.YtgkkbigcfhfagaaL3a
namespace Go.Proofs.Ytgkkbigcfhfagaa
open Go.RowKit Go.Mk

theorem kept_of_below' {B : Nat} {x y : World} (h : Below B x y) (hB : x.heap.size ≤ B) : Kept (fun _ => False) x y := ⟨h.os, h.tape, h.output, h.size, fun k hk _ => h.block k (by omega)⟩

theorem Try.infoBool : (Try.prog.info? 4).map (fun i => (i.zero, i.size, i.bytes)) = some (some (.bool false), 1, 1) := by kernel_rfl

theorem writeW_len (n : Nat) (calls k : Int) (l : List UInt8) (ws : List Wt) : (writeW n calls k l ws).length ≤ ws.length + 1 := by
  unfold writeW
  split
  · simp
  · omega

/-- What holds between two acts: what was said to be sure is what is sure. -/
structure SureI (w wr : World) (b j : Nat) (D : Nat → Prop) (base : List UInt8) (ws : List Wt) (calls : Int) (kv : Value) : Prop where
  dk : Dk wr D b 4 base ws calls
  wl : ws.length ≤ j
  dge : ∀ k, D k → w.heap.size ≤ k
  keep : wr.ownsRow w.heap.size 4 1 kv j (List.replicate j (.bool true))
  kd : ∀ g, kv.ownBlock = some g → ¬ D g
  bel : Below w.heap.size w wr

theorem SureI.fresh {w wr wr' : World} {b j : Nat} {D : Nat → Prop} {base : List UInt8} {ws : List Wt} {calls : Int} {kv : Value} (h : SureI w wr b j D base ws calls kv) (hk : Kept (fun _ => False) wr wr') : SureI w wr' b j D base ws calls kv :=
  ⟨h.dk.kept hk (fun _ _ h => h), h.wl, h.dge, owns_kept h.keep hk (fun _ _ h => h), h.kd, h.bel.trans (hk.below (B := w.heap.size) h.bel.size (fun _ h => h.elim))⟩

/-- A call that turns nothing but the disk. -/
theorem SureI.turn {w wr wr' : World} {b j : Nat} {D D' : Nat → Prop} {base base' : List UInt8} {ws ws' : List Wt} {calls calls' : Int} {kv : Value} (h : SureI w wr b j D base ws calls kv) (hk : Kept D wr wr') (hd : Dk wr' D' b 4 base' ws' calls') (hl : ws'.length ≤ j) (hD : ∀ k, D' k → D k ∨ wr.heap.size ≤ k) :
    SureI w wr' b j D' base' ws' calls' kv := by
  have hs := h.bel.size
  refine ⟨hd, hl, fun k hk' => ?_, owns_kept h.keep hk h.kd, fun g hg hD' => ?_, h.bel.trans (hk.below (B := w.heap.size) hs (fun k hk' => h.dge k hk'))⟩
  · rcases hD k hk' with h1 | h1
    · exact h.dge k h1
    · omega
  · rcases hD g hD' with h1 | h1
    · exact h.kd g hg h1
    · have := (owns_lt h.keep g hg).2; omega

theorem SureI.more {w wr : World} {b j : Nat} {D : Nat → Prop} {base : List UInt8} {ws : List Wt} {calls : Int} {kv kv' : Value} {wr' : World} (h : SureI w wr b j D base ws calls kv) (hg : wr.grownBy wr' kv.ownBlock)
    (ho : wr'.ownsRow 0 4 1 kv' (j + 1) (List.replicate j (.bool true) ++ [.bool true])) (hb : kv'.ownBlock = kv.ownBlock ∨ kv'.ownBlock = some wr.heap.size) : SureI w wr' b (j + 1) D base ws calls kv' := by
  have hs := h.bel.size
  have kp : Kept (fun k => kv.ownBlock = some k) wr wr' := (Kept.refl _ wr).grown hg (fun k hk _ => hk)
  refine ⟨h.dk.kept kp (fun k hk e => h.kd k e hk), by have := h.wl; omega, h.dge, ?_, fun g hg' hD => ?_, h.bel.trans (kp.below (B := w.heap.size) hs (fun k hk => (owns_lt h.keep k hk).1))⟩
  · rw [List.replicate_succ']
    refine owns_base ho (fun k hk => ?_)
    rcases hb with hb | hb
    · rw [hb] at hk; exact (owns_lt h.keep k hk).1
    · rw [hb] at hk; cases hk; exact hs
  · rcases hb with hb | hb
    · rw [hb] at hg'; exact h.kd g hg' hD
    · rw [hb] at hg'; cases hg'; have := h.dk.lt _ hD; omega

set_option maxRecDepth 100000 in
set_option maxHeartbeats 4000000 in
theorem sure_walk (fa : Option Addr) (fc : Nat) (fs : List AC) (w : World) (h : Acts w w.heap.size fa fs) :
    Calls Try.prog 5 #[.slice fa fs.length fc] w fun e w' => e = .returned (.bool true) ∧ Below w.heap.size w w' := by
  have hlen := h.len
  unfold maxLen at hlen
  have H := Lib.hid h; clear h
  cases hsm : smallA fs with
  | false =>
    go_enter Try.func5, Try.ntmps5
    go_wp2_with fail
    refine (awake3_any w).mono ?_
    rintro e w1 ⟨rfl, b1⟩
    have hs1 := small3_any fa fc fs w.heap.size w1 (H.out.below b1)
    rw [hsm] at hs1
    have B1 := Lib.hid b1; have HS1 := Lib.hid hs1; clear b1 hs1
    go_wp2_with fail
    refine HS1.out.mono ?_
    rintro e w2 ⟨rfl, rfl⟩
    go_wp2_with fail
    refine (awake3_any w1).mono ?_
    rintro e w2 ⟨rfl, b2⟩
    have B2 := Lib.hid (B1.out.trans (b2.mono B1.out.size)); clear b2
    go_wp2
    go_ret
    exact ⟨rfl, B2.out⟩
  | true =>
    have h40 : fs.length ≤ 40 := by
      simp [smallA] at hsm
      exact hsm.1
    have hsmall : ∀ f ∈ fs, f.bl.length ≤ 100 ∧ f.kl.length ≤ 40 := by
      simp [smallA, AC.small] at hsm
      exact hsm.2
    have HSM := Lib.hid hsmall; clear hsmall
    go_enter Try.func5, Try.ntmps5
    go_wp2_with fail
    refine (awake3_any w).mono ?_
    rintro e w1 ⟨rfl, b1⟩
    have hs1 := small3_any fa fc fs w.heap.size w1 (H.out.below b1)
    rw [hsm] at hs1
    have B1 := Lib.hid b1; have HS1 := Lib.hid hs1; clear b1 hs1 hsm
    go_wp2_with fail
    refine HS1.out.mono ?_
    rintro e w2 ⟨rfl, rfl⟩
    have HNEW := Lib.hid (dnew_any w1 4 (by omega) (by omega))
    go_wp2_with fail
    refine HNEW.out.mono ?_
    rintro e w2 ⟨b, D, rfl, hd2, hD2, b2⟩
    have him := dimage_any hd2
    have HIM := Lib.hid him; have HD2 := Lib.hid hd2; have HDD := Lib.hid hD2; have B2 := Lib.hid (B1.out.trans (b2.mono B1.out.size)); clear him hd2 hD2 b2
    go_wp2_with fail
    refine HIM.out.mono ?_
    rintro e w3 ⟨ao3, cap3, rfl, ho3, b3⟩
    have hs3 := run_string_of (P := Try.prog) w3 32 9 5 Try.underlying32 Try.underlying5 Try.underlying9 cap3 256 (by simp [image]) (owns_lies ho3)
    have inv : SureI w w3 b 0 D (List.replicate (64 * 4) 0) [] (-1) (.slice none 0 0) :=
      ⟨HD2.out.kept (kept_of_below' b3 (Nat.le_refl _)) (fun _ _ h => h), by simp, fun k hk => by have := HDD.out k hk; have := B1.out.size; omega, World.ownsRow_nil _ _ _ _, by simp [Value.ownBlock], B2.out.trans (b3.mono B2.out.size)⟩
    have INV := Lib.hid inv; clear inv ho3 b3
    rw [show image (List.replicate (64 * 4) 0) [] = List.replicate (64 * 4) 0 from rfl] at hs3
    generalize List.replicate (64 * 4) (0 : UInt8) = base0 at INV hs3
    go_wp2_with fail
    clear hs3
    obtain ⟨i0, hi, hz0, hz1, hz2⟩ := info_parts Try.infoBool
    go_loopg [5, 6, 7] fs.length (fun q v5 v6 v7 wr => ∃ (j : Nat) (D : Nat → Prop) (base : List UInt8) (ws : List Wt) (calls : Int) (ka : Option Addr) (kc : Nat), q = fs.length - j ∧ j ≤ fs.length ∧ v7 = .int .i64 (j : Int) ∧ v5 = .string (bs base) ∧ v6 = .slice ka j kc ∧ Hid (SureI w wr b j D base ws calls (.slice ka j kc)))
    case atStart => exact ⟨0, D, base0, [], -1, none, 0, rfl, Nat.zero_le _, rfl, rfl, rfl, INV⟩
    case round =>
      obtain ⟨j, D1, base, ws, calls, ka, kc, hq, hj, rfl, rfl, rfl, inv⟩ := hrel
      have HQ := Lib.hid hq; clear hq INV HDD HD2 HIM HNEW
      have WSL := Lib.hid inv.out.wl
      by_cases hlt : j < fs.length
      · have hA := H.out.below inv.out.bel
        obtain ⟨ab, aof, rfl, hab, hc⟩ := hA.at_ (by intro e; rw [e] at hlt; simp at hlt)
        obtain ⟨c0, c1, c2, c3, c4⟩ := hc j hlt
        have hbs := hA.bs fs[j] (List.getElem_mem hlt)
        have hsf := HSM.out fs[j] (List.getElem_mem hlt)
        have hrg := H.out.rng fs[j] (List.getElem_mem hlt)
        generalize fs[j] = f at *
        have HBS := Lib.hid hbs; have HSF := Lib.hid hsf; have HRG := Lib.hid hrg
        clear hc hA hbs hsf hrg
        go_wp2_with (at_builtin; refine wpList_app _ rfl (.tmp 41) (.tmp 42) 33 33 rfl 4 i0 (.bool false) 1 1 Try.underlying33 hi hz0 hz1 hz2 rfl (.slice ka j kc) j (List.replicate j (.bool true)) rfl ?own (.slice (some ⟨wr.heap.size + 1, 0, none⟩) 1 1) 1 [.bool true] rfl ?src ?b1 ?b2 ?next)
        case own => exact owns_base ((inv.out.keep.alloc _).alloc _) (fun _ _ => Nat.zero_le _)
        case src =>
          have := src_one Try.underlying33 (wr.alloc (.cells #[.int .i64 f.kind, .int .i64 f.n, .int .i64 f.m, .slice f.ba f.bl.length f.bc, .slice f.ka f.kl.length f.kc] 35)) (.bool true) 4 rfl
          rw [World.size_alloc] at this
          exact this
        case b1 => unfold maxLen; omega
        case b2 => omega
        case next =>
          intro v2 w2 ho2 hg2 hb2 _
          obtain ⟨ka2, kc2, rfl⟩ := owns_slice ho2
          have hka : Kept (fun _ => False) wr ((wr.alloc (.cells #[.int .i64 f.kind, .int .i64 f.n, .int .i64 f.m, .slice f.ba f.bl.length f.bc, .slice f.ka f.kl.length f.kc] 35)).alloc (.cells #[.bool true] 4)) := ((Kept.refl _ wr).alloc _).alloc _
          have inv2 := (inv.out.fresh hka).more hg2 ho2 (by simpa using hb2)
          have kp : Kept (fun k => (Value.slice ka j kc).ownBlock = some k) ((wr.alloc (.cells #[.int .i64 f.kind, .int .i64 f.n, .int .i64 f.m, .slice f.ba f.bl.length f.bc, .slice f.ka f.kl.length f.kc] 35)).alloc (.cells #[.bool true] 4)) w2 := (Kept.refl _ _).grown hg2 (fun k hk _ => hk)
          have hbox : ∀ i v, (f.cells)[i]? = some v → w2.cell? ⟨wr.heap.size, i, none⟩ = some v := fun i v hv => by
            rw [kp.cell (p := ⟨wr.heap.size, i, none⟩) (by simp; omega) (fun e => by have := (owns_lt inv.out.keep _ e).2; simp at this), World.cell?_alloc_lt _ _ _ (by simp)]
            exact (World.cell?_alloc_new wr _ _ i).trans hv
          have d0 : w2.cell? ⟨wr.heap.size, 0, none⟩ = some (.int .i64 f.kind) := hbox 0 _ rfl
          have d1 : w2.cell? ⟨wr.heap.size, 1, none⟩ = some (.int .i64 f.n) := hbox 1 _ rfl
          have d2 : w2.cell? ⟨wr.heap.size, 2, none⟩ = some (.int .i64 f.m) := hbox 2 _ rfl
          have d3 : w2.cell? ⟨wr.heap.size, 3, none⟩ = some (.slice f.ba f.bl.length f.bc) := hbox 3 _ rfl
          have d4 : w2.cell? ⟨wr.heap.size, 4, none⟩ = some (.slice f.ka f.kl.length f.kc) := hbox 4 _ rfl
          have hs2 : wr.heap.size < w2.heap.size := World.block_lt_of_cell? _ _ d0
          have hbs2 := kp.size
          have HBOX := Lib.hid hbox
          have INV2 := Lib.hid inv2
          have HWW := Lib.hid (inv.out.bel.size)
          have HLT := Lib.hid hlt
          have HL0 : Hid (Lies w2 w.heap.size f.ba (f.bl.map bv)) := Lib.hid (HBS.out.1.kept ((hka.mono (S' := fun k => (Value.slice ka j kc).ownBlock = some k) (fun _ _ h => h.elim)).trans kp (fun _ _ h => h)) (fun hne a ha e => by
            obtain ⟨b', o', e', hlt', _⟩ := HBS.out.1 hne
            rw [ha] at e'; cases e'
            have := (owns_lt inv.out.keep _ e).1
            simp at this
            omega))
          clear inv2 kp hbox ho2 hg2 hb2 hka hbs2 c0 c1 c2 c3 c4
          by_cases k0 : f.kind = 0
          · -- Write
            rw [k0] at d0
            have hoc := octets_any f w.heap.size w2.drew (HL0.out.kept (Kept.drew (Kept.refl (fun _ => False) w2)) (fun _ _ _ h => h)) INV2.out.bel.size HSF.out.1
            unfold AC.cells at hoc
            rw [k0] at hoc
            have HOC := Lib.hid hoc; clear hoc
            go_wp2_with fail
            go_region_with (first
              | (go_at_call 11; refine HOC.out.mono ?_; rintro e w3 ⟨ao3, cap3, rfl, hl3, hn3, b3⟩; have k23 := kept_of_below' b3 (Nat.le_refl _); have inv3 := (INV2.out.fresh (Kept.drew (Kept.refl (fun _ => False) w2))).fresh k23; have d13 : w3.cell? ⟨wr.heap.size, 1, none⟩ = some (.int .i64 f.n) := (k23.cell (p := ⟨wr.heap.size, 1, none⟩) hs2 (fun h => h)).trans d1; have hw3 := dwrite_any inv3.dk f.n ao3 cap3 f.oct hl3 (fun hne a ha hDa => by rcases hn3 hne a ha with h1 | h1; (have := inv3.dge _ hDa; omega); (have := INV2.out.dk.lt _ hDa; simp at h1; omega)) (by have := inv3.wl; omega); have INV3 := Lib.hid inv3; have HW3 := Lib.hid hw3; clear inv3 hw3 hl3 hn3 b3 k23)
              | (go_at_call 12; refine HW3.out.mono ?_; rintro e w4 ⟨rfl, D4, hd4, hD4, k4⟩; have INV4 := Lib.hid (INV3.out.turn k4 hd4 (Nat.le_trans (writeW_len 4 calls f.n f.oct ws) (Nat.succ_le_succ WSL.out)) hD4); clear hd4 hD4 k4))
            all_goals go_wp2
            all_goals go_roundg (fs.length - (j + 1))
            all_goals first
              | (have := HQ.out; have := HLT.out; omega)
              | exact ⟨j + 1, _, _, _, _, _, _, rfl, HLT.out, by go_num, rfl, rfl, INV4⟩
          · have k0b : (f.kind == 0) = false := by simpa using k0
            by_cases k1 : f.kind = 1
            · -- Sync
              rw [k1] at d0
              have hsy := dsync_any INV2.out.dk
              have hil := INV2.out.dk.ilen
              by_cases hca : calls = 0
              · rw [if_pos hca, if_pos hca, if_pos hca] at hsy
                have HSY := Lib.hid hsy; clear hsy
                go_wp2_with fail
                refine HSY.out.mono ?_
                rintro e w3 ⟨rfl, hd3, k3⟩
                have INV3 := Lib.hid (INV2.out.turn k3 hd3 (Nat.le_succ_of_le WSL.out) (fun _ h => .inl h)); clear hd3 k3
                go_wp2
                go_roundg (fs.length - (j + 1))
                case measure => have := HQ.out; have := HLT.out; omega
                case rel => exact ⟨j + 1, _, _, _, _, _, _, rfl, HLT.out, by go_num, rfl, rfl, INV3⟩
              · rw [if_neg hca, if_neg hca, if_neg hca] at hsy
                have HSY := Lib.hid hsy; have HIL := Lib.hid hil; clear hsy hil
                go_wp2_with fail
                refine HSY.out.mono ?_
                rintro e w3 ⟨rfl, hd3, k3⟩
                have inv3 := INV2.out.turn k3 hd3 (by simp) (fun _ h => .inl h)
                have him := dimage_any hd3
                rw [show ∀ l, image l [] = l from fun _ => rfl] at him
                have HIM := Lib.hid him; have INV3 := Lib.hid inv3; clear him hd3 k3 inv3
                go_wp2_with fail
                refine HIM.out.mono ?_
                rintro e w4 ⟨ao4, cap4, rfl, ho4, b4⟩
                have hs4 := run_string_of (P := Try.prog) w4 32 9 5 Try.underlying32 Try.underlying5 Try.underlying9 cap4 256 HIL.out.symm (owns_lies ho4)
                have INV4 := Lib.hid (INV3.out.fresh (kept_of_below' b4 (Nat.le_refl _))); clear ho4 b4
                go_wp2
                go_roundg (fs.length - (j + 1))
                case measure => have := HQ.out; have := HLT.out; omega
                case rel => exact ⟨j + 1, _, _, _, _, _, _, rfl, HLT.out, by go_num, rfl, rfl, INV4⟩
            · have k1b : (f.kind == 1) = false := by simpa using k1
              by_cases k2 : f.kind = 2
              · -- all is kept
                rw [k2] at d0
                have him := dimage_any INV2.out.dk
                have HIM := Lib.hid him; have HIL := Lib.hid INV2.out.dk.ilen; clear him
                go_wp2_with fail
                refine HIM.out.mono ?_
                rintro e w3 ⟨ao3, cap3, rfl, ho3, b3⟩
                have hs3 := run_string_of (P := Try.prog) w3 32 9 5 Try.underlying32 Try.underlying5 Try.underlying9 cap3 256 HIL.out.symm (owns_lies ho3)
                have inv3 := INV2.out.fresh (kept_of_below' b3 (Nat.le_refl _))
                have hcr := dcrash_any inv3.dk ka2 kc2 (List.replicate (j + 1) true) (by rw [List.map_replicate]; exact owns_lies inv3.keep) (fun _ a ha hDa => by
                  obtain ⟨g, o, e, _⟩ := owns_lies inv3.keep (by simp)
                  rcases inv3.keep.2 with ⟨_, h00⟩ | ⟨g', c', cur', hv, _⟩
                  · omega
                  · cases hv
                    cases ha
                    exact inv3.kd g' rfl hDa) (-1) 0 (by have := inv3.wl; omega) (by simp; omega)
                rw [crash_all _ _ _ _ _ (by have := inv3.wl; omega), List.length_replicate] at hcr
                have INV3 := Lib.hid inv3; have HCR := Lib.hid hcr; clear inv3 hcr ho3 b3
                go_wp2_with fail
                refine HCR.out.mono ?_
                rintro e w4 ⟨⟨v4, rfl⟩, hd4, k4⟩
                have inv4 := INV3.out.turn k4 hd4 (by simp) (fun _ h => .inl h)
                have him4 := dimage_any hd4
                rw [show ∀ l, image l [] = l from fun _ => rfl] at him4
                have HIM4 := Lib.hid him4; have INV4 := Lib.hid inv4; clear him4 hd4 k4 inv4 hs3
                go_wp2_with fail
                refine HIM4.out.mono ?_
                rintro e w5 ⟨ao5, cap5, rfl, ho5, b5⟩
                have hs5 := run_string_of (P := Try.prog) w5 32 9 5 Try.underlying32 Try.underlying5 Try.underlying9 cap5 256 HIL.out.symm (owns_lies ho5)
                have INV5 := Lib.hid (INV4.out.fresh (kept_of_below' b5 (Nat.le_refl _))); clear ho5 b5
                go_wp2
                go_roundg (fs.length - (j + 1))
                case measure => have := HQ.out; have := HLT.out; omega
                case rel => exact ⟨j + 1, _, _, _, _, _, _, rfl, HLT.out, by go_num, rfl, rfl, INV5⟩
              · have k2b : (f.kind == 2) = false := by simpa using k2
                by_cases k4 : f.kind = 4
                · -- nothing is kept
                  rw [k4] at d0
                  have hcr := dcrash_any INV2.out.dk none 0 [] (Lies.nil _ _ _) (by simp) (-1) 0 (by have := INV2.out.wl; omega) (by simp)
                  rw [crash_none] at hcr
                  have HCR := Lib.hid hcr; have HBLN := Lib.hid INV2.out.dk.len; clear hcr
                  go_wp2_with fail
                  refine HCR.out.mono ?_
                  rintro e w4 ⟨⟨v4, rfl⟩, hd4, k4'⟩
                  have inv4 := INV2.out.turn k4' hd4 (by simp) (fun _ h => .inl h)
                  have him4 := dimage_any hd4
                  rw [show ∀ l, image l [] = l from fun _ => rfl] at him4
                  have HIM4 := Lib.hid him4; have INV4 := Lib.hid inv4; clear him4 hd4 k4' inv4
                  go_wp2_with fail
                  refine HIM4.out.mono ?_
                  rintro e w5 ⟨ao5, cap5, rfl, ho5, b5⟩
                  have hs5 := run_string_of (P := Try.prog) w5 32 9 5 Try.underlying32 Try.underlying5 Try.underlying9 cap5 256 HBLN.out.symm (owns_lies ho5)
                  have INV5 := Lib.hid (INV4.out.fresh (kept_of_below' b5 (Nat.le_refl _))); clear ho5 b5
                  go_wp2
                  go_roundg (fs.length - (j + 1))
                  case measure => have := HQ.out; have := HLT.out; omega
                  case rel => exact ⟨j + 1, _, _, _, _, _, _, rfl, HLT.out, by go_num, rfl, rfl, INV5⟩
                · have k4b : (f.kind == 4) = false := by simpa using k4
                  go_wp2
                  go_roundg (fs.length - (j + 1))
                  case measure => have := HQ.out; have := HLT.out; omega
                  case rel => exact ⟨j + 1, _, _, _, _, _, _, rfl, HLT.out, by go_num, rfl, rfl, INV2⟩
      · obtain rfl : j = fs.length := by omega
        have HB := Lib.hid inv.out.bel
        go_wp2
        go_ret
        exact ⟨rfl, HB.out⟩

end Go.Proofs.Ytgkkbigcfhfagaa
