/-
  JournalCrashes: the walk.
-/
import Derived.Test.YtobikgcoekiboaaL4f
namespace Go.Proofs.Ytobikgcoekiboaa
open Go.RowKit Go.Mk

/-- The text that is surely there or will be: the new one, if Put was OK. -/
def sureT (e : Int) (old new : List UInt8) : List UInt8 := if e = 0 then new else old

theorem crash_put {n : Nat} {old new base : List UInt8} (ho : fitT n old) (hn : fitT n new) (hQ : JQ n old base) (c : Int) (keep : List Bool) (torn octets : Int) :
    JI n (sureT (jput n new ⟨base, [], c⟩).2 old new) new (crash keep torn (octs octets) 0 (jput n new ⟨base, [], c⟩).1.ws (jput n new ⟨base, [], c⟩).1.base) := by
  have h := put_run ho hn hQ c
  unfold sureT
  by_cases e : (jput n new ⟨base, [], c⟩).2 = 0
  · rw [if_pos e]
    obtain ⟨h1, h2⟩ := h.2.1 e
    rw [h1]
    exact h2.ji hn
  · rw [if_neg e]
    exact h.1 keep torn octets

theorem put_len {n : Nat} (t base : List UInt8) (c : Int) (hn : n ≤ 65536) : (jput n t ⟨base, [], c⟩).1.ws.length ≤ 900000 := by
  unfold jput
  split
  · simp
  · rename_i hf
    have hf : jfits n t = 0 := by omega
    have ht := (jfits_zero.1 hf).2
    have hl : (formL (areaN n) t).length = 64 * areaN n := formL_length _ _ (by omega)
    refine Nat.le_trans (DS.run_len _ _) ?_
    have ha : areaN n ≤ 32767 := by unfold areaN; omega
    simp only [putOps, homeOps, List.length_append, blk_length, hl, headL_length, List.length_nil]
    omega
theorem rec_len {n : Nat} (base : List UInt8) (c : Int) (hn : n ≤ 65536) (hb : base.length = 64 * n) : (jrec n ⟨base, [], c⟩).1.ws.length ≤ 900000 := by
  unfold jrec
  split
  · simp
  · refine Nat.le_trans (DS.run_len _ _) ?_
    have ha : areaN n ≤ 32767 := by unfold areaN; omega
    have hl : (jrL n (image base [])).length = 64 * areaN n := jrL_length hb
    unfold recOps
    split
    · simp
    · split
      · simp only [homeOps, List.length_append, blk_length, hl, headL_length, List.length_nil]
        omega
      · simp [blk_length, headL_length]

/-- What holds between two failures. -/
structure CrI (w wr : World) (b : Nat) (o t base : List UInt8) : Prop where
  js : JS w wr b 14 ⟨base, [], -1⟩
  ji : JI 14 o t base

set_option maxRecDepth 100000 in
set_option maxHeartbeats 4000000 in
theorem crashes_walk (oa : Option Addr) (oc : Nat) (old : List UInt8) (ta : Option Addr) (tc : Nat) (text : List UInt8) (fa : Option Addr) (fc : Nat) (fs : List FC) (w : World)
    (hLo : Lies w w.heap.size oa (old.map bv)) (hLt : Lies w w.heap.size ta (text.map bv)) (h : Fails w w.heap.size fa fs) (hol : old.length ≤ maxLen) (htl : text.length ≤ maxLen) :
    Calls Try.prog 5 #[.slice oa old.length oc, .slice ta text.length tc, .slice fa fs.length fc] w fun e w' => e = .returned (.bool true) ∧ Below w.heap.size w w' := by
  have hlen := h.len
  unfold maxLen at hlen hol htl
  have H := Lib.hid h; have HLO := Lib.hid hLo; have HLT := Lib.hid hLt; clear h hLo hLt
  by_cases h1 : 300 < old.length
  · go_enter Try.func5, Try.ntmps5
    go_wp2_with fail
    refine (awake4_any w).mono ?_
    rintro e w1 ⟨rfl, b1⟩
    have B1 := Lib.hid b1; clear b1
    go_wp2_with fail
    refine (awake4_any w1).mono ?_
    rintro e w2 ⟨rfl, b2⟩
    have B2 := Lib.hid (B1.out.trans (b2.mono B1.out.size)); clear b2
    go_wp2
    go_ret
    exact ⟨rfl, B2.out⟩
  by_cases h2 : 300 < text.length
  · go_enter Try.func5, Try.ntmps5
    go_wp2_with fail
    refine (awake4_any w).mono ?_
    rintro e w1 ⟨rfl, b1⟩
    have B1 := Lib.hid b1; clear b1
    go_wp2_with fail
    refine (awake4_any w1).mono ?_
    rintro e w2 ⟨rfl, b2⟩
    have B2 := Lib.hid (B1.out.trans (b2.mono B1.out.size)); clear b2
    go_wp2
    go_ret
    exact ⟨rfl, B2.out⟩
  by_cases h3 : fs.length = 0
  · have h3b : ((fs.length : Int) == 0) = true := by simp [h3]
    go_enter Try.func5, Try.ntmps5
    go_wp2_with fail
    refine (awake4_any w).mono ?_
    rintro e w1 ⟨rfl, b1⟩
    have B1 := Lib.hid b1; clear b1
    go_wp2_with fail
    refine (awake4_any w1).mono ?_
    rintro e w2 ⟨rfl, b2⟩
    have B2 := Lib.hid (B1.out.trans (b2.mono B1.out.size)); clear b2
    go_wp2
    go_ret
    exact ⟨rfl, B2.out⟩
  by_cases h4 : 6 < fs.length
  · have h3b : ((fs.length : Int) == 0) = false := by rw [beq_eq_false_iff_ne]; omega
    go_enter Try.func5, Try.ntmps5
    go_wp2_with fail
    refine (awake4_any w).mono ?_
    rintro e w1 ⟨rfl, b1⟩
    have B1 := Lib.hid b1; clear b1
    go_wp2_with fail
    refine (awake4_any w1).mono ?_
    rintro e w2 ⟨rfl, b2⟩
    have B2 := Lib.hid (B1.out.trans (b2.mono B1.out.size)); clear b2
    go_wp2
    go_ret
    exact ⟨rfl, B2.out⟩
  have h3b : ((fs.length : Int) == 0) = false := by rw [beq_eq_false_iff_ne]; omega
  obtain ⟨ab, aof, rfl, hab, hcw⟩ := H.out.at_ (by intro e; rw [e] at h3; simp at h3)
  have HCW := Lib.hid hcw; clear hcw
  have hne : ∀ {P : Prop}, fs.length = 0 → P := fun e => absurd e h3
  clear h3
  have fo : fitT 14 old := ⟨by decide, by rw [show areaN 14 = 6 from rfl]; omega⟩
  have ft : fitT 14 text := ⟨by decide, by rw [show areaN 14 = 6 from rfl]; omega⟩
  have fn : fitT 14 [] := ⟨by decide, by decide⟩
  have FO := Lib.hid fo; have FT := Lib.hid ft; have FN := Lib.hid fn; clear fo ft fn
  go_enter Try.func5, Try.ntmps5
  go_wp2_with fail
  refine (awake4_any w).mono ?_
  rintro e w1 ⟨rfl, b1⟩
  have B1 := Lib.hid b1; clear b1
  go_wp2_with fail
  clear h3b
  go_loopg [7] fs.length (fun k c wr => ∃ j, k = fs.length - j ∧ j ≤ fs.length ∧ c = .int .i64 (j : Int) ∧ (∀ i (hi : i < fs.length), i < j → fs[i].kl.length ≤ 60) ∧ w1 = wr)
  case atStart => exact ⟨0, rfl, Nat.zero_le _, rfl, fun i _ hi => absurd hi (Nat.not_lt_zero _), rfl⟩
  case round =>
    obtain ⟨j, hk, hj, rfl, hsm, rfl⟩ := hrel
    have HSM := Lib.hid hsm; have HK := Lib.hid hk; clear hsm hk
    by_cases hlt : j < fs.length
    · have c1 : w1.cell? ⟨ab, aof + j * 4 + 1, none⟩ = some (.slice fs[j].ka fs[j].kl.length fs[j].kc) := (B1.out.cell (p := ⟨ab, _, none⟩) hab).trans (HCW.out j hlt).2.1
      have hlns := H.out.lens fs[j] (List.getElem_mem hlt)
      unfold maxLen at hlns
      generalize hf : fs[j] = f at *
      have HF := Lib.hid hf; clear hf
      by_cases hs : f.kl.length ≤ 60
      · go_wp2
        go_roundg (fs.length - (j + 1))
        case measure => have := HK.out; omega
        case rel =>
          refine ⟨j + 1, rfl, by omega, by go_num, fun t ht htj => ?_, rfl⟩
          by_cases e : t = j
          · subst e
            rw [HF.out]
            exact hs
          · exact HSM.out t ht (by omega)
      · go_wp2
        go_ret
        exact ⟨rfl, B1.out⟩
    · obtain rfl : j = fs.length := by omega
      have hsm : ∀ f ∈ fs, f.kl.length ≤ 60 := fun f hf => by
        obtain ⟨i, hi, rfl⟩ := List.mem_iff_getElem.1 hf
        exact HSM.out i hi hi
      have HSM2 := Lib.hid hsm; clear hsm HSM HK hlt
      have HNEW := Lib.hid (js_new B1.out 14 (by omega) (by omega) 14 rfl)
      go_wp2_with fail
      refine HNEW.out.mono ?_
      rintro e w2 ⟨b, rfl, h2⟩
      have hf := js_format h2 none 0 0 [] rfl (Lies.nil _ _ _) (by simp)
      have hr := format_run (n := 14) (t := []) (base := List.replicate (64 * 14) 0) (by simp) FN.out (-1) (by omega)
      generalize jformat 14 [] ⟨List.replicate (64 * 14) 0, [], -1⟩ = r at *
      obtain ⟨⟨base, ws, c⟩, e0⟩ := r
      obtain ⟨hr1, hr2, hr3, hr4⟩ := hr
      simp only at hr1 hr2 hr3 hr4
      subst hr1 hr2
      have HF := Lib.hid hf; have HC := Lib.hid hr3; have HQ := Lib.hid hr4; clear hf hr3 hr4 h2 HNEW
      go_wp2_with fail
      refine HF.out.mono ?_
      rintro e w3 ⟨rfl, h3⟩
      have hL3 : Lies w3 w3.heap.size oa (old.map bv) := (HLO.out.below h3.bel).mono h3.bel.size
      have hf := js_put h3 oa old.length oc old rfl hL3 (by simp)
      have hr := put_run (n := 14) FN.out FO.out HQ.out c
      generalize jput 14 old ⟨base, [], c⟩ = r at *
      obtain ⟨⟨base2, ws2, c2⟩, e2⟩ := r
      have he2 := hr.2.2 HC.out
      obtain ⟨hw2, hq2⟩ := hr.2.1 he2
      simp only at he2 hw2 hq2
      subst he2 hw2
      have HF3 := Lib.hid hf; have HQ2 := Lib.hid hq2; clear hf hr hq2 h3 hL3 HQ HC HF
      go_wp2_with fail
      refine HF3.out.mono ?_
      rintro e w4 ⟨rfl, h4⟩
      have hf0 : 0 < fs.length := by
        by_cases e : fs.length = 0
        · exact hne e
        · omega
      obtain ⟨x0, x1, x2, x3⟩ := HCW.out 0 hf0
      simp only [Nat.zero_mul, Nat.add_zero] at x0 x1 x2 x3
      have hrg := H.out.rng fs[0] (List.getElem_mem hf0)
      have hks := H.out.ks fs[0] (List.getElem_mem hf0)
      have hkl := HSM2.out fs[0] (List.getElem_mem hf0)
      generalize hf : fs[0] = f at *
      obtain ⟨hr0, hr1, hr2⟩ := hrg
      have c0 : w4.cell? ⟨ab, aof, none⟩ = some (.int .i64 f.p) := (h4.bel.cell (p := ⟨ab, _, none⟩) hab).trans x0
      have HPW := Lib.hid (js_power h4 f.p hr0); have HX := Lib.hid (And.intro x1 (And.intro x2 x3)); have HKS := Lib.hid hks
      clear h4 x0 x1 x2 x3 hf HF3 hks
      go_wp2_with fail
      refine HPW.out.mono ?_
      rintro e w5 ⟨⟨v5, rfl⟩, h5⟩
      have hL5 : Lies w5 w5.heap.size ta (text.map bv) := (HLT.out.below h5.bel).mono h5.bel.size
      have hpu := js_put h5 ta text.length tc text rfl hL5 (by simp)
      have HPU := Lib.hid hpu; clear hpu h5 hL5 HPW c0
      go_wp2_with fail
      refine HPU.out.mono ?_
      rintro e w6 ⟨rfl, h6⟩
      have hcr := js_crash (W0 := w) h6.drew f.ka f.kl.length f.kc f.kl rfl HKS.out f.n f.m (Nat.le_trans (put_len (n := 14) text base2 f.p (by omega)) (by omega)) (by omega)
      have hji := crash_put FO.out FT.out HQ2.out f.p f.kl f.n f.m
      generalize jput 14 text ⟨base2, [], f.p⟩ = r at *
      obtain ⟨s6, e6⟩ := r
      have c1 : w6.cell? ⟨ab, aof + 1, none⟩ = some (.slice f.ka f.kl.length f.kc) := (h6.bel.cell (p := ⟨ab, _, none⟩) hab).trans HX.out.1
      have c2 : w6.cell? ⟨ab, aof + 2, none⟩ = some (.int .i64 f.n) := (h6.bel.cell (p := ⟨ab, _, none⟩) hab).trans HX.out.2.1
      have c3 : w6.cell? ⟨ab, aof + 3, none⟩ = some (.int .i64 f.m) := (h6.bel.cell (p := ⟨ab, _, none⟩) hab).trans HX.out.2.2
      have HCR := Lib.hid hcr; have HJI := Lib.hid hji; clear hcr hji h6 HPU
      go_upto_region 15 with fail
      go_cut [] (fun wx => ∃ base, Hid (CrI w wx b (sureT e6 old text) text base))
      case first =>
        go_region_with (go_at_call 20; refine HCR.out.mono ?_; rintro e w7 ⟨⟨v7, rfl⟩, h7⟩; have H7 : Hid (CrI w w7 b (sureT e6 old text) text _) := Lib.hid ⟨h7, HJI.out⟩; clear h7)
        all_goals go_wp2_with fail
        all_goals go_meet
        all_goals exact ⟨_, H7⟩
      case rest =>
        obtain ⟨base7, inv7⟩ := hcut
        clear HCR HJI c1 c2 c3 HX HKS hr0 hr1 hr2 hkl HQ2
        have fs6 : fitT 14 (sureT e6 old text) := by
          unfold sureT
          split
          · exact FT.out
          · exact FO.out
        have FS6 := Lib.hid fs6; clear fs6
        go_wp2_with fail
        go_loopg [11] (fs.length - 1) (fun k c wr => ∃ (j : Nat) (base : List UInt8), k = fs.length - j ∧ 1 ≤ j ∧ j ≤ fs.length ∧ c = .int .i64 (j : Int) ∧ Hid (CrI w wr b (sureT e6 old text) text base))
        case atStart => exact ⟨1, base7, rfl, Nat.le_refl _, hf0, rfl, inv7⟩
        case round =>
          obtain ⟨j, base, hk, hj1, hj, rfl, inv⟩ := hrel
          have HK := Lib.hid hk; clear hk inv7
          by_cases hlt : j < fs.length
          · obtain ⟨x0, x1, x2, x3⟩ := HCW.out j hlt
            have hrg := H.out.rng fs[j] (List.getElem_mem hlt)
            have hks := H.out.ks fs[j] (List.getElem_mem hlt)
            have hkl := HSM2.out fs[j] (List.getElem_mem hlt)
            generalize hf : fs[j] = g at *
            obtain ⟨hr0, hr1, hr2⟩ := hrg
            have c0 : wr.cell? ⟨ab, aof + j * 4, none⟩ = some (.int .i64 g.p) := (inv.out.js.bel.cell (p := ⟨ab, _, none⟩) hab).trans x0
            have HPW := Lib.hid (js_power inv.out.js g.p hr0); have HX := Lib.hid (And.intro x1 (And.intro x2 x3)); have HKS := Lib.hid hks
            clear x0 x1 x2 x3 hf hks hr0 hr1 hr2
            have hbl : base.length = 64 * 14 := by obtain ⟨D, hd, _⟩ := inv.out.js; exact hd.len
            have hji := inv.out.ji
            have hrr := rec_run (n := 14) (by decide) FT.out hji g.p
            have hrl := rec_len (n := 14) base g.p (by omega) hbl
            have HRR := Lib.hid hrr; clear hrr hji hbl
            go_wp2_with fail
            refine HPW.out.mono ?_
            rintro e w8 ⟨⟨v8, rfl⟩, h8⟩
            have HRE := Lib.hid (js_rec h8 (by simp)); clear h8 HPW c0
            go_wp2_with fail
            refine HRE.out.mono ?_
            rintro e w9 ⟨rfl, h9⟩
            generalize jrec 14 ⟨base, [], g.p⟩ = r at *
            have hcr := js_crash (W0 := w) h9.drew g.ka g.kl.length g.kc g.kl rfl HKS.out g.n g.m (by omega) (by omega)
            have c1 : w9.cell? ⟨ab, aof + j * 4 + 1, none⟩ = some (.slice g.ka g.kl.length g.kc) := (h9.bel.cell (p := ⟨ab, _, none⟩) hab).trans HX.out.1
            have c2 : w9.cell? ⟨ab, aof + j * 4 + 2, none⟩ = some (.int .i64 g.n) := (h9.bel.cell (p := ⟨ab, _, none⟩) hab).trans HX.out.2.1
            have c3 : w9.cell? ⟨ab, aof + j * 4 + 3, none⟩ = some (.int .i64 g.m) := (h9.bel.cell (p := ⟨ab, _, none⟩) hab).trans HX.out.2.2
            have HCR := Lib.hid hcr; clear hcr h9 HRE
            go_wp2_with fail
            go_region_with (go_at_call 20; refine HCR.out.mono ?_; rintro e w7 ⟨⟨v7, rfl⟩, h7⟩; have H7 : Hid (CrI w w7 b (sureT e6 old text) text _) := Lib.hid ⟨h7, HRR.out.1 g.kl g.n g.m⟩; clear h7)
            all_goals go_wp2
            all_goals go_roundg (fs.length - (j + 1))
            all_goals first
              | (have := HK.out; omega)
              | exact ⟨j + 1, _, rfl, by omega, by omega, by go_num, H7⟩
          · obtain rfl : j = fs.length := by omega
            have hbl : base.length = 64 * 14 := by obtain ⟨D, hd, _⟩ := inv.out.js; exact hd.len
            have hrr := rec_run (n := 14) (by decide) FT.out inv.out.ji (-1)
            have HRE := Lib.hid (js_rec inv.out.js (by simp))
            generalize jrec 14 ⟨base, [], -1⟩ = r at *
            obtain ⟨⟨base2, ws2, c2⟩, e2⟩ := r
            have he2 := hrr.2.2 (by omega)
            obtain ⟨hw2, hq2⟩ := hrr.2.1 he2
            simp only at he2 hw2 hq2
            subst he2 hw2
            clear hrr hbl inv HK hlt
            go_wp2_with fail
            refine HRE.out.mono ?_
            rintro e w8 ⟨rfl, h8⟩
            have hg := js_get h8
            have e3 : image base2 [] = base2 := rfl
            simp only [e3] at hg
            have hl : ∃ l, jget 14 base2 = (l, 0) ∧ (l = text ∨ e6 ≠ 0 ∧ l = old) := by
              rcases hq2 with hq | hq
              · refine ⟨_, get_there (by omega) FS6.out hq, ?_⟩
                unfold sureT
                split
                · exact .inl rfl
                · rename_i hne
                  exact .inr ⟨hne, rfl⟩
              · exact ⟨_, get_there (by omega) FT.out hq, .inl rfl⟩
            obtain ⟨l, hl1, hl2⟩ := hl
            rw [hl1] at hg
            have HG := Lib.hid hg; clear hg h8 e3 hq2 hl1 HRE
            go_wp2_with fail
            refine HG.out.mono ?_
            rintro e w9 ⟨⟨ao, cap, rfl, hll, _, _, _, _⟩, h9⟩
            have hs1 := run_string_of (P := Try.prog) w9 35 9 5 Try.underlying35 Try.underlying5 Try.underlying9 cap l.length rfl hll
            have hs2 := run_string_of (P := Try.prog) w9 35 9 5 Try.underlying35 Try.underlying5 Try.underlying9 tc text.length rfl (HLT.out.below h9.bel)
            have hs3 := run_string_of (P := Try.prog) w9 35 9 5 Try.underlying35 Try.underlying5 Try.underlying9 oc old.length rfl (HLO.out.below h9.bel)
            have HB := Lib.hid h9.bel; clear h9 hll HG
            by_cases h6 : e6 = 0
            · have h6b : (e6 == 0) = true := by simp [h6]
              have hlt : l = text := by
                rcases hl2 with h | h
                · exact h
                · exact absurd h6 h.1
              subst hlt
              have hq : ((bs l).toList == (bs l).toList) = true := by simp
              clear hl2 h6
              go_wp2
              go_ret
              exact ⟨by simp, HB.out⟩
            · have h6b : (e6 == 0) = false := by simp [h6]
              by_cases hlt : l = text
              · subst hlt
                have hq : ((bs l).toList == (bs l).toList) = true := by simp
                clear hl2 h6
                go_wp2
                go_ret
                exact ⟨by simp, HB.out⟩
              · have hlo : l = old := by
                  rcases hl2 with h | h
                  · exact absurd h hlt
                  · exact h.2
                have hq : ((bs l).toList == (bs text).toList) = false := by rw [bs_eq]; simp [hlt]
                have hq2 : ((bs l).toList == (bs old).toList) = true := by rw [bs_eq]; simp [hlo]
                clear hl2 h6 hlt hlo
                go_wp2
                go_ret
                exact ⟨by simp, HB.out⟩

end Go.Proofs.Ytobikgcoekiboaa
