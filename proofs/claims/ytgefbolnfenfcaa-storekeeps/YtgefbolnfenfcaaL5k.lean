/-
  StoreKeeps: the walk.
-/
import Derived.Test.YtgefbolnfenfcaaL5a
import Derived.Deep.CutBlock
import Derived.Deep.DeepCutAuto
namespace Go.Proofs.Ytgefbolnfenfcaa
open Go.RowKit Go.Mk

theorem put_len5 {n : Nat} (t base : List UInt8) (c : Int) (hn : n ≤ 65536) : (jput n t ⟨base, [], c⟩).1.ws.length ≤ 900000 := by
  unfold jput
  split
  · simp
  · rename_i hf
    have hf : jfits n t = 0 := by omega
    have ht := (jfits_zero.1 hf).2
    have hl : (formL (areaN n) t).length = 64 * areaN n := formL_length _ _ (by omega)
    refine Nat.le_trans (DS.run_len _ _) ?_
    have ha : areaN n ≤ 32767 := by unfold areaN; omega
    simp only [putOps, homeOps, List.length_append, blk_length, hl, headL_length, List.length_nil]
    omega

/-- The text that is surely there: the new one, if Save was OK. -/
def sureK (e : Int) (old new : List UInt8) : List UInt8 := if e = 0 then new else old

/-- Save of a store that is not broken, and a crash. -/
theorem crash_save {n : Nat} {old new base : List UInt8} {m : Nat} (ho : fitT n (sealL old)) (hn : fitT n (sealL new)) (hQ : JQ n (sealL old) base) (c : Int) (keep : List Bool) (torn octets : Int) :
    JI n (sealL (sureK (ssaveE n new ⟨old, false, m⟩ ⟨base, [], c⟩) old new)) (sealL new) (crash keep torn (octs octets) 0 (ssaveD n new ⟨old, false, m⟩ ⟨base, [], c⟩).ws (ssaveD n new ⟨old, false, m⟩ ⟨base, [], c⟩).base) := by
  have h := put_run ho hn hQ c
  unfold sureK ssaveE ssaveD
  simp only [Bool.false_eq_true, if_false]
  by_cases e : (jput n (sealL new) ⟨base, [], c⟩).2 = 0
  · rw [if_pos e]
    obtain ⟨h1, h2⟩ := h.2.1 e
    simp only [if_true]
    rw [h1]
    exact h2.ji hn
  · rw [if_neg e, if_neg (by split <;> simp)]
    exact h.1 keep torn octets

/-- What holds between two rounds. -/
structure KI (w wr : World) (b sb : Nat) (su base : List UInt8) (c : Int) : Prop where
  sk : SK w wr b sb 14 ⟨base, [], c⟩ ⟨su, false, 0⟩
  jq : JQ 14 (sealL su) base
  fit : fitT 14 (sealL su)

/-- Behind a crash. -/
structure KC (w wr : World) (b : Nat) (o t base : List UInt8) : Prop where
  js : JS w wr b 14 ⟨base, [], -1⟩
  ji : JI 14 (sealL o) (sealL t) base

theorem fit14 {t : List UInt8} (h : t.length ≤ 300) : fitT 14 (sealL t) := ⟨by decide, by rw [show areaN 14 = 6 from rfl, sealL_length]; omega⟩

set_option maxRecDepth 100000 in
set_option maxHeartbeats 4000000 in
theorem keeps_walk (ta : Option Addr) (tc : Nat) (ts : List TX) (fa : Option Addr) (fc : Nat) (fs : List AC) (w : World)
    (ht : Txs w w.heap.size ta ts) (h : Acts w w.heap.size fa fs) :
    Calls Try.prog 3 #[.slice ta ts.length tc, .slice fa fs.length fc] w fun e w' => e = .returned (.bool true) ∧ Below w.heap.size w w' := by
  have hlen := h.len
  have hlet := ht.len
  unfold maxLen at hlen hlet
  have H := Lib.hid h; have HT := Lib.hid ht; clear h ht
  cases hsm : smallA5 8 fs with
  | false =>
    go_enter Try.func3, Try.ntmps3
    go_wp2_with fail
    refine (awake5_any w).mono ?_
    rintro e w1 ⟨rfl, b1⟩
    have hs1 := small5_any 8 8 rfl fa fc fs w.heap.size w1 (H.out.below b1)
    rw [hsm] at hs1
    have B1 := Lib.hid b1; have HS1 := Lib.hid hs1; clear b1 hs1
    go_wp2_with fail
    refine HS1.out.mono ?_
    rintro e w2 ⟨rfl, rfl⟩
    go_wp2_with fail
    refine (awake5_any w1).mono ?_
    rintro e w2 ⟨rfl, b2⟩
    have B2 := Lib.hid (B1.out.trans (b2.mono B1.out.size)); clear b2
    go_wp2
    go_ret
    exact ⟨rfl, B2.out⟩
  | true =>
    obtain ⟨h8, hsmall⟩ := smallA5_yes hsm
    have HSM := Lib.hid hsmall; clear hsmall
    by_cases ht8 : 8 < ts.length
    · go_enter Try.func3, Try.ntmps3
      go_wp2_with fail
      refine (awake5_any w).mono ?_
      rintro e w1 ⟨rfl, b1⟩
      have hs1 := small5_any 8 8 rfl fa fc fs w.heap.size w1 (H.out.below b1)
      rw [hsm] at hs1
      have B1 := Lib.hid b1; have HS1 := Lib.hid hs1; clear b1 hs1
      go_wp2_with fail
      refine HS1.out.mono ?_
      rintro e w2 ⟨rfl, rfl⟩
      go_wp2_with fail
      refine (awake5_any w1).mono ?_
      rintro e w2 ⟨rfl, b2⟩
      have B2 := Lib.hid (B1.out.trans (b2.mono B1.out.size)); clear b2
      go_wp2
      go_ret
      exact ⟨rfl, B2.out⟩
    have f0 := Lib.hid (fit14 (t := []) (by simp))
    go_enter Try.func3, Try.ntmps3
    go_wp2_with fail
    refine (awake5_any w).mono ?_
    rintro e w1 ⟨rfl, b1⟩
    have hs1 := small5_any 8 8 rfl fa fc fs w.heap.size w1 (H.out.below b1)
    rw [hsm] at hs1
    have B1 := Lib.hid b1; have HS1 := Lib.hid hs1; clear b1 hs1 hsm
    go_wp2_with fail
    refine HS1.out.mono ?_
    rintro e w2 ⟨rfl, rfl⟩
    have HNEW := Lib.hid (js_new B1.out 14 (by omega) (by omega) 14 rfl)
    clear HS1
    go_wp2_with fail
    refine HNEW.out.mono ?_
    rintro e w2 ⟨b, rfl, h2⟩
    have hr := format_run (n := 14) (t := sealL []) (base := List.replicate (64 * 14) 0) (by simp) f0.out (-1) (by omega)
    have hf := fun he => sk_format h2 (Below.refl _ _) none 0 0 [] rfl (Lies.nil _ _ _) (fun h => (h rfl).elim) (by simp) (by simp) he
    generalize jformat 14 (sealL []) ⟨List.replicate (64 * 14) 0, [], -1⟩ = r at *
    obtain ⟨⟨base0, ws, c⟩, e0⟩ := r
    obtain ⟨hr1, hr2, hr3, hr4⟩ := hr
    simp only at hr1 hr2 hr3 hr4
    subst hr1 hr2
    have hf := hf rfl
    have HF := Lib.hid hf; have HQ := Lib.hid hr4; clear hf hr3 hr4 HNEW h2
    go_wp2_with fail
    refine HF.out.mono ?_
    rintro e w3 ⟨sb0, rfl, h3⟩
    have INV0 : Hid (KI w w3 b sb0 [] base0 c) := Lib.hid ⟨h3, HQ.out, f0.out⟩
    clear HQ HF h3
    have he : (⟨#[]⟩ : ByteArray) = bs [] := rfl
    go_wp2_with fail
    go_loopg [7, 9, 11] fs.length (fun q v7 v9 v11 wr => ∃ (j sb : Nat) (su base : List UInt8) (c : Int), q = fs.length - j ∧ j ≤ fs.length ∧ j ≤ ts.length ∧ v7 = .pointer (some ⟨sb, 0, none⟩) ∧ v9 = .string (bs su) ∧ v11 = .int .i64 (j : Int) ∧ Hid (KI w wr b sb su base c))
    case atStart => exact ⟨0, sb0, [], base0, c, rfl, Nat.zero_le _, Nat.zero_le _, rfl, rfl, rfl, INV0⟩
    case round =>
      obtain ⟨j, sb, su, base, c1, hq, hj, hjt, rfl, rfl, rfl, inv⟩ := hrel
      have HQ := Lib.hid hq; clear hq INV0 he
      by_cases hlt : j < ts.length
      · by_cases hlf : j < fs.length
        · obtain ⟨tb, tof, rfl, htb, htw⟩ := HT.out.at_ (by intro e; rw [e] at hlt; simp at hlt)
          obtain ⟨ab, aof, rfl, hab, hcw⟩ := H.out.at_ (by intro e; rw [e] at hlf; simp at hlf)
          have x0 := htw j hlt
          obtain ⟨-, x1, x2, -, x4⟩ := hcw j hlf
          have hls := HT.out.ls ts[j] (List.getElem_mem hlt)
          have hln := HT.out.lens ts[j] (List.getElem_mem hlt)
          have hks := (H.out.bs fs[j] (List.getElem_mem hlf)).2
          have hkl := (HSM.out fs[j] (List.getElem_mem hlf)).2
          have hrg := H.out.rng fs[j] (List.getElem_mem hlf)
          clear htw hcw
          generalize ts[j] = t at *
          generalize fs[j] = f at *
          unfold maxLen at hln
          obtain ⟨hr1, hr2⟩ := hrg
          have c0 : wr.cell? ⟨tb, tof + j, none⟩ = some (.slice t.a t.l.length t.c) := (inv.out.sk.bel.cell (p := ⟨tb, _, none⟩) htb).trans x0
          by_cases h300 : 300 < t.l.length
          · have HB := Lib.hid inv.out.sk.bel
            clear x1 x2 x4 hks
            go_wp2
            go_ret
            exact ⟨rfl, HB.out⟩
          · have ft := Lib.hid (fit14 (t := t.l) (by omega))
            have c1 : wr.cell? ⟨ab, aof + j * 5 + 1, none⟩ = some (.int .i64 f.n) := (inv.out.sk.bel.cell (p := ⟨ab, _, none⟩) hab).trans x1
            have HPW := Lib.hid (sk_power inv.out.sk f.n hr1)
            have HX := Lib.hid (And.intro x0 (And.intro x2 x4)); have HLS := Lib.hid hls; have HKS := Lib.hid hks; have HR := Lib.hid (And.intro hr1 hr2)
            clear x0 x1 x2 x4 hls hks hr1 hr2
            go_wp2_with fail
            refine HPW.out.mono ?_
            rintro e w4 ⟨⟨v4, rfl⟩, h4⟩
            have hl4 : Lies w4 w4.heap.size t.a (t.l.map bv) := (HLS.out.below h4.bel).mono h4.bel.size
            have d0 : w4.cell? ⟨tb, tof + j, none⟩ = some (.slice t.a t.l.length t.c) := (h4.bel.cell (p := ⟨tb, _, none⟩) htb).trans HX.out.1
            have hs4 := run_string_of (P := Try.prog) w4 33 9 5 Try.underlying33 Try.underlying5 Try.underlying9 t.c t.l.length rfl hl4
            have HSV := Lib.hid (sk_save h4 (Below.refl _ _) t.a t.c t.l.length t.l rfl hl4 (Away.lies HLS.out (Nat.le_refl _)) (by omega) (by simp) (by simp))
            have hji := fun keep torn octets => crash_save (m := 0) inv.out.fit ft.out inv.out.jq f.n keep torn octets
            have hpl := put_len5 (n := 14) (sealL t.l) base f.n (by omega)
            have hpl : (ssaveD 14 t.l ⟨su, false, 0⟩ ⟨base, [], f.n⟩).ws.length ≤ 900000 := hpl
            have HJI := Lib.hid hji; have FS := Lib.hid inv.out.fit
            clear hji HPW c0 c1 h4 hl4
            generalize ssaveX 14 t.l ⟨su, false, 0⟩ ⟨base, [], f.n⟩ = x5 at HSV
            generalize ssaveD 14 t.l ⟨su, false, 0⟩ ⟨base, [], f.n⟩ = s5 at *
            generalize ssaveE 14 t.l ⟨su, false, 0⟩ ⟨base, [], f.n⟩ = e5 at *
            go_wp2_with fail
            refine HSV.out.mono ?_
            rintro e w5 ⟨rfl, h5⟩
            have H5 := Lib.hid h5; clear h5 hs4 d0 HSV
            go_upto_if 78 with fail
            go_cut [9] (fun v9 wx => v9 = .string (bs (sureK e5 su t.l)) ∧ w5 = wx)
            case first =>
              by_cases he5 : e5 = 0
              · have hb5 : (e5 == 0) = true := by simpa using he5
                have HS := Lib.hid (show sureK e5 su t.l = t.l by unfold sureK; rw [if_pos he5])
                clear he5
                go_wp2_with fail
                go_meet
                case rel => exact ⟨by rw [HS.out], rfl⟩
              · have hb5 : (e5 == 0) = false := by simpa using he5
                have HS := Lib.hid (show sureK e5 su t.l = su by unfold sureK; rw [if_neg he5])
                clear he5
                go_wp2_with fail
                go_meet
                case rel => exact ⟨by rw [HS.out], rfl⟩
            case rest =>
              obtain ⟨rfl, rfl⟩ := hcut
              have fsk : fitT 14 (sealL (sureK e5 su t.l)) := by
                unfold sureK
                split
                · exact ft.out
                · exact FS.out
              have FSK := Lib.hid fsk; clear fsk
              generalize sureK e5 su t.l = sk at *
              have hcr := js_crash (W0 := w) H5.out.js.drew f.ka f.kl.length f.kc f.kl rfl HKS.out f.m 9 (by omega) (by omega)
              have c4 : w5.cell? ⟨ab, aof + j * 5 + 4, none⟩ = some (.slice f.ka f.kl.length f.kc) := (H5.out.bel.cell (p := ⟨ab, _, none⟩) hab).trans HX.out.2.2
              have c2 : w5.cell? ⟨ab, aof + j * 5 + 2, none⟩ = some (.int .i64 f.m) := (H5.out.bel.cell (p := ⟨ab, _, none⟩) hab).trans HX.out.2.1
              have HCR := Lib.hid hcr; clear hcr H5
              go_upto_region 17 with fail
              go_cut [] (fun wx => ∃ base, Hid (KC w wx b sk t.l base))
              case first =>
                go_region_with (go_at_call 10; refine HCR.out.mono ?_; rintro e w7 ⟨⟨v7, rfl⟩, h7⟩; have H7 : Hid (KC w w7 b sk t.l _) := Lib.hid ⟨h7, HJI.out f.kl f.m 9⟩; clear h7)
                all_goals go_wp2_with fail
                all_goals go_meet
                all_goals exact ⟨_, H7⟩
              case rest =>
                obtain ⟨base7, inv7⟩ := hcut
                clear HCR HJI c2 c4 HX HKS hkl HR hpl
                obtain ⟨base8, ho1, ho2, ho3, ho4⟩ := open_run (n := 14) (by omega) FSK.out ft.out inv7.out.ji
                have hop := sk_open inv7.out.js (by simp) ho3
                generalize (jrec 14 ⟨base7, [], -1⟩).1 = s8 at *
                obtain ⟨bb, ws8, c8⟩ := s8
                simp only at ho1 ho2
                subst ho1 ho2
                generalize sopenT 14 ⟨base7, [], -1⟩ = l at *
                have HOP := Lib.hid hop; have HO4 := Lib.hid ho4; clear hop ho4 ho3 inv7
                go_wp2_with fail
                refine HOP.out.mono ?_
                rintro e w8 ⟨sb2, rfl, h8⟩
                have HT8 := Lib.hid (sk_text h8); clear h8 HOP
                simp only at HT8
                go_wp2_with fail
                refine HT8.out.mono ?_
                rintro e w9 ⟨a9, k9, rfl, hl9, h9⟩
                have hs9 := run_string_of (P := Try.prog) w9 33 9 5 Try.underlying33 Try.underlying5 Try.underlying9 k9 l.length rfl hl9
                have HT9 := Lib.hid (sk_text h9); have H9 := Lib.hid h9; clear h9 HT8
                simp only at HT9
                by_cases hls : l = sk
                · subst hls
                  have hq : ((bs l).toList == (bs l).toList) = true := by simp
                  have hI : JQ 14 (sealL l) bb := by
                    rcases HO4.out with h | h
                    · exact h.2
                    · rw [h.1]; exact h.2
                  have HI := Lib.hid hI; clear hI
                  go_wp2_with fail
                  refine HT9.out.mono ?_
                  rintro e w10 ⟨a10, k10, rfl, hl10, h10⟩
                  have hs10 := run_string_of (P := Try.prog) w10 33 9 5 Try.underlying33 Try.underlying5 Try.underlying9 k10 l.length rfl hl10
                  have INV : Hid (KI w w10 b sb2 l bb c8) := Lib.hid ⟨h10, HI.out, FSK.out⟩
                  clear h10
                  go_wp2
                  go_roundg (fs.length - (j + 1))
                  case measure => have := HQ.out; omega
                  case rel => exact ⟨j + 1, sb2, l, bb, c8, rfl, by omega, by omega, rfl, rfl, by go_num, INV⟩
                · have hlt' : l = t.l := by
                    rcases HO4.out with h | h
                    · exact absurd h.1 hls
                    · exact h.1
                  have hq : ((bs l).toList == (bs sk).toList) = false := by rw [bs_eq]; simp [hls]
                  have hq2 : ((bs l).toList == (bs t.l).toList) = true := by rw [bs_eq]; simp [hlt']
                  have hI : JQ 14 (sealL l) bb := by
                    rcases HO4.out with h | h
                    · exact absurd h.1 hls
                    · rw [h.1]; exact h.2
                  have HI := Lib.hid hI; have HLT := Lib.hid hlt'; clear hI hls hlt'
                  go_wp2_with fail
                  refine HT9.out.mono ?_
                  rintro e w10 ⟨a10, k10, rfl, hl10, h10⟩
                  have hs10 := run_string_of (P := Try.prog) w10 33 9 5 Try.underlying33 Try.underlying5 Try.underlying9 k10 l.length rfl hl10
                  have HT10 := Lib.hid (sk_text h10); clear h10
                  simp only at HT10
                  go_wp2_with fail
                  refine HT10.out.mono ?_
                  rintro e w11 ⟨a11, k11, rfl, hl11, h11⟩
                  have hs11 := run_string_of (P := Try.prog) w11 33 9 5 Try.underlying33 Try.underlying5 Try.underlying9 k11 l.length rfl hl11
                  have INV : Hid (KI w w11 b sb2 l bb c8) := Lib.hid ⟨h11, HI.out, by rw [HLT.out]; exact ft.out⟩
                  clear h11
                  go_wp2
                  go_roundg (fs.length - (j + 1))
                  case measure => have := HQ.out; omega
                  case rel => exact ⟨j + 1, sb2, l, bb, c8, rfl, by omega, by omega, rfl, rfl, by go_num, INV⟩
        · have HB := Lib.hid inv.out.sk.bel
          go_wp2
          go_ret
          exact ⟨rfl, HB.out⟩
      · have HB := Lib.hid inv.out.sk.bel
        go_wp2
        go_ret
        exact ⟨rfl, HB.out⟩

end Go.Proofs.Ytgefbolnfenfcaa
