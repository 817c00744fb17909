/-
  JournalTwice: the walk.
-/
import Derived.Test.YtobikgcoekiboaaL4c
namespace Go.Proofs.Ytobikgcoekiboaa
open Go.RowKit Go.Mk

theorem lies_drew {w : World} {B : Nat} {ao : Option Addr} {vs : List Value} (h : Lies w B ao vs) : Lies w.drew B ao vs := h.kept (S := fun _ => False) (Kept.drew (Kept.refl _ w)) (fun _ _ _ h => h)

def FC.cells (f : FC) : Array Value := #[.int .i64 f.p, .slice f.ka f.kl.length f.kc, .int .i64 f.n, .int .i64 f.m]

/-- A disk, and bytes beside it. -/
def JSL (W0 w : World) (b n : Nat) (s : DS) (ao : Option Addr) (l : List UInt8) : Prop :=
  ∃ D, DkS w D b n s ∧ (∀ k, D k → W0.heap.size ≤ k) ∧ Below W0.heap.size W0 w ∧ Lies w w.heap.size ao (l.map bv) ∧ (l ≠ [] → ∀ a, ao = some a → ¬ D a.block)

section
variable {W0 w : World} {b n : Nat} {s : DS} {ao : Option Addr} {l : List UInt8}
theorem JSL.js (h : JSL W0 w b n s ao l) : JS W0 w b n s := by obtain ⟨D, h1, h2, h3, _⟩ := h; exact ⟨D, h1, h2, h3⟩
theorem JSL.lies (h : JSL W0 w b n s ao l) : Lies w w.heap.size ao (l.map bv) := by obtain ⟨D, _, _, _, h, _⟩ := h; exact h
theorem JSL.fresh {w' : World} (h : JSL W0 w b n s ao l) (hb : Below w.heap.size w w') : JSL W0 w' b n s ao l := by
  obtain ⟨D, h1, h2, h3, h4, h5⟩ := h
  exact ⟨D, Dk.fresh h1 hb, h2, h3.trans (hb.mono h3.size), (h4.below hb).mono hb.size, h5⟩
theorem jsl_get (h : JS W0 w b n s) :
    Calls Try.prog 27 #[.pointer (some ⟨b, 0, none⟩)] w fun e w' => ∃ ao cap, e = .returned (.tuple #[.slice ao (jget n (image s.base s.ws)).1.length cap, .int .i64 (jget n (image s.base s.ws)).2]) ∧ JSL W0 w' b n s ao (jget n (image s.base s.ws)).1 := by
  obtain ⟨D, h1, h2, h3⟩ := h
  refine (jget_any h1).mono ?_
  rintro e w' ⟨ao, cap, rfl, hl, hn, _, _, hb⟩
  exact ⟨ao, cap, rfl, D, Dk.fresh h1 hb, h2, h3.trans (hb.mono h3.size), hl, fun hne a ha hD => by have := hn hne a ha; have := Dk.lt h1 _ hD; omega⟩
theorem jsl_image (h : JSL W0 w b n s ao l) : Calls Try.prog 29 #[.pointer (some ⟨b, 0, none⟩)] w fun e w' => ∃ ai cap, e = .returned (.slice ai (64 * n) cap) ∧
    Lies w' w'.heap.size ai ((image s.base s.ws).map bv) ∧ (image s.base s.ws).length = 64 * n ∧ JSL W0 w' b n s ao l := by
  have hh := h
  obtain ⟨D, h1, h2, h3, _⟩ := h
  refine (dimage_any h1).mono ?_
  rintro e w' ⟨ai, cap, rfl, ho, hb⟩
  exact ⟨ai, cap, rfl, owns_lies ho, h1.ilen, hh.fresh hb⟩
theorem jsl_rec (h : JSL W0 w b n s ao l) (hp : s.ws.length ≤ 900000) :
    Calls Try.prog 15 #[.pointer (some ⟨b, 0, none⟩)] w fun e w' => e = .returned (.int .i64 (jrec n s).2) ∧ JSL W0 w' b n (jrec n s).1 ao l := by
  obtain ⟨D, h1, h2, h3, h4, h5⟩ := h
  refine (jrec_any h1 hp).mono ?_
  rintro e w' ⟨rfl, D', g1, g2, g3⟩
  refine ⟨rfl, D', g1, fun k hk => (g2 k hk).elim (h2 k) (fun h => Nat.le_trans h3.size h), h3.trans (g3.below h3.size h2), (h4.kept g3 (fun hne a ha => h5 (by simpa using hne) a ha)).mono g3.size, fun hne a ha hD => ?_⟩
  rcases g2 _ hD with h | h
  · exact h5 hne a ha h
  · obtain ⟨b', o', e', hlt, _⟩ := h4 (by simpa using hne)
    rw [e'] at ha; cases ha
    simp only at h
    omega
end

/-- What holds between two texts: the last one is there. -/
structure TwI (W0 wr : World) (b : Nat) (last base : List UInt8) (c : Int) : Prop where
  js : JS W0 wr b 14 ⟨base, [], c⟩
  jq : JQ 14 last base
  fit : fitT 14 last

/-- Behind Put, a crash and a Recover. -/
theorem twice_rec {last new base : List UInt8} (ho : fitT 14 last) (hn : fitT 14 new) (hQ : JQ 14 last base) (p : Int) (keep : List Bool) (torn octets : Int) (r : DS × Int) (hr : r = jrec 14 ⟨crash keep torn (octs octets) 0 (jput 14 new ⟨base, [], p⟩).1.ws (jput 14 new ⟨base, [], p⟩).1.base, [], -1⟩) :
    r.2 = 0 ∧ r.1.ws = [] ∧ ∃ l, fitT 14 l ∧ JQ 14 l r.1.base ∧ (l = new ∨ (jput 14 new ⟨base, [], p⟩).2 ≠ 0 ∧ l = last) := by
  have h := rec_run (n := 14) (by decide) hn (crash_put ho hn hQ p keep torn octets) (-1)
  rw [← hr] at h
  have h2 := h.2.2 (by omega)
  obtain ⟨h3, h4⟩ := h.2.1 h2
  refine ⟨h2, h3, ?_⟩
  rcases h4 with h4 | h4
  · refine ⟨_, ?_, h4, ?_⟩
    · unfold sureT
      split
      · exact hn
      · exact ho
    · unfold sureT
      split
      · exact .inl rfl
      · rename_i hne
        exact .inr ⟨hne, rfl⟩
  · exact ⟨new, hn, h4, .inl rfl⟩

set_option maxRecDepth 100000 in
set_option maxHeartbeats 4000000 in
theorem twice_walk (fa : Option Addr) (fc : Nat) (ts : List TX) (f : FC) (w : World) (h : Txs w w.heap.size fa ts) (hks : Lies w w.heap.size f.ka (f.kl.map .bool)) (hkm : f.kl.length ≤ maxLen) (hrg : i64R f.p ∧ i64R f.n ∧ i64R f.m) :
    Calls Try.prog 6 #[.slice fa ts.length fc, .agg f.cells] w fun e w' => e = .returned (.bool true) ∧ Below w.heap.size w w' := by
  have hlen := h.len
  unfold maxLen at hlen hkm
  unfold FC.cells
  have H := Lib.hid h; have HKS := Lib.hid hks; clear h hks
  have bb : Below w.heap.size w (w.alloc (.cells #[.int .i64 f.p, .slice f.ka f.kl.length f.kc, .int .i64 f.n, .int .i64 f.m] 57)) := (Below.refl _ _).alloc (Nat.le_refl _) _
  have BB := Lib.hid bb; clear bb
  by_cases h1 : 8 < ts.length
  · go_enter Try.func6, Try.ntmps6
    go_wp2_with fail
    refine (awake4_any _).mono ?_
    rintro e w1 ⟨rfl, b1⟩
    have k0 : w1.cell? ⟨w.heap.size, 1, none⟩ = some (.slice f.ka f.kl.length f.kc) := (b1.cell (p := ⟨w.heap.size, 1, none⟩) (by simp)).trans (World.cell?_alloc_new w _ _ 1)
    have B1 := Lib.hid (BB.out.trans (b1.mono BB.out.size)); clear b1
    go_wp2_with fail
    refine (awake4_any w1).mono ?_
    rintro e w2 ⟨rfl, b2⟩
    have B2 := Lib.hid (B1.out.trans (b2.mono B1.out.size)); clear b2
    go_wp2
    go_ret
    exact ⟨rfl, B2.out⟩
  by_cases h2 : 60 < f.kl.length
  · go_enter Try.func6, Try.ntmps6
    go_wp2_with fail
    refine (awake4_any _).mono ?_
    rintro e w1 ⟨rfl, b1⟩
    have k0 : w1.cell? ⟨w.heap.size, 1, none⟩ = some (.slice f.ka f.kl.length f.kc) := (b1.cell (p := ⟨w.heap.size, 1, none⟩) (by simp)).trans (World.cell?_alloc_new w _ _ 1)
    have B1 := Lib.hid (BB.out.trans (b1.mono BB.out.size)); clear b1
    go_wp2_with fail
    refine (awake4_any w1).mono ?_
    rintro e w2 ⟨rfl, b2⟩
    have B2 := Lib.hid (B1.out.trans (b2.mono B1.out.size)); clear b2
    go_wp2
    go_ret
    exact ⟨rfl, B2.out⟩
  have hcb : ∀ i v, (#[Value.int .i64 f.p, .slice f.ka f.kl.length f.kc, .int .i64 f.n, .int .i64 f.m])[i]? = some v → (w.alloc (.cells #[.int .i64 f.p, .slice f.ka f.kl.length f.kc, .int .i64 f.n, .int .i64 f.m] 57)).cell? ⟨w.heap.size, i, none⟩ = some v := fun i v hv => (World.cell?_alloc_new w _ _ i).trans hv
  have fn : fitT 14 [] := ⟨by decide, by decide⟩
  have FN := Lib.hid fn; clear fn
  go_enter Try.func6, Try.ntmps6
  go_wp2_with fail
  have hks0 := (HKS.out.below BB.out).mono BB.out.size
  have hH0 := H.out.below BB.out
  have hwb : w.heap.size < (w.alloc (.cells #[.int .i64 f.p, .slice f.ka f.kl.length f.kc, .int .i64 f.n, .int .i64 f.m] 57)).heap.size := by simp
  generalize (w.alloc (.cells #[.int .i64 f.p, .slice f.ka f.kl.length f.kc, .int .i64 f.n, .int .i64 f.m] 57)) = W0 at *
  have HK0 := Lib.hid hks0; have H0 := Lib.hid hH0; have HCB := Lib.hid hcb
  clear hks0 hH0 hcb H HKS
  refine (awake4_any _).mono ?_
  rintro e w1 ⟨rfl, b1⟩
  have k0 : w1.cell? ⟨w.heap.size, 1, none⟩ = some (.slice f.ka f.kl.length f.kc) := (b1.cell (p := ⟨w.heap.size, 1, none⟩) hwb).trans (HCB.out 1 _ rfl)
  have HNEW := Lib.hid (js_new b1 14 (by omega) (by omega) 14 rfl)
  have B1 := Lib.hid b1; clear b1
  go_wp2_with fail
  refine HNEW.out.mono ?_
  rintro e w2 ⟨b, rfl, h2⟩
  have hf := js_format h2 none 0 0 [] rfl (Lies.nil _ _ _) (by simp)
  have hr := format_run (n := 14) (t := []) (base := List.replicate (64 * 14) 0) (by simp) FN.out (-1) (by omega)
  generalize jformat 14 [] ⟨List.replicate (64 * 14) 0, [], -1⟩ = r at *
  obtain ⟨⟨base, ws, c⟩, e0⟩ := r
  obtain ⟨hr1, hr2, hr3, hr4⟩ := hr
  simp only at hr1 hr2 hr3 hr4
  subst hr1 hr2
  have HF := Lib.hid hf; have HQ := Lib.hid hr4; clear hf hr3 hr4 h2 HNEW k0
  go_wp2_with fail
  refine HF.out.mono ?_
  rintro e w3 ⟨rfl, h3⟩
  have INV : Hid (TwI W0 w3 b [] base c) := Lib.hid ⟨h3, HQ.out, FN.out⟩
  clear h3 HQ HF
  go_wp2_with fail
  go_loopg [7, 8] ts.length (fun k v7 v8 wr => ∃ (j : Nat) (last base : List UInt8) (c : Int), k = ts.length - j ∧ j ≤ ts.length ∧ v8 = .int .i64 (j : Int) ∧ v7 = .string (bs last) ∧ Hid (TwI W0 wr b last base c))
  case atStart => exact ⟨0, [], base, c, rfl, Nat.zero_le _, rfl, rfl, INV⟩
  case round =>
    obtain ⟨j, last, base, c, hk, hj, rfl, rfl, inv⟩ := hrel
    have HK := Lib.hid hk; clear hk INV
    by_cases hlt : j < ts.length
    · obtain ⟨ab, aof, rfl, hab, hc⟩ := H0.out.at_ (by intro e; rw [e] at hlt; simp at hlt)
      have hab' := Nat.lt_trans hab hwb
      have hcj := hc j hlt
      have hL := H0.out.ls ts[j] (List.getElem_mem hlt)
      have hlm := H0.out.lens ts[j] (List.getElem_mem hlt)
      unfold maxLen at hlm
      generalize ts[j] = t at *
      have c0 : wr.cell? ⟨ab, aof + j, none⟩ = some (.slice t.a t.l.length t.c) := (inv.out.js.bel.cell (p := ⟨ab, _, none⟩) hab').trans hcj
      have HL := Lib.hid hL; have HCJ := Lib.hid hcj
      clear hc hL hab hcj
      have hL1 : Lies wr wr.heap.size t.a (t.l.map bv) := ((HL.out.below (inv.out.js.bel.mono (Nat.le_of_lt hwb)))).mono (Nat.le_trans (Nat.le_of_lt hwb) inv.out.js.bel.size)
      by_cases hbig : 372 < t.l.length
      · have hpu := js_put inv.out.js t.a t.l.length t.c t.l rfl hL1 (by simp)
        have hfe : jfits 14 t.l = 21 := by unfold jfits; rw [show areaN 14 = 6 from rfl, if_neg (by omega), if_pos (by omega)]
        have hpe : jput 14 t.l ⟨base, [], c⟩ = (⟨base, [], c⟩, 21) := by unfold jput; rw [hfe, if_pos (by omega)]
        rw [hpe] at hpu
        have HPU := Lib.hid hpu; clear hpu hfe hpe hL1
        go_wp2_with fail
        refine HPU.out.mono ?_
        rintro e w4 ⟨rfl, h4⟩
        have INV4 : Hid (TwI W0 w4 b last base c) := Lib.hid ⟨h4, inv.out.jq, inv.out.fit⟩
        clear h4 HPU
        go_wp2
        go_roundg (ts.length - (j + 1))
        case measure => have := HK.out; omega
        case rel => exact ⟨j + 1, last, base, c, rfl, by omega, by go_num, rfl, INV4⟩
      · have ft : fitT 14 t.l := ⟨by decide, by rw [show areaN 14 = 6 from rfl]; omega⟩
        obtain ⟨hr0, hr1, hr2⟩ := hrg
        have p0 : wr.cell? ⟨w.heap.size, 0, none⟩ = some (.int .i64 f.p) := (inv.out.js.bel.cell (p := ⟨w.heap.size, 0, none⟩) hwb).trans (HCB.out 0 _ rfl)
        have HPW := Lib.hid (js_power inv.out.js f.p hr0); have FT := Lib.hid ft
        clear ft hL1
        go_wp2_with fail
        refine HPW.out.mono ?_
        rintro e w4 ⟨⟨v4, rfl⟩, h4⟩
        have d0 : w4.cell? ⟨ab, aof + j, none⟩ = some (.slice t.a t.l.length t.c) := (h4.bel.cell (p := ⟨ab, _, none⟩) hab').trans HCJ.out
        have hL4 : Lies w4 w4.heap.size t.a (t.l.map bv) := ((HL.out.below (h4.bel.mono (Nat.le_of_lt hwb)))).mono (Nat.le_trans (Nat.le_of_lt hwb) h4.bel.size)
        have HPU := Lib.hid (js_put h4 t.a t.l.length t.c t.l rfl hL4 (by simp))
        clear h4 hL4 HPW p0 c0
        go_wp2_with fail
        refine HPU.out.mono ?_
        rintro e w5 ⟨rfl, h5⟩
        have p1 : w5.cell? ⟨w.heap.size, 1, none⟩ = some (.slice f.ka f.kl.length f.kc) := (h5.bel.cell (p := ⟨w.heap.size, 1, none⟩) hwb).trans (HCB.out 1 _ rfl)
        have p2 : w5.cell? ⟨w.heap.size, 2, none⟩ = some (.int .i64 f.n) := (h5.bel.cell (p := ⟨w.heap.size, 2, none⟩) hwb).trans (HCB.out 2 _ rfl)
        have p3 : w5.cell? ⟨w.heap.size, 3, none⟩ = some (.int .i64 f.m) := (h5.bel.cell (p := ⟨w.heap.size, 3, none⟩) hwb).trans (HCB.out 3 _ rfl)
        have hcr := js_crash (W0 := W0) h5 f.ka f.kl.length f.kc f.kl rfl HK0.out f.n f.m (Nat.le_trans (put_len (n := 14) t.l base f.p (by omega)) (by omega)) (by omega)
        have htw := fun r hr => twice_rec inv.out.fit FT.out inv.out.jq f.p f.kl f.n f.m r hr
        generalize jput 14 t.l ⟨base, [], f.p⟩ = r at *
        obtain ⟨s5, e5⟩ := r
        have HCR := Lib.hid hcr; have HTW := Lib.hid htw; clear hcr htw h5 HPU d0
        go_wp2_with fail
        refine HCR.out.mono ?_
        rintro e w6 ⟨⟨v6, rfl⟩, h6⟩
        have hre := js_rec h6 (by simp)
        have htw := HTW.out _ rfl
        try simp only at hre
        try simp only at htw
        generalize jrec 14 ⟨crash f.kl f.n (octs f.m) 0 s5.ws s5.base, [], -1⟩ = r at *
        obtain ⟨⟨base6, ws6, c6⟩, e6⟩ := r
        obtain ⟨hw1, hw2, l, hl1, hl2, hl3⟩ := htw
        simp only at hw1 hw2 hl2 hl3
        subst hw1 hw2
        have HRE := Lib.hid hre; have HQ := Lib.hid hl2; have HFL := Lib.hid hl1; clear hre hl1 hl2 h6 HCR HTW p1 p2 p3
        go_wp2_with fail
        refine HRE.out.mono ?_
        rintro e w7 ⟨rfl, h7⟩
        have hg := jsl_get h7
        have e3 : image base6 [] = base6 := rfl
        simp only [e3, get_there (by omega) HFL.out HQ.out] at hg
        have HG := Lib.hid hg; clear hg h7 HRE
        go_wp2_with fail
        refine HG.out.mono ?_
        rintro e w8 ⟨ao, cap, rfl, h8⟩
        have him := jsl_image h8
        simp only [e3] at him
        have HIM := Lib.hid him; clear him h8 HG
        go_wp2_with fail
        refine HIM.out.mono ?_
        rintro e w9 ⟨ai, cai, rfl, hli, hil, h9⟩
        have hs9 := run_string_of (P := Try.prog) w9 35 9 5 Try.underlying35 Try.underlying5 Try.underlying9 cai 896 (by rw [hil]) hli
        have hre := jsl_rec h9 (by simp)
        rw [rec_again (by decide) HQ.out] at hre
        have HRE := Lib.hid hre; clear hre h9 hli HIM
        go_wp2_with fail
        refine HRE.out.mono ?_
        rintro e wa ⟨rfl, ha⟩
        have him := jsl_image ha
        simp only [e3] at him
        have HIM := Lib.hid him; clear him ha HRE hs9
        go_wp2_with fail
        refine HIM.out.mono ?_
        rintro e wb ⟨aj, caj, rfl, hlj, _, hb⟩
        have hsb := run_string_of (P := Try.prog) wb 35 9 5 Try.underlying35 Try.underlying5 Try.underlying9 caj 896 (by rw [hil]) hlj
        have hqq : ((bs base6).toList == (bs base6).toList) = true := by simp
        have HB := Lib.hid hb; clear hb hlj HIM
        go_upto_region 22 with fail
        go_cut [113] (fun v wx => v = .bool false ∧ Hid (JSL W0 wx b 14 ⟨base6, [], c6⟩ ao l))
        case first =>
          clear hsb hqq
          have d0 : wb.cell? ⟨ab, aof + j, none⟩ = some (.slice t.a t.l.length t.c) := (HB.out.js.bel.cell (p := ⟨ab, _, none⟩) hab').trans HCJ.out
          have hs1 := run_string_of (P := Try.prog) wb.drew 35 9 5 Try.underlying35 Try.underlying5 Try.underlying9 cap l.length rfl (lies_drew HB.out.lies)
          have hs2 := run_string_of (P := Try.prog) wb.drew 35 9 5 Try.underlying35 Try.underlying5 Try.underlying9 t.c t.l.length rfl (lies_drew (HL.out.below (HB.out.js.bel.mono (Nat.le_of_lt hwb))))
          have HBD : Hid (JSL W0 wb.drew b 14 ⟨base6, [], c6⟩ ao l) := Lib.hid (HB.out.fresh (Below.drew (Below.refl _ _)))
          by_cases hlt' : l = t.l
          · have hq1 : ((bs l).toList == (bs t.l).toList) = true := by rw [bs_eq]; simp [hlt']
            clear hl3 hlt'
            go_wp2_with fail
            go_region
            all_goals go_wp2_with fail
            all_goals go_meet
            all_goals exact ⟨rfl, HBD⟩
          · have hq1 : ((bs l).toList == (bs t.l).toList) = false := by rw [bs_eq]; simp [hlt']
            have hq2 : (e5 == 0) = false := by
              rcases hl3 with h | h
              · exact absurd h hlt'
              · simpa using h.1
            have hq3 : ((bs l).toList == (bs last).toList) = true := by
              rcases hl3 with h | h
              · exact absurd h hlt'
              · rw [bs_eq]; simp [h.2]
            clear hl3 hlt'
            go_wp2_with fail
            go_region
            all_goals go_wp2_with fail
            all_goals go_meet
            all_goals exact ⟨rfl, HBD⟩
        case rest =>
          obtain ⟨rfl, hbc⟩ := hcut
          have hsc := run_string_of (P := Try.prog) wc 35 9 5 Try.underlying35 Try.underlying5 Try.underlying9 cap l.length rfl hbc.out.lies
          have INV4 : Hid (TwI W0 wc b l base6 c6) := Lib.hid ⟨hbc.out.js, HQ.out, HFL.out⟩
          clear hbc hsb hqq HB
          go_wp2
          go_roundg (ts.length - (j + 1))
          case measure => have := HK.out; omega
          case rel => exact ⟨j + 1, l, base6, c6, rfl, by omega, by go_num, rfl, INV4⟩
    · obtain rfl : j = ts.length := by omega
      have HB := Lib.hid (BB.out.trans (inv.out.js.bel.mono (Nat.le_of_lt hwb)))
      clear inv
      go_wp2
      go_ret
      exact ⟨rfl, HB.out⟩

end Go.Proofs.Ytobikgcoekiboaa
