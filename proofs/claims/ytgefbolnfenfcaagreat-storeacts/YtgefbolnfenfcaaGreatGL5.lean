/-
  Lemmas towards the claim of this folder: contracts of the functions that the law reaches; joined texts.
-/
import Derived.Test.YtgefbolnfenfcaaGreatGSa
import Derived.Test.YtgefbolnfenfcaaGreatL4
import Derived.Test.YtgefbolnfenfcaaGreatL4f
/-
  The laws of layer 5: a store on a disk that a call has made itself, and all that is done on it; awake.
-/
namespace Go.Proofs.YtgefbolnfenfcaaGreat
open Go.RowKit Go.Mk

theorem open_seal (t : List UInt8) : openB (sealL t) = (t, 0) := by
  have h1 : (sealL t).length = t.length + 4 := sealL_length t
  unfold openB
  rw [if_neg (by omega), show (sealL t).length - 4 = t.length by omega]
  have h2 : (sealL t).drop t.length = le4 (sumN t) := by unfold sealL; simp
  have h3 : (sealL t).take t.length = t := by unfold sealL; simp
  rw [h2, h3, leN_le4 (sumN_lt t), if_pos rfl]

/-- A store on a disk, both made behind the world W0. -/
def SK (W0 w : World) (b sb n : Nat) (s : DS) (x : SS) : Prop :=
  ∃ D C, DkS w D b n s ∧ St w C sb b x ∧ (∀ k, D k → ¬ C k) ∧ (∀ k, D k → W0.heap.size ≤ k) ∧ (∀ k, C k → W0.heap.size ≤ k) ∧ Below W0.heap.size W0 w

/-- What is given lies where neither is. -/
def Away (W0 w1 : World) (ao : Option Addr) (t : List UInt8) : Prop := t ≠ [] → ∀ a, ao = some a → a.block < W0.heap.size ∨ w1.heap.size ≤ a.block

section
variable {W0 w w1 : World} {b sb n : Nat} {s : DS} {x : SS}

theorem SK.bel (h : SK W0 w b sb n s x) : Below W0.heap.size W0 w := by obtain ⟨_, _, _, _, _, _, _, h⟩ := h; exact h
theorem SK.js (h : SK W0 w b sb n s x) : JS W0 w b n s := by obtain ⟨D, C, h1, h2, h3, h4, h5, h6⟩ := h; exact ⟨D, h1, h4, h6⟩
theorem SK.fresh {w' : World} (h : SK W0 w b sb n s x) (hb : Below w.heap.size w w') : SK W0 w' b sb n s x := by
  obtain ⟨D, C, h1, h2, h3, h4, h5, h6⟩ := h
  exact ⟨D, C, Dk.fresh h1 hb, h2.fresh hb, h3, h4, h5, h6.trans (hb.mono h6.size)⟩

theorem Away.lies {B : Nat} {w : World} {ao : Option Addr} {t : List UInt8} (h : Lies w B ao (t.map bv)) (hB : B ≤ W0.heap.size) : Away W0 w1 ao t := by
  intro hne a ha
  obtain ⟨b', o', e, hlt, _⟩ := h (by simpa using hne)
  rw [e] at ha; cases ha
  exact .inl (by simp only; omega)

theorem SMade.sk {D : Nat → Prop} {s' : DS} {er : Int} {e : Ending} {w' : World} (hD : ∀ k, D k → W0.heap.size ≤ k) (hb : Below W0.heap.size W0 w) (he : er = 0) (h : SMade w D b n s' er x e w') :
    ∃ sb, e = .returned (.tuple #[.pointer (some ⟨sb, 0, none⟩), .int .i64 0]) ∧ SK W0 w' b sb n s' x := by
  obtain ⟨D', h1, h2, h3, h4⟩ := h
  rcases h4 with h4 | ⟨_, sb, C, h5, h6, h7, h8⟩
  · exact absurd he h4.1
  · exact ⟨sb, h5, D', C, h1, h6, h8, fun k hk => (h2 k hk).elim (hD k) (fun h => Nat.le_trans hb.size h), fun k hk => Nat.le_trans hb.size (h7 k hk), hb.trans (h3.below hb.size hD)⟩

theorem sk_format (h : JS W0 w1 b n s) (hb : Below w1.heap.size w1 w) (ao : Option Addr) (cap len : Nat) (t : List UInt8) (hlen : len = t.length) (hL : Lies w w.heap.size ao (t.map bv)) (hn : Away W0 w1 ao t) (ht : t.length ≤ 1000000) (hp : s.ws.length ≤ 900000) (he : (jformat n (sealL t) s).2 = 0) :
    Calls Tryz.prog 17 #[.pointer (some ⟨b, 0, none⟩), .slice ao len cap] w fun e w' => ∃ sb, e = .returned (.tuple #[.pointer (some ⟨sb, 0, none⟩), .int .i64 0]) ∧ SK W0 w' b sb n (jformat n (sealL t) s).1 ⟨t, false, 0⟩ := by
  subst hlen
  obtain ⟨D, h1, h2, h3⟩ := h
  refine (sformat_any (Dk.fresh h1 hb) ao cap t hL (fun hne a ha hd => ?_) ht hp).mono ?_
  · have := h1.lt _ hd
    have := h2 _ hd
    rcases hn hne a ha with h | h <;> omega
  · intro e w' hm
    exact SMade.sk h2 (h3.trans (hb.mono h3.size)) he hm

theorem sk_open (h : JS W0 w b n s) (hp : s.ws.length ≤ 900000) (he : sopenE n s = 0) :
    Calls Tryz.prog 15 #[.pointer (some ⟨b, 0, none⟩)] w fun e w' => ∃ sb, e = .returned (.tuple #[.pointer (some ⟨sb, 0, none⟩), .int .i64 0]) ∧ SK W0 w' b sb n (jrec n s).1 ⟨sopenT n s, false, 0⟩ := by
  obtain ⟨D, h1, h2, h3⟩ := h
  refine (sopen_any h1 hp).mono ?_
  intro e w' hm
  exact SMade.sk h2 h3 he hm

theorem sk_save (h : SK W0 w1 b sb n s x) (hb : Below w1.heap.size w1 w) (ao : Option Addr) (cap len : Nat) (t : List UInt8) (hlen : len = t.length) (hL : Lies w w.heap.size ao (t.map bv)) (hn : Away W0 w1 ao t) (ht : t.length ≤ 1000000) (hx : x.saves ≤ 1000000) (hp : s.ws.length ≤ 900000) :
    Calls Tryz.prog 9 #[.pointer (some ⟨sb, 0, none⟩), .slice ao len cap] w fun e w' => e = .returned (.int .i64 (ssaveE n t x s)) ∧ SK W0 w' b sb n (ssaveD n t x s) (ssaveX n t x s) := by
  subst hlen
  obtain ⟨D, C, h1, h2, h3, h4, h5, h6⟩ := h
  refine (ssave_any (Dk.fresh h1 hb) (h2.fresh hb) h3 ao cap t hL (fun hne a ha hd => ?_) ht hx hp).mono ?_
  · have := h1.lt _ hd
    have := h4 _ hd
    rcases hn hne a ha with h | h <;> omega
  · rintro e w' ⟨rfl, D', C', g1, g2, g3, g4, g5, g6⟩
    have hB := h6.trans (hb.mono h6.size)
    exact ⟨rfl, D', C', g1, g2, g5, fun k hk => (g3 k hk).elim (h4 k) (fun h => Nat.le_trans hB.size h), fun k hk => (g4 k hk).elim (h5 k) (fun h => Nat.le_trans hB.size h), hB.trans (g6.below hB.size (fun k hk => hk.elim (h4 k) (h5 k)))⟩

theorem sk_power (h : SK W0 w b sb n s x) (c : Int) (hc : -9223372036854775808 ≤ c ∧ c ≤ 9223372036854775807) :
    Calls Tryz.prog 11 #[.pointer (some ⟨b, 0, none⟩), .int .i64 c] w fun e w' => (∃ v, e = .returned v) ∧ SK W0 w' b sb n ⟨s.base, s.ws, c⟩ x := by
  obtain ⟨D, C, h1, h2, h3, h4, h5, h6⟩ := h
  refine (dpower_any h1 c hc).mono ?_
  rintro e w' ⟨he, hd, hk⟩
  exact ⟨he, D, C, hd, h2.kept hk (fun k hc' hd' => h3 k hd' hc'), h3, h4, h5, h6.trans (hk.below h6.size h4)⟩

theorem sk_text (h : SK W0 w b sb n s x) :
    Calls Tryz.prog 24 #[.pointer (some ⟨sb, 0, none⟩)] w fun e w' => ∃ ao cap, e = .returned (.slice ao x.text.length cap) ∧ Lies w' w'.heap.size ao (x.text.map bv) ∧ SK W0 w' b sb n s x := by
  have hh := h
  obtain ⟨D, C, h1, h2, h3, h4, h5, h6⟩ := h
  refine (stext_any h2).mono ?_
  rintro e w' ⟨ao, cap, rfl, hl, hb⟩
  exact ⟨ao, cap, rfl, hl, hh.fresh hb⟩

end

/-- Open, where one of two texts is there or will be. -/
theorem open_run {n : Nat} {old new base : List UInt8} (hn : n ≤ 65536) (ho : fitT n (sealL old)) (ht : fitT n (sealL new)) (hI : JI n (sealL old) (sealL new) base) :
    ∃ base', (jrec n ⟨base, [], -1⟩).1.base = base' ∧ (jrec n ⟨base, [], -1⟩).1.ws = [] ∧ sopenE n ⟨base, [], -1⟩ = 0 ∧
      ((sopenT n ⟨base, [], -1⟩ = old ∧ JQ n (sealL old) base') ∨ (sopenT n ⟨base, [], -1⟩ = new ∧ JQ n (sealL new) base')) := by
  have hr := rec_run ht.1 ht hI (-1)
  have he := hr.2.2 (by omega)
  obtain ⟨h1, h2⟩ := hr.2.1 he
  unfold sopenE sopenT
  refine ⟨_, rfl, h1, ?_, ?_⟩
  · rw [if_neg (by simp [he]), h1]
    rcases h2 with h2 | h2
    · have := get_there hn ho h2
      rw [show image (jrec n ⟨base, [], -1⟩).1.base [] = (jrec n ⟨base, [], -1⟩).1.base from rfl, this, open_seal]
      simp
    · have := get_there hn ht h2
      rw [show image (jrec n ⟨base, [], -1⟩).1.base [] = (jrec n ⟨base, [], -1⟩).1.base from rfl, this, open_seal]
      simp
  · rw [h1]
    rcases h2 with h2 | h2
    · have := get_there hn ho h2
      exact .inl ⟨by rw [show image (jrec n ⟨base, [], -1⟩).1.base [] = (jrec n ⟨base, [], -1⟩).1.base from rfl, this, open_seal], h2⟩
    · have := get_there hn ht h2
      exact .inr ⟨by rw [show image (jrec n ⟨base, [], -1⟩).1.base [] = (jrec n ⟨base, [], -1⟩).1.base from rfl, this, open_seal], h2⟩

set_option maxHeartbeats 1000000 in
set_option maxRecDepth 100000 in
theorem awake5_any (w : World) : Calls Tryz.prog 4 #[] w fun e w' => e = .returned (.bool true) ∧ Below w.heap.size w w' := by
  have f1 : fitT 10 (sealL [97]) := ⟨by decide, by rw [sealL_length]; decide⟩
  have f2 : fitT 10 (sealL [98]) := ⟨by decide, by rw [sealL_length]; decide⟩
  have HNEW := Lib.hid (js_new (Below.refl w.heap.size w) 10 (by omega) (by omega) 10 rfl)
  have F1 := Lib.hid f1; have F2 := Lib.hid f2; clear f1 f2
  go_enter Tryz.func4, Tryz.ntmps4
  go_wp2_with fail
  refine HNEW.out.mono ?_
  rintro e w1 ⟨b, rfl, h1⟩
  have H1 := Lib.hid h1; clear h1 HNEW
  have kc := Lib.run_convert_bytes_const (P := Tryz.prog) w1 34 5 #[.int .u8 97] 1 1 Tryz.underlying34 Tryz.underlying5
  have hr := format_run (n := 10) (t := sealL [97]) (base := List.replicate (64 * 10) 0) (by simp) F1.out (-1) (by omega)
  have hf := fun he => sk_format (w := w1.alloc (.cells #[.int .u8 97] 5 (1, 2))) H1.out ((Below.refl _ _).alloc (Nat.le_refl _) _) (some ⟨w1.heap.size, 0, none⟩) 1 1 [97] rfl (lies_mark4 w1 [.int .u8 97] 5 (1, 2)) (fun _ a ha => by cases ha; exact .inr (Nat.le_refl _)) (by simp) (by simp) he
  generalize jformat 10 (sealL [97]) ⟨List.replicate (64 * 10) 0, [], -1⟩ = r at *
  obtain ⟨⟨base, ws, c⟩, e0⟩ := r
  obtain ⟨hr1, hr2, hr3, hr4⟩ := hr
  simp only at hr1 hr2 hr3 hr4
  subst hr1 hr2
  have hf := hf rfl
  have HF := Lib.hid hf; have HC := Lib.hid hr3; have HQ := Lib.hid hr4; clear hf hr3 hr4 H1
  go_wp2_with fail
  refine HF.out.mono ?_
  rintro e w2 ⟨sb, rfl, h2⟩
  clear kc HF
  have kc := Lib.run_convert_bytes_const (P := Tryz.prog) w2 34 5 #[.int .u8 98] 1 1 Tryz.underlying34 Tryz.underlying5
  have hf := sk_save (w := w2.alloc (.cells #[.int .u8 98] 5 (1, 2))) h2 ((Below.refl _ _).alloc (Nat.le_refl _) _) (some ⟨w2.heap.size, 0, none⟩) 1 1 [98] rfl (lies_mark4 w2 [.int .u8 98] 5 (1, 2)) (fun _ a ha => by cases ha; exact .inr (Nat.le_refl _)) (by simp) (by simp) (by simp)
  have hr := put_run (n := 10) F1.out F2.out HQ.out c
  unfold ssaveE ssaveX ssaveD at hf
  generalize jput 10 (sealL [98]) ⟨base, [], c⟩ = r at *
  obtain ⟨⟨base2, ws2, c2⟩, e2⟩ := r
  have he2 := hr.2.2 HC.out
  obtain ⟨hw2, hq2⟩ := hr.2.1 he2
  simp only at he2 hw2 hq2
  subst he2 hw2
  simp only [if_true, Bool.false_eq_true, if_false] at hf
  have HF := Lib.hid hf; have HQ2 := Lib.hid hq2; clear hf hr hq2 h2 HQ HC
  go_wp2_with fail
  refine HF.out.mono ?_
  rintro e w3 ⟨rfl, h3⟩
  clear kc HF
  have hcr := js_crash (W0 := w) h3.js none 0 0 [] rfl (Lies.nil _ _ _) (-1) 0 (by simp) (by simp)
  have ec : crash [] (-1) (octs 0) 0 ([] : List Wt) base2 = base2 := rfl
  simp only [ec] at hcr
  have HCR := Lib.hid hcr; clear hcr h3 ec
  go_wp2_with fail
  refine HCR.out.mono ?_
  rintro e w4 ⟨⟨v4, rfl⟩, h4⟩
  obtain ⟨base', ho1, ho2, ho3, ho4⟩ := open_run (n := 10) (by omega) F2.out F2.out (HQ2.out.ji F2.out)
  have hop := sk_open h4 (by simp) ho3
  have hT : sopenT 10 ⟨base2, [], -1⟩ = [98] := ho4.elim (fun h => h.1) (fun h => h.1)
  rw [hT] at hop
  have HOP := Lib.hid hop; clear hop ho1 ho2 ho3 ho4 hT h4 HCR
  generalize (jrec 10 ⟨base2, [], -1⟩).1 = s5 at HOP
  go_wp2_with fail
  refine HOP.out.mono ?_
  rintro e w5 ⟨sb2, rfl, h5⟩
  have HT := Lib.hid (sk_text h5); clear h5 HOP
  go_wp2_with fail
  refine HT.out.mono ?_
  rintro e w6 ⟨ao, cap, rfl, hl, h6⟩
  have hs := run_string_of (P := Tryz.prog) w6 34 9 5 Tryz.underlying34 Tryz.underlying5 Tryz.underlying9 cap 1 rfl hl
  have hq : ((bs [98]).toList == [98]) = true := by rw [bs_list]; rfl
  have HB := Lib.hid h6.bel; clear h6 hl HT
  go_wp2
  go_ret
  exact ⟨rfl, HB.out⟩

end Go.Proofs.YtgefbolnfenfcaaGreat

/-
  The acts that a law of layer 5 is given: 'small'.
-/
namespace Go.Proofs.YtgefbolnfenfcaaGreat
open Go.ChangeShapes Go.WideShapes Go.ChangeAt Go.RowKit Go.Mk

def AC.small5 (f : AC) : Bool := decide (f.bl.length ≤ 600) && decide (f.kl.length ≤ 60)
def smallA5 (mo : Nat) (fs : List AC) : Bool := decide (fs.length ≤ mo) && fs.all AC.small5

theorem smallA5_no {mo : Nat} {fs : List AC} {j : Nat} (hj : j < fs.length) (h : fs[j].small5 = false) : smallA5 mo fs = false := by
  have : fs.all AC.small5 = false := by
    rw [List.all_eq_false]
    exact ⟨fs[j], List.getElem_mem hj, by simp [h]⟩
  simp [smallA5, this]

theorem smallA5_yes {mo : Nat} {fs : List AC} (h : smallA5 mo fs = true) : fs.length ≤ mo ∧ ∀ f ∈ fs, f.bl.length ≤ 600 ∧ f.kl.length ≤ 60 := by
  simp [smallA5, AC.small5] at h
  exact h

set_option maxHeartbeats 400000 in
theorem small5_any (mo : Nat) (moI : Int) (hmI : moI = mo) (fa : Option Addr) (fc : Nat) (fs : List AC) (B : Nat) (w : World) (h : Acts w B fa fs) :
    Calls Tryz.prog 5 #[.slice fa fs.length fc, .int .i64 moI] w fun e w' => e = .returned (.bool (smallA5 mo fs)) ∧ w = w' := by
  subst hmI
  have hlen := h.len
  unfold maxLen at hlen
  have H := Lib.hid h; clear h
  by_cases h40 : fs.length ≤ mo
  · have hmb : decide (mo < fs.length) = false := by simp; omega
    have H40 := Lib.hid h40; clear h40
    go_enter Tryz.func5, Tryz.ntmps5
    go_wp2
    clear hmb
    go_loopg [5] fs.length (fun k c wr => ∃ j, k = fs.length - j ∧ j ≤ fs.length ∧ c = .int .i64 (j : Int) ∧ (∀ i (hi : i < fs.length), i < j → fs[i].small5 = true) ∧ w = wr)
    case atStart => exact ⟨0, rfl, Nat.zero_le _, rfl, fun i _ hi => absurd hi (Nat.not_lt_zero _), rfl⟩
    case round =>
      obtain ⟨j, hk, hj, rfl, hsm, rfl⟩ := hrel
      have HSM := Lib.hid hsm; clear hsm
      by_cases hlt : j < fs.length
      · obtain ⟨b, off, rfl, hbB, hc⟩ := H.out.at_ (by intro e; rw [e] at hlt; simp at hlt)
        obtain ⟨-, -, -, c3, c4⟩ := hc j hlt
        clear hc
        have hlns := H.out.lens fs[j] (List.getElem_mem hlt)
        have hno := smallA5_no (mo := mo) hlt
        generalize hf : fs[j] = f at *
        have HF := Lib.hid hf; clear hf
        have HK := Lib.hid hk; clear hk
        obtain ⟨l1, l2⟩ := hlns
        unfold maxLen at l1 l2
        have HNO := Lib.hid hno; clear hno
        by_cases hs : f.bl.length ≤ 600
        · by_cases hl : f.kl.length ≤ 60
          · go_wp2
            go_roundg (fs.length - (j + 1))
            case measure => have := HK.out; omega
            case rel =>
              refine ⟨j + 1, rfl, by omega, by go_num, fun t ht htj => ?_, rfl⟩
              by_cases e : t = j
              · subst e
                rw [HF.out]
                simp [AC.small5, hs, hl]
              · exact HSM.out t ht (by omega)
          · go_wp2
            go_ret
            exact ⟨by rw [HNO.out (by simp [AC.small5, hl])]; rfl, rfl⟩
        · go_wp2
          go_ret
          exact ⟨by rw [HNO.out (by simp [AC.small5, hs])]; rfl, rfl⟩
      · obtain rfl : j = fs.length := by omega
        go_wp2
        go_ret
        refine ⟨?_, rfl⟩
        have : fs.all AC.small5 = true := by
          rw [List.all_eq_true]
          intro x hx
          obtain ⟨i, hi, rfl⟩ := List.mem_iff_getElem.1 hx
          exact HSM.out i hi hi
        simp [smallA5, H40.out, this]
  · have hsb : smallA5 mo fs = false := by simp [smallA5, h40]
    have HSB := Lib.hid hsb; clear hsb
    go_enter Tryz.func5, Tryz.ntmps5
    go_wp2
    go_ret
    exact ⟨by rw [HSB.out]; rfl, rfl⟩

end Go.Proofs.YtgefbolnfenfcaaGreat
