/-
  OctetWrites: for all fields, what the Writer writes is what the reference says, up to the first error.
-/
import Derived.Test.YteomlamclppoeaaL1a
import Derived.Deep.DeepCutAuto
import Derived.Deep.CutBlock
namespace Go.Proofs.Yteomlamclppoeaa
open Go.RowKit Go.Mk

def WS.enc (s : WS) (l : List UInt8) : WS := if s.err ≠ 0 then s else ⟨s.out ++ l, 0⟩
theorem WS.num_enc (s : WS) (n : Nat) (h : n ≤ 2147483647) : s.num n = s.enc (bigB 4 n) := by
  by_cases he : s.err = 0
  · rw [WS.num_ok s n he h]; simp [WS.enc, he]
  · rw [WS.num_err s _ he]; simp [WS.enc, he]
theorem WS.int_enc (s : WS) (n : Int) : s.int n = s.enc (bigB 8 (asU64 n)) := rfl
theorem WS.text_enc (s : WS) (t : List UInt8) (h : t.length ≤ 2147483647) : s.text t = s.enc (encT t) := by
  unfold WS.text
  rw [WS.num_enc s _ h]
  by_cases he : s.err = 0 <;> simp [WS.enc, he, encT]
theorem WS.texts_enc (s : WS) (l : List (List UInt8)) (h : l.length ≤ 2147483647) (ht : ∀ t ∈ l, t.length ≤ 2147483647) : s.texts l = s.enc (encL l) := by
  have : ∀ (l : List (List UInt8)), (∀ t ∈ l, t.length ≤ 2147483647) → ∀ (s : WS), l.foldl WS.text s = s.enc (l.map encT).flatten := by
    intro l
    induction l with
    | nil => intro _ s; by_cases he : s.err = 0 <;> simp [WS.enc, he]; cases s; simp_all
    | cons t l ih =>
      intro ht s
      rw [List.foldl_cons, ih (fun t h => ht t (List.mem_cons_of_mem _ h)), WS.text_enc s t (ht t List.mem_cons_self)]
      by_cases he : s.err = 0 <;> simp [WS.enc, he]
  unfold WS.texts
  rw [this l ht, WS.num_enc s _ h]
  by_cases he : s.err = 0 <;> simp [WS.enc, he, encL]

theorem small_parts {f : FD} (h : f.small = true) : f.s.size ≤ 200 ∧ f.ls.length ≤ 20 ∧ ∀ t ∈ f.ls, t.size ≤ 100 := by
  simp [FD.small] at h
  exact ⟨h.1, h.2.1, h.2.2⟩

theorem enc_len (s : WS) (l : List UInt8) : (s.enc l).out.length ≤ s.out.length + l.length := by
  unfold WS.enc
  split
  · omega
  · simp

theorem enc_fin (s : WS) (l : List UInt8) (h : s.err = 0 ∨ s.err = 2) : (((s.enc l).err = 0 ∧ (s.enc l).out = s.out ++ l) ∨ ((s.enc l).err = 2 ∧ (s.enc l).out = s.out)) ∧ ((s.enc l).err == 0) = (s.err == 0) := by
  rcases h with h | h <;> simp [WS.enc, h]

theorem sum_le (l : List ByteArray) (h : ∀ t ∈ l, t.size ≤ 100) : sumL (strL l) ≤ 104 * l.length := by
  induction l with
  | nil => simp [sumL, strL]
  | cons t l ih =>
    have h1 := ih (fun t ht => h t (List.mem_cons_of_mem _ ht))
    have h2 := h t List.mem_cons_self
    have h3 : t.data.toList.length = t.size := rfl
    simp only [sumL, strL, List.map_cons, List.sum_cons, List.length_cons] at *
    omega

/-- What one field writes. -/
def FD.step (s : WS) (f : FD) : WS := if f.kind = 0 then s.num f.n else if f.kind = 1 then s.int f.n else if f.kind = 2 then s.text f.s.data.toList else s.texts (strL f.ls)

set_option maxHeartbeats 400000 in
set_option maxRecDepth 100000 in
theorem writes_small (fa : Option Addr) (fc : Nat) (fs : List FD) (w : World) (h : Flds w w.heap.size fa fs) (hs : smallB fs = true) :
    Calls Try.prog 3 #[.slice fa fs.length fc] w fun e w' => e = .returned (.bool true) ∧ Below w.heap.size w w' := by
  have H := Lib.hid h; clear h
  have hsa := small_any fa fc fs w.heap.size w H.out
  have hlen : fs.length ≤ 20 := by simp [smallB] at hs; exact hs.1
  have hsm : ∀ f ∈ fs, f.small = true := by simp [smallB] at hs; exact hs.2
  have HSM := Lib.hid hsm; clear hsm
  go_enter Try.func3, Try.ntmps3
  go_wp2_with fail
  refine (awake_any w).mono ?_
  rintro e w1 ⟨rfl, b1⟩
  have h1 := H.out.below b1
  have H1 := Lib.hid h1; have B1 := Lib.hid b1; clear h1 b1 hsa
  go_wp2_with fail
  refine (small_any fa fc fs w.heap.size w1 H1.out).mono ?_
  rintro e w2 ⟨rfl, rfl⟩
  have hn := WrF.new w1 (fun k => w.heap.size ≤ k) (fun k h => Nat.le_trans B1.out.size h) 28
  have HN := Lib.hid hn; clear hn
  have hz := B1.out.size
  go_wp2
  go_loopg [4, 5, 6] fs.length (fun k wt ok c wr => ∃ j s, k = fs.length - j ∧ j ≤ fs.length ∧ c = .int .i64 (j : Int) ∧ wt = .string (bs s.out) ∧ ok = .bool (s.err == 0) ∧ (s.err = 0 ∨ s.err = 2) ∧ s.out.length ≤ 10000 * j ∧ WrF wr (fun k => w.heap.size ≤ k) w1.heap.size s ∧ Below w.heap.size w wr)
  case atStart => exact ⟨0, ⟨[], 0⟩, rfl, Nat.zero_le _, rfl, rfl, rfl, .inl rfl, Nat.zero_le _, HN.out, B1.out.alloc hz _⟩
  case round =>
    obtain ⟨j, s, hk, hj, rfl, rfl, rfl, her, hsl, hw, hbl⟩ := hrel
    have HK := Lib.hid hk; have HW := Lib.hid hw; have HBL := Lib.hid hbl; clear hk hw hbl
    by_cases hlt : j < fs.length
    · have hz2 := HBL.out.size
      have hfl := H.out.below HBL.out
      obtain ⟨b, off, rfl, hbB, hc⟩ := hfl.at_ (by intro e; rw [e] at hlt; simp at hlt)
      obtain ⟨c0, c1, c2, c3⟩ := hc j hlt
      have hst := hfl.strs fs[j] (List.getElem_mem hlt)
      have hsm := HSM.out fs[j] (List.getElem_mem hlt)
      clear hc hfl
      generalize fs[j] = f at *
      have HST := Lib.hid hst; have HSMF := Lib.hid hsm; clear hst hsm
      have hk := (HW.out.in (F' := fun k => w.heap.size ≤ k ∧ k ≠ wr.heap.size) (fun k hk h => ⟨h, by omega⟩)).kept ((Below.refl _ _).alloc (Nat.le_refl _) (.cells #[Value.int IntKind.i64 f.kind, Value.int IntKind.i64 f.n, Value.string f.s, Value.slice f.la f.ls.length f.lc] 31))
      have hbk := HBL.out.alloc hz2 (.cells #[Value.int IntKind.i64 f.kind, Value.int IntKind.i64 f.n, Value.string f.s, Value.slice f.la f.ls.length f.lc] 31)
      have hstk := HST.out.below ((Below.refl w.heap.size wr).alloc hz2 (.cells #[Value.int IntKind.i64 f.kind, Value.int IntKind.i64 f.n, Value.string f.s, Value.slice f.la f.ls.length f.lc] 31))
      have hF : ∀ k, (wr.alloc (.cells #[Value.int IntKind.i64 f.kind, Value.int IntKind.i64 f.n, Value.string f.s, Value.slice f.la f.ls.length f.lc] 31)).heap.size ≤ k → w.heap.size ≤ k ∧ k ≠ wr.heap.size := fun k h => by simp at h; omega
      have HKW := Lib.hid hk; have HBK := Lib.hid hbk; have HSTK := Lib.hid hstk; have HF := Lib.hid hF; clear hk hbk hstk hF
      have d0 : (wr.alloc (.cells #[Value.int IntKind.i64 f.kind, Value.int IntKind.i64 f.n, Value.string f.s, Value.slice f.la f.ls.length f.lc] 31)).cell? ⟨wr.heap.size, 1, none⟩ = some (.int .i64 f.n) := by simp
      have d1 : (wr.alloc (.cells #[Value.int IntKind.i64 f.kind, Value.int IntKind.i64 f.n, Value.string f.s, Value.slice f.la f.ls.length f.lc] 31)).cell? ⟨wr.heap.size, 2, none⟩ = some (.string f.s) := by simp
      have d2 : (wr.alloc (.cells #[Value.int IntKind.i64 f.kind, Value.int IntKind.i64 f.n, Value.string f.s, Value.slice f.la f.ls.length f.lc] 31)).cell? ⟨wr.heap.size, 3, none⟩ = some (.slice f.la f.ls.length f.lc) := by simp
      have D0 := Lib.hid d0; have D1 := Lib.hid d1; have D2 := Lib.hid d2; clear d0 d1 d2
      go_upto_block 2 with fail
      go_cut [5, 8] (fun ok t wx => ∃ s' l, ok = .bool (s'.err == 0) ∧ t = .string (bs l) ∧ s'.out.length ≤ 10000 * (j + 1) ∧ l.length ≤ 10000 ∧ ((s'.err = 0 ∧ s'.out = s.out ++ l) ∨ (s'.err = 2 ∧ s'.out = s.out)) ∧ WrF wx (fun k => w.heap.size ≤ k) w1.heap.size s' ∧ Below w.heap.size w wx)
      case first =>
        obtain ⟨g1, g2, g3⟩ := small_parts HSMF.out
        have G3 := Lib.hid g3; clear g3
        have kin : ∀ (w3 : World) (s' : WS), WrF w3 (fun k => w.heap.size ≤ k ∧ k ≠ wr.heap.size) w1.heap.size s' → WrF w3 (fun k => w.heap.size ≤ k) w1.heap.size s' := fun _ _ h => h.in (fun _ _ h => h.1)
        have kbl : ∀ (w3 : World), Kept (fun k => w.heap.size ≤ k ∧ k ≠ wr.heap.size) (wr.alloc (.cells #[Value.int IntKind.i64 f.kind, Value.int IntKind.i64 f.n, Value.string f.s, Value.slice f.la f.ls.length f.lc] 31)) w3 → Below w.heap.size w w3 := fun _ h => HBK.out.trans (h.below (by simp; omega) (fun _ h => h.1))
        have enc : ∀ l : List UInt8, l.length ≤ 10000 → (s.enc l).out.length ≤ 10000 * (j + 1) := fun l hl => by
          have := enc_len s l
          omega
        have KIN := Lib.hid kin; have KBL := Lib.hid kbl; have ENC := Lib.hid enc; clear kin kbl enc
        by_cases k0 : f.kind = 0
        · have hk0 : (f.kind == 0) = true := by simp [k0]
          clear k0
          go_wp2_with fail
          refine (HKW.out.num HF.out f.n (by omega)).mono ?_
          rintro e w3 ⟨rfl, h3, b3⟩
          have cN : w3.cell? ⟨wr.heap.size, 1, none⟩ = some (.int .i64 f.n) := (b3.cell (p := ⟨wr.heap.size, 1, none⟩) (by simp) (by simp)).trans D0.out
          have H3 := Lib.hid (KIN.out _ _ h3); have B3 := Lib.hid (KBL.out _ b3); clear h3 b3
          by_cases hn : f.n < 0 ∨ 2147483647 < f.n
          · go_wp2_with fail
            refine (rnum_no f.n w3 hn).mono ?_
            rintro e w4 ⟨rfl, rfl⟩
            have e3 : s.num f.n = if s.err ≠ 0 then s else ⟨s.out, 2⟩ := by simp [WS.num, hn]
            have E3 := Lib.hid e3; clear e3
            rcases her with her | her
            · have t0 : (s.err == 0) = true := by simp [her]
              have HER := Lib.hid her; clear her
              go_wp2_with fail
              go_meet
              case rel =>
                refine ⟨s.num f.n, [], ?_, rfl, ?_, by simp, .inr ?_, H3.out, B3.out⟩
                · rw [E3.out, if_neg (by rw [HER.out]; simp)]; rfl
                · rw [E3.out, if_neg (by rw [HER.out]; simp)]; simp; omega
                · rw [E3.out, if_neg (by rw [HER.out]; simp)]; exact ⟨rfl, rfl⟩
            · have t0 : (s.err == 0) = false := by simp [her]
              have HER := Lib.hid her; clear her
              go_wp2_with fail
              go_meet
              case rel =>
                refine ⟨s.num f.n, [], ?_, rfl, ?_, by simp, .inr ?_, H3.out, B3.out⟩
                · rw [E3.out, if_pos (by rw [HER.out]; simp), t0]
                · rw [E3.out, if_pos (by rw [HER.out]; simp)]; omega
                · rw [E3.out, if_pos (by rw [HER.out]; simp)]; exact ⟨HER.out, rfl⟩
          · obtain ⟨m, hm⟩ := Int.eq_ofNat_of_zero_le (show 0 ≤ f.n by omega)
            rw [hm] at cN
            have H3' : Hid _ := (show WrF w3 (fun k => w.heap.size ≤ k) w1.heap.size (s.enc (bigB 4 m)) by rw [← WS.num_enc s m (by omega), ← hm]; exact H3.out)
            have hm2 : m ≤ 2147483647 := by omega
            clear hn H3
            have HM := Lib.hid hm; clear hm
            go_wp2_with fail
            refine (rnum_ok m w3 hm2).mono ?_
            rintro e w4 ⟨rfl, b4⟩
            have H4 := Lib.hid (H3'.out.kept b4); have B4 := Lib.hid (B3.out.trans (b4.mono B3.out.size)); clear b4
            rcases her with her | her
            · have t0 : (s.err == 0) = true := by simp [her]
              have HER : Hid (s.err = 0 ∨ s.err = 2) := .inl her
              clear her
              go_wp2_with fail
              go_meet
              case rel => exact ⟨s.enc (bigB 4 m), bigB 4 m, by rw [(enc_fin s (bigB 4 m) HER.out).2, t0], rfl, ENC.out _ (by rw [bigB_length]; omega), by rw [bigB_length]; omega, (enc_fin s (bigB 4 m) HER.out).1, H4.out, B4.out⟩
            · have t0 : (s.err == 0) = false := by simp [her]
              have HER : Hid (s.err = 0 ∨ s.err = 2) := .inr her
              clear her
              go_wp2_with fail
              go_meet
              case rel => exact ⟨s.enc (bigB 4 m), bigB 4 m, by rw [(enc_fin s (bigB 4 m) HER.out).2, t0], rfl, ENC.out _ (by rw [bigB_length]; omega), by rw [bigB_length]; omega, (enc_fin s (bigB 4 m) HER.out).1, H4.out, B4.out⟩
        · have hk0 : (f.kind == 0) = false := by simp [k0]
          have HER := Lib.hid her
          clear k0 her
          by_cases k1 : f.kind = 1
          · have hk1 : (f.kind == 1) = true := by simp [k1]
            clear k1
            go_wp2_with fail
            refine (HKW.out.int HF.out f.n (by omega)).mono ?_
            rintro e w3 ⟨rfl, h3, b3⟩
            have cN : w3.cell? ⟨wr.heap.size, 1, none⟩ = some (.int .i64 f.n) := (b3.cell (p := ⟨wr.heap.size, 1, none⟩) (by simp) (by simp)).trans D0.out
            rw [WS.int_enc] at h3
            have H3 := Lib.hid (KIN.out _ _ h3); have B3 := Lib.hid (KBL.out _ b3); clear h3 b3
            go_wp2_with fail
            refine (rint_any f.n w3).mono ?_
            rintro e w4 ⟨rfl, b4⟩
            have H4 := Lib.hid (H3.out.kept b4); have B4 := Lib.hid (B3.out.trans (b4.mono B3.out.size)); clear b4
            go_wp2_with fail
            go_meet
            case rel => exact ⟨s.enc (bigB 8 (asU64 f.n)), bigB 8 (asU64 f.n), by rw [(enc_fin s (bigB 8 (asU64 f.n)) HER.out).2], rfl, ENC.out _ (by rw [bigB_length]; omega), by rw [bigB_length]; omega, (enc_fin s (bigB 8 (asU64 f.n)) HER.out).1, H4.out, B4.out⟩
          · have hk1 : (f.kind == 1) = false := by simp [k1]
            clear k1
            by_cases k2 : f.kind = 2
            · have hk2 : (f.kind == 2) = true := by simp [k2]
              clear k2
              go_wp2_with fail
              refine (HKW.out.text HF.out f.s (by omega) (by omega)).mono ?_
              rintro e w3 ⟨rfl, h3, b3⟩
              have cN : w3.cell? ⟨wr.heap.size, 2, none⟩ = some (.string (bs f.s.data.toList)) := (b3.cell (p := ⟨wr.heap.size, 2, none⟩) (by simp) (by simp)).trans D1.out
              rw [WS.text_enc _ _ (show f.s.size ≤ 2147483647 by omega)] at h3
              have H3 := Lib.hid (KIN.out _ _ h3); have B3 := Lib.hid (KBL.out _ b3); clear h3 b3
              have htl : f.s.data.toList.length ≤ 200 := g1
              generalize f.s.data.toList = tx at *
              go_wp2_with fail
              refine (rtext_any tx w3 (by omega)).mono ?_
              rintro e w4 ⟨rfl, b4⟩
              have H4 := Lib.hid (H3.out.kept b4); have B4 := Lib.hid (B3.out.trans (b4.mono B3.out.size)); clear b4
              go_wp2_with fail
              go_meet
              case rel => exact ⟨s.enc (encT tx), encT tx, by rw [(enc_fin s (encT tx) HER.out).2], rfl, ENC.out _ (by rw [encT_len]; omega), by rw [encT_len]; omega, (enc_fin s (encT tx) HER.out).1, H4.out, B4.out⟩
            · have hk2 : (f.kind == 2) = false := by simp [k2]
              clear k2
              have g4 : ∀ t ∈ f.ls, t.size ≤ 274877906944 := fun t ht => by have := G3.out t ht; omega
              have g5 : ∀ t ∈ f.ls, t.size ≤ 2147483647 := fun t ht => by have := G3.out t ht; omega
              have g6 := sum_le f.ls G3.out
              have g7 : ∀ t ∈ strL f.ls, t.length ≤ 2147483647 := fun t ht => by
                obtain ⟨x, hx, rfl⟩ := List.mem_map.1 ht
                exact g5 x hx
              have G4 := Lib.hid g4; have G5 := Lib.hid g5; have G7 := Lib.hid g7; clear g4 g5 g7
              have hna : f.ls ≠ [] → ∀ a, f.la = some a → ¬ (w.heap.size ≤ a.block ∧ a.block ≠ wr.heap.size) := fun hne a ha => by
                obtain ⟨b', o', e', hlt', _⟩ := HSTK.out (by simpa using hne)
                rw [e'] at ha; cases ha; simp; omega
              have HNA := Lib.hid hna; clear hna
              go_wp2_with fail
              refine (HKW.out.texts HF.out f.la f.lc f.ls HSTK.out HNA.out (by omega) (by omega) G4.out).mono ?_
              rintro e w3 ⟨rfl, h3, b3⟩
              have cN : w3.cell? ⟨wr.heap.size, 3, none⟩ = some (.slice f.la f.ls.length f.lc) := (b3.cell (p := ⟨wr.heap.size, 3, none⟩) (by simp) (by simp)).trans D2.out
              have hl3 := HSTK.out.kept b3 (fun hne => HNA.out (by simpa using hne))
              rw [WS.texts_enc _ _ (by simp [strL]; omega) G7.out] at h3
              have H3 := Lib.hid (KIN.out _ _ h3); have B3 := Lib.hid (KBL.out _ b3); have HL3 := Lib.hid hl3; clear h3 b3 hl3
              go_wp2_with fail
              refine (rtexts_any f.la f.lc f.ls w.heap.size w3 B3.out.size HL3.out (by omega) G5.out (by omega)).mono ?_
              rintro e w4 ⟨rfl, b4⟩
              have H4 := Lib.hid (H3.out.kept b4); have B4 := Lib.hid (B3.out.trans (b4.mono B3.out.size)); clear b4
              have hel : (encL (strL f.ls)).length ≤ 10000 := by rw [encL_len]; omega
              go_wp2_with fail
              go_meet
              case rel => exact ⟨s.enc (encL (strL f.ls)), encL (strL f.ls), by rw [(enc_fin s _ HER.out).2], rfl, ENC.out _ hel, hel, (enc_fin s _ HER.out).1, H4.out, B4.out⟩
      case rest =>
        obtain ⟨s', l, rfl, rfl, hl1, hl2, hor, hw', hb'⟩ := hcut
        have HW' := Lib.hid hw'; have HB' := Lib.hid hb'; clear hw' hb'
        rcases hor with ⟨e0, e1⟩ | ⟨e0, e1⟩
        · have t0 : (s'.err == 0) = true := by simp [e0]
          have hcmp : ((bs s'.out).toList == (bs s.out ++ bs l).toList) = true := by rw [bs_append, bs_list, bs_list, e1]; simp
          have q1 : (bs s.out).size ≤ 1000000 := by rw [bs_size]; omega
          have q2 : (bs l).size ≤ 1000000 := by rw [bs_size]; omega
          have hsum : (s.out ++ l).length ≤ 10000 * (j + 1) := by rw [← e1]; exact hl1
          have E0 := Lib.hid e0; have E1 := Lib.hid e1; clear e0 e1
          go_wp2_with fail
          refine (HW'.out.bytes (by omega)).mono ?_
          rintro e w3 ⟨ao, cap, rfl, ho, b3⟩
          have hcv := run_string_of (P := Try.prog) w3 25 9 5 Try.underlying25 Try.underlying5 Try.underlying9 cap _ rfl (owns_lies ho)
          have H3 := Lib.hid (HW'.out.kept b3); have B3 := Lib.hid b3; clear b3 ho
          go_wp2_with fail
          refine H3.out.errs.mono ?_
          rintro e w4 ⟨rfl, rfl⟩
          go_wp2
          go_roundg (fs.length - (j + 1))
          case measure => have := HK.out; omega
          case rel => exact ⟨j + 1, s', rfl, by omega, by go_num, by rw [bs_append, E1.out], by rw [t0], .inl E0.out, hl1, H3.out, HB'.out.trans (B3.out.mono HB'.out.size)⟩
        · have t0 : (s'.err == 0) = false := by simp [e0]
          have t2 : (s'.err != 2) = false := by simp [e0]
          have hcmp : ((bs s'.out).toList == (bs s.out).toList) = true := by rw [e1]; simp
          have E0 := Lib.hid e0; have E1 := Lib.hid e1; clear e0 e1
          go_wp2_with fail
          refine (HW'.out.bytes (by omega)).mono ?_
          rintro e w3 ⟨ao, cap, rfl, ho, b3⟩
          have hcv := run_string_of (P := Try.prog) w3 25 9 5 Try.underlying25 Try.underlying5 Try.underlying9 cap _ rfl (owns_lies ho)
          have H3 := Lib.hid (HW'.out.kept b3); have B3 := Lib.hid b3; clear b3 ho
          go_wp2_with fail
          refine H3.out.errs.mono ?_
          rintro e w4 ⟨rfl, rfl⟩
          go_wp2_with fail
          refine H3.out.errs.mono ?_
          rintro e w4 ⟨rfl, rfl⟩
          go_wp2
          go_roundg (fs.length - (j + 1))
          case measure => have := HK.out; omega
          case rel => exact ⟨j + 1, s', rfl, by omega, by go_num, by rw [E1.out], by rw [t0], .inr E0.out, hl1, H3.out, HB'.out.trans (B3.out.mono HB'.out.size)⟩
    · obtain rfl : j = fs.length := by omega
      go_wp2
      go_ret
      exact ⟨rfl, HBL.out⟩

end Go.Proofs.Yteomlamclppoeaa
