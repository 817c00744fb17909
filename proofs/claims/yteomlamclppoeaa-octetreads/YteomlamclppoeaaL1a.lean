/-
  The fields that a law of layer 1 is given, as they lie in memory; 'small', 'awake'.
-/
import Derived.Test.YteomlamclppoeaaR1
namespace Go.Proofs.Yteomlamclppoeaa
open Go.RowKit Go.Mk

/-- A Field, as it is read. -/
structure FD where
  kind : Int
  n : Int
  s : ByteArray
  la : Option Addr
  lc : Nat
  ls : List ByteArray

/-- The fields lie behind fa, below block B. -/
structure Flds (w : World) (B : Nat) (fa : Option Addr) (fs : List FD) : Prop where
  at_ : fs ≠ [] → ∃ b off, fa = some ⟨b, off, none⟩ ∧ b < B ∧ ∀ j (h : j < fs.length), w.cell? ⟨b, off + j * 4, none⟩ = some (.int .i64 fs[j].kind) ∧ w.cell? ⟨b, off + j * 4 + 1, none⟩ = some (.int .i64 fs[j].n) ∧
    w.cell? ⟨b, off + j * 4 + 2, none⟩ = some (.string fs[j].s) ∧ w.cell? ⟨b, off + j * 4 + 3, none⟩ = some (.slice fs[j].la fs[j].ls.length fs[j].lc)
  strs : ∀ f ∈ fs, Lies w B f.la (f.ls.map .string)
  len : fs.length ≤ maxLen
  lens : ∀ f ∈ fs, f.ls.length ≤ maxLen ∧ f.s.size ≤ maxLen ∧ ∀ t ∈ f.ls, t.size ≤ maxLen
  rng : ∀ f ∈ fs, -9223372036854775808 ≤ f.n ∧ f.n ≤ 9223372036854775807

theorem Flds.below {w w' : World} {B : Nat} {fa : Option Addr} {fs : List FD} (h : Flds w B fa fs) (hb : Below B w w') : Flds w' B fa fs := by
  refine ⟨fun hn => ?_, fun f hf => (h.strs f hf).below hb, h.len, h.lens, h.rng⟩
  obtain ⟨b, off, e, hl, hc⟩ := h.at_ hn
  refine ⟨b, off, e, hl, fun j hj => ?_⟩
  obtain ⟨h1, h2, h3, h4⟩ := hc j hj
  exact ⟨(hb.cell (p := ⟨b, _, none⟩) hl).trans h1, (hb.cell (p := ⟨b, _, none⟩) hl).trans h2, (hb.cell (p := ⟨b, _, none⟩) hl).trans h3, (hb.cell (p := ⟨b, _, none⟩) hl).trans h4⟩

def FD.small (f : FD) : Bool := decide (f.s.size ≤ 200) && (decide (f.ls.length ≤ 20) && f.ls.all (fun t => decide (t.size ≤ 100)))
def smallB (fs : List FD) : Bool := decide (fs.length ≤ 20) && fs.all FD.small

theorem smallB_no {fs : List FD} {j : Nat} (hj : j < fs.length) (h : fs[j].small = false) : smallB fs = false := by
  have : fs.all FD.small = false := by
    rw [List.all_eq_false]
    exact ⟨fs[j], List.getElem_mem hj, by simp [h]⟩
  simp [smallB, this]

set_option maxHeartbeats 400000 in
theorem small_any (fa : Option Addr) (fc : Nat) (fs : List FD) (B : Nat) (w : World) (h : Flds w B fa fs) :
    Calls Try.prog 8 #[.slice fa fs.length fc] w fun e w' => e = .returned (.bool (smallB fs)) ∧ w = w' := by
  have hlen := h.len
  unfold maxLen at hlen
  have H := Lib.hid h; clear h
  by_cases h20 : fs.length ≤ 20
  · go_enter Try.func8, Try.ntmps8
    go_wp2
    go_loopg [3] fs.length (fun k c wr => ∃ j, k = fs.length - j ∧ j ≤ fs.length ∧ c = .int .i64 (j : Int) ∧ (∀ i (hi : i < fs.length), i < j → fs[i].small = true) ∧ w = wr)
    case atStart => exact ⟨0, rfl, Nat.zero_le _, rfl, fun i _ hi => absurd hi (Nat.not_lt_zero _), rfl⟩
    case round =>
      obtain ⟨j, hk, hj, rfl, hsm, rfl⟩ := hrel
      have HSM := Lib.hid hsm; clear hsm
      by_cases hlt : j < fs.length
      · obtain ⟨b, off, rfl, hbB, hc⟩ := H.out.at_ (by intro e; rw [e] at hlt; simp at hlt)
        obtain ⟨-, -, c2, c3⟩ := hc j hlt
        clear hc
        have hlns := H.out.lens fs[j] (List.getElem_mem hlt)
        have HSTR := Lib.hid (H.out.strs fs[j] (List.getElem_mem hlt))
        have hno := smallB_no hlt
        generalize hf : fs[j] = f at *
        have HF := Lib.hid hf; clear hf
        have HK := Lib.hid hk; clear hk
        obtain ⟨l1, l2, l3⟩ := hlns
        unfold maxLen at l1 l2 l3
        have HL3 := Lib.hid l3; have HNO := Lib.hid hno; clear l3 hno
        by_cases hs : f.s.size ≤ 200
        · by_cases hl : f.ls.length ≤ 20
          · go_wp2
            go_loopg [4] f.ls.length (fun k c wr => ∃ i, k = f.ls.length - i ∧ i ≤ f.ls.length ∧ c = .int .i64 (i : Int) ∧ (∀ t (ht : t < f.ls.length), t < i → f.ls[t].size ≤ 100) ∧ w = wr)
            case atStart => exact ⟨0, rfl, Nat.zero_le _, rfl, fun i _ hi => absurd hi (Nat.not_lt_zero _), rfl⟩
            case round =>
              obtain ⟨i, hki, hi, rfl, hsi, rfl⟩ := hrel
              have HSI := Lib.hid hsi; clear hsi
              have HKI := Lib.hid hki; clear hki
              by_cases hlti : i < f.ls.length
              · obtain ⟨xb, xo, hla, _, hc⟩ := HSTR.out (by intro e; rw [List.map_eq_nil_iff] at e; rw [e] at hlti; simp at hlti)
                have hx : w.cell? ⟨xb, xo + i, none⟩ = some (.string f.ls[i]) := hc i _ (by simp [hlti])
                rw [hla] at c3
                have HLA := Lib.hid hla; clear hla hc
                have hti := HL3.out f.ls[i] (List.getElem_mem hlti)
                by_cases h100 : f.ls[i].size ≤ 100
                · go_wp2
                  go_roundg (f.ls.length - (i + 1))
                  case measure => have := HKI.out; omega
                  case rel =>
                    refine ⟨i + 1, rfl, by omega, by go_num, fun t ht hti => ?_, rfl⟩
                    by_cases e : t = i
                    · subst e; exact h100
                    · exact HSI.out t ht (by omega)
                · go_wp2
                  go_ret
                  refine ⟨?_, rfl⟩
                  have : f.ls.all (fun t => decide (t.size ≤ 100)) = false := by
                    rw [List.all_eq_false]
                    exact ⟨f.ls[i], List.getElem_mem hlti, by simpa using h100⟩
                  have hsm : f.small = false := by simp [FD.small, this]
                  rw [HNO.out hsm]; rfl
              · obtain rfl : i = f.ls.length := by omega
                go_wp2
                go_roundg (fs.length - (j + 1))
                case measure => have := HK.out; omega
                case rel =>
                  refine ⟨j + 1, rfl, by omega, by go_num, fun t ht htj => ?_, rfl⟩
                  by_cases e : t = j
                  · subst e
                    rw [HF.out]
                    have : f.ls.all (fun t => decide (t.size ≤ 100)) = true := by
                      rw [List.all_eq_true]
                      intro x hx
                      obtain ⟨i, hi, rfl⟩ := List.mem_iff_getElem.1 hx
                      simpa using HSI.out i hi hi
                    simp [FD.small, hs, hl, this]
                  · exact HSM.out t ht (by omega)
          · go_wp2
            go_ret
            exact ⟨by rw [HNO.out (by simp [FD.small, hl])]; rfl, rfl⟩
        · go_wp2
          go_ret
          exact ⟨by rw [HNO.out (by simp [FD.small, hs])]; rfl, rfl⟩
      · obtain rfl : j = fs.length := by omega
        go_wp2
        go_ret
        have : fs.all FD.small = true := by
          rw [List.all_eq_true]
          intro x hx
          obtain ⟨i, hi, rfl⟩ := List.mem_iff_getElem.1 hx
          exact HSM.out i hi hi
        exact ⟨by simp [smallB, h20, this], rfl⟩
  · go_enter Try.func8, Try.ntmps8
    go_wp2
    go_ret
    exact ⟨by simp [smallB, h20], rfl⟩

/-- A new Writer. -/
theorem WrF.new (w : World) (F : Nat → Prop) (hF : ∀ k, w.heap.size ≤ k → F k) (e : TypeId) : WrF (w.alloc (.cells #[.slice none 0 0, .int .i64 0] e)) F w.heap.size ⟨[], 0⟩ :=
  ⟨hF _ (Nat.le_refl _), none, 0, ⟨by simp, by simp, by simp, by simp, World.ownsRow_nil _ _ _ _, by simp [Value.ownBlock]⟩, by simp [Value.ownBlock]⟩

set_option maxHeartbeats 400000 in
theorem awake_any (w : World) : Calls Try.prog 7 #[] w fun e w' => e = .returned (.bool true) ∧ Below w.heap.size w w' := by
  have hn := WrF.new w (fun k => w.heap.size ≤ k) (fun _ h => h) 28
  have HN := Lib.hid hn; clear hn
  go_enter Try.func7, Try.ntmps7
  go_wp2_with fail
  refine (HN.out.num (fun k h => by simp at h; omega) 258 (by simp)).mono ?_
  rintro e w1 ⟨rfl, h1, b1⟩
  have hz1 := b1.size
  simp at hz1
  have H1 := Lib.hid h1; have B1 := Lib.hid b1; clear h1 b1
  go_wp2_with fail
  refine (H1.out.text (fun k h => by omega) (bs [97, 98]) (by simp [WS.num, bigB_length]) (by simp [bs_size])).mono ?_
  rintro e w2 ⟨rfl, h2, b2⟩
  have hz2 := b2.size
  rw [show ((⟨[], 0⟩ : WS).num 258).text (bs [97, 98]).data.toList = ⟨[0, 0, 1, 2, 0, 0, 0, 2, 97, 98], 0⟩ from rfl] at h2
  have H2 := Lib.hid h2; have B2 := Lib.hid b2; clear h2 b2
  go_wp2_with fail
  refine (H2.out.bytes (by simp)).mono ?_
  rintro e w3 ⟨ao, cap, rfl, ho, b3⟩
  have hcv := run_string_of (P := Try.prog) w3 25 9 5 Try.underlying25 Try.underlying5 Try.underlying9 cap 10 rfl (owns_lies ho)
  have H3 := Lib.hid (H2.out.kept b3); have B3 := Lib.hid b3; clear b3 ho
  have hbl := bs_list [0, 0, 1, 2, 0, 0, 0, 2, 97, 98]
  go_wp2_with fail
  refine H3.out.errs.mono ?_
  rintro e w4 ⟨rfl, rfl⟩
  go_wp2
  go_ret
  exact ⟨rfl, ((((Below.refl _ _).alloc (Nat.le_refl _) _).trans (B1.out.below (by simp) (fun _ h => h))).trans (B2.out.below (by omega) (fun _ h => h))).trans (B3.out.mono (by omega))⟩

end Go.Proofs.Yteomlamclppoeaa
