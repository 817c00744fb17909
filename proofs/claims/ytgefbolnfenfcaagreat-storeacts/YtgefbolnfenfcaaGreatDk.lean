/-
  CONTRACTS of package disk: how a Disk lies in memory; Size, has, sector, useCall, Waiting, Power, Sync, Image, Read, New, Of.
-/
import Derived.Test.YtgefbolnfenfcaaGreatDm
import Derived.Test.YtgefbolnfenfcaaGreatCl
import Derived.Deep.OwnRows
namespace Go.Proofs.YtgefbolnfenfcaaGreat
open Go.RowKit Go.Mk

/-- The Disk at block b: its image in block gi (room 'tail' behind it), its pending writes in pv. -/
structure DkAt (w : World) (b gi : Nat) (tail : List Value) (im : List UInt8) (ps : List Pd) (pv : Value) (n : Nat) (calls : Int) : Prop where
  c0 : w.cell? ⟨b, 0, none⟩ = some (.slice (some ⟨gi, 0, none⟩) (64 * n) (64 * n + tail.length))
  c1 : w.cell? ⟨b, 1, none⟩ = some pv
  c2 : w.cell? ⟨b, 2, none⟩ = some (.int .i64 calls)
  f0 : w.frozen? ⟨b, 0, none⟩ = false
  f1 : w.frozen? ⟨b, 1, none⟩ = false
  f2 : w.frozen? ⟨b, 2, none⟩ = false
  img : w.heap[gi]? = some (.cells (im.map bv ++ tail).toArray 5 (0, 0))
  own : w.ownsRow 0 85 129 pv ps.length (cellsOf ps)
  ne1 : gi ≠ b
  ne2 : ∀ g, pv.ownBlock = some g → g ≠ b ∧ g ≠ gi
  len : im.length = 64 * n
  n1 : 1 ≤ n
  n2 : n ≤ 65536
  ok : ∀ p ∈ ps, p.ok n
  cb : -9223372036854775808 ≤ calls ∧ calls ≤ 9223372036854775807

section
variable {w w' : World} {b gi : Nat} {tail : List Value} {im : List UInt8} {ps : List Pd} {pv : Value} {n : Nat} {calls : Int}

theorem DkAt.lt (h : DkAt w b gi tail im ps pv n calls) : b < w.heap.size := World.block_lt_of_cell? _ _ h.c0
theorem DkAt.lt2 (h : DkAt w b gi tail im ps pv n calls) : gi < w.heap.size := (Array.getElem?_eq_some_iff.1 h.img).1
theorem DkAt.pvs (h : DkAt w b gi tail im ps pv n calls) : ∃ ao cap, pv = .slice ao ps.length cap := owns_slice h.own

theorem DkAt.kept {S : Nat → Prop} (h : DkAt w b gi tail im ps pv n calls) (hk : Kept S w w') (h1 : ¬ S b) (h2 : ¬ S gi) (h3 : ∀ g, pv.ownBlock = some g → ¬ S g) : DkAt w' b gi tail im ps pv n calls :=
  ⟨(hk.cell (p := ⟨b, 0, none⟩) h.lt h1).trans h.c0, (hk.cell (p := ⟨b, 1, none⟩) h.lt h1).trans h.c1, (hk.cell (p := ⟨b, 2, none⟩) h.lt h1).trans h.c2,
    (hk.frozen (p := ⟨b, 0, none⟩) h.lt h1).trans h.f0, (hk.frozen (p := ⟨b, 1, none⟩) h.lt h1).trans h.f1, (hk.frozen (p := ⟨b, 2, none⟩) h.lt h1).trans h.f2,
    (hk.block gi h.lt2 h2).trans h.img, owns_kept h.own hk h3, h.ne1, h.ne2, h.len, h.n1, h.n2, h.ok, h.cb⟩

theorem DkAt.lies (h : DkAt w b gi tail im ps pv n calls) : Lies w w.heap.size (some ⟨gi, 0, none⟩) (im.map bv) := fun _ =>
  ⟨gi, 0, rfl, h.lt2, fun j u hu => by
    rw [Nat.zero_add, cell_of_row _ _ _ _ _ _ h.img]
    simp only [List.getElem?_toArray]
    rw [List.getElem?_append_left (List.getElem?_eq_some_iff.1 hu).1]
    exact hu⟩

/-- One sector's bytes. -/
theorem DkAt.lies_sec (h : DkAt w b gi tail im ps pv n calls) (k : Nat) : Lies w w.heap.size (some ⟨gi, 64 * k, none⟩) ((sec im k).map bv) := by
  have := (h.lies.drop (64 * k)).take 64
  rw [← List.map_drop, ← List.map_take] at this
  simpa [sec, Addr.add_lit] using this

theorem DkAt.setCalls (h : DkAt w b gi tail im ps pv n calls) (c : Int) (hc : -9223372036854775808 ≤ c ∧ c ≤ 9223372036854775807) : DkAt (w.setCell ⟨b, 2, none⟩ (.int .i64 c)) b gi tail im ps pv n c := by
  have kp : Kept (fun k => k = b) w (w.setCell ⟨b, 2, none⟩ (.int .i64 c)) := Kept.setCell (p := ⟨b, 2, none⟩) (Kept.refl (fun k => k = b) w) (fun _ => rfl) _
  refine ⟨?_, ?_, World.cell?_setCell_same _ _ _ h.c2, ?_, ?_, ?_, (kp.block gi h.lt2 h.ne1).trans h.img, owns_kept h.own kp (fun g hg => (h.ne2 g hg).1), h.ne1, h.ne2, h.len, h.n1, h.n2, h.ok, hc⟩
  · rw [World.cell?_setCell_other _ _ _ _ (by simp)]; exact h.c0
  · rw [World.cell?_setCell_other _ _ _ _ (by simp)]; exact h.c1
  · rw [World.frozen?_setCell]; exact h.f0
  · rw [World.frozen?_setCell]; exact h.f1
  · rw [World.frozen?_setCell]; exact h.f2

/-- Other pending writes, of a row of the call's own. -/
theorem DkAt.setPend (h : DkAt w b gi tail im ps pv n calls) (v : Value) (qs : List Pd) (hq : ∀ p ∈ qs, p.ok n) (ho : w.ownsRow 0 85 129 v qs.length (cellsOf qs)) (hv : ∀ g, v.ownBlock = some g → g ≠ b ∧ g ≠ gi) :
    DkAt (w.setCell ⟨b, 1, none⟩ v) b gi tail im qs v n calls := by
  have kp : Kept (fun k => k = b) w (w.setCell ⟨b, 1, none⟩ v) := Kept.setCell (p := ⟨b, 1, none⟩) (Kept.refl (fun k => k = b) w) (fun _ => rfl) _
  refine ⟨?_, World.cell?_setCell_same _ _ _ h.c1, ?_, ?_, ?_, ?_, (kp.block gi h.lt2 h.ne1).trans h.img, owns_kept ho kp (fun g hg => (hv g hg).1), h.ne1, hv, h.len, h.n1, h.n2, hq, h.cb⟩
  · rw [World.cell?_setCell_other _ _ _ _ (by simp)]; exact h.c0
  · rw [World.cell?_setCell_other _ _ _ _ (by simp)]; exact h.c2
  · rw [World.frozen?_setCell]; exact h.f0
  · rw [World.frozen?_setCell]; exact h.f1
  · rw [World.frozen?_setCell]; exact h.f2

/-- Bytes laid into a sector. -/
theorem DkAt.setSec (h : DkAt w b gi tail im ps pv n calls) (k : Nat) (hk : k < n) (c : List UInt8) (hc : c.length ≤ 64) (hK : Kept (fun i => i = gi) w w') (hg : w'.heap[gi]? = some (.cells (splice (im.map bv ++ tail) (64 * k) (c.map bv)).toArray 5 (0, 0))) :
    DkAt w' b gi tail (lay im k c) ps pv n calls := by
  have hl := h.len
  have hn := h.ne1
  rw [splice_map im tail k c (by omega)] at hg
  exact ⟨(hK.cell (p := ⟨b, 0, none⟩) h.lt (fun e => hn e.symm)).trans h.c0, (hK.cell (p := ⟨b, 1, none⟩) h.lt (fun e => hn e.symm)).trans h.c1, (hK.cell (p := ⟨b, 2, none⟩) h.lt (fun e => hn e.symm)).trans h.c2,
    (hK.frozen (p := ⟨b, 0, none⟩) h.lt (fun e => hn e.symm)).trans h.f0, (hK.frozen (p := ⟨b, 1, none⟩) h.lt (fun e => hn e.symm)).trans h.f1, (hK.frozen (p := ⟨b, 2, none⟩) h.lt (fun e => hn e.symm)).trans h.f2,
    hg, owns_kept h.own hK (fun g hg => (h.ne2 g hg).2), h.ne1, h.ne2, by rw [lay_length (by omega), hl], h.n1, h.n2, h.ok, h.cb⟩

end

section
variable {w : World} {b gi : Nat} {tail : List Value} {im : List UInt8} {ps : List Pd} {pv : Value} {n : Nat} {calls : Int}

set_option maxHeartbeats 400000 in
theorem size_any (h : DkAt w b gi tail im ps pv n calls) :
    Calls Tryz.prog 84 #[.pointer (some ⟨b, 0, none⟩)] w fun e w' => e = .returned (.int .i64 n) ∧ w' = w := by
  have h0 := h.c0
  have hn2 := h.n2
  have hq : wrap64 (((64 * n : Nat) : Int) / 64) = (n : Int) := by unfold wrap64; omega
  have HQ := Lib.hid hq; clear hq
  generalize hN : 64 * n = N at *
  have H := Lib.hid h; have HN := Lib.hid hN; clear h hN
  go_enter Tryz.func84, Tryz.ntmps84
  go_wp2
  go_ret
  refine ⟨?_, rfl⟩
  rw [HQ.out]
  rfl

set_option maxHeartbeats 400000 in
theorem has_any (h : DkAt w b gi tail im ps pv n calls) (at_ : Int) :
    Calls Tryz.prog 47 #[.pointer (some ⟨b, 0, none⟩), .int .i64 at_] w fun e w' => e = .returned (.bool (decide (0 ≤ at_ ∧ at_ < n))) ∧ w' = w := by
  have HS := Lib.hid (size_any h)
  have H := Lib.hid h; clear h
  by_cases h1 : 0 ≤ at_
  · go_enter Tryz.func47, Tryz.ntmps47
    go_wp2_with fail
    refine HS.out.mono ?_
    rintro e w1 ⟨rfl, rfl⟩
    go_wp2
    go_ret
    exact ⟨by simp [h1], rfl⟩
  · go_enter Tryz.func47, Tryz.ntmps47
    go_wp2
    go_ret
    exact ⟨by simp; omega, rfl⟩

set_option maxHeartbeats 400000 in
theorem sector_any (h : DkAt w b gi tail im ps pv n calls) (k : Nat) (hk : k < n) :
    Calls Tryz.prog 37 #[.pointer (some ⟨b, 0, none⟩), .int .i64 k] w fun e w' => e = .returned (.slice (some ⟨gi, 64 * k, none⟩) 64 (64 * n + tail.length - 64 * k)) ∧ w' = w := by
  have h0 := h.c0
  have hn2 := h.n2
  generalize hC : 64 * n + tail.length = C at *
  have hc1 : ((k : Int) + 1) * 64 ≤ (C : Int) := by omega
  have hc2 : ¬ C = k * 64 := by omega
  have HF := Lib.hid (show k * 64 = 64 * k ∧ (k + 1) * 64 - k * 64 = 64 ∧ C - k * 64 = C - 64 * k by omega)
  generalize hN : 64 * n = N at *
  generalize hK : 64 * k = K at *
  have H := Lib.hid h; have HN := Lib.hid hN; have HC := Lib.hid hC; have HK := Lib.hid hK; clear h hN hC hK
  go_enter Tryz.func37, Tryz.ntmps37
  go_wp2
  go_ret
  refine ⟨?_, rfl⟩
  simp
  exact HF.out

/-- What is left of the power behind a call. -/
def less (c : Int) : Int := if 0 < c then c - 1 else c
theorem less_cb {c : Int} (h : -9223372036854775808 ≤ c ∧ c ≤ 9223372036854775807) : -9223372036854775808 ≤ less c ∧ less c ≤ 9223372036854775807 := by unfold less; split <;> omega

set_option maxHeartbeats 400000 in
theorem useCall_any (h : DkAt w b gi tail im ps pv n calls) :
    Calls Tryz.prog 48 #[.pointer (some ⟨b, 0, none⟩)] w fun e w' => e = .returned (.bool (calls != 0)) ∧ DkAt w' b gi tail im ps pv n (less calls) ∧ Kept (fun k => k = b) w w' := by
  have h2 := h.c2
  have hf := h.f2
  have hcb := h.cb
  have HL := Lib.hid (less_cb hcb)
  rcases Int.lt_trichotomy calls 0 with hc | hc | hc
  · have hl : less calls = calls := by unfold less; rw [if_neg (by omega)]
    have he : (calls == 0) = false := by simp; omega
    have hg : ¬ 0 < calls := by omega
    have H := Lib.hid h; have HL := Lib.hid hl; have HE := Lib.hid he; clear h hl he
    go_enter Tryz.func48, Tryz.ntmps48
    go_wp2
    go_ret
    refine ⟨by simp [bne, HE.out], ?_, Kept.refl _ _⟩
    rw [HL.out]; exact H.out
  · subst hc
    have H := Lib.hid h; clear h
    go_enter Tryz.func48, Tryz.ntmps48
    go_wp2
    go_ret
    exact ⟨by simp, H.out, Kept.refl _ _⟩
  · have hl : less calls = calls - 1 := by unfold less; rw [if_pos hc]
    have hw : wrap64 (calls - 1) = calls - 1 := by unfold wrap64; omega
    have he : (calls == 0) = false := by simp; omega
    have H := Lib.hid h; have HL2 := Lib.hid hl; have HE := Lib.hid he; have HW := Lib.hid hw; clear h hl he hw
    go_enter Tryz.func48, Tryz.ntmps48
    go_wp2
    go_ret
    refine ⟨by simp [bne, HE.out], ?_, Kept.setCell (S := fun k => k = b) (p := ⟨b, 2, none⟩) (Kept.refl _ _) (fun _ => rfl) _⟩
    rw [HL2.out]
    first
      | exact H.out.setCalls _ (HL2.out ▸ HL.out)
      | (rw [HW.out]; exact H.out.setCalls _ (HL2.out ▸ HL.out))

set_option maxHeartbeats 400000 in
theorem power_any (h : DkAt w b gi tail im ps pv n calls) (c : Int) (hc : -9223372036854775808 ≤ c ∧ c ≤ 9223372036854775807) :
    Calls Tryz.prog 11 #[.pointer (some ⟨b, 0, none⟩), .int .i64 c] w fun e w' => (∃ v, e = .returned v) ∧ DkAt w' b gi tail im ps pv n c ∧ Kept (fun k => k = b) w w' := by
  have h2 := h.c2
  have hf := h.f2
  have H := Lib.hid h; clear h
  go_enter Tryz.func11, Tryz.ntmps11
  go_wp2
  go_end0
  exact ⟨⟨_, rfl⟩, H.out.setCalls _ hc, Kept.setCell (S := fun k => k = b) (p := ⟨b, 2, none⟩) (Kept.refl _ _) (fun _ => rfl) _⟩

set_option maxHeartbeats 400000 in
theorem sync_any (h : DkAt w b gi tail im ps pv n calls) :
    Calls Tryz.prog 61 #[.pointer (some ⟨b, 0, none⟩)] w fun e w' => e = .returned (.int .i64 (if calls = 0 then 20 else 0)) ∧ (∃ pv', DkAt w' b gi tail im (if calls = 0 then ps else []) pv' n (less calls) ∧ (pv' = pv ∨ pv'.ownBlock = none)) ∧ Kept (fun k => k = b) w w' := by
  have HU := Lib.hid (useCall_any h)
  have H := Lib.hid h; clear h
  by_cases hc : calls = 0
  · subst hc
    go_enter Tryz.func61, Tryz.ntmps61
    go_wp2_with fail
    refine HU.out.mono ?_
    rintro e w1 ⟨rfl, h1, k1⟩
    have H1 := Lib.hid h1; have K1 := Lib.hid k1; clear h1 k1
    go_wp2
    go_ret
    exact ⟨rfl, ⟨pv, H1.out, .inl rfl⟩, K1.out⟩
  · rw [if_neg hc, if_neg hc]
    have hb : (calls != 0) = true := by simpa using hc
    rw [hb] at HU
    clear hb
    go_enter Tryz.func61, Tryz.ntmps61
    go_wp2_with fail
    refine HU.out.mono ?_
    rintro e w1 ⟨rfl, h1, k1⟩
    have hc1 := h1.c1
    have hf1 := h1.f1
    have H1 := Lib.hid h1; have K1 := Lib.hid k1; clear h1 k1
    go_wp2
    go_ret
    exact ⟨rfl, ⟨_, H1.out.setPend (.slice none 0 0) [] (by simp) (World.ownsRow_nil _ _ _ _) (by simp [Value.ownBlock]), .inr rfl⟩, Kept.setCell (p := ⟨b, 1, none⟩) K1.out (fun _ => rfl) _⟩

set_option maxHeartbeats 400000 in
theorem image_any (h : DkAt w b gi tail im ps pv n calls) :
    Calls Tryz.prog 22 #[.pointer (some ⟨b, 0, none⟩)] w fun e w' => ∃ ao' cap', e = .returned (.slice ao' (64 * n) cap') ∧ w'.ownsRow w.heap.size 5 1 (.slice ao' (64 * n) cap') (64 * n) (im.map bv) ∧ Below w.heap.size w w' := by
  have h0 := h.c0
  have hn2 := h.n2
  have hcl := clone_any (some ⟨gi, 0, none⟩) (64 * n + tail.length) im w.heap.size w h.lies (by have := h.len; omega)
  rw [h.len] at hcl
  generalize hN : 64 * n = N at *
  have HC := Lib.hid hcl; have H := Lib.hid h; have HN := Lib.hid hN; clear h hN hcl
  go_enter Tryz.func22, Tryz.ntmps22
  go_wp2_with fail
  refine HC.out.mono ?_
  rintro e w1 ⟨ao1, cap1, rfl, ho1, b1⟩
  have HO1 := Lib.hid ho1; have B1 := Lib.hid b1; clear ho1 b1
  go_wp2
  go_ret
  exact ⟨ao1, cap1, rfl, HO1.out, B1.out⟩

/-- What Read answers: its bytes, and its error. -/
def readB (im : List UInt8) (n : Nat) (k : Int) : List UInt8 × Int := if 0 ≤ k ∧ k < n then (sec im k.toNat, 0) else ([], 2)

end

end Go.Proofs.YtgefbolnfenfcaaGreat
