/-
  The acts that JournalActs is given, as they lie in memory; 'small'; what holds between two acts.
-/
import Derived.Test.YtgefbolnfenfcaaGreatL4f
import Derived.Test.YtgefbolnfenfcaaGreatR4c
namespace Go.Proofs.YtgefbolnfenfcaaGreat
open Go.ChangeShapes Go.WideShapes Go.ChangeAt Go.RowKit Go.Mk

/-- An Act, as it is read. -/
structure A4 where
  k : Int
  r : AC

/-- The acts lie behind fa, below block B. -/
structure Acts4 (w : World) (B : Nat) (fa : Option Addr) (fs : List A4) : Prop where
  at_ : fs ≠ [] → ∃ b off, fa = some ⟨b, off, none⟩ ∧ b < B ∧ ∀ j (h : j < fs.length), w.cell? ⟨b, off + j * 6, none⟩ = some (.int .i64 fs[j].k) ∧ w.cell? ⟨b, off + j * 6 + 1, none⟩ = some (.int .i64 fs[j].r.kind) ∧ w.cell? ⟨b, off + j * 6 + 2, none⟩ = some (.int .i64 fs[j].r.n) ∧ w.cell? ⟨b, off + j * 6 + 3, none⟩ = some (.int .i64 fs[j].r.m) ∧
    w.cell? ⟨b, off + j * 6 + 4, none⟩ = some (.slice fs[j].r.ba fs[j].r.bl.length fs[j].r.bc) ∧ w.cell? ⟨b, off + j * 6 + 5, none⟩ = some (.slice fs[j].r.ka fs[j].r.kl.length fs[j].r.kc)
  bs : ∀ f ∈ fs, Lies w B f.r.ba (f.r.bl.map bv) ∧ Lies w B f.r.ka (f.r.kl.map .bool)
  len : fs.length ≤ maxLen
  lens : ∀ f ∈ fs, f.r.bl.length ≤ maxLen ∧ f.r.kl.length ≤ maxLen
  rng : ∀ f ∈ fs, i64R f.r.n ∧ i64R f.r.m

theorem Acts4.below {w w' : World} {B : Nat} {fa : Option Addr} {fs : List A4} (h : Acts4 w B fa fs) (hb : Below B w w') : Acts4 w' B fa fs := by
  refine ⟨fun hn => ?_, fun f hf => ⟨(h.bs f hf).1.below hb, (h.bs f hf).2.below hb⟩, h.len, h.lens, h.rng⟩
  obtain ⟨b, off, e, hl, hc⟩ := h.at_ hn
  refine ⟨b, off, e, hl, fun j hj => ?_⟩
  obtain ⟨h0, h1, h2, h3, h4, h5⟩ := hc j hj
  exact ⟨(hb.cell (p := ⟨b, _, none⟩) hl).trans h0, (hb.cell (p := ⟨b, _, none⟩) hl).trans h1, (hb.cell (p := ⟨b, _, none⟩) hl).trans h2, (hb.cell (p := ⟨b, _, none⟩) hl).trans h3, (hb.cell (p := ⟨b, _, none⟩) hl).trans h4, (hb.cell (p := ⟨b, _, none⟩) hl).trans h5⟩

def tyAct4 : Ty := .struct (.pair (.int .i64) (.pair tyAct .unit))
def A4.of (y : Int × (Int × Int × Int × (Option Addr × Nat × List Int) × (Option Addr × Nat × List Bool) × Unit) × Unit) : A4 := ⟨y.1, AC.of y.2.1⟩

theorem act4_cells {w : World} {B : Nat} {cs : List Value} : ∀ {y : tyAct4.Val} (_ : Fits w B tyAct4 cs y), cs = [.int .i64 (A4.of y).k, .int .i64 (A4.of y).r.kind, .int .i64 (A4.of y).r.n, .int .i64 (A4.of y).r.m, .slice (A4.of y).r.ba (A4.of y).r.bl.length (A4.of y).r.bc, .slice (A4.of y).r.ka (A4.of y).r.kl.length (A4.of y).r.kc] ∧
    (Lies w B (A4.of y).r.ba ((A4.of y).r.bl.map bv) ∧ Lies w B (A4.of y).r.ka ((A4.of y).r.kl.map .bool)) ∧ ((A4.of y).r.bl.length ≤ maxLen ∧ (A4.of y).r.kl.length ≤ maxLen) ∧ (i64R (A4.of y).r.n ∧ i64R (A4.of y).r.m)
  | (k, q, ()), h => by
    obtain ⟨_, _, rfl, ⟨rfl, _⟩, _, _, rfl, hq, h0⟩ := h
    obtain rfl := h0
    obtain ⟨rfl, h1, h2, h3⟩ := act_cells hq
    exact ⟨by simp [A4.of], h1, h2, h3⟩

theorem acts4_of {w : World} {B : Nat} {cs : List Value} : ∀ {v : (Ty.slice tyAct4).Val} (_ : Fits w B (.slice tyAct4) cs v), ∃ (fa : Option Addr) (fc : Nat) (fs : List A4), cs = [.slice fa fs.length fc] ∧ Acts4 w B fa fs
  | (fa, fc, (l : List (Int × (Int × Int × Int × (Option Addr × Nat × List Int) × (Option Addr × Nat × List Bool) × Unit) × Unit))), h => by
    have h5 : l ≠ [] → ∃ b off, fa = some ⟨b, off, none⟩ ∧ b < B ∧ ∀ j (hj : j < l.length), ∃ cs', Fits w B tyAct4 cs' l[j] ∧ ∀ i u, cs'[i]? = some u → w.cell? ⟨b, off + j * 6 + i, none⟩ = some u := h.2.2.2.2
    have hall : ∀ f ∈ l.map A4.of, ∃ y cs', f = A4.of y ∧ Fits w B tyAct4 cs' y := fun f hf => by
      obtain ⟨y, hy, rfl⟩ := List.mem_map.1 hf
      obtain ⟨j, hj, rfl⟩ := List.mem_iff_getElem.1 hy
      obtain ⟨b, off, e, hb, hc⟩ := h5 (List.ne_nil_of_length_pos (Nat.lt_of_le_of_lt (Nat.zero_le j) hj))
      obtain ⟨cs', hf', _⟩ := hc j hj
      exact ⟨_, cs', rfl, hf'⟩
    refine ⟨fa, fc, l.map A4.of, by rw [List.length_map]; exact h.1, ⟨fun hn => ?_, fun f hf => ?_, by rw [List.length_map]; exact Nat.le_trans h.2.1 h.2.2.1, fun f hf => ?_, fun f hf => ?_⟩⟩
    · obtain ⟨b, off, e, hb, hc⟩ := h5 (fun e => hn (by rw [e]; rfl))
      refine ⟨b, off, e, hb, fun j hj => ?_⟩
      obtain ⟨cs', hf, hcell⟩ := hc j (by simpa using hj)
      obtain ⟨rfl, _⟩ := act4_cells hf
      simp only [List.getElem_map]
      exact ⟨hcell 0 _ rfl, hcell 1 _ rfl, hcell 2 _ rfl, hcell 3 _ rfl, hcell 4 _ rfl, hcell 5 _ rfl⟩
    · obtain ⟨y, cs', rfl, hy⟩ := hall f hf
      exact (act4_cells hy).2.1
    · obtain ⟨y, cs', rfl, hy⟩ := hall f hf
      exact (act4_cells hy).2.2.1
    · obtain ⟨y, cs', rfl, hy⟩ := hall f hf
      exact (act4_cells hy).2.2.2

def A4.small (f : A4) : Bool := decide (f.r.bl.length ≤ 600) && decide (f.r.kl.length ≤ 60)
def smallA4 (fs : List A4) : Bool := decide (fs.length ≤ 20) && fs.all A4.small

theorem smallA4_no {fs : List A4} {j : Nat} (hj : j < fs.length) (h : fs[j].small = false) : smallA4 fs = false := by
  have : fs.all A4.small = false := by
    rw [List.all_eq_false]
    exact ⟨fs[j], List.getElem_mem hj, by simp [h]⟩
  simp [smallA4, this]

/-- What holds between two acts: the disk and the reference's are the same. -/
structure AI4 (w wr : World) (b rb n j : Nat) (D M : Nat → Prop) (s : DS) : Prop where
  dk : DkS wr D b n s
  rk : RkS wr M rb n s
  dm : ∀ k, D k → ¬ M k
  wl : s.ws.length ≤ 40 * j
  dge : ∀ k, D k → w.heap.size ≤ k
  mge : ∀ k, M k → w.heap.size ≤ k
  bel : Below w.heap.size w wr

section
variable {w wr wr' : World} {b rb n j : Nat} {D D' M M' : Nat → Prop} {s s' : DS}

theorem AI4.fresh (h : AI4 w wr b rb n j D M s) (hk : Kept (fun _ => False) wr wr') : AI4 w wr' b rb n j D M s :=
  ⟨h.dk.kept hk (fun _ _ h => h), h.rk.kept hk (fun _ _ h => h), h.dm, h.wl, h.dge, h.mge, h.bel.trans (hk.below (B := w.heap.size) h.bel.size (fun _ h => h.elim))⟩

/-- Both have done the same. -/
theorem AI4.both (h : AI4 w wr b rb n j D M s) {wx : World} (hk : Kept D wr wx) (hd : DkS wx D' b n s') (hD : ∀ k, D' k → D k ∨ wr.heap.size ≤ k)
    (hk2 : Kept M wx wr') (hr : RkS wr' M' rb n s') (hM : ∀ k, M' k → M k ∨ wx.heap.size ≤ k) (hl : s'.ws.length ≤ s.ws.length + 40) : AI4 w wr' b rb n (j + 1) D' M' s' := by
  have hs := h.bel.size
  have hs2 := hk.size
  have hDM : ∀ k, D' k → ¬ M k := fun k h1 h2 => by
    rcases hD k h1 with h3 | h3
    · exact h.dm k h3 h2
    · have := h.rk.lt k h2; omega
  refine ⟨hd.kept hk2 hDM, hr, fun k h1 h2 => ?_, by have := h.wl; omega, fun k hk' => ?_, fun k hk' => ?_, (h.bel.trans (hk.below (B := w.heap.size) hs (fun k hk' => h.dge k hk'))).trans (hk2.below (B := w.heap.size) (by omega) (fun k hk' => h.mge k hk'))⟩
  · rcases hM k h2 with h3 | h3
    · exact hDM k h1 h3
    · have := hd.lt k h1; omega
  · rcases hD k hk' with h1 | h1
    · exact h.dge k h1
    · omega
  · rcases hM k hk' with h1 | h1
    · exact h.mge k h1
    · omega

/-- The reference where the disk has been called. -/
theorem AI4.ref (h : AI4 w wr b rb n j D M s) {wx : World} (hk : Kept D wr wx) : RkS wx M rb n s := h.rk.kept hk (fun k h1 h2 => h.dm k h2 h1)
end

theorem put_len4 (n : Nat) (hn : n ≤ 16) (t : List UInt8) (s : DS) : (jput n t s).1.ws.length ≤ s.ws.length + 40 := by
  unfold jput
  split
  · simp
  · rename_i hf
    have hf : jfits n t = 0 := by omega
    have ht := (jfits_zero.1 hf).2
    have hl : (formL (areaN n) t).length = 64 * areaN n := formL_length _ _ (by omega)
    refine Nat.le_trans (DS.run_len _ _) ?_
    have ha : areaN n ≤ 7 := by unfold areaN; omega
    simp only [putOps, homeOps, List.length_append, blk_length, hl, headL_length]
    omega
theorem format_len4 (n : Nat) (hn : n ≤ 16) (t : List UInt8) (s : DS) : (jformat n t s).1.ws.length ≤ s.ws.length + 40 := by
  unfold jformat
  split
  · simp
  · rename_i hf
    have hf : jfits n t = 0 := by omega
    have ht := (jfits_zero.1 hf).2
    have hl : (formL (areaN n) t).length = 64 * areaN n := formL_length _ _ (by omega)
    refine Nat.le_trans (DS.run_len _ _) ?_
    have ha : areaN n ≤ 7 := by unfold areaN; omega
    simp only [formatOps, List.length_append, blk_length, hl, headL_length]
    omega
theorem rec_len4 (n : Nat) (hn : n ≤ 16) (s : DS) (hl : (image s.base s.ws).length = 64 * n) : (jrec n s).1.ws.length ≤ s.ws.length + 40 := by
  unfold jrec
  split
  · simp
  · refine Nat.le_trans (DS.run_len _ _) ?_
    have ha : areaN n ≤ 7 := by unfold areaN; omega
    have hj := jrL_length (n := n) hl
    unfold recOps
    split
    · simp
    · split
      · simp only [homeOps, List.length_append, blk_length, hj, headL_length]
        omega
      · simp [blk_length, headL_length]

end Go.Proofs.YtgefbolnfenfcaaGreat
