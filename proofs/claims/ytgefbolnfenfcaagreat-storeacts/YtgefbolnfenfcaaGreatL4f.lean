/-
  The failures that a law of layer 4 is given, as they lie in memory.
-/
import Derived.Test.YtgefbolnfenfcaaGreatL4
import Derived.Test.YtgefbolnfenfcaaGreatL3a
namespace Go.Proofs.YtgefbolnfenfcaaGreat
open Go.ChangeShapes Go.WideShapes Go.ChangeAt Go.RowKit Go.Mk

/-- A Fail, as it is read. -/
structure FC where
  p : Int
  ka : Option Addr
  kc : Nat
  kl : List Bool
  n : Int
  m : Int

def i64R (x : Int) : Prop := -9223372036854775808 ≤ x ∧ x ≤ 9223372036854775807

/-- The failures lie behind fa, below block B. -/
structure Fails (w : World) (B : Nat) (fa : Option Addr) (fs : List FC) : Prop where
  at_ : fs ≠ [] → ∃ b off, fa = some ⟨b, off, none⟩ ∧ b < B ∧ ∀ j (h : j < fs.length), w.cell? ⟨b, off + j * 4, none⟩ = some (.int .i64 fs[j].p) ∧ w.cell? ⟨b, off + j * 4 + 1, none⟩ = some (.slice fs[j].ka fs[j].kl.length fs[j].kc) ∧
    w.cell? ⟨b, off + j * 4 + 2, none⟩ = some (.int .i64 fs[j].n) ∧ w.cell? ⟨b, off + j * 4 + 3, none⟩ = some (.int .i64 fs[j].m)
  ks : ∀ f ∈ fs, Lies w B f.ka (f.kl.map .bool)
  len : fs.length ≤ maxLen
  lens : ∀ f ∈ fs, f.kl.length ≤ maxLen
  rng : ∀ f ∈ fs, i64R f.p ∧ i64R f.n ∧ i64R f.m

theorem Fails.below {w w' : World} {B : Nat} {fa : Option Addr} {fs : List FC} (h : Fails w B fa fs) (hb : Below B w w') : Fails w' B fa fs := by
  refine ⟨fun hn => ?_, fun f hf => (h.ks f hf).below hb, h.len, h.lens, h.rng⟩
  obtain ⟨b, off, e, hl, hc⟩ := h.at_ hn
  refine ⟨b, off, e, hl, fun j hj => ?_⟩
  obtain ⟨h1, h2, h3, h4⟩ := hc j hj
  exact ⟨(hb.cell (p := ⟨b, _, none⟩) hl).trans h1, (hb.cell (p := ⟨b, _, none⟩) hl).trans h2, (hb.cell (p := ⟨b, _, none⟩) hl).trans h3, (hb.cell (p := ⟨b, _, none⟩) hl).trans h4⟩

def tyFail : Ty := .struct (.pair (.int .i64) (.pair (.slice .bool) (.pair (.int .i64) (.pair (.int .i64) .unit))))
def FC.of (y : Int × (Option Addr × Nat × List Bool) × Int × Int × Unit) : FC := ⟨y.1, y.2.1.1, y.2.1.2.1, y.2.1.2.2, y.2.2.1, y.2.2.2.1⟩

theorem fail_cells {w : World} {B : Nat} {cs : List Value} : ∀ {y : tyFail.Val} (_ : Fits w B tyFail cs y), cs = [.int .i64 (FC.of y).p, .slice (FC.of y).ka (FC.of y).kl.length (FC.of y).kc, .int .i64 (FC.of y).n, .int .i64 (FC.of y).m] ∧
    Lies w B (FC.of y).ka ((FC.of y).kl.map .bool) ∧ (FC.of y).kl.length ≤ maxLen ∧ (i64R (FC.of y).p ∧ i64R (FC.of y).n ∧ i64R (FC.of y).m)
  | (p, q, n, m, ()), h => by
    obtain ⟨_, _, rfl, ⟨rfl, hp⟩, _, _, rfl, hq, _, _, rfl, ⟨rfl, hn⟩, _, _, rfl, ⟨rfl, hm⟩, h0⟩ := h
    obtain rfl := h0
    obtain ⟨ka, kc, kl, rfl, rfl, g2, g3, g5⟩ := fits_bools hq
    exact ⟨by simp [FC.of], g5, Nat.le_trans g2 g3, bounds_i64 hp, bounds_i64 hn, bounds_i64 hm⟩

theorem fails_of {w : World} {B : Nat} {cs : List Value} : ∀ {v : (Ty.slice tyFail).Val} (_ : Fits w B (.slice tyFail) cs v), ∃ (fa : Option Addr) (fc : Nat) (fs : List FC), cs = [.slice fa fs.length fc] ∧ Fails w B fa fs
  | (fa, fc, (l : List (Int × (Option Addr × Nat × List Bool) × Int × Int × Unit))), h => by
    have h5 : l ≠ [] → ∃ b off, fa = some ⟨b, off, none⟩ ∧ b < B ∧ ∀ j (hj : j < l.length), ∃ cs', Fits w B tyFail cs' l[j] ∧ ∀ i u, cs'[i]? = some u → w.cell? ⟨b, off + j * 4 + i, none⟩ = some u := h.2.2.2.2
    have hall : ∀ f ∈ l.map FC.of, ∃ y cs', f = FC.of y ∧ Fits w B tyFail cs' y := fun f hf => by
      obtain ⟨y, hy, rfl⟩ := List.mem_map.1 hf
      obtain ⟨j, hj, rfl⟩ := List.mem_iff_getElem.1 hy
      obtain ⟨b, off, e, hb, hc⟩ := h5 (List.ne_nil_of_length_pos (Nat.lt_of_le_of_lt (Nat.zero_le j) hj))
      obtain ⟨cs', hf', _⟩ := hc j hj
      exact ⟨_, cs', rfl, hf'⟩
    refine ⟨fa, fc, l.map FC.of, by rw [List.length_map]; exact h.1, ⟨fun hn => ?_, fun f hf => ?_, by rw [List.length_map]; exact Nat.le_trans h.2.1 h.2.2.1, fun f hf => ?_, fun f hf => ?_⟩⟩
    · obtain ⟨b, off, e, hb, hc⟩ := h5 (fun e => hn (by rw [e]; rfl))
      refine ⟨b, off, e, hb, fun j hj => ?_⟩
      obtain ⟨cs', hf, hcell⟩ := hc j (by simpa using hj)
      obtain ⟨rfl, _⟩ := fail_cells hf
      simp only [List.getElem_map]
      exact ⟨hcell 0 _ rfl, hcell 1 _ rfl, hcell 2 _ rfl, hcell 3 _ rfl⟩
    · obtain ⟨y, cs', rfl, hy⟩ := hall f hf
      exact (fail_cells hy).2.1
    · obtain ⟨y, cs', rfl, hy⟩ := hall f hf
      exact (fail_cells hy).2.2.1
    · obtain ⟨y, cs', rfl, hy⟩ := hall f hf
      exact (fail_cells hy).2.2.2

/-- A text of many, as it is read. -/
structure TX where
  a : Option Addr
  c : Nat
  l : List UInt8

/-- The texts lie behind fa, below block B. -/
structure Txs (w : World) (B : Nat) (fa : Option Addr) (ts : List TX) : Prop where
  at_ : ts ≠ [] → ∃ b off, fa = some ⟨b, off, none⟩ ∧ b < B ∧ ∀ j (h : j < ts.length), w.cell? ⟨b, off + j, none⟩ = some (.slice ts[j].a ts[j].l.length ts[j].c)
  ls : ∀ t ∈ ts, Lies w B t.a (t.l.map bv)
  len : ts.length ≤ maxLen
  lens : ∀ t ∈ ts, t.l.length ≤ maxLen

theorem Txs.below {w w' : World} {B : Nat} {fa : Option Addr} {ts : List TX} (h : Txs w B fa ts) (hb : Below B w w') : Txs w' B fa ts := by
  refine ⟨fun hn => ?_, fun f hf => (h.ls f hf).below hb, h.len, h.lens⟩
  obtain ⟨b, off, e, hl, hc⟩ := h.at_ hn
  exact ⟨b, off, e, hl, fun j hj => (hb.cell (p := ⟨b, _, none⟩) hl).trans (hc j hj)⟩

def TX.of (y : Option Addr × Nat × List Int) : TX := ⟨y.1, y.2.1, y.2.2.map (fun n => UInt8.ofNat n.toNat)⟩

theorem text_cells {w : World} {B : Nat} {cs : List Value} : ∀ {y : (Ty.slice (.int .u8)).Val} (_ : Fits w B (.slice (.int .u8)) cs y), cs = [.slice (TX.of y).a (TX.of y).l.length (TX.of y).c] ∧ Lies w B (TX.of y).a ((TX.of y).l.map bv) ∧ (TX.of y).l.length ≤ maxLen
  | b, h => by
    obtain ⟨ao, cap, zs, rfl, rfl, h2, h3, _, h5, h6⟩ := fits_ints h
    have e : (zs.map (fun n : Int => UInt8.ofNat n.toNat)).map bv = zs.map (.int .u8) := by
      rw [List.map_map]
      refine List.map_congr_left fun n hn => ?_
      have hw := bounds_u8 (h6 n hn)
      simp [bv]
      omega
    refine ⟨by simp [TX.of], ?_, ?_⟩
    · show Lies w B ao ((zs.map (fun n : Int => UInt8.ofNat n.toNat)).map bv)
      rw [e]; exact h5
    · show (zs.map (fun n : Int => UInt8.ofNat n.toNat)).length ≤ maxLen
      rw [List.length_map]; exact Nat.le_trans h2 h3

theorem texts_of {w : World} {B : Nat} {cs : List Value} : ∀ {v : (Ty.slice (.slice (.int .u8))).Val} (_ : Fits w B (.slice (.slice (.int .u8))) cs v), ∃ (fa : Option Addr) (fc : Nat) (ts : List TX), cs = [.slice fa ts.length fc] ∧ Txs w B fa ts
  | (fa, fc, (l : List (Option Addr × Nat × List Int))), h => by
    have h5 : l ≠ [] → ∃ b off, fa = some ⟨b, off, none⟩ ∧ b < B ∧ ∀ j (hj : j < l.length), ∃ cs', Fits w B (.slice (.int .u8)) cs' l[j] ∧ ∀ i u, cs'[i]? = some u → w.cell? ⟨b, off + j * 1 + i, none⟩ = some u := h.2.2.2.2
    have hall : ∀ f ∈ l.map TX.of, ∃ y cs', f = TX.of y ∧ Fits w B (.slice (.int .u8)) cs' y := fun f hf => by
      obtain ⟨y, hy, rfl⟩ := List.mem_map.1 hf
      obtain ⟨j, hj, rfl⟩ := List.mem_iff_getElem.1 hy
      obtain ⟨b, off, e, hb, hc⟩ := h5 (List.ne_nil_of_length_pos (Nat.lt_of_le_of_lt (Nat.zero_le j) hj))
      obtain ⟨cs', hf', _⟩ := hc j hj
      exact ⟨_, cs', rfl, hf'⟩
    refine ⟨fa, fc, l.map TX.of, by rw [List.length_map]; exact h.1, ⟨fun hn => ?_, fun f hf => ?_, by rw [List.length_map]; exact Nat.le_trans h.2.1 h.2.2.1, fun f hf => ?_⟩⟩
    · obtain ⟨b, off, e, hb, hc⟩ := h5 (fun e => hn (by rw [e]; rfl))
      refine ⟨b, off, e, hb, fun j hj => ?_⟩
      obtain ⟨cs', hf, hcell⟩ := hc j (by simpa using hj)
      obtain ⟨rfl, _⟩ := text_cells hf
      simp only [List.getElem_map]
      have := hcell 0 _ rfl
      rwa [Nat.mul_one, Nat.add_zero] at this
    · obtain ⟨y, cs', rfl, hy⟩ := hall f hf
      exact (text_cells hy).2.1
    · obtain ⟨y, cs', rfl, hy⟩ := hall f hf
      exact (text_cells hy).2.2

end Go.Proofs.YtgefbolnfenfcaaGreat
