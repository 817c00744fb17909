/-
  The acts that a law of layer 3 is given, as they lie in memory; 'small', 'Octets'.
-/
import Derived.Test.YtgefbolnfenfcaaGreatL3
import Derived.Test.YtgefbolnfenfcaaGreatFits
namespace Go.Proofs.YtgefbolnfenfcaaGreat
open Go.ChangeShapes Go.WideShapes Go.ChangeAt Go.RowKit Go.Mk

/-- An Act, as it is read. -/
structure AC where
  kind : Int
  n : Int
  m : Int
  ba : Option Addr
  bc : Nat
  bl : List UInt8
  ka : Option Addr
  kc : Nat
  kl : List Bool

/-- The acts lie behind fa, below block B. -/
structure Acts (w : World) (B : Nat) (fa : Option Addr) (fs : List AC) : Prop where
  at_ : fs ≠ [] → ∃ b off, fa = some ⟨b, off, none⟩ ∧ b < B ∧ ∀ j (h : j < fs.length), w.cell? ⟨b, off + j * 5, none⟩ = some (.int .i64 fs[j].kind) ∧ w.cell? ⟨b, off + j * 5 + 1, none⟩ = some (.int .i64 fs[j].n) ∧ w.cell? ⟨b, off + j * 5 + 2, none⟩ = some (.int .i64 fs[j].m) ∧
    w.cell? ⟨b, off + j * 5 + 3, none⟩ = some (.slice fs[j].ba fs[j].bl.length fs[j].bc) ∧ w.cell? ⟨b, off + j * 5 + 4, none⟩ = some (.slice fs[j].ka fs[j].kl.length fs[j].kc)
  bs : ∀ f ∈ fs, Lies w B f.ba (f.bl.map bv) ∧ Lies w B f.ka (f.kl.map .bool)
  len : fs.length ≤ maxLen
  lens : ∀ f ∈ fs, f.bl.length ≤ maxLen ∧ f.kl.length ≤ maxLen
  rng : ∀ f ∈ fs, (-9223372036854775808 ≤ f.n ∧ f.n ≤ 9223372036854775807) ∧ (-9223372036854775808 ≤ f.m ∧ f.m ≤ 9223372036854775807)

theorem Acts.below {w w' : World} {B : Nat} {fa : Option Addr} {fs : List AC} (h : Acts w B fa fs) (hb : Below B w w') : Acts w' B fa fs := by
  refine ⟨fun hn => ?_, fun f hf => ⟨(h.bs f hf).1.below hb, (h.bs f hf).2.below hb⟩, h.len, h.lens, h.rng⟩
  obtain ⟨b, off, e, hl, hc⟩ := h.at_ hn
  refine ⟨b, off, e, hl, fun j hj => ?_⟩
  obtain ⟨h1, h2, h3, h4, h5⟩ := hc j hj
  exact ⟨(hb.cell (p := ⟨b, _, none⟩) hl).trans h1, (hb.cell (p := ⟨b, _, none⟩) hl).trans h2, (hb.cell (p := ⟨b, _, none⟩) hl).trans h3, (hb.cell (p := ⟨b, _, none⟩) hl).trans h4, (hb.cell (p := ⟨b, _, none⟩) hl).trans h5⟩

def tyAct : Ty := .struct (.pair (.int .i64) (.pair (.int .i64) (.pair (.int .i64) (.pair (.slice (.int .u8)) (.pair (.slice .bool) .unit)))))
def AC.of (y : Int × Int × Int × (Option Addr × Nat × List Int) × (Option Addr × Nat × List Bool) × Unit) : AC :=
  ⟨y.1, y.2.1, y.2.2.1, y.2.2.2.1.1, y.2.2.2.1.2.1, y.2.2.2.1.2.2.map (fun n => UInt8.ofNat n.toNat), y.2.2.2.2.1.1, y.2.2.2.2.1.2.1, y.2.2.2.2.1.2.2⟩

theorem fits_bools {w : World} {B : Nat} {cs : List Value} : ∀ {v : (Ty.slice .bool).Val} (_ : Fits w B (.slice .bool) cs v),
    ∃ (ao : Option Addr) (cap : Nat) (l : List Bool), v = (ao, cap, l) ∧ cs = [.slice ao l.length cap] ∧ l.length ≤ cap ∧ cap ≤ maxLen ∧ Lies w B ao (l.map .bool)
  | (ao, cap, (l : List Bool)), h => by
    have h5 : l ≠ [] → ∃ b off, ao = some ⟨b, off, none⟩ ∧ b < B ∧ ∀ j (hj : j < l.length), ∃ cs', Fits w B .bool cs' l[j] ∧ ∀ i u, cs'[i]? = some u → w.cell? ⟨b, off + j * 1 + i, none⟩ = some u := h.2.2.2.2
    refine ⟨ao, cap, l, rfl, h.1, h.2.1, h.2.2.1, fun hn => ?_⟩
    obtain ⟨b, off, e, hb, hc⟩ := h5 (fun e => hn (by rw [e]; rfl))
    refine ⟨b, off, e, hb, fun j u hu => ?_⟩
    have hj : j < l.length := by have := (List.getElem?_eq_some_iff.1 hu).1; simpa using this
    obtain ⟨cs', hf, hcell⟩ := hc j hj
    have hf' : cs' = [.bool l[j]] := hf
    subst hf'
    have := hcell 0 _ rfl
    rw [Nat.mul_one, Nat.add_zero] at this
    rw [this, ← hu]
    simp [hj]

theorem act_cells {w : World} {B : Nat} {cs : List Value} : ∀ {y : tyAct.Val} (_ : Fits w B tyAct cs y), cs = [.int .i64 (AC.of y).kind, .int .i64 (AC.of y).n, .int .i64 (AC.of y).m, .slice (AC.of y).ba (AC.of y).bl.length (AC.of y).bc, .slice (AC.of y).ka (AC.of y).kl.length (AC.of y).kc] ∧
    (Lies w B (AC.of y).ba ((AC.of y).bl.map bv) ∧ Lies w B (AC.of y).ka ((AC.of y).kl.map .bool)) ∧ ((AC.of y).bl.length ≤ maxLen ∧ (AC.of y).kl.length ≤ maxLen) ∧
    ((-9223372036854775808 ≤ (AC.of y).n ∧ (AC.of y).n ≤ 9223372036854775807) ∧ (-9223372036854775808 ≤ (AC.of y).m ∧ (AC.of y).m ≤ 9223372036854775807))
  | (k, n, m, b, q, ()), h => by
    obtain ⟨_, _, rfl, ⟨rfl, _⟩, _, _, rfl, ⟨rfl, hn⟩, _, _, rfl, ⟨rfl, hm⟩, _, _, rfl, hb, _, _, rfl, hq, h0⟩ := h
    obtain rfl := h0
    obtain ⟨ao, cap, zs, rfl, rfl, h2, h3, _, h5, h6⟩ := fits_ints hb
    obtain ⟨ka, kc, kl, rfl, rfl, g2, g3, g5⟩ := fits_bools hq
    have e : (zs.map (fun n : Int => UInt8.ofNat n.toNat)).map bv = zs.map (.int .u8) := by
      rw [List.map_map]
      refine List.map_congr_left fun n hn => ?_
      have hw := bounds_u8 (h6 n hn)
      simp [bv]
      omega
    refine ⟨?_, ⟨?_, g5⟩, ⟨?_, Nat.le_trans g2 g3⟩, bounds_i64 hn, bounds_i64 hm⟩
    · simp [AC.of]
    · show Lies w B ao ((zs.map (fun n : Int => UInt8.ofNat n.toNat)).map bv)
      rw [e]; exact h5
    · show (zs.map (fun n : Int => UInt8.ofNat n.toNat)).length ≤ maxLen
      rw [List.length_map]; exact Nat.le_trans h2 h3

theorem acts_of {w : World} {B : Nat} {cs : List Value} : ∀ {v : (Ty.slice tyAct).Val} (_ : Fits w B (.slice tyAct) cs v), ∃ (fa : Option Addr) (fc : Nat) (fs : List AC), cs = [.slice fa fs.length fc] ∧ Acts w B fa fs
  | (fa, fc, (l : List (Int × Int × Int × (Option Addr × Nat × List Int) × (Option Addr × Nat × List Bool) × Unit))), h => by
    have h5 : l ≠ [] → ∃ b off, fa = some ⟨b, off, none⟩ ∧ b < B ∧ ∀ j (hj : j < l.length), ∃ cs', Fits w B tyAct cs' l[j] ∧ ∀ i u, cs'[i]? = some u → w.cell? ⟨b, off + j * 5 + i, none⟩ = some u := h.2.2.2.2
    have hall : ∀ f ∈ l.map AC.of, ∃ y cs', f = AC.of y ∧ Fits w B tyAct cs' y := fun f hf => by
      obtain ⟨y, hy, rfl⟩ := List.mem_map.1 hf
      obtain ⟨j, hj, rfl⟩ := List.mem_iff_getElem.1 hy
      obtain ⟨b, off, e, hb, hc⟩ := h5 (List.ne_nil_of_length_pos (Nat.lt_of_le_of_lt (Nat.zero_le j) hj))
      obtain ⟨cs', hf', _⟩ := hc j hj
      exact ⟨_, cs', rfl, hf'⟩
    refine ⟨fa, fc, l.map AC.of, by rw [List.length_map]; exact h.1, ⟨fun hn => ?_, fun f hf => ?_, by rw [List.length_map]; exact Nat.le_trans h.2.1 h.2.2.1, fun f hf => ?_, fun f hf => ?_⟩⟩
    · obtain ⟨b, off, e, hb, hc⟩ := h5 (fun e => hn (by rw [e]; rfl))
      refine ⟨b, off, e, hb, fun j hj => ?_⟩
      obtain ⟨cs', hf, hcell⟩ := hc j (by simpa using hj)
      obtain ⟨rfl, _⟩ := act_cells hf
      simp only [List.getElem_map]
      exact ⟨hcell 0 _ rfl, hcell 1 _ rfl, hcell 2 _ rfl, hcell 3 _ rfl, hcell 4 _ rfl⟩
    · obtain ⟨y, cs', rfl, hy⟩ := hall f hf
      exact (act_cells hy).2.1
    · obtain ⟨y, cs', rfl, hy⟩ := hall f hf
      exact (act_cells hy).2.2.1
    · obtain ⟨y, cs', rfl, hy⟩ := hall f hf
      exact (act_cells hy).2.2.2

def AC.small (f : AC) : Bool := decide (f.bl.length ≤ 100) && decide (f.kl.length ≤ 40)
def smallA (fs : List AC) : Bool := decide (fs.length ≤ 40) && fs.all AC.small

theorem smallA_no {fs : List AC} {j : Nat} (hj : j < fs.length) (h : fs[j].small = false) : smallA fs = false := by
  have : fs.all AC.small = false := by
    rw [List.all_eq_false]
    exact ⟨fs[j], List.getElem_mem hj, by simp [h]⟩
  simp [smallA, this]

/-- What an act writes. -/
def AC.oct (f : AC) : List UInt8 := if f.bl.length = 1 then List.replicate 64 (f.bl.headD 0) else f.bl

def AC.cells (f : AC) : Array Value := #[.int .i64 f.kind, .int .i64 f.n, .int .i64 f.m, .slice f.ba f.bl.length f.bc, .slice f.ka f.kl.length f.kc]

end Go.Proofs.YtgefbolnfenfcaaGreat
