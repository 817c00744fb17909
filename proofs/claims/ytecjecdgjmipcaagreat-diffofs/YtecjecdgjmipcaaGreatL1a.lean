/-
  The fields that a law of layer 1 is given, as they lie in memory; 'small', 'awake'.
-/
import Derived.Test.YtecjecdgjmipcaaGreatR1
namespace Go.Proofs.YtecjecdgjmipcaaGreat
open Go.RowKit Go.Mk

/-- A Field, as it is read. -/
structure FD where
  kind : Int
  n : Int
  s : ByteArray
  la : Option Addr
  lc : Nat
  ls : List ByteArray

/-- The fields lie behind fa, below block B. -/
structure Flds (w : World) (B : Nat) (fa : Option Addr) (fs : List FD) : Prop where
  at_ : fs ≠ [] → ∃ b off, fa = some ⟨b, off, none⟩ ∧ b < B ∧ ∀ j (h : j < fs.length), w.cell? ⟨b, off + j * 4, none⟩ = some (.int .i64 fs[j].kind) ∧ w.cell? ⟨b, off + j * 4 + 1, none⟩ = some (.int .i64 fs[j].n) ∧
    w.cell? ⟨b, off + j * 4 + 2, none⟩ = some (.string fs[j].s) ∧ w.cell? ⟨b, off + j * 4 + 3, none⟩ = some (.slice fs[j].la fs[j].ls.length fs[j].lc)
  strs : ∀ f ∈ fs, Lies w B f.la (f.ls.map .string)
  len : fs.length ≤ maxLen
  lens : ∀ f ∈ fs, f.ls.length ≤ maxLen ∧ f.s.size ≤ maxLen ∧ ∀ t ∈ f.ls, t.size ≤ maxLen
  rng : ∀ f ∈ fs, -9223372036854775808 ≤ f.n ∧ f.n ≤ 9223372036854775807

theorem Flds.below {w w' : World} {B : Nat} {fa : Option Addr} {fs : List FD} (h : Flds w B fa fs) (hb : Below B w w') : Flds w' B fa fs := by
  refine ⟨fun hn => ?_, fun f hf => (h.strs f hf).below hb, h.len, h.lens, h.rng⟩
  obtain ⟨b, off, e, hl, hc⟩ := h.at_ hn
  refine ⟨b, off, e, hl, fun j hj => ?_⟩
  obtain ⟨h1, h2, h3, h4⟩ := hc j hj
  exact ⟨(hb.cell (p := ⟨b, _, none⟩) hl).trans h1, (hb.cell (p := ⟨b, _, none⟩) hl).trans h2, (hb.cell (p := ⟨b, _, none⟩) hl).trans h3, (hb.cell (p := ⟨b, _, none⟩) hl).trans h4⟩

def FD.small (f : FD) : Bool := decide (f.s.size ≤ 200) && (decide (f.ls.length ≤ 20) && f.ls.all (fun t => decide (t.size ≤ 100)))
def smallB (fs : List FD) : Bool := decide (fs.length ≤ 20) && fs.all FD.small

theorem smallB_no {fs : List FD} {j : Nat} (hj : j < fs.length) (h : fs[j].small = false) : smallB fs = false := by
  have : fs.all FD.small = false := by
    rw [List.all_eq_false]
    exact ⟨fs[j], List.getElem_mem hj, by simp [h]⟩
  simp [smallB, this]

/-- A new Writer. -/
theorem WrF.new (w : World) (F : Nat → Prop) (hF : ∀ k, w.heap.size ≤ k → F k) (e : TypeId) : WrF (w.alloc (.cells #[.slice none 0 0, .int .i64 0] e)) F w.heap.size ⟨[], 0⟩ :=
  ⟨hF _ (Nat.le_refl _), none, 0, ⟨by simp, by simp, by simp, by simp, World.ownsRow_nil _ _ _ _, by simp [Value.ownBlock]⟩, by simp [Value.ownBlock]⟩

end Go.Proofs.YtecjecdgjmipcaaGreat
